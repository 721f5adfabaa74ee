import PyProof.Rows.All
import Wide.All
import OpenK.AllK
import Wide.FinOn
import HandS.ForMost
import HandS.Wide
import HandS.Codes
import HandS.IsInst
import HandS.TupAny
import HandS.Flow
import HandS.Walk
import HandS.Evl
import HandS.Strs
import PyProof.P3Eq
import PyProof.ReprLen
import HandS.Style
import HandS.Dict
import HandS.More
import HandS.Iter
import KE.GoesEnum
import PyProof.EnumMake
import HandS.Zip
import KE.KItemsList
import HandS.SetFor
import KE.DataEq
import HandS.SortInts
import PySem.Challenge.RW_enoughhands_k11_whole_stairs_of_steps
import HandS.DictComp
import HandS.Conv
import PyProof.Rows.TmSorted
import PyProof.Rows.StrMeet
import HandS.Rev
import PyProof.Rows.SeqMore
set_option Elab.async false
set_option linter.all false
set_option maxRecDepth 100000
set_option maxHeartbeats 4000000
/-! Promises of defs that are called where no repr is under way: FnG, and the rules that make and use them. -/
namespace VG
open PySem PySem.Spec PyProof.Rows L2
abbrev St := L2.St

/-- no guard is on the stack -/
abbrev Calm (A : Around) : Prop := A.guards = some []

structure FnG (P : Program) (w : World) (K : PySem.W.Frag) (mg : Str → Option Value)
    (base : Heap) (CX : CXT) (k : Nat) (f : Addr) (fd : FuncData) (ps : List Str) (sp : Sp) : Prop where
  same : ∀ vs H Q E, sp vs H Q E → vs.length = ps.length
  goes : ∀ (A : Around) (outer : List Env) (s : Shared) (H : Hp) (args : Args) (us : List Value) (vs : List V) (Q : VK) (E : XK),
    Calm A → Room k A → Env0 P w K mg base A outer s H →
    BindsTo s fd args (ps.zip us) → Vals vs us → sp vs H Q E →
    codeAny (model P w) A (.call (.ref f) args) (CR CX outer P w H s Q E) s

section
variable {P : Program} {w : World} {K : PySem.W.Frag} {mg : Str → Option Value} {base : Heap} {CX : CXT}
variable {j k : Nat} {f : Addr} {fd : FuncData} {ps : List Str} {sp sp' : Sp}

theorem FnG.up (F : FnG P w K mg base CX j f fd ps sp) (h : j ≤ k) : FnG P w K mg base CX k f fd ps sp :=
  ⟨F.same, fun A outer s H args us vs Q E hc hr => F.goes A outer s H args us vs Q E hc (hr.mono h)⟩

/-- a promise that holds anywhere holds there -/
theorem FnG.any (F : FnOk P w K mg base CX k f fd ps sp) : FnG P w K mg base CX k f fd ps sp :=
  ⟨F.len, fun A outer s H args us vs Q E _ hr => F.run A outer s H args us vs Q E hr⟩

/-- a def by its body -/
theorem FnG.body {name qual : Str} {params : Arguments} {body : List Stmt} {scope : Scope}
    {dV kV doc pm cdv ct oc : Value} {an od : Option Addr} {osl : Array (Option Value)} {N : List Str}
    (lk : K.lookup f = some ⟨oc, od, .func (PySem.W.fnOf name qual params body scope dV kV doc pm an cdv ct), osl⟩)
    (hcd : PySem.W.codeIn K cdv qual = true) (S : FnScope N ps scope)
    (len : ∀ vs H Q E, sp vs H Q E → vs.length = ps.length)
    (hbody : ∀ (A : Around) (outer : List Env) (s : Shared) (H : Hp) (vs : List V) (Q : VK) (E : XK), Calm A →
      Room k (A.deeper (envOfC qual scope s.heap.objs.size f cdv)) → sp vs H Q E →
      ∃ t, PSs (cxOf CX P w K mg base N qual scope f cdv A outer s H E) body t ∧
        t { nx := fun _ H' => Q .non H', rt := Q } (start N vs) H) :
    FnG P w K mg base CX (k + 1) f (PySem.W.fnOf name qual params body scope dV kV doc pm an cdv ct) ps sp := by
  refine ⟨len, ?_⟩
  intro A outer s H args us vs Q E hcm hr e0 hb r hsp
  have in0 : K.In s.heap := e0.mod.kin.keeps (fun b o e => (e0.bs b o e).1)
  have lim : s.heap.NoLimit := e0.mod.nolimit.keeps (fun b o e => (e0.bs b o e).1)
  have kinds : ∀ y ∈ ps.zip us, scope.names.lookup y.1 = some .local ∨
      (scope.names.lookup y.1 = some .cell ∧ ((cellsFrom (s.heap.objs.size + 1) scope.names []).lookup y.1).isSome = true) := by
    rintro ⟨n, v⟩ hy
    cases S.par n (List.of_mem_zip hy).1 with
    | inl q => exact .inl q
    | inr q => exact .inr ⟨q, PySem.W.cellsFrom_some _ _ _ (.inl q)⟩
  refine codeAny_call_function hr.depth (in0 _ _ lk) rfl S.co S.gen rfl
    (PySem.W.codeRec_of in0 hcd) (hb _ _ _ _ ?_)
  refine wpAny_newFunctionEnv_cells S.kind kinds ?_
  intro env he s1 x
  subst he
  refine ⟨lim.keeps x.toInCall.keep, codeAny_func ?_⟩
  obtain ⟨t, ht, hq⟩ := hbody A outer s H vs Q E hcm (hr.deeper _) hsp
  have I : Inv (cxOf CX P w K mg base N qual scope f cdv A outer s H E) [] (start N vs) H s1 :=
    inv_start S hr.hd e0 (len _ _ _ _ hsp) r x
  refine wpAny_mono (ht.run [] s1 (start N vs) H _ I hq) ?_ (fun e s' hs => hs)
  intro fl s' hs
  cases fl with
  | ret u =>
    obtain ⟨v, σ', H', J, rv, q⟩ := hs
    exact ⟨v, H', J.os, J.bare, J.base, J.hok, rv, q⟩
  | next =>
    obtain ⟨σ', H', J, q⟩ := hs
    exact ⟨V.non, H', J.os, J.bare, J.base, J.hok, rfl, q⟩
  | brk => obtain ⟨_, _, _, q⟩ := hs; exact q.elim
  | cont => obtain ⟨_, _, _, q⟩ := hs; exact q.elim

/-- a def of the text that lets no error out, by its body -/
theorem okG {x qual : Str} {st : Stmt} {N : List Str} (F : Fun K x qual st f fd) (S : FnScope N ps (defScope st))
    (len : ∀ vs H Q E, sp vs H Q E → vs.length = ps.length)
    (hbody : ∀ (cdv : Value) (A : Around) (outer : List Env) (s : Shared) (H : Hp) (vs : List V) (Q : VK) (E : XK), Calm A →
      Room k (A.deeper (envOfC qual (defScope st) s.heap.objs.size f cdv)) → sp vs H Q E →
      ∃ t, PSs (cxOf CX0 P w K mg base N qual (defScope st) f cdv A outer s H E).nox (defBody st) t ∧
        t { nx := fun _ H' => Q .non H', rt := Q } (start N vs) H) :
    FnG P w K mg base CX0 (k + 1) f fd ps sp := by
  obtain ⟨oc, od, kV, doc, pm, an, cdv, ct, osl, rfl, lk, hcd⟩ := F.ex
  refine FnG.body lk hcd S len (fun A outer s H vs Q E hcm hr hsp => ?_)
  obtain ⟨t, h, q⟩ := hbody cdv A outer s H vs Q E hcm hr hsp
  exact ⟨t, h.nox, q⟩
end

section
variable {X : Cx} {CX : CXT} {k : Nat} {f : Addr} {fd : FuncData} {ps : List Str} {sp : Sp}
variable {dvs : List V} {ds : List Value} {E : XK} {x : Str} {p pos : Pos} {e : Expr} {es : List Expr} {t : TA}

theorem runG {pins : List (Addr × Obj)} {σ : St} {H : Hp} {s : Shared} {Q : VK} {us : List Value} {vs : List V}
    (F : FnG X.prog X.w X.K X.mg X.base CX k f fd ps sp) (hcm : Calm X.A) (hr : Room k X.A)
    (hb : Binds X.K fd ps ds) (hd : Vals dvs ds) (hx : Passes CX X E) (I : Inv X pins σ H s)
    (r : Vals vs us) (h : sp (vs ++ dvs) H Q E) :
    wpAny (model X.prog X.w) X.A (call (.ref f) us) (EP X pins σ Q) X.xe s := by
  have r2 := r.append hd
  have hl : (us ++ ds).length = ps.length := r2.length.symm.trans (F.same _ _ _ _ h)
  have go := F.goes X.A X.stack s H ⟨us, []⟩ (us ++ ds) (vs ++ dvs) Q E hcm hr I.env0 (hb s us I.kIn hl) r2 h
  refine wpAny_call (codeAny_mono go ?_)
  intro r s' hq
  match r, hq with
  | .error e, hq => exact hx pins σ H s e s' I hq
  | .ok (.ret u), hq => exact I.after hq
  | .ok .next, hq => exact False.elim hq
  | .ok .brk, hq => exact False.elim hq
  | .ok .cont, hq => exact False.elim hq

/-- f(e, ..) -/
theorem pe_callG (F : FnG X.prog X.w X.K X.mg X.base CX k f fd ps sp) (hcm : Calm X.A) (hr : Room k X.A)
    (hg : Gl X x) (hm : X.mg x = some (.ref f)) (hk : PySem.W.keepIn X.K (.ref f) = true)
    (hb : Binds X.K fd ps ds) (hd : Vals dvs ds) (hx : Passes CX X E) (ha : PA X (e :: es) t)
    (hdb : (x == ("__debug__" : Str)) = false := by decide)
    (he : starEach (e :: es) X.env = (false, eval e X.env) :: starEach es X.env := by rfl)
    (hpl : (backTo pos (starEach es X.env)).any (·.1) = false := by rfl) :
    PE X (.Call (.Name x p) (e :: es) [] pos) (tCall sp dvs E t) := by
  constructor
  intro pins s σ H Q I h
  have go := ha.run pos pins s σ H _ I h
  refine wpAny_Call_Name_kw (ld_glob I hg hm ?_ hdb)
  refine PySem.W.callWith_K (h₀ := X.base) I.ok.mod.kin hk (thn go ?_) he hpl
  rintro us s1 ⟨vs, H1, I1, r, q⟩
  exact ⟨I1.kIn, runG F hcm hr hb hd hx I1 r q⟩

end

/-! ### a def together with where it stands -/
/-- the def that the module's name x holds, its promise at level k; no defaults -/
structure Def (P : Program) (w : World) (K : PySem.W.Frag) (mg : Str → Option Value) (base : Heap) (k : Nat) (x : Str) (ps : List Str) (sp : Sp) : Prop where
  ex : ∃ (f : Addr) (fd : FuncData), FnG P w K mg base CX0 k f fd ps sp ∧ mg x = some (.ref f) ∧
    PySem.W.keepIn K (.ref f) = true ∧ Binds K fd ps []
/-- f(e, ..), f a def of the text -/
theorem pe_d {X : Cx} {j k : Nat} {x : Str} {ps : List Str} {sp : Sp} {p pos : Pos} {e : Expr} {es : List Expr} {t : TA}
    (D : Def X.prog X.w X.K X.mg X.base k x ps sp) (hcm : Calm X.A) (hr : Room j X.A) (hj : k ≤ j) (hg : Gl X x) (ha : PA X (e :: es) t)
    (hdb : (x == ("__debug__" : Str)) = false := by decide)
    (he : starEach (e :: es) X.env = (false, eval e X.env) :: starEach es X.env := by rfl)
    (hpl : (backTo pos (starEach es X.env)).any (·.1) = false := by rfl) :
    PE X (.Call (.Name x p) (e :: es) [] pos) (tCall sp [] E0 t) := by
  obtain ⟨f, fd, F, hm, hk, hb⟩ := D.ex
  exact pe_callG F hcm (hr.mono hj) hg hm hk hb .nil pass0 ha hdb he hpl

/-! ### repr -/
section
variable {X : Cx}
theorem room_depth {k : Nat} {A : Around} (hr : Room k A) : A.units + 200 < cLine := by
  have := hr.un
  omega
/-- repr(x), x data without dicts -/
theorem call_reprD (hcm : Calm X.A) (hu : X.A.units + 200 < cLine) :
    CallR X (.builtin "repr") (fun xs H Q => ∃ v d, xs = [v] ∧ Dp X.K H v d ∧ d.showable = true ∧ d.hasDict = false ∧
      d.depth ≤ 100 ∧ d.shown.length ≤ sizeLine ∧ (∃ a, v = .ref a) ∧ Q (.str d.shown) H) := by
  intro pins s σ H xs us Q I r h
  obtain ⟨v, d, rfl, hd, hs, hn, hdp, hz, ⟨a, rfl⟩, q⟩ := h
  obtain ⟨u, rfl, rv⟩ := vals1 r
  obtain ⟨as, rd⟩ := Dp.reads I d _ u hd rv
  obtain rfl : u = Value.ref a := rv
  refine repr_of_reads' rd hs (fun hx => ?_) hcm (by omega) (fun _ _ e => e) (fun h' u tk hk => ?_) hz
  · rw [hn] at hx; cases hx
  · exact ⟨.str d.shown, H, I.kept hk, ⟨_, rfl⟩, q⟩
end

end VG

set_option maxHeartbeats 4000000
namespace VG
open PySem PySem.Spec PyProof.Rows L2

/-- the law's own call, nothing under way -/
theorem law_goes {P : Program} {w : World} {K : PySem.W.Frag} {mg mb : Str → Option Value} {k : Nat} {fa a : Addr}
    {fd : FuncData} {x : Str} {sp : Sp} {s₁ : Shared} {vs : List Value} {ns : List Int}
    (KX : K.In s₁.heap) (hns : s₁.heap.Ns mainGlobals mg) (hb : s₁.heap.Ns builtinsNs mb)
    (hbb : ∀ x : Str, x ≠ "__name__" → mb x = bootBuiltins x) (hlim : s₁.heap.NoLimit) (hg : s₁.gens = #[])
    (ha : s₁.heap.get? a = some { cls := .type "list", data := .seq vs.toArray })
    (hi : IntsAre vs ns) (hl : ns.length ≤ sizeLine) (hr : Room k callerA)
    (F : ∀ base : Heap, K.In base → base.Ns mainGlobals mg → FnG P w K mg base CX0 k fa fd [x] sp)
    (hbind : ∀ (s : Shared) (u : Value), BindsTo s fd ⟨[u], []⟩ [(x, u)])
    (hsp : ∀ H : Hp, Only H → SqL K H a (ns.map V.int) → sp [.ref a] H (fun v _ => v = .bl true) fun _ _ _ => False) :
    codeAny (model P w) callerA (.call (.ref fa) ⟨[.ref a], []⟩)
      (fun r s' => r = .ok (.ret (.bool true)) ∧ OldK s₁.heap s'.heap ∧ s'.os = s₁.os ∧ AllBare s'.gens) s₁ := by
  have rv := vals_ints hi
  -- H: nothing is tracked, or the script alone
  have main : ∀ H : Hp, Only H → SqL K H a (ns.map V.int) → HOk P w H s₁.heap → (∀ b, H b ≠ none → b = a) →
      (H a ≠ none → K.lookup a = none) →
      codeAny (model P w) callerA (.call (.ref fa) ⟨[.ref a], []⟩)
        (fun r s' => r = .ok (.ret (.bool true)) ∧ OldK s₁.heap s'.heap ∧ s'.os = s₁.os ∧ AllBare s'.gens) s₁ := by
    intro H hO hS hok hA hK
    have dictFree : ∀ {b : Addr} {o : Obj} {es : Array DictEntry} {ep : Nat},
        s₁.heap.get? b = some o → o.data = .dict es ep → H b = none := by
      intro b o es ep e d
      by_cases q : H b = none
      · exact q
      · have e' := hA b q
        subst e'
        rw [ha] at e
        cases e
        exact nomatch (show Data.seq vs.toArray _ = Data.dict es ep from d)
    have nsH : ∀ {b : Addr} {m : Str → Option Value}, s₁.heap.Ns b m → (hidT s₁.heap H).Ns b m := by
      rintro b m ⟨o, es, ep, e, d, r⟩
      exact ⟨o, es, ep, hidT_get e (dictFree e d), d, r⟩
    have inH : K.In (hidT s₁.heap H) := by
      intro b o e
      refine hidT_get (KX b o e) ?_
      by_cases q : H b = none
      · exact q
      · have e' := hA b q
        subst e'
        rw [hK q] at e
        cases e
    obtain ⟨mc, l1, l2⟩ := hlim
    have hM : Mod K mg (hidT s₁.heap H) := ⟨inH, nsH hns, ⟨mb, nsH hb, hbb⟩, ⟨mc, nsH l1, l2⟩⟩
    have none0 : ∀ b : Addr, b ∉ ([] : List Addr) := fun b hb => by simp at hb
    have e0 : Env0 P w K mg (hidT s₁.heap H) callerA [] s₁ H :=
      ⟨rfl, hM, fun b o e => of_hidT e, Nat.le_of_eq (hidT_size _ _), trivial, fun b hb => absurd hb (none0 b), hok, .of_eq hg⟩
    have go := (F _ inH (nsH hns)).goes callerA [] s₁ H ⟨[.ref a], []⟩ [.ref a] [.ref a] _ _ rfl hr e0
      (hbind s₁ (.ref a)) (.cons rfl .nil) (hsp H hO hS)
    refine codeAny_mono go ?_
    intro r s' h
    match r, h with
    | .error e, h => exact False.elim h
    | .ok .next, h => exact False.elim h
    | .ok .brk, h => exact False.elim h
    | .ok .cont, h => exact False.elim h
    | .ok (.ret u), h =>
      obtain ⟨v, H', os, bare, un, hok', r', q⟩ := h
      have q' : v = .bl true := q
      subst q'
      obtain rfl : u = Value.bool true := r'
      refine ⟨rfl, OldK.of_keep ?_, os, bare⟩
      intro b o e
      cases q : H b with
      | none => exact un.keep b o e q (none0 b) (none0 b)
      | some z =>
        rcases hO b with n | ⟨ob, xs, n⟩
        · rw [q] at n
          cases n
        · have e1 := (hok b _ n).1
          have e2 := (hok' b _ (un.frzs b ob _ n)).1
          rw [e] at e1
          cases e1
          exact e2
  cases hk : K.lookup a with
  | some o =>
    have e := KX a o hk
    rw [ha] at e
    cases e
    refine main (fun _ => none) (fun _ => .inl rfl) ?_ (fun b u z => nomatch (show (none : Option HO) = some u from z)) (fun b z => absurd rfl z) (fun z => absurd rfl z)
    exact .inr ⟨_, vs.toArray, _, hk, rfl, rfl, rfl, by rw [List.size_toArray, hi.length]; exact hl, by simpa using rv⟩
  | none =>
    let so : HO := .frz { cls := .type "list", data := .seq vs.toArray } (.lst (ns.map V.int))
    have at_ : ∀ b, b = a → (if b = a then some so else none) = some so := fun b h => if_pos h
    have off : ∀ b, b ≠ a → (if b = a then some so else none) = none := fun b h => if_neg h
    refine main (fun b => if b = a then some so else none) (fun b => ?_) (.inl (.inr ⟨_, if_pos rfl⟩)) (fun b u z => ?_) (fun b z => ?_) (fun _ => hk)
    · by_cases hb : b = a
      · exact .inr ⟨_, _, at_ b hb⟩
      · exact .inl (off b hb)
    · by_cases hb : b = a
      · have z' := (at_ b hb).symm.trans z
        cases z'
        subst hb
        exact ⟨ha, by rw [List.length_map]; exact hl, vs, _, rv, ha⟩
      · exact nomatch (off b hb).symm.trans z
    · by_cases hb : b = a
      · exact hb
      · exact absurd (off b hb) z

/-- what the head leaves, from the law's promise -/
theorem walkG {l : PySem.W.OpenLaw} {n k : Nat} {q : Program} {loose : List Str} {XP : (Str → Option Value) → Heap → Prop}
    {YP : World → Heap → Prop} {d : DefRec} {K : Params → PySem.W.Frag} {sp : PySem.W.Frag → Sp} {x : Str}
    (hn : l.most = some n) (hn2 : n ≤ sizeLine) (hdf : d.params.defaults = []) (hr : Room k callerA)
    (hY : ∀ (w : World) (h : Heap), YP w h → (K w.params).In h)
    (F : ∀ (w : World) (mg : Str → Option Value) (fa : Addr) (h : Heap), (K w.params).In h → h.Ns mainGlobals mg → mg d.name = some (.ref fa) →
      ∃ fd : FuncData, (∀ (s : Shared) (u : Value), BindsTo s fd ⟨[u], []⟩ [(x, u)]) ∧
        ∀ base : Heap, (K w.params).In base → base.Ns mainGlobals mg → FnG l.prog w (K w.params) mg base CX0 k fa fd [x] (sp (K w.params)))
    (hsp : ∀ (K : PySem.W.Frag) (H : Hp) (a : Addr) (ns : List Int), ns.length ≤ n → Only H → SqL K H a (ns.map V.int) →
      sp K [.ref a] H (fun v _ => v = .bl true) fun _ _ _ => False) :
    PySem.W.WalkO q loose XP YP l.row.toRowW d [] (fun f vs => PySem.call f vs) := by
  refine Att.attach_call hn hdf ?_
  intro w s₀ s₁ mg mb fa o pm cd doc a vs ns G Y ho hd hcd hmg hobj hints hlen hg
  have KX := hY w _ Y
  obtain ⟨fd, hb, hF⟩ := F w mg fa _ KX G.T.g hmg
  exact law_goes KX G.T.g G.T.b G.T.builtins G.T.nolimit hg hobj hints (Nat.le_trans hlen hn2) hr hF hb
    (fun H hO hS => hsp (K w.params) H a ns hlen hO hS)
end VG

set_option maxHeartbeats 4000000
namespace VG
open PySem PySem.Spec PyProof.Rows L2

/-! ### data stays -/
section
variable {K : PySem.W.Frag} {H H' : Hp}
theorem sqT_same (e : Same H H') {a : Addr} {xs : List V} (h : SqT K H a xs) : SqT K H' a xs := by
  rcases h with (h | ⟨o, h⟩) | h
  · exact .inl (.inl (e _ _ h))
  · exact .inl (.inr ⟨o, e _ _ h⟩)
  · exact .inr h
mutual
theorem dp_same (e : Same H H') : ∀ {v : V} {d : PyData}, Dp K H v d → Dp K H' v d
  | _, _, .non => .non
  | _, _, .bl b => .bl b
  | _, _, .int i => .int i
  | _, _, .str x => .str x
  | _, _, .lst h t => .lst (e.seq h) (dpAll_same e t)
  | _, _, .tup h t => .tup (sqT_same e h) (dpAll_same e t)
theorem dpAll_same (e : Same H H') : ∀ {vs : List V} {ds : List PyData}, DpAll K H vs ds → DpAll K H' vs ds
  | _, _, .nil => .nil
  | _, _, .cons h t => .cons (dp_same e h) (dpAll_same e t)
end
theorem same_upd {p : Addr} {o : HO} (h : H p = none) : Same H (upd H p o) := fun b u e => by
  rw [upd_ne (ne_of_none e h)]
  exact e
theorem Same.new {p : Addr} {o : HO} (s : Same H H') (h : H' p = none) : Same H (upd H' p o) := s.trans (same_upd h)
theorem dpAll_len : ∀ {vs : List V} {ds : List PyData}, DpAll K H vs ds → vs.length = ds.length
  | _, _, .nil => rfl
  | _, _, .cons _ t => by rw [List.length_cons, List.length_cons, dpAll_len t]
theorem dpAll_get : ∀ {vs : List V} {ds : List PyData} {i : Nat} {v : V}, DpAll K H vs ds → vs[i]? = some v → ∃ d, ds[i]? = some d ∧ Dp K H v d
  | _, _, _, _, .nil, e => by simp at e
  | _, _, 0, _, .cons h _, e => by
    simp at e
    subst e
    exact ⟨_, rfl, h⟩
  | _, _, i + 1, v, .cons _ t, e => by
    obtain ⟨d, e1, h⟩ := dpAll_get (i := i) (v := v) t (by simpa using e)
    exact ⟨d, by simpa using e1, h⟩
theorem dpAll_app : ∀ {vs us : List V} {ds es : List PyData}, DpAll K H vs ds → DpAll K H us es → DpAll K H (vs ++ us) (ds ++ es)
  | _, _, _, _, .nil, h => h
  | _, _, _, _, .cons h t, g => .cons h (dpAll_app t g)
theorem dpAll_ints : ∀ ns : List Int, DpAll K H (ns.map V.int) (ns.map PyData.int)
  | [] => .nil
  | n :: ns => .cons (.int n) (dpAll_ints ns)
theorem dpAll_strs : ∀ ns : List Str, DpAll K H (ns.map V.str) (ns.map PyData.str)
  | [] => .nil
  | n :: ns => .cons (.str n) (dpAll_strs ns)
theorem vals_of_ints : ∀ {vs : List V} {ns : List Int}, DpAll K H vs (ns.map PyData.int) → vs = ns.map V.int
  | _, [], .nil => rfl
  | _, n :: ns, .cons h t => by
    cases h
    rw [vals_of_ints t, List.map_cons]
theorem vals_of_strs : ∀ {vs : List V} {ns : List Str}, DpAll K H vs (ns.map PyData.str) → vs = ns.map V.str
  | _, [], .nil => rfl
  | _, n :: ns, .cons h t => by
    cases h
    rw [vals_of_strs t, List.map_cons]
theorem dp_tup {v : V} {ds : List PyData} (h : Dp K H v (.tuple ds)) : ∃ a xs, v = .ref a ∧ SqT K H a xs ∧ DpAll K H xs ds := by
  cases h with
  | tup h t => exact ⟨_, _, rfl, h, t⟩
theorem dp_lst {v : V} {ds : List PyData} (h : Dp K H v (.list ds)) : ∃ a xs, v = .ref a ∧ SqL K H a xs ∧ DpAll K H xs ds := by
  cases h with
  | lst h t => exact ⟨_, _, rfl, h, t⟩
/-! ### isinstance -/
theorem tyX_tup {a : Addr} {xs : List V} (h : SqT K H a xs) : TyX K H (.ref a) (.type "tuple") := by
  rcases h with (h | ⟨o, h⟩) | ⟨o, its, n, h, c, _⟩
  · exact .base (.tup h)
  · exact .fTuple h
  · exact .kTuple h c
end

/-- the built-in names that the module does not take -/
structure Bltn (mg : Str → Option Value) : Prop where
  abs : mg "abs" = none
  all : mg "all" = none
  dict : mg "dict" = none
  int : mg "int" = none
  bool : mg "bool" = none
  str : mg "str" = none
  isinstance : mg "isinstance" = none
  len : mg "len" = none
  list : mg "list" = none
  max : mg "max" = none
  min : mg "min" = none
  range : mg "range" = none
  repr : mg "repr" = none
  set : mg "set" = none
  sorted : mg "sorted" = none
  sum : mg "sum" = none
  tuple : mg "tuple" = none

theorem bt_isinstance : bootBuiltins "isinstance" = some (.builtin "isinstance") := by decide +kernel
theorem bt_all : bootBuiltins "all" = some (.builtin "all") := by decide +kernel
theorem bt_repr : bootBuiltins "repr" = some (.builtin "repr") := by decide +kernel
theorem bt_abs : bootBuiltins "abs" = some (.builtin "abs") := by decide +kernel
theorem bt_max : bootBuiltins "max" = some (.builtin "max") := by decide +kernel
theorem bt_min : bootBuiltins "min" = some (.builtin "min") := by decide +kernel
theorem bt_sum : bootBuiltins "sum" = some (.builtin "sum") := by decide +kernel
theorem bt_sorted : bootBuiltins "sorted" = some (.builtin "sorted") := by decide +kernel
theorem bt_len : bootBuiltins "len" = some (.builtin "len") := by decide +kernel
theorem bt_int : bootBuiltins "int" = some (.type "int") := by decide +kernel
theorem bt_bool : bootBuiltins "bool" = some (.type "bool") := by decide +kernel
theorem bt_str : bootBuiltins "str" = some (.type "str") := by decide +kernel
theorem bt_tuple : bootBuiltins "tuple" = some (.type "tuple") := by decide +kernel
theorem bt_list : bootBuiltins "list" = some (.type "list") := by decide +kernel
theorem bt_dict : bootBuiltins "dict" = some (.type "dict") := by decide +kernel
theorem bt_set : bootBuiltins "set" = some (.type "set") := by decide +kernel

section
variable {X : Cx}
/-- isinstance(x, T) of a built-in type T -/
def rIsB (K : PySem.W.Frag) : List V → Hp → VK → Prop := fun xs H Q => ∃ (x : V) (n t : String) (b : Bool),
  xs = [x, .ty n] ∧ TyX K H x (.type t) ∧ kitB t n = some b ∧ Q (.bl b) H
theorem call_isB : CallR X (.builtin "isinstance") (rIsB X.K) := by
  intro pins s σ H xs us Q I r h
  obtain ⟨x, n, t, b, rfl, h1, h2, q⟩ := h
  exact call_isi pins s σ H _ us Q I r ⟨x, .ty n, .type t, .type n, b, rfl, .ty n, h1, kit_ty h2, q⟩
end
end VG

set_option maxHeartbeats 4000000
namespace VG
open PySem PySem.Spec PyProof.Rows L2 Evl

/-- H2 without what H1 knows beyond H -/
def hid (H H1 H2 : Hp) : Hp := fun b => if H b = none ∧ H1 b ≠ none then none else H2 b
section
variable {H H' H1 H2 H3 H4 : Hp} {b : Addr} {o : HO}
theorem ex_same (e : Ex H H') : Same H H' := e
theorem hid_see (h : H b = none → H1 b = none) : hid H H1 H2 b = H2 b := if_neg fun q => q.2 (h q.1)
theorem hid_no (h : H b = none) (h1 : H1 b ≠ none) : hid H H1 H2 b = none := if_pos ⟨h, h1⟩
theorem hid_some (h : hid H H1 H2 b = some o) : H2 b = some o ∧ (H b = none → H1 b = none) := by
  unfold hid at h
  split at h
  · cases h
  · rename_i n
    refine ⟨h, fun q => ?_⟩
    by_cases z : H1 b = none
    · exact z
    · exact (n ⟨q, z⟩).elim
theorem hid_ex : Ex (hid H H1 H2) H2 := fun b o h => (hid_some h).1
theorem ex_none (e : Ex H H') (h : H' b = none) : H b = none := fresh_back e h
theorem hid_base (e : Ex H H1) (e2 : Ex H1 H2) : Ex H (hid H H1 H2) := fun b o h => by
  rw [hid_see (fun q => by rw [q] at h; cases h)]
  exact e2 _ _ (e _ _ h)
/-- later on -/
theorem hid_on (e : Ex H2 H3) : Ex (hid H H1 H2) (hid H H1 H3) := fun b o h => by
  obtain ⟨h1, h2⟩ := hid_some h
  rw [hid_see h2]
  exact e _ _ h1
/-- more is known beforehand -/
theorem hid_more (e : Ex H H') : Ex (hid H H1 H2) (hid H' H1 H2) := fun b o h => by
  obtain ⟨h1, h2⟩ := hid_some h
  rw [hid_see (fun q => h2 (ex_none e q))]
  exact h1
/-- entered later -/
theorem hid_late (e : Ex H1 H2) : Ex (hid H H2 H3) (hid H H1 H3) := fun b o h => by
  obtain ⟨h1, h2⟩ := hid_some h
  rw [hid_see (fun q => ex_none e (h2 q))]
  exact h1
/-- in two steps -/
theorem hid_two (e : Ex H1 H2) : Ex (hid (hid H H1 H2) H2 H3) (hid H H1 H3) := fun b o h => by
  obtain ⟨h1, h2⟩ := hid_some h
  refine (hid_see (fun q => ?_)).trans h1
  by_cases z : H1 b = none
  · exact z
  · exact absurd (h2 (hid_no q z)) (fun y => z (ex_none e y))
theorem hid_new (h : H1 b = none) : hid H H1 H2 b = H2 b := hid_see fun _ => h
theorem hid_self : hid H H H2 = H2 := by
  funext b
  exact hid_see fun q => q
end

/-! ### what evaluates to which data -/
section
variable (K : PySem.W.Frag)
def EvD (te : TE) (σ : L2.St) (H : Hp) (d : PyData) : Prop :=
  ∀ H1, Ex H H1 → ∀ Q : VK, (∀ v H2, Ex H1 H2 → Dp K (hid H H1 H2) v d → Q v H2) → te σ H1 Q
def EvDA (ta : TA) (σ : L2.St) (H : Hp) (ds : List PyData) : Prop :=
  ∀ H1, Ex H H1 → ∀ Q : List V → Hp → Prop, (∀ vs H2, Ex H1 H2 → DpAll K (hid H H1 H2) vs ds → Q vs H2) → ta σ H1 Q
def RVD (r : R2) (x y : V) (H : Hp) (d : PyData) : Prop :=
  ∀ H1, Ex H H1 → ∀ Q : VK, (∀ v H2, Ex H1 H2 → Dp K (hid H H1 H2) v d → Q v H2) → r x y H1 Q
def RCD (r : List V → Hp → VK → Prop) (xs : List V) (H : Hp) (d : PyData) : Prop :=
  ∀ H1, Ex H H1 → ∀ Q : VK, (∀ v H2, Ex H1 H2 → Dp K (hid H H1 H2) v d → Q v H2) → r xs H1 Q
/-- a block that hands back d -/
def Runs (t : TS) (σ : L2.St) (H : Hp) (d : PyData) : Prop :=
  ∀ H1, Ex H H1 → ∀ D : Ends, (∀ v H2, Ex H1 H2 → Dp K (hid H H1 H2) v d → D.rt v H2) → t D σ H1
/-- a def that makes data of data -/
def SpD (sp : Sp) (ds : List PyData) (d : PyData) : Prop :=
  ∀ Hv vs H1, Ex Hv H1 → DpAll K Hv vs ds → ∀ (Q : VK) (E : XK), (∀ v H2, Ex H1 H2 → Dp K (hid Hv H1 H2) v d → Q v H2) → sp vs H1 Q E
/-- the promise of such a def: ok tells what it makes of what -/
def spOf (n : Nat) (ok : List PyData → PyData → Prop) : Sp := fun vs H Q _ =>
  ∃ Hv ds d, vs.length = n ∧ Ex Hv H ∧ DpAll K Hv vs ds ∧ ok ds d ∧ ∀ v H2, Ex H H2 → Dp K (hid Hv H H2) v d → Q v H2
end

section
variable {K : PySem.W.Frag} {σ : L2.St} {H H' : Hp} {ta tb te tc : TE} {t : TA} {v : V} {d d1 d2 d3 : PyData} {r r' : R2} {i j : Int} {b : Bool}
theorem spD_of {n : Nat} {ok : List PyData → PyData → Prop} {ds : List PyData} (h : ok ds d) (hn : ds.length = n := by rfl) : SpD K (spOf K n ok) ds d :=
  fun Hv vs H1 e hv Q E q => ⟨Hv, ds, d, (dpAll_len hv).trans hn, e, hv, h, q⟩
theorem EvD.mono (e : Ex H H') (h : EvD K te σ H d) : EvD K te σ H' d := fun H1 a Q q =>
  h H1 (e.trans a) Q fun v H2 e2 hd => q v H2 e2 (dp_same (hid_more e) hd)
theorem Runs.mono {t : TS} (e : Ex H H') (h : Runs K t σ H d) : Runs K t σ H' d := fun H1 a D q =>
  h H1 (e.trans a) D fun v H2 e2 hd => q v H2 e2 (dp_same (hid_more e) hd)

theorem ed_var {i : Nat} (h : σ[i]? = some (some v)) (hd : Dp K H v d) : EvD K (tVar i) σ H d := fun H1 e Q q =>
  ⟨v, h, q v H1 (Ex.refl _) (dp_same (hid_base e (Ex.refl _)) hd)⟩
theorem ed_c (hd : ∀ H, Dp K H v d) : EvD K (tC v) σ H d := fun H1 e Q q => q v H1 (Ex.refl _) (hd _)
theorem ed_int : EvD K (tC (.int i)) σ H (.int i) := ed_c fun _ => .int i
theorem ed_str {x : Str} : EvD K (tC (.str x)) σ H (.str x) := ed_c fun _ => .str x
theorem ed_bl : EvD K (tC (.bl b)) σ H (.bool b) := ed_c fun _ => .bl b
theorem ed_non : EvD K (tC .non) σ H .none := ed_c fun _ => .non
theorem ed_op (ha : EvD K ta σ H d1) (hb : EvD K tb σ H d2) (hr : ∀ x y H', Ex H H' → Dp K H' x d1 → Dp K H' y d2 → RVD K r x y H' d) : EvD K (tOp r ta tb) σ H d :=
  fun H1 e Q q => ha H1 e _ fun x H2 e2 hx => hb H2 (e.trans e2) _ fun y H3 e3 hy =>
    hr x y (hid H H1 H3) (hid_base e (e2.trans e3)) (dp_same (hid_on e3) hx) (dp_same (hid_late e2) hy) H3 hid_ex Q fun v H4 e4 hv =>
      q v H4 ((e2.trans e3).trans e4) (dp_same (hid_two (e2.trans e3)) hv)
theorem eda_nil : EvDA K tNil σ H [] := fun H1 _ _ q => q [] H1 (Ex.refl _) .nil
theorem eda_cons {ds : List PyData} (ha : EvD K ta σ H d) (ht : EvDA K t σ H ds) : EvDA K (tCons ta t) σ H (d :: ds) := fun H1 e Q q =>
  ha H1 e _ fun x H2 e2 hx => ht H2 (e.trans e2) _ fun xs H3 e3 hxs =>
    q (x :: xs) H3 (e2.trans e3) (.cons (dp_same (hid_on e3) hx) (dpAll_same (hid_late e2) hxs))
theorem ed_tup {ds : List PyData} (h : EvDA K t σ H ds) (hl : ds.length ≤ 100000) : EvD K (tTup t) σ H (.tuple ds) := fun H1 e Q q =>
  h H1 e _ fun xs H2 e2 hxs => ⟨sz_of (by rw [dpAll_len hxs]; exact hl), fun p hp =>
    q _ _ (e2.trans (Ex.new hp)) (.tup (.inl (.inl ((hid_new (ex_none e2 hp)).trans upd_same))) (dpAll_same (hid_on (Ex.new hp)) hxs))⟩
theorem ed_lst {ds : List PyData} (h : EvDA K t σ H ds) (hl : ds.length ≤ 100000) : EvD K (tLst t) σ H (.list ds) := fun H1 e Q q =>
  h H1 e _ fun xs H2 e2 hxs => ⟨sz_of (by rw [dpAll_len hxs]; exact hl), fun p hp =>
    q _ _ (e2.trans (Ex.new hp)) (.lst (.inl (.inl ((hid_new (ex_none e2 hp)).trans upd_same))) (dpAll_same (hid_on (Ex.new hp)) hxs))⟩
theorem ed_call {sp : Sp} {E : XK} {ds : List PyData} (h : EvDA K t σ H ds) (hs : SpD K sp ds d) : EvD K (tCall sp [] E t) σ H d := fun H1 e Q q =>
  h H1 e _ fun xs H2 e2 hxs => by
    rw [List.append_nil]
    exact hs (hid H H1 H2) xs H2 hid_ex hxs Q E fun v H3 e3 hv => q v H3 (e2.trans e3) (dp_same (hid_two e2) hv)
theorem ed_cb {rc : List V → Hp → VK → Prop} {ds : List PyData} (h : EvDA K t σ H ds) (hr : ∀ xs H', Ex H H' → DpAll K H' xs ds → RCD K rc xs H' d) : EvD K (tCB rc t) σ H d := fun H1 e Q q =>
  h H1 e _ fun xs H2 e2 hxs => hr xs _ (hid_base e e2) hxs H2 hid_ex Q fun v H3 e3 hv => q v H3 (e2.trans e3) (dp_same (hid_two e2) hv)
theorem ed_ev (hd : ∀ H, Dp K H v d) (h : Ev te σ H v) : EvD K te σ H d := fun H1 e Q q => h H1 e Q fun H2 e2 => q v H2 e2 (hd _)
theorem ev_ed (hd : ∀ H u, Dp K H u d → u = v) (h : EvD K te σ H d) : Ev te σ H v := fun H1 e Q q => h H1 e Q fun u H2 e2 hu => by
  rw [hd _ _ hu]
  exact q H2 e2
theorem ev_int (h : EvD K te σ H (.int i)) : Ev te σ H (.int i) := ev_ed (fun _ _ q => by cases q; rfl) h
theorem ev_bool (h : EvD K te σ H (.bool b)) : Ev te σ H (.bl b) := ev_ed (fun _ _ q => by cases q; rfl) h
theorem ev_str {x : Str} (h : EvD K te σ H (.str x)) : Ev te σ H (.str x) := ev_ed (fun _ _ q => by cases q; rfl) h
theorem ed_of_int (h : Ev te σ H (.int i)) : EvD K te σ H (.int i) := ed_ev (fun _ => .int i) h
theorem ed_of_bool (h : Ev te σ H (.bl b)) : EvD K te σ H (.bool b) := ed_ev (fun _ => .bl b) h
theorem et_bool {tt : TE} (h : EvD K tt σ H (.bool b)) : EvT (tTest tt) σ H b := et_test (ev_bool h)
theorem etB_bool {tt : TE} (h : EvD K tt σ H (.bool b)) : EvT (tB tt) σ H b := et_B (ev_bool h)
theorem ed_and {c : Bool} (h1 : EvD K ta σ H (.bool b)) (h2 : b = true → EvD K tb σ H (.bool c)) : EvD K (tAndV ta tb) σ H (.bool (b && c)) :=
  ed_of_bool (ev_andV (ev_bool h1) fun e => ev_bool (h2 e))
theorem ed_not (h1 : EvD K ta σ H (.bool b)) : EvD K (tNotV ta) σ H (.bool (!b)) := ed_of_bool (ev_notV (ev_bool h1))
/-- int operators -/
theorem ed_I0 {g : Int → Int → Int} (ha : EvD K ta σ H (.int i)) (hb : EvD K tb σ H (.int j)) : EvD K (tOp (rI0 fun i j => .int (g i j)) ta tb) σ H (.int (g i j)) :=
  ed_of_int (ev_op (ev_int ha) (ev_int hb) rv_I0)
theorem ed_I {C : Int → Int → Prop} {g : Int → Int → Int} (ha : EvD K ta σ H (.int i)) (hb : EvD K tb σ H (.int j)) (hc : C i j) : EvD K (tOp (rI C fun i j => .int (g i j)) ta tb) σ H (.int (g i j)) :=
  ed_of_int (ev_op (ev_int ha) (ev_int hb) (rv_I hc))
theorem ed_B0 {g : Int → Int → Bool} (ha : EvD K ta σ H (.int i)) (hb : EvD K tb σ H (.int j)) : EvD K (tOp (rI0 fun i j => .bl (g i j)) ta tb) σ H (.bool (g i j)) :=
  ed_of_bool (ev_op (ev_int ha) (ev_int hb) rv_I0)
theorem ed_neg (ha : EvD K ta σ H (.int i)) : EvD K (tUn (rU fun i => .int (-i)) ta) σ H (.int (-i)) := ed_of_int (ev_un (ev_int ha) ru_neg)
/-- an item -/
theorem ed_ixT {ds : List PyData} {k : Nat} (ha : EvD K ta σ H (.tuple ds)) (hb : EvD K tb σ H (.int (k : Int))) (h : ds[k]? = some d) : EvD K (tOp (rIxT K) ta tb) σ H d :=
  ed_op ha hb fun x y H' e hx hy => by
    obtain ⟨a, xs, rfl, h1, h2⟩ := dp_tup hx
    cases hy
    have hl : k < xs.length := by
      rw [dpAll_len h2]
      exact (List.getElem?_eq_some_iff.mp h).1
    obtain ⟨d', h3, h4⟩ := dpAll_get h2 (List.getElem?_eq_getElem hl)
    rw [h] at h3
    cases h3
    intro H1 e1 Q q
    exact ⟨a, xs, _, xs[k], rfl, rfl, sqT_same e1 h1, atI_nat (List.getElem?_eq_getElem hl), q _ H1 (Ex.refl _) (dp_same (hid_base e1 (Ex.refl _)) h4)⟩
theorem ed_ixL {ds : List PyData} {k : Nat} (ha : EvD K ta σ H (.list ds)) (hb : EvD K tb σ H (.int (k : Int))) (h : ds[k]? = some d) : EvD K (tOp (rIxL K) ta tb) σ H d :=
  ed_op ha hb fun x y H' e hx hy => by
    obtain ⟨a, xs, rfl, h1, h2⟩ := dp_lst hx
    cases hy
    have hl : k < xs.length := by
      rw [dpAll_len h2]
      exact (List.getElem?_eq_some_iff.mp h).1
    obtain ⟨d', h3, h4⟩ := dpAll_get h2 (List.getElem?_eq_getElem hl)
    rw [h] at h3
    cases h3
    intro H1 e1 Q q
    exact ⟨a, xs, _, xs[k], rfl, rfl, ex_l e1 h1, atI_nat (List.getElem?_eq_getElem hl), q _ H1 (Ex.refl _) (dp_same (hid_base e1 (Ex.refl _)) h4)⟩
/-! ### statements -/
theorem ru_ret (h : EvD K te σ H d) : Runs K (tRet te) σ H d := fun H1 e D q => h H1 e _ q
theorem ru_if {c : TT} {t u : TS} (h : EvT c σ H b) (h1 : b = true → Runs K t σ H d) (h2 : b = false → Runs K u σ H d) : Runs K (tIfS c t u) σ H d := fun H1 e D q =>
  h H1 e _ fun H2 e2 => by
    cases b with
    | true =>
      rw [if_pos rfl]
      exact h1 rfl H2 (e.trans e2) D fun v H3 e3 hv => q v H3 (e2.trans e3) (dp_same (hid_late e2) hv)
    | false =>
      rw [if_neg Bool.false_ne_true]
      exact h2 rfl H2 (e.trans e2) D fun v H3 e3 hv => q v H3 (e2.trans e3) (dp_same (hid_late e2) hv)
/-- if c: return ..; then the rest -/
theorem ru_when {c : TT} {t u : TS} (h : EvT c σ H b) (h1 : b = true → Runs K t σ H d) (h2 : b = false → Runs K u σ H d) : Runs K (tSeq (tIfS c t tNext) u) σ H d := fun H1 e D q =>
  h H1 e _ fun H2 e2 => by
    cases b with
    | true =>
      rw [if_pos rfl]
      exact h1 rfl H2 (e.trans e2) _ fun v H3 e3 hv => q v H3 (e2.trans e3) (dp_same (hid_late e2) hv)
    | false =>
      rw [if_neg Bool.false_ne_true]
      exact h2 rfl H2 (e.trans e2) D fun v H3 e3 hv => q v H3 (e2.trans e3) (dp_same (hid_late e2) hv)
theorem ru_set {i : Nat} {u : TS} (h : EvD K te σ H d1) (k : ∀ v H', Ex H H' → Dp K H' v d1 → Runs K u (σ.set i (some v)) H' d) : Runs K (tSeq (tAsg te (gName i)) u) σ H d := fun H1 e D q =>
  h H1 e _ fun v H2 e2 hv => k v (hid H H1 H2) (hid_base e e2) hv H2 hid_ex D fun w H3 e3 hw => q w H3 (e2.trans e3) (dp_same (hid_two e2) hw)
theorem ru_drop {u : TS} (h : EvD K te σ H d1) (k : Runs K u σ H d) : Runs K (tSeq (tDrop te) u) σ H d := fun H1 e D q =>
  h H1 e _ fun v H2 e2 hv => k H2 (e.trans e2) D fun w H3 e3 hw => q w H3 (e2.trans e3) (dp_same (hid_late e2) hw)
end

/-! ### comprehensions -/
theorem yes_go {σ : L2.St} {H : Hp} {A B : Hp → Prop} (h : A H) : tYes σ H (fun b H3 => if b = true then A H3 else B H3) := by
  show if true = true then A H else B H
  rw [if_pos rfl]
  exact h
section
variable {K : PySem.W.Frag} {σ : L2.St} {H : Hp} {te tl : TE} {g : TG} {vs : List Nat} {d : PyData}
/-- one comprehension without tests over any walk -/
theorem lcD {J : It} {n : Nat} {G : Hp → Prop} {Y : Nat → Hp → V → Hp → Prop} (w : Walk J n G Y) (f : Nat → PyData) (hn : n ≤ 100000)
    {H1 : Hp} (e1 : Ex H H1) (hG : ∀ H', Ex H H' → G H')
    (hs : ∀ i x H' H'', i < n → Ex H H' → Y i H' x H'' → ∀ Qg : L2.St → Hp → Prop,
      (∀ σ2 H2, wipe σ2 vs = wipe σ vs → Ex H' H2 → EvD K te σ2 H (f i) → Qg σ2 H2) → g x (wipe σ vs) H'' Qg)
    {D : Addr} (hD : H1 D = none) {Q : VK} (q : ∀ v H2, Ex H1 H2 → Dp K (hid H H1 H2) v (.list ((List.range n).map f)) → Q v H2) :
    ∃ W : Nat → Nat → Hp → Prop, (∃ m, W 0 m (upd H1 D (.lst []))) ∧ ∀ i m H, W i m H → (J.stop i H ∧ Q (.ref D) H) ∨
      (J.go i H ∧ ∃ Nx : Hp → Prop, (∀ H', Nx H' → ∃ m', m' < m ∧ W (i + 1) m' H') ∧ ∀ x H', J.yld i H x H' →
        g x (wipe σ vs) H' fun σ2 H2 => wipe σ2 vs = wipe σ vs ∧ tYes σ2 H2 fun b H3 =>
          if b = true then te σ2 H3 fun y H4 => ∃ acc, H4 D = some (.lst acc) ∧ acc.length < sizeLine ∧ Nx (upd H4 D (.lst (acc ++ [y]))) else Nx H3) := by
  refine lc_it w (D := D) (Qd := Q (.ref D)) (fun i H' => ∃ acc, Ex H1 H' ∧ H' D = some (.lst acc) ∧ DpAll K (fun b => if b = D then none else hid H H1 H' b) acc ((List.range i).map f))
    ⟨[], Ex.new hD, upd_same, .nil⟩ (fun i H' _ ⟨_, e, _⟩ => hG H' (e1.trans e)) ?_ ?_
  · rintro i x H' H'' hi ⟨acc, e, h1, h2⟩ y
    refine hs i x H' H'' hi (e1.trans e) y _ ?_
    intro σ2 H2 hw e2 hev
    refine ⟨hw, ?_⟩
    refine yes_go ?_
    refine hev H2 ((e1.trans e).trans e2) _ fun v H3 e3 hv => ?_
    have hl : acc.length = i := by
      rw [dpAll_len h2, List.length_map, List.length_range]
    have eD : H3 D = some (.lst acc) := e3 _ _ (e2 _ _ h1)
    refine ⟨acc, eD, sz_lt (by omega), acc ++ [v], ((e.trans e2).trans e3).mut hD, upd_same, ?_⟩
    rw [List.range_succ, List.map_append]
    have off : ∀ Hx : Hp, Ex Hx H3 → (∀ b, Hx b ≠ none → b ≠ D) → (∀ b, Hx b ≠ none → (H b = none → H1 b = none)) →
        Ex Hx (fun b => if b = D then none else hid H H1 (upd H3 D (.lst (acc ++ [v]))) b) := fun Hx ex nD vis b o hb => by
      have n0 : Hx b ≠ none := by
        rw [hb]
        exact fun z => nomatch z
      have nb := nD b n0
      show (if b = D then none else hid H H1 (upd H3 D (.lst (acc ++ [v]))) b) = some o
      rw [if_neg nb, hid_see (vis b n0), upd_ne nb]
      exact ex _ _ hb
    refine dpAll_app (dpAll_same (off (fun b => if b = D then none else hid H H1 H' b) ?_ ?_ ?_) h2) (.cons (dp_same (off (hid H H2 H3) hid_ex ?_ ?_) hv) .nil)
    · intro b o hb
      have hb : (if b = D then none else hid H H1 H' b) = some o := hb
      by_cases z : b = D
      · rw [if_pos z] at hb
        cases hb
      · rw [if_neg z] at hb
        exact e3 _ _ (e2 _ _ ((hid_some hb).1))
    · intro b hb z
      exact hb (if_pos z)
    · intro b hb
      by_cases z : b = D
      · exact absurd (if_pos z) hb
      · cases hq : hid H H1 H' b with
        | none =>
          refine absurd ?_ hb
          show (if b = D then none else hid H H1 H' b) = none
          rw [if_neg z]
          exact hq
        | some o => exact (hid_some hq).2
    · intro b hb z
      subst z
      refine hb (hid_no ?_ ?_)
      · exact ex_none e1 hD
      · rw [e2 _ _ h1]
        exact fun z => nomatch z
    · intro b hb hn
      cases hq : hid H H2 H3 b with
      | none => exact absurd hq hb
      | some o => exact ex_none (e.trans e2) ((hid_some hq).2 hn)
  · rintro H' ⟨acc, e, h1, h2⟩
    refine q _ H' e (.lst (.inl (.inl ((hid_new hD).trans h1))) (dpAll_same ?_ h2))
    intro b o hb
    have hb : (if b = D then none else hid H H1 H' b) = some o := hb
    by_cases z : b = D
    · rw [if_pos z] at hb
      cases hb
    · rw [if_neg z] at hb
      exact hb

/-- over a list of data, over a tuple -/
theorem ed_lcL {ds : List PyData} (f : Nat → PyData) (hl : EvD K tl σ H (.list ds)) (hz : ds.length ≤ 100000)
    (hs : ∀ i x dx H', ds[i]? = some dx → Ex H H' → Dp K H' x dx → ∀ H'', Ex H' H'' → ∀ Qg : L2.St → Hp → Prop,
      (∀ σ2 H2, wipe σ2 vs = wipe σ vs → Ex H'' H2 → EvD K te σ2 H' (f i) → Qg σ2 H2) → g x (wipe σ vs) H'' Qg) :
    EvD K (tLc (iList K tl) g tYes te vs) σ H (.list ((List.range ds.length).map f)) := fun H1 e Q q =>
  hl H1 e _ fun x H2 e2 hx => by
    obtain ⟨a, xs, rfl, h1, h2⟩ := dp_lst hx
    have hlen := dpAll_len h2
    refine ⟨a, rfl, ⟨xs, ex_l hid_ex h1⟩, fun D hD => ?_⟩
    refine lcD (K := K) (H := hid H H1 H2) (walk_list (K := K) (a := a) (xs := xs)) f (by omega) hid_ex (fun H' e' => ex_l e' h1) ?_ hD fun v H3 e3 hv => ?_
    · rintro i x H' H'' hi e' ⟨rfl, hx⟩ Qg k
      obtain ⟨dx, hd, hdx⟩ := dpAll_get h2 hx
      exact hs i x dx (hid H H1 H2) hd (hid_base e e2) hdx H'' e' Qg k
    · refine q v H3 (e2.trans e3) (dp_same (hid_two e2) ?_)
      rw [hlen] at hv
      exact hv
theorem ed_lcT {ds : List PyData} (f : Nat → PyData) (hl : EvD K tl σ H (.tuple ds)) (hz : ds.length ≤ 100000)
    (hs : ∀ i x dx H', ds[i]? = some dx → Ex H H' → Dp K H' x dx → ∀ H'', Ex H' H'' → ∀ Qg : L2.St → Hp → Prop,
      (∀ σ2 H2, wipe σ2 vs = wipe σ vs → Ex H'' H2 → EvD K te σ2 H' (f i) → Qg σ2 H2) → g x (wipe σ vs) H'' Qg) :
    EvD K (tLc (iTup K tl) g tYes te vs) σ H (.list ((List.range ds.length).map f)) := fun H1 e Q q =>
  hl H1 e _ fun x H2 e2 hx => by
    obtain ⟨a, xs, rfl, h1, h2⟩ := dp_tup hx
    have hlen := dpAll_len h2
    refine ⟨a, rfl, ⟨xs, sqT_same hid_ex h1⟩, fun D hD => ?_⟩
    refine lcD (K := K) (H := hid H H1 H2) (walk_tup (K := K) (a := a) (xs := xs)) f (by omega) hid_ex (fun H' e' => sqT_same e' h1) ?_ hD fun v H3 e3 hv => ?_
    · rintro i x H' H'' hi e' ⟨rfl, hx⟩ Qg k
      obtain ⟨dx, hd, hdx⟩ := dpAll_get h2 hx
      exact hs i x dx (hid H H1 H2) hd (hid_base e e2) hdx H'' e' Qg k
    · refine q v H3 (e2.trans e3) (dp_same (hid_two e2) ?_)
      rw [hlen] at hv
      exact hv
theorem ed_lcR1 {ta : TA} {n : Nat} (f : Nat → PyData) (hl : EvDA K ta σ H [.int (n : Int)]) (hz : n ≤ 100000)
    (hs : ∀ i : Nat, i < n → ∀ H' H'', Ex H H' → Ex H' H'' → ∀ Qg : L2.St → Hp → Prop,
      (∀ σ2 H2, wipe σ2 vs = wipe σ vs → Ex H'' H2 → EvD K te σ2 H' (f i) → Qg σ2 H2) → g (.int (0 + (i : Int))) (wipe σ vs) H'' Qg) :
    EvD K (tLc (iRng1 ta) g tYes te vs) σ H (.list ((List.range n).map f)) := fun H1 e Q q =>
  hl H1 e _ fun xs H2 e2 hx => by
    cases hx with
    | cons h1 h2 =>
      cases h1
      cases h2
      refine ⟨(n : Int), rfl, by omega, by omega, fun D hD => ?_⟩
      rw [Int.toNat_natCast]
      refine lcD (K := K) (H := hid H H1 H2) (walk_range (lo := 0) (n := n)) f hz hid_ex (fun _ _ => trivial) ?_ hD fun v H3 e3 hv => q v H3 (e2.trans e3) (dp_same (hid_two e2) hv)
      rintro i x H' H'' hi e' ⟨rfl, rfl⟩ Qg k
      exact hs i hi (hid H H1 H2) H'' (hid_base e e2) e' Qg k
theorem ed_lcS {z : Str} (f : Nat → PyData) (hl : EvD K tl σ H (.str z)) (hz : z.cps.size ≤ 100000)
    (hs : ∀ (i : Nat) (c : Nat), z.cps[i]? = some c → ∀ H' H'', Ex H H' → Ex H' H'' → ∀ Qg : L2.St → Hp → Prop,
      (∀ σ2 H2, wipe σ2 vs = wipe σ vs → Ex H'' H2 → EvD K te σ2 H' (f i) → Qg σ2 H2) → g (.str ⟨#[c]⟩) (wipe σ vs) H'' Qg) :
    EvD K (tLc (iStr tl) g tYes te vs) σ H (.list ((List.range z.cps.size).map f)) := fun H1 e Q q =>
  hl H1 e _ fun x H2 e2 hx => by
    cases hx
    refine ⟨z, rfl, fun D hD => ?_⟩
    refine lcD (K := K) (H := hid H H1 H2) (walk_str (z := z)) f hz hid_ex (fun _ _ => trivial) ?_ hD fun v H3 e3 hv => q v H3 (e2.trans e3) (dp_same (hid_two e2) hv)
    rintro i x H' H'' hi e' ⟨rfl, c, hc, rfl⟩ Qg k
    exact hs i c hc (hid H H1 H2) H'' (hid_base e e2) e' Qg k
/-- the target a name -/
theorem g_name {i : Nat} {x : V} {H' H'' : Hp} {Qg : L2.St → Hp → Prop} (hw : wipe ((wipe σ vs).set i (some x)) vs = wipe σ vs) (he : EvD K te ((wipe σ vs).set i (some x)) H' d)
    (k : ∀ σ2 H2, wipe σ2 vs = wipe σ vs → Ex H'' H2 → EvD K te σ2 H' d → Qg σ2 H2) : gName i x (wipe σ vs) H'' Qg := k _ _ hw (Ex.refl _) he
end

/-! ### types, lengths, all, strings -/
def rLenK (K : PySem.W.Frag) : List V → Hp → VK → Prop := fun xs H Q => ∃ p ys, xs = [.ref p] ∧ (SqL K H p ys ∨ SqT K H p ys) ∧ Q (.int ys.length) H
def tyD : PyData → String
  | .none => "NoneType" | .bool _ => "bool" | .int _ => "int" | .str _ => "str" | .list _ => "list" | .tuple _ => "tuple" | _ => "?"
theorem kb_ii : kitB "int" "int" = some true := by decide +kernel
theorem kb_ib : kitB "int" "bool" = some false := by decide +kernel
theorem kb_ss : kitB "str" "str" = some true := by decide +kernel
theorem kb_tt : kitB "tuple" "tuple" = some true := by decide +kernel
theorem kb_ll : kitB "list" "list" = some true := by decide +kernel
section
variable {K : PySem.W.Frag} {σ : L2.St} {H : Hp} {te ta tb tl : TE} {t : TA} {d : PyData} {v : V}
theorem tyX_lst {a : Addr} {xs : List V} (h : SqL K H a xs) : TyX K H (.ref a) (.type "list") := by
  rcases h with (h | ⟨o, h⟩) | ⟨o, its, n, h, c, _⟩
  · exact .base (.lst h)
  · exact .base (.frz h)
  · exact .kList h c
theorem tyX_dp (h : Dp K H v d) : TyX K H v (.type (tyD d)) := by
  cases h with
  | non => exact .base .non
  | bl b => exact .base (.bl b)
  | int i => exact .base (.int i)
  | str x => exact .base (.str x)
  | lst h _ => exact tyX_lst h
  | tup h _ => exact tyX_tup h
theorem ed_isB {n : String} {b : Bool} (ha : EvD K ta σ H d) (hk : kitB (tyD d) n = some b) :
    EvD K (tCB (rIsB K) (tCons ta (tCons (tC (.ty n)) tNil))) σ H (.bool b) := fun H1 e Q q =>
  ha H1 e _ fun x H2 e2 hx => ⟨x, n, tyD d, b, rfl, tyX_dp (dp_same hid_ex hx), hk, q _ H2 e2 (.bl b)⟩
theorem Runs.go {t : TS} {Hv : Hp} {Q : VK} {n : L2.St → Hp → Prop} (h : Runs K t σ Hv d) (e : Ex Hv H) (q : ∀ v H2, Ex H H2 → Dp K (hid Hv H H2) v d → Q v H2) :
    t { nx := n, rt := Q } σ H := h H e _ q
theorem ed_len {ds : List PyData} (ha : EvD K ta σ H (.tuple ds)) : EvD K (tCB (rLenK K) (tCons ta tNil)) σ H (.int (ds.length : Int)) := fun H1 e Q q =>
  ha H1 e _ fun x H2 e2 hx => by
    obtain ⟨a, xs, rfl, h1, h2⟩ := dp_tup hx
    refine ⟨a, xs, rfl, .inr (sqT_same hid_ex h1), ?_⟩
    rw [dpAll_len h2]
    exact q _ H2 e2 (.int _)
theorem ed_lenL {ds : List PyData} (ha : EvD K ta σ H (.list ds)) : EvD K (tCB (rLenK K) (tCons ta tNil)) σ H (.int (ds.length : Int)) := fun H1 e Q q =>
  ha H1 e _ fun x H2 e2 hx => by
    obtain ⟨a, xs, rfl, h1, h2⟩ := dp_lst hx
    refine ⟨a, xs, rfl, .inl (ex_l hid_ex h1), ?_⟩
    rw [dpAll_len h2]
    exact q _ H2 e2 (.int _)
theorem ed_lenS {z : Str} (ha : EvD K ta σ H (.str z)) (hz : z.length ≤ sizeLine) : EvD K (tCB (fun xs H Q => ∃ z, xs = [.str z] ∧ z.length ≤ sizeLine ∧ Q (.int z.length) H) (tCons ta tNil)) σ H (.int (z.length : Int)) := fun H1 e Q q =>
  ha H1 e _ fun x H2 e2 hx => by
    cases hx
    exact ⟨z, rfl, hz, q _ H2 e2 (.int _)⟩
theorem vals_of_bools : ∀ {vs : List V} {ns : List Bool}, DpAll K H vs (ns.map PyData.bool) → vs = ns.map V.bl
  | _, [], .nil => rfl
  | _, n :: ns, .cons h t => by
    cases h
    rw [vals_of_bools t, List.map_cons]
theorem ed_all {bs : List Bool} (ha : EvD K ta σ H (.list (bs.map PyData.bool))) : EvD K (tCB (rAll K) (tCons ta tNil)) σ H (.bool (bs.all id)) := fun H1 e Q q =>
  ha H1 e _ fun x H2 e2 hx => by
    obtain ⟨a, xs, rfl, h1, h2⟩ := dp_lst hx
    rw [vals_of_bools h2] at h1
    exact ⟨a, bs, rfl, ex_l hid_ex h1, q _ H2 e2 (.bl _)⟩
theorem ed_sum {ns : List Int} (ha : EvD K ta σ H (.list (ns.map PyData.int))) : EvD K (tCB (rSum K) (tCons ta tNil)) σ H (.int ns.sum) := fun H1 e Q q =>
  ha H1 e _ fun x H2 e2 hx => by
    obtain ⟨a, xs, rfl, h1, h2⟩ := dp_lst hx
    rw [vals_of_ints h2] at h1
    exact ⟨a, ns, rfl, ex_l hid_ex h1, q _ H2 e2 (.int _)⟩
/-- tuple(x) of a list -/
theorem ed_tupleOf {ds : List PyData} (ha : EvD K ta σ H (.list ds)) :
    EvD K (tCB (fun xs H Q => ∃ p ys, xs = [.ref p] ∧ ((SqL K H p ys ∧ ∀ l, H l = none → Q (.ref l) (upd H l (.tup ys))) ∨ (SqT K H p ys ∧ Q (.ref p) H))) (tCons ta tNil)) σ H (.tuple ds) := fun H1 e Q q =>
  ha H1 e _ fun x H2 e2 hx => by
    obtain ⟨a, xs, rfl, h1, h2⟩ := dp_lst hx
    refine ⟨a, xs, rfl, .inl ⟨ex_l hid_ex h1, fun l hl => ?_⟩⟩
    exact q _ _ (e2.trans (Ex.new hl)) (.tup (.inl (.inl ((hid_new (ex_none e2 hl)).trans upd_same))) (dpAll_same (hid_on (Ex.new hl)) h2))
/-- repr(x) -/
theorem ed_repr {d : PyData} (ha : EvD K ta σ H d) (hr : ∀ H v, Dp K H v d → ∃ a, v = .ref a) (hs : d.showable = true) (hn : d.hasDict = false) (hd : d.depth ≤ 100) (hz : d.shown.length ≤ sizeLine) :
    EvD K (tCB (fun xs H Q => ∃ v d, xs = [v] ∧ Dp K H v d ∧ d.showable = true ∧ d.hasDict = false ∧ d.depth ≤ 100 ∧ d.shown.length ≤ sizeLine ∧ (∃ a, v = .ref a) ∧ Q (.str d.shown) H) (tCons ta tNil)) σ H (.str d.shown) := fun H1 e Q q =>
  ha H1 e _ fun x H2 e2 hx => ⟨x, d, rfl, dp_same hid_ex hx, hs, hn, hd, hz, hr _ _ hx, q _ H2 e2 (.str _)⟩
/-- a pair of bounds, ints -/
theorem ed_chainI {g g' : Int → Int → Bool} {i j k : Int} {tc : TE} (ha : EvD K ta σ H (.int i)) (hb : EvD K tb σ H (.int j)) (hc : g i j = true → EvD K tc σ H (.int k)) :
    EvD K (tChain (rI0 fun i j => .bl (g i j)) (rI0 fun i j => .bl (g' i j)) ta tb tc) σ H (.bool (g i j && g' j k)) := fun H1 e Q q =>
  ha H1 e _ fun x H2 e2 hx => hb H2 (e.trans e2) _ fun y H3 e3 hy => by
    cases hx
    cases hy
    refine ⟨i, j, rfl, rfl, g i j, rfl, ?_⟩
    cases hg : g i j with
    | false =>
      rw [if_neg Bool.false_ne_true]
      refine q _ H3 (e2.trans e3) ?_
      rw [hg]
      exact .bl _
    | true =>
      rw [if_pos rfl]
      refine hc hg H3 ((e.trans e2).trans e3) _ fun z H4 e4 hz => ?_
      cases hz
      refine ⟨j, k, rfl, rfl, q _ H4 ((e2.trans e3).trans e4) ?_⟩
      rw [hg]
      exact .bl _
end
section
variable {K : PySem.W.Frag} {σ : L2.St} {H : Hp} {te ta tb tl : TE} {t : TA} {d : PyData} {v : V}
theorem dp1 {vs : List V} (h : DpAll K H vs [d]) : ∃ v, vs = [v] ∧ Dp K H v d := by
  cases h with
  | cons h t =>
    cases t
    exact ⟨_, rfl, h⟩
theorem dp2 {vs : List V} {e : PyData} (h : DpAll K H vs [d, e]) : ∃ v u, vs = [v, u] ∧ Dp K H v d ∧ Dp K H u e := by
  cases h with
  | cons h t =>
    obtain ⟨u, rfl, h2⟩ := dp1 t
    exact ⟨_, _, rfl, h, h2⟩
theorem dp3 {vs : List V} {e f : PyData} (h : DpAll K H vs [d, e, f]) : ∃ v u x, vs = [v, u, x] ∧ Dp K H v d ∧ Dp K H u e ∧ Dp K H x f := by
  cases h with
  | cons h t =>
    obtain ⟨u, x, rfl, h2, h3⟩ := dp2 t
    exact ⟨_, _, _, rfl, h, h2, h3⟩
theorem ed_is {d' : PyData} (e : d = d') (h : EvD K te σ H d) : EvD K te σ H d' := e ▸ h
theorem ed_isb {b b' : Bool} (e : b = b') (h : EvD K te σ H (.bool b)) : EvD K te σ H (.bool b') := e ▸ h
theorem lt_one (a c : Nat) : ([a] < [c]) ↔ a < c := by
  rw [List.cons_lt_cons_iff]
  constructor
  · rintro (h | ⟨_, h⟩)
    · exact h
    · exact absurd h (List.not_lt_nil _)
  · exact .inl
/-- a sign between two signs -/
theorem ed_leS {a z c i : Nat} (h : σ[i]? = some (some (.str ⟨#[c]⟩))) (h1 : a ≤ c) (h2 : c ≤ z) :
    EvD K (tChain (fun x y H Q => ∃ i j : Str, x = .str i ∧ y = .str j ∧ Q (.bl (!decide (j.cps.toList < i.cps.toList))) H)
      (fun x y H Q => ∃ i j : Str, x = .str i ∧ y = .str j ∧ Q (.bl (!decide (j.cps.toList < i.cps.toList))) H) (tC (.str ⟨#[a]⟩)) (tVar i) (tC (.str ⟨#[z]⟩))) σ H (.bool true) := fun H1 e Q q => by
  refine ⟨_, h, ⟨#[a]⟩, ⟨#[c]⟩, rfl, rfl, _, rfl, ?_⟩
  have e1 : decide ([c] < [a]) = false := decide_eq_false fun q => by
    have := (lt_one c a).mp q
    omega
  have e2 : decide ([z] < [c]) = false := decide_eq_false fun q => by
    have := (lt_one z c).mp q
    omega
  show if (!decide ([c] < [a])) = true then _ else _
  rw [e1]
  refine iteT ⟨⟨#[c]⟩, ⟨#[z]⟩, rfl, rfl, ?_⟩
  show Q (.bl (!decide ([z] < [c]))) H1
  rw [e2]
  exact q _ H1 (Ex.refl _) (.bl _)
end
/-! ### more of comprehensions: ranges by an int, targets of several names -/
section
variable {K : PySem.W.Frag} {σ : L2.St} {H : Hp} {te ta tb tl tx ty : TE} {g : TG} {vs : List Nat} {d d1 d2 d3 : PyData}
theorem ed_lcR {ta : TA} {m : Int} (f : Nat → PyData) (hl : EvDA K ta σ H [.int m]) (hz : -100000 ≤ m ∧ m ≤ 100000)
    (hs : ∀ i : Nat, i < m.toNat → ∀ H' H'', Ex H H' → Ex H' H'' → ∀ Qg : L2.St → Hp → Prop,
      (∀ σ2 H2, wipe σ2 vs = wipe σ vs → Ex H'' H2 → EvD K te σ2 H' (f i) → Qg σ2 H2) → g (.int (0 + (i : Int))) (wipe σ vs) H'' Qg) :
    EvD K (tLc (iRng1 ta) g tYes te vs) σ H (.list ((List.range m.toNat).map f)) := fun H1 e Q q =>
  hl H1 e _ fun xs H2 e2 hx => by
    obtain ⟨v, rfl, h1⟩ := dp1 hx
    cases h1
    refine ⟨m, rfl, by omega, by omega, fun D hD => ?_⟩
    refine lcD (K := K) (H := hid H H1 H2) (walk_range (lo := 0) (n := m.toNat)) f (by omega) hid_ex (fun _ _ => trivial) ?_ hD fun v H3 e3 hv => q v H3 (e2.trans e3) (dp_same (hid_two e2) hv)
    rintro i x H' H'' hi e' ⟨rfl, rfl⟩ Qg k
    exact hs i hi (hid H H1 H2) H'' (hid_base e e2) e' Qg k
theorem g_tup3 {i j l : Nat} {x : V} {H' H'' : Hp} {Qg : L2.St → Hp → Prop} (hx : Dp K H' x (.tuple [d1, d2, d3])) (e2 : Ex H' H'')
    (hw : ∀ a b c, wipe ((((wipe σ vs).set i (some a)).set j (some b)).set l (some c)) vs = wipe σ vs)
    (he : ∀ a b c, Dp K H' a d1 → Dp K H' b d2 → Dp K H' c d3 → EvD K te ((((wipe σ vs).set i (some a)).set j (some b)).set l (some c)) H' d)
    (k : ∀ σ2 H2, wipe σ2 vs = wipe σ vs → Ex H'' H2 → EvD K te σ2 H' d → Qg σ2 H2) :
    gTup K 3 (gCons (gName i) (gCons (gName j) (gCons (gName l) gNil))) x (wipe σ vs) H'' Qg := by
  obtain ⟨a, xs, rfl, h1, h2⟩ := dp_tup hx
  obtain ⟨u, v, y, rfl, p1, p2, p3⟩ := dp3 h2
  refine ⟨a, _, rfl, sqT_same e2 h1, rfl, u, _, rfl, ?_⟩
  refine ⟨v, _, rfl, ?_⟩
  refine ⟨y, _, rfl, ?_⟩
  exact ⟨rfl, k _ _ (hw u v y) (Ex.refl _) (he u v y p1 p2 p3)⟩
theorem g_tup2 {i j : Nat} {x : V} {H' H'' : Hp} {Qg : L2.St → Hp → Prop} (hx : Dp K H' x (.tuple [d1, d2])) (e2 : Ex H' H'')
    (hw : ∀ a b, wipe (((wipe σ vs).set i (some a)).set j (some b)) vs = wipe σ vs)
    (he : ∀ a b, Dp K H' a d1 → Dp K H' b d2 → EvD K te (((wipe σ vs).set i (some a)).set j (some b)) H' d)
    (k : ∀ σ2 H2, wipe σ2 vs = wipe σ vs → Ex H'' H2 → EvD K te σ2 H' d → Qg σ2 H2) :
    gTup K 2 (gCons (gName i) (gCons (gName j) gNil)) x (wipe σ vs) H'' Qg := by
  obtain ⟨a, xs, rfl, h1, h2⟩ := dp_tup hx
  obtain ⟨u, v, rfl, p1, p2⟩ := dp2 h2
  refine ⟨a, _, rfl, sqT_same e2 h1, rfl, u, _, rfl, ?_⟩
  refine ⟨v, _, rfl, ?_⟩
  exact ⟨rfl, k _ _ (hw u v) (Ex.refl _) (he u v p1 p2)⟩
theorem ed_eqI {i j : Int} (ha : EvD K ta σ H (.int i)) (hb : EvD K tb σ H (.int j)) : EvD K (tOp rEq ta tb) σ H (.bool (decide (i = j))) := by
  refine ed_of_bool (ev_is (ev_op (ev_int ha) (ev_int hb) (rv_eq rfl)) ?_)
  by_cases h : i = j
  · subst h
    rw [decide_eq_true rfl, decide_eq_true rfl]
  · rw [decide_eq_false h, decide_eq_false fun q => h (V.int.inj q)]
theorem ed_neS {x y : Str} (ha : EvD K ta σ H (.str x)) (hb : EvD K tb σ H (.str y)) : EvD K (tOp rNe ta tb) σ H (.bool (!decide (x = y))) := by
  refine ed_of_bool (ev_is (ev_op (ev_str ha) (ev_str hb) (rv_ne rfl)) ?_)
  by_cases h : x = y
  · subst h
    rw [decide_eq_true rfl, decide_eq_true rfl]
  · rw [decide_eq_false h, decide_eq_false fun q => h (V.str.inj q)]
theorem ed_neI {i j : Int} (ha : EvD K ta σ H (.int i)) (hb : EvD K tb σ H (.int j)) : EvD K (tOp rNe ta tb) σ H (.bool (!decide (i = j))) := by
  refine ed_of_bool (ev_is (ev_op (ev_int ha) (ev_int hb) (rv_ne rfl)) ?_)
  by_cases h : i = j
  · subst h
    rw [decide_eq_true rfl, decide_eq_true rfl]
  · rw [decide_eq_false h, decide_eq_false fun q => h (V.int.inj q)]
theorem ed_ltS {x y : Str} (ha : EvD K ta σ H (.str x)) (hb : EvD K tb σ H (.str y)) :
    EvD K (tOp (fun x y H Q => ∃ i j : Str, x = .str i ∧ y = .str j ∧ Q (.bl (decide (i.cps.toList < j.cps.toList))) H) ta tb) σ H (.bool (decide (x.cps.toList < y.cps.toList))) :=
  ed_of_bool (ev_op (ev_str ha) (ev_str hb) fun H1 _ Q q => ⟨x, y, rfl, rfl, q H1 (Ex.refl _)⟩)
theorem ed_ixLz {ds : List PyData} {z : Int} {k : Nat} (ha : EvD K ta σ H (.list ds)) (hb : EvD K tb σ H (.int z)) (hz : z = (k : Int)) (h : ds[k]? = some d) : EvD K (tOp (rIxL K) ta tb) σ H d := by
  subst hz
  exact ed_ixL ha hb h
theorem ed_ixTz {ds : List PyData} {z : Int} {k : Nat} (ha : EvD K ta σ H (.tuple ds)) (hb : EvD K tb σ H (.int z)) (hz : z = (k : Int)) (h : ds[k]? = some d) : EvD K (tOp (rIxT K) ta tb) σ H d := by
  subst hz
  exact ed_ixT ha hb h
theorem etI_lt {i j : Int} (ha : EvD K ta σ H (.int i)) (hb : EvD K tb σ H (.int j)) : EvT (tTest (tOp (rI0 fun i j => .bl (decide (i < j))) ta tb)) σ H (decide (i < j)) := et_bool (ed_B0 (g := fun i j => decide (i < j)) ha hb)
theorem etI_gt {i j : Int} (ha : EvD K ta σ H (.int i)) (hb : EvD K tb σ H (.int j)) : EvT (tTest (tOp (rI0 fun i j => .bl (decide (j < i))) ta tb)) σ H (decide (j < i)) := et_bool (ed_B0 (g := fun i j => decide (j < i)) ha hb)

/-! ### tables: dicts of text keys -/
def Tab (K : PySem.W.Frag) (H : Hp) (kvs : List (Key × V)) (tab : List (Str × PyData)) : Prop :=
  Paired (fun (kv : Key × V) (e : Str × PyData) => kv.1 = .inr e.1 ∧ Dp K H kv.2 e.2) kvs tab
theorem tab_same {H' : Hp} (e : Ex H H') : ∀ {kvs : List (Key × V)} {tab : List (Str × PyData)}, Tab K H kvs tab → Tab K H' kvs tab
  | _, _, .nil => .nil
  | _, _, .cons h t => .cons ⟨h.1, dp_same e h.2⟩ (tab_same e t)
theorem tab_len : ∀ {kvs : List (Key × V)} {tab : List (Str × PyData)}, Tab K H kvs tab → kvs.length = tab.length
  | _, _, .nil => rfl
  | _, _, .cons _ t => by rw [List.length_cons, List.length_cons, tab_len t]
theorem tab_val : ∀ {kvs : List (Key × V)} {tab : List (Str × PyData)} {t : Str}, Tab K H kvs tab →
    (tab.lookup t = none ∧ valV kvs (Sum.inr t : Key) = none) ∨ ∃ v d, tab.lookup t = some d ∧ valV kvs (Sum.inr t : Key) = some v ∧ Dp K H v d
  | _, _, _, .nil => .inl ⟨rfl, valV_nil⟩
  | (k, v) :: _, (s, d) :: _, t, .cons h r => by
    obtain ⟨h1, h2⟩ := h
    have h1 : k = Sum.inr s := h1
    subst h1
    by_cases e : s = t
    · subst e
      refine .inr ⟨v, d, ?_, valV_pos rfl, h2⟩
      rw [List.lookup_cons]
      simp
    · have n1 : ¬ (Sum.inr s : Key) = Sum.inr t := fun q => e (Sum.inr.inj q)
      rw [List.lookup_cons, valV_neg n1]
      have n2 : (t == s) = false := beq_eq_false_iff_ne.mpr fun q => e q.symm
      rw [n2]
      exact tab_val r
theorem ed_dget {i : Nat} {p : Addr} {kvs : List (Key × V)} {tab : List (Str × PyData)} {t : Str} (hi : σ[i]? = some (some (.ref p))) (hp : H p = some (.dK kvs)) (ht : Tab K H kvs tab)
    (hy : EvD K ty σ H (.str t)) (hx : EvD K tx σ H d) : EvD K (tDGet2 (tVar i) ty tx) σ H ((tab.lookup t).getD d) := fun H1 e Q q => by
  refine ⟨_, hi, p, rfl, .inl ⟨kvs, .inl (e _ _ hp)⟩, ?_⟩
  refine hy H1 e _ fun y H2 e2 hy => ?_
  cases hy
  refine hx H2 (e.trans e2) _ fun z H3 e3 hz => ?_
  refine ⟨valV kvs (Sum.inr t : Key), .inl ⟨kvs, Sum.inr t, .inl (e3 _ _ (e2 _ _ (e _ _ hp))), rfl, rfl⟩, ?_⟩
  rcases tab_val (t := t) ht with ⟨h1, h2⟩ | ⟨v, d', h1, h2, h3⟩
  · rw [h1] at q
    rw [h2]
    exact q z H3 (e2.trans e3) (dp_same (hid_late e2) hz)
  · rw [h1] at q
    rw [h2]
    exact q v H3 (e2.trans e3) (dp_same (hid_base e (e2.trans e3)) h3)
end
theorem range_map_get {α β : Type} (xs : List α) (g : α → β) (z : α) : (List.range xs.length).map (fun i => g (xs.getD i z)) = xs.map g := by
  refine List.ext_getElem? fun i => ?_
  rw [List.getElem?_map, List.getElem?_map]
  by_cases h : i < xs.length
  · rw [List.getElem?_range h, List.getElem?_eq_getElem h]
    show some (g (xs.getD i z)) = some (g xs[i])
    rw [List.getD_eq_getElem?_getD, List.getElem?_eq_getElem h]
    rfl
  · rw [List.getElem?_eq_none (by rw [List.length_range]; omega), List.getElem?_eq_none (by omega)]
    rfl
/-! ### rules with the written part named -/
theorem ix_listK {X : Cx} (K : PySem.W.Frag) (h : X.K = K := by rfl) : IxR X (rIxL K) := h ▸ ix_list
theorem ix_tupK {X : Cx} (K : PySem.W.Frag) (h : X.K = K := by rfl) : IxR X (rIxT K) := h ▸ ix_tup
theorem call_isBK {X : Cx} (K : PySem.W.Frag) (h : X.K = K := by rfl) : CallR X (.builtin "isinstance") (rIsB K) := h ▸ call_isB
theorem cr_allK {X : Cx} (K : PySem.W.Frag) (hc : X.calm = true) (h : X.K = K := by rfl) : CallR X (.builtin "all") (rAll K) := h ▸ cr_all hc
theorem cr_sumK {X : Cx} (K : PySem.W.Frag) (hc : X.calm = true) (h : X.K = K := by rfl) : CallR X (.builtin "sum") (rSum K) := h ▸ cr_sum hc
theorem call_lenK {X : Cx} (K : PySem.W.Frag) (h : X.K = K := by rfl) : CallR X (.builtin "len") (rLenK K) := h ▸ call_len_seq
theorem pg_tupK {X : Cx} (K : PySem.W.Frag) {es : List Expr} {k : Nat} {pos : Pos} {t : TGs} {n : Nat} (hc : X.calm = true) (h : PGs X es t) (hK : X.K = K := by rfl)
    (hn : (assignEach es X.env).length = n := by rfl) (hst : (assignEach es X.env).findIdx? (·.1) = none := by rfl) : PG X (.Tuple es k pos) (gTup K n t) := hK ▸ pg_tup hc h hn hst
theorem mem_of_lookup {α : Type} : ∀ {l : List (Str × α)} {t : Str} {d : α}, l.lookup t = some d → (t, d) ∈ l
  | [], _, _, h => by simp at h
  | (s, x) :: r, t, d, h => by
    rw [List.lookup_cons] at h
    by_cases e : t = s
    · subst e
      simp at h
      subst h
      exact List.mem_cons_self
    · have n : (t == s) = false := beq_eq_false_iff_ne.mpr e
      rw [n] at h
      exact List.mem_cons_of_mem _ (mem_of_lookup h)
theorem paired_app {α β : Type} {F : α → β → Prop} : ∀ {a c : List α} {b d : List β}, Paired F a b → Paired F c d → Paired F (a ++ c) (b ++ d)
  | _, _, _, _, .nil, h => h
  | _, _, _, _, .cons h t, g => .cons h (paired_app t g)
/-- one behind the other, all of them -/
def ascS : List Str → Prop := fun ts => ∀ (i : Nat) (x y : Str), ts[i]? = some x → ts[i + 1]? = some y → x.cps.toList < y.cps.toList
theorem asc_lt {ts : List Str} (h : ascS ts) {i j : Nat} (hij : i < j) {x y : Str} (hx : ts[i]? = some x) (hy : ts[j]? = some y) : x.cps.toList < y.cps.toList := by
  obtain ⟨k, rfl⟩ : ∃ k, j = i + 1 + k := ⟨j - i - 1, by omega⟩
  clear hij
  induction k generalizing y with
  | zero => exact h i x y hx hy
  | succ k ih =>
    have hl : i + 1 + k < ts.length := by
      have := (List.getElem?_eq_some_iff.mp hy).1
      omega
    have h1 := ih (y := ts[i + 1 + k]) (List.getElem?_eq_getElem hl)
    exact List.lt_trans h1 (h _ _ _ (List.getElem?_eq_getElem hl) hy)
/-- if c: .. (not so); then the rest -/
theorem q_not {K : PySem.W.Frag} {σ : L2.St} {Hv H : Hp} {c : TT} {t u : TS} {D : Ends} (h : EvT c σ Hv false) (e : Ex Hv H) (k : ∀ H2, Ex H H2 → u D σ H2) :
    tSeq (tIfS c t tNext) u D σ H := h H e _ fun H2 e2 => iteF (k H2 e2)
theorem dpAll_rev {K : PySem.W.Frag} {H : Hp} : ∀ {vs : List V} {ds : List PyData}, DpAll K H vs ds → DpAll K H vs.reverse ds.reverse
  | _, _, .nil => .nil
  | _, _, .cons h t => by
    rw [List.reverse_cons, List.reverse_cons]
    exact dpAll_app (dpAll_rev t) (.cons h .nil)
end VG

set_option maxHeartbeats 4000000
/-! what a law's own helpers keep: the pot of draws -/
namespace VG
open PySem PySem.Spec PyProof.Rows L2 Evl

/-- all but the object at a is as it was -/
def But (a : Addr) (H H' : Hp) : Prop := ∀ b o, b ≠ a → H b = some o → H' b = some o
theorem But.refl (a : Addr) (H : Hp) : But a H H := fun _ _ _ h => h
theorem But.trans {a : Addr} {H H1 H2 : Hp} (x : But a H H1) (y : But a H1 H2) : But a H H2 := fun b o n h => y b o n (x b o n h)
theorem But.ex {a : Addr} {H H' : Hp} (e : Ex H H') : But a H H' := fun b o _ h => e b o h
theorem But.upd {a : Addr} {H H' : Hp} {o : HO} (x : But a H H') : But a H (upd H' a o) := fun b u n h => by
  rw [upd_ne n]
  exact x b u n h
/-- what does not know a stays -/
theorem But.base {a : Addr} {H H' Hv : Hp} (x : But a H H') (e : Ex Hv H) (n : Hv a = none) : Ex Hv H' := fun b o h =>
  x b o (fun z => by rw [z, n] at h; cases h) (e b o h)
/-- H without a -/
def sans (a : Addr) (H : Hp) : Hp := fun b => if b = a then none else H b
theorem sans_none {a : Addr} {H : Hp} : sans a H a = none := if_pos rfl
theorem sans_ex {a : Addr} {H : Hp} : Ex (sans a H) H := fun b o h => by
  unfold sans at h
  by_cases z : b = a
  · rw [if_pos z] at h; cases h
  · rw [if_neg z] at h; exact h
theorem sans_at {a b : Addr} {H : Hp} (h : b ≠ a) : sans a H b = H b := if_neg h
theorem sans_of {a : Addr} {H H' : Hp} (e : Ex H H') (n : H a = none) : Ex H (sans a H') := fun b o h => by
  rw [sans_at (fun z => by rw [z, n] at h; cases h)]
  exact e b o h

def potL (u v c : Int) : HO := .lst [.int u, .int v, .int c]
/-- a pot at a, of which at most n digits were drawn by its seed -/
def Pot (a : Addr) (n : Nat) (H : Hp) : Prop := ∃ u v c : Int, H a = some (potL u v c) ∧ 0 ≤ u ∧ u.natAbs < 2 ^ 2000 ∧ 0 ≤ v ∧ v < 2 ^ 61 ∧ 0 ≤ c ∧ c ≤ n
theorem Pot.ex {a : Addr} {n : Nat} {H H' : Hp} (p : Pot a n H) (e : Ex H H') : Pot a n H' := by
  obtain ⟨u, v, c, h, r⟩ := p
  exact ⟨u, v, c, e _ _ h, r⟩
theorem Pot.le {a : Addr} {n m : Nat} {H : Hp} (p : Pot a n H) (h : n ≤ m) : Pot a m H := by
  obtain ⟨u, v, c, h1, h2, h3, h4, h5, h6, h7⟩ := p
  exact ⟨u, v, c, h1, h2, h3, h4, h5, h6, by omega⟩
theorem Pot.some {a : Addr} {n : Nat} {H : Hp} (p : Pot a n H) : H a ≠ none := by
  obtain ⟨u, v, c, h, _⟩ := p
  rw [h]
  exact fun z => nomatch z

/-! ### statements, one by one -/
section
variable {K : PySem.W.Frag} {σ : L2.St} {H0 H : Hp} {te : TE} {d : PyData} {D : Ends} {u t : TS} {g : TG} {c : TT} {b : Bool}
theorem qs_asg (h : EvD K te σ H0 d) (e : Ex H0 H) (k : ∀ v H1, Ex H H1 → Dp K (hid H0 H H1) v d → g v σ H1 (u D)) : tSeq (tAsg te g) u D σ H := h H e _ k
theorem qs_set {i : Nat} (h : EvD K te σ H0 d) (e : Ex H0 H) (k : ∀ v H1, Ex H H1 → Dp K (hid H0 H H1) v d → u D (σ.set i (some v)) H1) : tSeq (tAsg te (gName i)) u D σ H := h H e _ k
theorem qs_setI {i : Nat} {z : Int} (h : EvD K te σ H0 (.int z)) (e : Ex H0 H) (k : ∀ H1, Ex H H1 → u D (σ.set i (some (.int z))) H1) : tSeq (tAsg te (gName i)) u D σ H := h H e _ fun v H1 e1 hv => by
  cases hv
  exact k H1 e1
theorem qs_ret (h : EvD K te σ H0 d) (e : Ex H0 H) (k : ∀ v H1, Ex H H1 → Dp K (hid H0 H H1) v d → D.rt v H1) : tRet te D σ H := h H e _ k
theorem qs_retI {z : Int} (h : EvD K te σ H0 (.int z)) (e : Ex H0 H) (k : ∀ H1, Ex H H1 → D.rt (.int z) H1) : tRet te D σ H := h H e _ fun v H1 e1 hv => by
  cases hv
  exact k H1 e1
theorem qs_retB {z : Bool} (h : EvD K te σ H0 (.bool z)) (e : Ex H0 H) (k : ∀ H1, Ex H H1 → D.rt (.bl z) H1) : tRet te D σ H := h H e _ fun v H1 e1 hv => by
  cases hv
  exact k H1 e1
theorem qs_if {w : TS} (h : EvT c σ H0 b) (e : Ex H0 H) (h1 : b = true → ∀ H1, Ex H H1 → t { D with nx := u D } σ H1) (h2 : b = false → ∀ H1, Ex H H1 → w { D with nx := u D } σ H1) : tSeq (tIfS c t w) u D σ H := h H e _ fun H1 e1 => by
  cases b with
  | true => exact iteT (h1 rfl H1 e1)
  | false => exact iteF (h2 rfl H1 e1)
theorem ps_setI {i : Nat} {z : Int} (h : EvD K te σ H0 (.int z)) (e : Ex H0 H) (k : ∀ H1, Ex H H1 → D.nx (σ.set i (some (.int z))) H1) : tAsg te (gName i) D σ H := h H e _ fun v H1 e1 hv => by
  cases hv
  exact k H1 e1
/-- pot[k] = an int -/
theorem qs_pot {i j : Nat} {a : Addr} {z y : Int} {xs : List V} (h : EvD K te σ H0 (.int z)) (e : Ex H0 H) (hi : σ[i]? = some (some (.ref a))) (ha : H0 a = some (.lst xs)) (hy : y = (j : Int)) (hj : j < xs.length)
    (k : ∀ H1, Ex H H1 → u D σ (upd H1 a (.lst (xs.set j (.int z))))) : tSeq (tAsg te (gSub (tVar i) (tC (.int y)) rSetL)) u D σ H := h H e _ fun v H1 e1 hv => by
  cases hv
  subst hy
  refine ⟨_, hi, ?_⟩
  exact ⟨a, xs, (j : Int), j, rfl, rfl, e1 _ _ (e _ _ ha), Evl.ixN_nat hj, k H1 e1⟩
end

/-! ### numbers -/
section
variable {K : PySem.W.Frag} {σ : L2.St} {H : Hp} {ta tb te : TE} {d : PyData} {i j : Int}
theorem ed_abs (h : EvD K ta σ H (.int i)) : EvD K (tCB (fun xs H Q => ∃ i, xs = [.int i] ∧ Q (.int (if i < 0 then -i else i)) H) (tCons ta tNil)) σ H (.int (if i < 0 then -i else i)) := fun H1 e Q q =>
  h H1 e _ fun v H2 e2 hv => by
    cases hv
    exact ⟨i, rfl, q _ H2 e2 (.int _)⟩
theorem ed_intI (h : EvD K ta σ H (.int i)) : EvD K (tCB (fun xs H Q => (∃ i, xs = [.int i] ∧ Q (.int i) H) ∨ ∃ k, xs = [.bl k] ∧ Q (.int (if k then 1 else 0)) H) (tCons ta tNil)) σ H (.int i) := fun H1 e Q q =>
  h H1 e _ fun v H2 e2 hv => by
    cases hv
    exact .inl ⟨i, rfl, q _ H2 e2 (.int _)⟩
theorem ed_intB {b : Bool} (h : EvD K ta σ H (.bool b)) : EvD K (tCB (fun xs H Q => (∃ i, xs = [.int i] ∧ Q (.int i) H) ∨ ∃ k, xs = [.bl k] ∧ Q (.int (if k then 1 else 0)) H) (tCons ta tNil)) σ H (.int (if b then 1 else 0)) := fun H1 e Q q =>
  h H1 e _ fun v H2 e2 hv => by
    cases hv
    exact .inr ⟨b, rfl, q _ H2 e2 (.int _)⟩
theorem ed_max2 (ha : EvD K ta σ H (.int i)) (hb : EvD K tb σ H (.int j)) : EvD K (tCB (fun xs H Q => ∃ i j, xs = [.int i, .int j] ∧ Q (.int (if j > i then j else i)) H) (tCons ta (tCons tb tNil))) σ H (.int (if j > i then j else i)) := fun H1 e Q q =>
  ha H1 e _ fun v H2 e2 hv => hb H2 (e.trans e2) _ fun w H3 e3 hw => by
    cases hv
    cases hw
    exact ⟨i, j, rfl, q _ H3 (e2.trans e3) (.int _)⟩
theorem ed_min2 (ha : EvD K ta σ H (.int i)) (hb : EvD K tb σ H (.int j)) : EvD K (tCB (fun xs H Q => ∃ i j, xs = [.int i, .int j] ∧ Q (.int (if j < i then j else i)) H) (tCons ta (tCons tb tNil))) σ H (.int (if j < i then j else i)) := fun H1 e Q q =>
  ha H1 e _ fun v H2 e2 hv => hb H2 (e.trans e2) _ fun w H3 e3 hw => by
    cases hv
    cases hw
    exact ⟨i, j, rfl, q _ H3 (e2.trans e3) (.int _)⟩
/-- ** of great ints -/
def CPowX (i j : Int) : Prop := 0 ≤ j ∧ (Builtin.Int.intBits i : Int) * j ≤ 2 ^ 27
theorem op_powX {X : Cx} : OpR X (binaryOp .Pow) (rI CPowX fun i j => .int (i ^ j.toNat)) := opI fun _ _ _ _ _ _ _ hc q => pow_int hc.1 hc.2 q
theorem ed_val {i' : Int} (e : i = i') (h : EvD K ta σ H (.int i)) : EvD K ta σ H (.int i') := e ▸ h
theorem ed_ifE {tc : TT} {b : Bool} (hc : EvT tc σ H b) (h1 : b = true → EvD K ta σ H d) (h2 : b = false → EvD K tb σ H d) : EvD K (tIf tc ta tb) σ H d := fun H1 e Q q =>
  hc H1 e _ fun H2 e2 => by
    cases b with
    | true => exact iteT (h1 rfl H2 (e.trans e2) _ fun v H3 e3 hv => q v H3 (e2.trans e3) (dp_same (hid_late e2) hv))
    | false => exact iteF (h2 rfl H2 (e.trans e2) _ fun v H3 e3 hv => q v H3 (e2.trans e3) (dp_same (hid_late e2) hv))
theorem etI_ge {i j : Int} (ha : EvD K ta σ H (.int i)) (hb : EvD K tb σ H (.int j)) : EvD K (tOp (rI0 fun i j => .bl (decide (j ≤ i))) ta tb) σ H (.bool (decide (j ≤ i))) := ed_B0 (g := fun i j => decide (j ≤ i)) ha hb
end
/-! ### what the helpers promise -/
def spTake : Sp := fun vs H Q _ => ∃ (a : Addr) (n : Nat) (k : Int), vs = [.ref a, .int k] ∧ Pot a n H ∧ n ≤ 1000000 ∧ 0 < k ∧ k ≤ 1000000000000 ∧
  ∀ (r : Int) H', 0 ≤ r → r < k → But a H H' → Pot a (n + 1) H' → Q (.int r) H'
def spPot (K : PySem.W.Frag) : Sp := fun vs H Q _ => ∃ (a : Addr) (ns : List Int) (p : Nat), vs = [.ref a, .int (p : Int)] ∧ SqL K H a (ns.map V.int) ∧ ns.length ≤ 63 ∧ p ≤ 1000 ∧
  ∀ q H', H q = none → Ex H H' → Pot q 0 H' → Q (.ref q) H'
/-- one of a list's data -/
def spOne (K : PySem.W.Frag) : Sp := fun vs H Q _ => ∃ (a b : Addr) (n : Nat) (xs : List V), vs = [.ref a, .ref b] ∧ Pot a n H ∧ n ≤ 1000000 ∧ b ≠ a ∧ SqL K H b xs ∧ 0 < xs.length ∧ xs.length ≤ 1000 ∧
  ∀ v H', v ∈ xs → But a H H' → Pot a (n + 1) H' → Q v H'
theorem nd_pool {ts : List Str} {k : Nat} (h : ts.Nodup) : (ts.eraseIdx k).Nodup := h.sublist (List.eraseIdx_sublist _ _)
/-- digits drawn from a pot: some of a pool -/
def spSome (K : PySem.W.Frag) : Sp := fun vs H Q _ => ∃ (a b : Addr) (n m : Nat) (ts : List Str), vs = [.ref a, .ref b, .int (m : Int)] ∧ Pot a n H ∧ n + m ≤ 1000000 ∧ b ≠ a ∧ SqL K H b (ts.map V.str) ∧
  ts.Nodup ∧ m ≤ ts.length ∧ ts.length ≤ 1000 ∧ ∀ (q : Addr) (us : List Str) (H' : Hp), us.Nodup → (∀ u ∈ us, u ∈ ts) → us.length = m → H q = none → But a H H' → Pot a (n + m) H' → H' q = some (.lst (us.map V.str)) → Q (.ref q) H'
/-- how many cells are looked at -/
def spCells (K : PySem.W.Frag) : Sp := fun vs H Q _ => ∃ (a : Addr) (ns : List Int) (z : Int), vs = [.ref a, .int z] ∧ SqL K H a (ns.map V.int) ∧ ns.length ≤ 63 ∧ 0 ≤ z ∧ z ≤ 100 ∧
  ∀ q (m : Nat) H', m ≤ 100 → H q = none → Ex H H' → H' q = some (.lst ((List.range m).map fun i => V.int ((i : Nat) : Int))) → Q (.ref q) H'
theorem natAbs_lt {z : Int} {n : Nat} (h0 : 0 ≤ z) (h : z < (n : Int)) : z.natAbs < n := by omega
/-- the cell that a pot is made of -/
theorem ed_cell {K : PySem.W.Frag} {σ : L2.St} {H : Hp} {a : Addr} {ns : List Int} {p : Nat} {c1 c2 : Int} (h0 : σ[0]? = some (some (.ref a))) (h1 : σ[1]? = some (some (.int (p : Int)))) (hS : SqL K H a (ns.map V.int))
    (hc : -(2 ^ 64) < c1 ∧ c1 < 2 ^ 64) :
    ∃ z, EvD K (tIf (tTest (tOp (rI0 fun i j => .bl (decide (i < j))) (tVar 1) (tCB (rLenK K) (tCons (tVar 0) tNil)))) (tOp (rIxL K) (tVar 0) (tVar 1))
      (tOp (rI0 fun i j => .int (i + j)) (tOp (rI CMul fun i j => .int (i * j)) (tC (.int c1)) (tVar 1)) (tC (.int c2)))) σ H (.int z) := by
  have hs : Dp K H (.ref a) (.list (ns.map .int)) := .lst hS (dpAll_ints ns)
  by_cases h : p < ns.length
  · refine ⟨ns[p], ed_ifE (b := true) (et_is (etI_lt (ed_var h1 (.int _)) (ed_lenL (ed_var h0 hs))) ?_) (fun _ => ed_ixL (k := p) (ed_var h0 hs) (ed_var h1 (.int _)) ?_) (fun z => nomatch z)⟩
    · rw [List.length_map]
      exact decide_eq_true (by omega)
    · rw [List.getElem?_map, List.getElem?_eq_getElem h]
      rfl
  · refine ⟨c1 * p + c2, ed_ifE (b := false) (et_is (etI_lt (ed_var h1 (.int _)) (ed_lenL (ed_var h0 hs))) ?_) (fun z => nomatch z) (fun _ => ?_)⟩
    · rw [List.length_map]
      exact decide_eq_false (by omega)
    · exact ed_I0 (g := fun i j => i + j) (ed_I (g := fun i j => i * j) ed_int (ed_var h1 (.int _)) (.inl hc)) ed_int
/-- a fresh list of three ints is a pot -/
theorem pot_new {K : PySem.W.Frag} {H H1 : Hp} {v : V} {u x : Int} (hv : Dp K (hid H H H1) v (.list [.int u, .int x, .int 0])) (e : Ex H H1) (he : ∀ p, v = .ref p → H1 p = some (potL u x 0)) (h1 : 0 ≤ u) (h2 : u.natAbs < 2 ^ 2000) (h3 : 0 ≤ x) (h4 : x < 2 ^ 61) :
    ∃ q, v = .ref q ∧ Pot q 0 H1 := by
  cases hv with
  | lst h t => exact ⟨_, rfl, u, x, 0, he _ rfl, h1, h2, h3, h4, Int.le_refl _, Int.le_refl _⟩
theorem perm_out {α : Type} : ∀ {l : List α} {k : Nat} (h : k < l.length), ([l[k]] ++ l.eraseIdx k).Perm l
  | x :: r, 0, _ => List.Perm.refl _
  | x :: r, k + 1, h => by
    have hk : k < r.length := Nat.lt_of_succ_lt_succ h
    have ih := perm_out hk
    show ([r[k]] ++ (x :: r.eraseIdx k)).Perm (x :: r)
    exact (List.Perm.swap x r[k] (r.eraseIdx k)).trans (List.Perm.cons x ih)
theorem erase_map {α β : Type} (g : α → β) : ∀ (l : List α) (j : Nat), (l.map g).eraseIdx j = (l.eraseIdx j).map g
  | [], j => by simp
  | a :: r, 0 => by simp
  | a :: r, j + 1 => by
    have ih := erase_map g r j
    simp [ih]
end VG

set_option maxHeartbeats 4000000
/-! set(t) of a tuple of unlike texts, and how many are in it -/
namespace VG
open PySem PySem.Spec PyProof.Rows L2

abbrev inTake (xs : List Str) (i : Nat) : Str → Bool := fun z => (xs.take i).any (· == z)
theorem inTake_new {xs : List Str} (hn : xs.Nodup) {i : Nat} (hi : i < xs.length) : inTake xs i (xs.getD i Str.empty) = false := by
  cases hb : inTake xs i (xs.getD i Str.empty) with
  | false => rfl
  | true =>
    obtain ⟨y, hy, ey⟩ := List.any_eq_true.mp hb
    have e : y = xs.getD i Str.empty := eq_of_beq ey
    obtain ⟨j, hj⟩ := List.mem_iff_getElem?.mp hy
    rw [List.getElem?_take] at hj
    by_cases hji : j < i
    · rw [if_pos hji] at hj
      obtain ⟨hjl, ej⟩ := List.getElem?_eq_some_iff.mp hj
      have e2 : xs.getD i Str.empty = xs[i] := by
        rw [List.getD_eq_getElem?_getD, List.getElem?_eq_getElem hi]
        rfl
      rw [e, e2] at ej
      exact absurd ej (List.pairwise_iff_getElem.mp hn j i hjl hi hji)
    · rw [if_neg hji] at hj
      cases hj
theorem inTake_succ {xs : List Str} {i : Nat} (hi : i < xs.length) (z : Str) : inTake xs (i + 1) z = (inTake xs i z || decide (z = xs.getD i Str.empty)) := by
  have e2 : xs.getD i Str.empty = xs[i] := by
    rw [List.getD_eq_getElem?_getD, List.getElem?_eq_getElem hi]
    rfl
  show (xs.take (i + 1)).any (· == z) = _
  rw [List.take_add_one, List.getElem?_eq_getElem hi, List.any_append, e2]
  show (inTake xs i z || [xs[i]].any (· == z)) = _
  congr 1
  rw [List.any_cons, List.any_nil, Bool.or_false]
  by_cases h : z = xs[i]
  · rw [decide_eq_true h, h]
    exact beq_self_eq_true _
  · rw [decide_eq_false h]
    exact beq_eq_false_iff_ne.mpr fun q => h q.symm

section
variable {prog : Program} {w : World} {A : Around} {R : Result → Shared → Prop} {I : Addr} {fp wr : List Addr}
variable {G : Array GenState → Array GenState → Prop} {n : Nat} {P : Nat → Value → Prop} {St : Nat → Shared → Prop}
theorem SetOf_moved {h h' : Heap} {S : Addr} {F : Str → Bool} {c : Nat} (a : h.SetOf (PySem.strKind prog w) S F c)
    (k : ∀ o, h.get? S = some o → h'.get? S = some o) : h'.SetOf (PySem.strKind prog w) S F c := by
  obtain ⟨o, es, ep, t, ho, rest⟩ := a
  exact ⟨o, es, ep, t, k _ ho, rest⟩
theorem loopSet (W : WalksS prog w A.in1 I fp wr G n P St) (S : Addr) (hSf : S ∉ fp) (xs : List Str) (hsz : xs.length = n) (hn : xs.Nodup) (hb : xs.length + 1 < scanBound)
    (hval : ∀ i v, P i v → ∃ t, v = .str (xs.getD i Str.empty) t) :
    ∀ (m i : Nat) (s : Shared), n - i = m → i ≤ n → St i s → s.heap.SetOf (PySem.strKind prog w) S (inTake xs i) i →
      (∀ s', Moved (S :: wr) G s s' → s'.heap.SetOf (PySem.strKind prog w) S (inTake xs n) n → R (.ok (.ret .none)) s') →
      codeAny (model prog w) A (.builtin "set.update.loop" ⟨[.ref S, .ref I], []⟩) R s := by
  have nw : S ∉ wr := fun h => hSf (W.sub _ h)
  have more : ∀ b ∈ wr, b ∈ S :: wr := fun b hb => List.mem_cons_of_mem _ hb
  intro m
  induction m with
  | zero =>
    intro i s hm hi hst hS hR
    obtain rfl : i = n := by omega
    refine codeAny_builtin PyProof.Rows.F.entry_set_update_loop ?_
    rw [Around.under_plainId PyProof.Rows.F.plain_set_update_loop _]
    show wpAny _ A.in1 (pyNext (.ref I) >>= _) _ _ s
    refine wpAny_bind (W.done s _ _ hst ?_)
    intro s' hmv
    show wpAny _ A.in1 (ret Value.none) _ _ s'
    exact wpAny_pure (hR s' (hmv.mono more) (SetOf_moved hS fun o ho => hmv.heap S _ nw ho))
  | succ m ih =>
    intro i s hm hi hst hS hR
    have lt : i < n := by omega
    have ltx : i < xs.length := by omega
    refine codeAny_builtin PyProof.Rows.F.entry_set_update_loop ?_
    rw [Around.under_plainId PyProof.Rows.F.plain_set_update_loop _]
    show wpAny _ A.in1 (pyNext (.ref I) >>= _) _ _ s
    refine wpAny_bind (W.item i s _ _ lt hst ?_)
    intro v s' hP hst' hmv
    obtain ⟨t, rfl⟩ := hval i v hP
    have hS' := SetOf_moved hS fun o ho => hmv.heap S _ nw ho
    show wpAny _ A.in1 (holding [Value.str (xs.getD i Str.empty) t] (setAdd S (.str (xs.getD i Str.empty) t)) >>= _) _ _ s'
    refine wpAny_bind (wpAny_holding ?_)
    unfold setAdd
    refine wpAny_holding ?_
    refine wpAny_bind ((PySem.strKind prog w).pyHash (k := xs.getD i Str.empty) (strKind_is _ _ _ _) ?_)
    refine wpAny_setAddHashed_of (knd := PySem.strKind prog w) (s := { s' with toks := s'.toks + 1 }) (strKind_is _ _ _ _) rfl hS' (by omega) ?_
    intro h' hsb hS2
    have hS3 : h'.SetOf (PySem.strKind prog w) S (inTake xs (i + 1)) (i + 1) := by
      refine SetOf_congr hS2 (fun z => ?_) ?_
      · exact (inTake_succ ltx z).symm
      · rw [if_neg (by rw [inTake_new hn ltx]; exact Bool.false_ne_true)]
    have off : ∀ b, b ≠ S → ∀ o, s'.heap.get? b = some o → h'.get? b = some o := fun b nb o e => (hsb.2 b nb).trans e
    refine wpAny_pure ⟨plainId_quiet PyProof.Rows.F.plain_set_update_loop _, ?_⟩
    refine ih (i + 1) _ (by omega) lt (W.frame _ s' _ _ hst' (Nat.le_succ _) ?_) hS3 ?_
    · intro b hb' o e
      exact off b (fun h => hSf (h ▸ hb')) o e
    · intro s'' hm2 hS''
      refine hR s'' (Moved.trans W.gtrans ((hmv.mono more).then_heap (Nat.le_succ _) ?_) hm2) hS''
      intro b o hb' e
      exact off b (fun h => hb' (h ▸ List.mem_cons_self)) o e
end

/-- a new set -/
abbrev nset (led : Bool) : Obj := { cls := .type "set", dict := none, data := .set #[] 0 (.fresh 0 0 led) }
section
variable {prog : Program} {w : World} {A : Around} {E : Value → Shared → Prop} {s : Shared}
set_option maxHeartbeats 3200000 in
theorem call_setT {l : Addr} {items : Array Value} {xs : List Str} {Q : Value → Shared → Prop}
    (hh : A.handled = none) (hl : s.heap.IsTuple l items) (hi : PyProof.Rows.StrsAre items.toList xs) (hn : xs.Nodup) (hb : xs.length + 1 < scanBound)
    (h : ∀ (h' : Heap) (tk : Nat), h'.SetOf (PySem.strKind prog w) s.heap.objs.size (inTake xs xs.length) xs.length →
      (∀ b o, b < s.heap.objs.size → s.heap.get? b = some o → h'.get? b = some o) → Q (.ref s.heap.objs.size) { s with heap := h', toks := tk }) :
    wpAny (model prog w) A (call (.type "set") [.ref l]) Q E s := by
  obtain ⟨c, tl, hmro⟩ := PySem.F.called_set.mro
  have hmade := PySem.F.called_set.made
  have hsub := PySem.F.called_set.sub
  have hsz : xs.length = items.size := by rw [← StrsAre.len_eq hi, Array.length_toList]
  refine wpAny_call (codeAny_of_tree ?_)
  show wpAny _ _ (callAny (.type "set") _) _ _ _
  refine wpAny_pure ⟨Code.quiet_builtin _ (by decide +kernel), ?_⟩
  refine codeAny_builtin PySem.F.entry_type_call ?_
  rw [Around.under_plain (weight_type_call_type "set" [.ref l] []) rfl]
  have h1 := PySem.F.called_set.notType
  have h2 := PySem.F.called_set.canCreate
  have hct := PySem.F.typeCall_set_1 (.ref l)
  repeat (any_goals (first | assumption | wp_step))

  refine codeAny_mono (code_set_new_1 (.ref l) (E := E) (Q₁ := fun obj s₁ =>
    ∃ led : Bool, obj = .ref s.heap.objs.size ∧ s₁ = { s with heap := s.heap.push (nset led) }) fun led => ⟨led, rfl, rfl⟩) ?_
  intro r s₁ hr
  match r, hr with
  | .error e, hr => exact hr
  | .ok .next, hr => exact hr.elim
  | .ok .brk, hr => exact hr.elim
  | .ok .cont, hr => exact hr.elim
  | .ok (.ret obj), hr =>
    obtain ⟨led, rfl, rfl⟩ := hr
    have hS : (s.heap.push (nset led)).get? s.heap.objs.size = some (nset led) := Heap.get?_push_size _ rfl
    have hT : Shared.TypeIs { s with heap := s.heap.push (nset led) } (.ref s.heap.objs.size) "set" := ⟨_, hS, rfl⟩
    have hli := PySem.F.called_set.init.lookup
    have hbi := PySem.F.called_set.init.bind (.ref s.heap.objs.size)
    repeat (any_goals (first | assumption | wp_step))

    refine codeAny_mono (codeAny_call_builtin (R := wants (fun r s₂ => r = .none ∧ ∃ h' tk, s₂ = { s with heap := h', toks := tk } ∧
        h'.SetOf (PySem.strKind prog w) s.heap.objs.size (inTake xs xs.length) xs.length ∧
        (∀ b o, b < s.heap.objs.size → s.heap.get? b = some o → h'.get? b = some o)) E)
      PySem.F.called_set.init.plain PySem.F.entry_set_init (check_set_init_1 hT ?_)) ?_
    · obtain ⟨⟨ocls, odict, odata, oslots⟩, hol, hcl, nl, hdl⟩ := hl
      simp only at hcl hdl
      subst hcl
      subst hdl
      have hol' : (s.heap.push (nset led)).get? l = some ⟨.type "tuple", odict, .seq items nl, oslots⟩ := Heap.get?_push_of_some _ hol
      have hsls := PySem.F.sub_tuple_set
      have hslf := PySem.F.sub_tuple_frozenset
      have hne : (Value.type "tuple" == Value.type "dict") = false := by decide
      have hl1 : (s.heap.push (nset led)).IsTuple l items := ⟨_, hol', rfl, nl, rfl⟩
      unfold Builtin.«set.__init__» noKeywords Builtin.Frozenset.updateFrom
      generalize hPI : pyIter = PI
      wp_walk
      subst hPI

      refine wpAny_pyIter_tuple hl1 ?_
      refine wpAny_bind (wpAny_runValue ?_)
      have hlS : l < s.heap.objs.size := Heap.lt_size hol
      have hh3 : A.in1.in1.in1.handled = none := by simp [hh]
      have hps : (s.heap.push (nset led)).objs.size = s.heap.objs.size + 1 := Heap.size_push ..
      have hneI : l ≠ (s.heap.push (nset led)).objs.size := by
        rw [hps]
        exact Nat.ne_of_lt (Nat.lt_succ_of_lt hlS)
      have hSf : s.heap.objs.size ∉ [(s.heap.push (nset led)).objs.size, l] := by
        intro hm
        rcases List.mem_cons.mp hm with q | q
        · exact absurd (q.trans hps) (Nat.ne_of_lt (Nat.lt_succ_self _))
        · exact absurd (List.mem_singleton.mp q) (Nat.ne_of_gt hlS)
      have hval : ∀ (i : Nat) (v : Value), items[i]? = some v → ∃ t, v = .str (xs.getD i Str.empty) t := fun i v hv =>
        SS.strs_at hi i v (by rw [Array.getElem?_toList]; exact hv)
      rw [hsz]
      refine loopSet ((Walks.tuple hh3 _ l hneI items).toS) s.heap.objs.size hSf xs hsz hn hb hval (items.size - 0) 0 _ (by omega) (Nat.zero_le _)
        ⟨⟨_, Heap.get?_push_size _ rfl, rfl, rfl⟩, (hl1.push _)⟩ ?_ ?_
      · have hget := Heap.get?_push_of_some { cls := .type "tuple_iterator", data := .fields #[.ref l, .int 0 0] } hS
        exact PyProof.Rows.SetOf_congr ((PyProof.Rows.setObjOf_fresh (knd := PySem.strKind prog w) led).setOf hget (by unfold scanBound; omega)) (fun _ => rfl) rfl
      · intro s' hm hS'
        obtain ⟨h', g', d', tk', os'⟩ := s'
        obtain rfl : g' = s.gens := hm.gens
        obtain rfl : d' = s.drawn := hm.drawn
        obtain rfl : os' = s.os := hm.os
        show wpAny _ _ _ _ _ _
        refine wpAny_pure ?_
        show wpAny _ _ (ret Value.none) _ _ _
        refine wpAny_pure ⟨rfl, h', tk', rfl, hS', ?_⟩
        intro b o hb' e
        refine hm.heap b o ?_ (Heap.get?_push_of_some _ (Heap.get?_push_of_some _ e))
        intro hm'
        rcases List.mem_cons.mp hm' with q | q
        · exact absurd q (Nat.ne_of_lt hb')
        · have q2 := (List.mem_singleton.mp q).trans hps
          exact absurd q2 (Nat.ne_of_lt (Nat.lt_succ_of_lt hb'))
    · intro r₂ s₂ hr₂
      match r₂, hr₂ with
      | .error e, hr₂ => exact hr₂
      | .ok .next, hr₂ => exact hr₂.elim
      | .ok .brk, hr₂ => exact hr₂.elim
      | .ok .cont, hr₂ => exact hr₂.elim
      | .ok (.ret r), hr₂ =>
        obtain ⟨rfl, h', tk, rfl, hS', hk'⟩ := hr₂
        repeat (any_goals (first | assumption | wp_step))
        exact h _ _ hS' hk'
end

/-- len(set(a)), a a tuple of unlike texts -/
def tLenSetS (K : PySem.W.Frag) (ta : TE) : TE := fun σ H Q => ta σ H fun x H1 => ∃ (l : Addr) (ts : List Str),
  x = .ref l ∧ SqT K H1 l (ts.map V.str) ∧ ts.Nodup ∧ ts.length ≤ 1000 ∧ Q (.int (ts.length : Nat)) H1
theorem strs_are : ∀ {ts : List Str} {us : List Value}, Vals (ts.map V.str) us → PyProof.Rows.StrsAre us ts
  | [], _, .nil => .nil
  | n :: ns, _, .cons r t => by
    obtain ⟨k, rfl⟩ := r
    exact .cons n k (strs_are t)
theorem pe_lenSetS {X : Cx} {a : Expr} {ta : TE} {p p2 q pos : Pos} (hg : Gl X "len") (hm : X.mg "len" = none) (hg2 : Gl X "set") (hm2 : X.mg "set" = none)
    (ha : PE X a ta) (hc : X.calm = true := by rfl) (na : starEach [a] X.env = (false, eval a X.env) :: starEach [] X.env := by rfl) :
    PE X (.Call (.Name "len" p) [.Call (.Name "set" p2) [a] [] q] [] pos) (tLenSetS X.K ta) := by
  constructor
  intro pins s σ H Q I h
  refine Call_ (ld_blt I hg hm boot_len ?_)
  refine PyProof.Rows.callWith_builtin1 (PyProof.Rows.args_cons ?_ rfl) rfl rfl
  refine Call_ (ld_blt I hg2 hm2 boot_set ?_)
  refine PyProof.Rows.callWith_type1 (PyProof.Rows.args_cons (thn (ha.run pins s σ H _ I h) ?_) na) na rfl
  intro v s1 ⟨x, H1, I1, r1, q1⟩
  refine PyProof.Rows.args_nil ?_
  obtain ⟨l, ts, rfl, hq, hnd, hl, q1⟩ := q1
  cases r1
  obtain ⟨its, r, pl, hz⟩ := I1.tuple hq
  refine call_setT (xs := ts) (I1.ok.hd hc) pl (by simpa using strs_are r) hnd (by unfold scanBound; omega) ?_
  intro h' tk hS hk
  refine PyProof.Rows.args_nil ?_
  obtain ⟨o, es, ep, t, ho, hex, hd, _, _, _, hf, hn⟩ := hS
  have I2 : Inv X pins σ H1 { s1 with heap := h', toks := tk } := I1.kept fun b o e => hk b o (Heap.lt_size e) e
  exact call_len_set ho hex hd hf (by rw [hn]; omega) ⟨.int ts.length, H1, I2.tok _, ⟨_, by rw [hn]⟩, q1⟩
end VG

set_option maxHeartbeats 4000000
/-! data whose repr is short -/
namespace VG
open PySem PySem.Spec PyProof.Rows L2 Evl
mutual
def mild : PyData → Bool
  | .none => true
  | .bool _ => true
  | .int i => decide (i.natAbs < 10 ^ 30)
  | .str x => decide (x.cps.size ≤ 90) && x.cps.toList.all fun c => decide (c < 128)
  | .list xs => mildAll xs
  | .tuple xs => mildAll xs
  | .dict _ => false
def mildAll : List PyData → Bool
  | [] => true
  | x :: xs => mild x && mildAll xs
end
mutual
def nodes : PyData → Nat
  | .list xs => nodesAll xs + 1
  | .tuple xs => nodesAll xs + 1
  | .none => 1
  | .bool _ => 1
  | .int _ => 1
  | .str _ => 1
  | .dict _ => 1
def nodesAll : List PyData → Nat
  | [] => 0
  | x :: xs => nodes x + nodesAll xs
end
def Facts (d : PyData) : Prop := d.showable = true ∧ d.hasDict = false ∧ d.leavesShort 40 = true ∧ d.canLay0 = true ∧ d.weight + 1 ≤ 110 * nodes d ∧ d.depth ≤ nodes d
def FactsAll (ds : List PyData) : Prop := PyData.showableAll ds = true ∧ PyData.hasDictAll ds = false ∧ PyData.leavesShortAll 40 ds = true ∧ PyData.canLayAll0 ds = true ∧ PyData.weightAll ds ≤ 110 * nodesAll ds ∧ PyData.depthAll ds ≤ nodesAll ds
theorem int_facts {i : Int} (h : i.natAbs < 10 ^ 30) : Facts (.int i) := by
  have l1 : i.natAbs.log2 < 100 := PySem.Flt.log2_lt_of (by decide) (Nat.lt_of_lt_of_le h (by decide))
  refine ⟨?_, ?_, ?_, ?_, ?_, ?_⟩
  · simp only [PyData.showable]
    exact decide_eq_true (by omega)
  · simp only [PyData.hasDict]
  · simp only [PyData.leavesShort, PyData.shown]
    refine decide_eq_true ?_
    show (Str.ofString (toString i)).length ≤ 40
    rw [PySem.ofString_length]
    have := int_text_length_le10 (a := i) (k := 30) (by decide) h
    omega
  · simp only [PyData.canLay0]
  · simp only [PyData.weight, nodes]
    split <;> omega
  · simp only [PyData.depth, nodes]
    decide
theorem str_facts {x : Str} (h : x.cps.size ≤ 90) (hc : ∀ c ∈ x.cps.toList, c < 128) : Facts (.str x) := by
  refine ⟨?_, ?_, ?_, ?_, ?_, ?_⟩
  · simp only [PyData.showable]
  · simp only [PyData.hasDict]
  · simp only [PyData.leavesShort]
    exact List.all_eq_true.mpr fun c m => decide_eq_true (Nat.lt_of_lt_of_le (hc c m) (by decide))
  · simp only [PyData.canLay0]
    refine Array.all_eq_true.mpr fun i hi => decide_eq_true (Nat.lt_of_lt_of_le (hc _ ?_) (by decide))
    exact Array.getElem_mem_toList hi
  · simp only [PyData.weight, nodes]
    omega
  · simp only [PyData.depth, nodes]
    decide
mutual
theorem facts_of : ∀ d : PyData, mild d = true → Facts d
  | .none, _ => by refine ⟨?_, ?_, ?_, ?_, ?_, ?_⟩ <;> simp [PyData.showable, PyData.hasDict, PyData.leavesShort, PyData.canLay0, PyData.weight, nodes, PyData.depth]
  | .bool _, _ => by refine ⟨?_, ?_, ?_, ?_, ?_, ?_⟩ <;> simp [PyData.showable, PyData.hasDict, PyData.leavesShort, PyData.canLay0, PyData.weight, nodes, PyData.depth]
  | .int i, h => int_facts (by simpa [mild] using h)
  | .str x, h => by
    have h : x.cps.size ≤ 90 ∧ ∀ c ∈ x.cps.toList, c < 128 := by
      simp only [mild, Bool.and_eq_true, decide_eq_true_eq, List.all_eq_true] at h
      exact h
    exact str_facts h.1 h.2
  | .list xs, h => by
    obtain ⟨a, b, c, d, e, f⟩ := facts_all xs (by simpa [mild] using h)
    refine ⟨?_, ?_, ?_, ?_, ?_, ?_⟩
    · simpa only [PyData.showable] using a
    · simpa only [PyData.hasDict] using b
    · simpa only [PyData.leavesShort] using c
    · simpa only [PyData.canLay0] using d
    · simp only [PyData.weight, nodes]
      omega
    · simp only [PyData.depth, nodes]
      omega
  | .tuple xs, h => by
    obtain ⟨a, b, c, d, e, f⟩ := facts_all xs (by simpa [mild] using h)
    refine ⟨?_, ?_, ?_, ?_, ?_, ?_⟩
    · simpa only [PyData.showable] using a
    · simpa only [PyData.hasDict] using b
    · simpa only [PyData.leavesShort] using c
    · simpa only [PyData.canLay0] using d
    · simp only [PyData.weight, nodes]
      omega
    · simp only [PyData.depth, nodes]
      omega
  | .dict _, h => by simp [mild] at h
theorem facts_all : ∀ ds : List PyData, mildAll ds = true → FactsAll ds
  | [], _ => by refine ⟨?_, ?_, ?_, ?_, ?_, ?_⟩ <;> simp [PyData.showableAll, PyData.hasDictAll, PyData.leavesShortAll, PyData.canLayAll0, PyData.weightAll, nodesAll, PyData.depthAll]
  | x :: xs, h => by
    have h : mild x = true ∧ mildAll xs = true := by simpa [mildAll] using h
    obtain ⟨a, b, c, d, e, f⟩ := facts_of x h.1
    obtain ⟨a', b', c', d', e', f'⟩ := facts_all xs h.2
    refine ⟨?_, ?_, ?_, ?_, ?_, ?_⟩
    · simp only [PyData.showableAll, a, a', Bool.and_self]
    · simp only [PyData.hasDictAll, b, b', Bool.or_self]
    · simp only [PyData.leavesShortAll, c, c', Bool.and_self]
    · simp only [PyData.canLayAll0, d, d', Bool.and_self]
    · simp only [PyData.weightAll, nodesAll]
      omega
    · simp only [PyData.depthAll, nodesAll]
      omega
end
section
variable {K : PySem.W.Frag} {σ : L2.St} {H : Hp} {ta tb : TE} {ds es : List PyData}
/-- repr of a short tuple -/
theorem ed_reprT (ha : EvD K ta σ H (.tuple ds)) (hm : mildAll ds = true) (hn : nodesAll ds ≤ 90) :
    EvD K (tCB (fun xs H Q => ∃ v d, xs = [v] ∧ Dp K H v d ∧ d.showable = true ∧ d.hasDict = false ∧ d.depth ≤ 100 ∧ d.shown.length ≤ sizeLine ∧ (∃ a, v = .ref a) ∧ Q (.str d.shown) H) (tCons ta tNil)) σ H (.str (PyData.shown (.tuple ds))) := by
  obtain ⟨a, b, c, d, e, f⟩ := facts_of (.tuple ds) (by simpa [mild] using hm)
  have hN : nodes (.tuple ds) = nodesAll ds + 1 := by simp only [nodes]
  have h1 := PyData.shown_le 40 (by decide) (.tuple ds) c
  refine ed_repr ha (fun H v hv => by cases hv with | tup _ _ => exact ⟨_, rfl⟩) a b (by omega) ?_
  rw [sizeLine_eq]
  omega
theorem shaped_of {d : PyData} (hm : mild d = true) (hn : d.depth ≤ 64) : SeqAt.shaped d = true := by
  obtain ⟨a, b, c, e, f, g⟩ := facts_of d hm
  exact Bool.and_eq_true_iff.mpr ⟨e, decide_eq_true hn⟩
/-- x != y of equal data -/
theorem ed_neSame {d : PyData} (ha : EvD K ta σ H d) (hb : EvD K tb σ H d) (hm : mild d = true) (hn : d.depth ≤ 64) : EvD K (tOp (rNeD K) ta tb) σ H (.bool false) :=
  ed_op ha hb fun x y H' e hx hy H1 e1 Q q => by
    have hs := shaped_of hm hn
    refine ⟨d, d, dp_same e1 hx, dp_same e1 hy, hs, hs, ?_⟩
    rw [PySem.SeqAt.eqv_refl d (facts_of d hm).2.2.2.1]
    exact q _ H1 (Ex.refl _) (.bl _)
end
end VG
set_option maxHeartbeats 4000000
/-! t[::-1] of a tuple; comprehensions with a test; walks over the items of a dict -/
namespace VG
open PySem PySem.Spec PyProof.Rows L2 Evl

section
variable {prog : Program} {w : World} {A : Around} {E : Value → Shared → Prop} {s : Shared}
theorem fm_congr {α β : Type} {f g : α → Option β} : {l : List α} → (∀ x ∈ l, f x = g x) → l.filterMap f = l.filterMap g
  | [], _ => rfl
  | x :: l, h => by
    rw [List.filterMap_cons, List.filterMap_cons, h x (List.mem_cons_self ..), fm_congr fun y hy => h y (List.mem_cons_of_mem _ hy)]
theorem rev_range {α : Type} (xs : Array α) : ((List.range xs.size).filterMap fun (k : Nat) => xs[(((xs.size : Int) - 1) + (k : Int) * (-1)).toNat]?) = xs.toList.reverse := by
  have h := PySem.W.krv_all xs
  rw [← h, ← List.filterMap_reverse, ← PySem.W.krv_range, List.filterMap_map]
  refine fm_congr fun k hk => ?_
  have hk := List.mem_range.mp hk
  show xs[_]? = xs[xs.size - 1 - k]?
  congr 1
  omega
theorem rev_places (n : Nat) : Builtin.Slice.slicePlaces ((n : Int) - 1) (-1) (-1) = n := by
  unfold Builtin.Slice.slicePlaces
  rw [if_neg (by decide : ¬ (-1 : Int) > 0)]
  by_cases h : (n : Int) - 1 > -1
  · rw [if_pos h, show (- -1 : Int) = 1 by decide, Int.ediv_one]
    omega
  · rw [if_neg h]
    omega
theorem sliceApplied_rev {sl : Addr} {t : Tok} {n : Nat} {Q : Int × Int × Nat → Shared → Prop} (hs : s.heap.IsSliceOf sl .none .none (.int (-1) t)) (h : Q ((n : Int) - 1, -1, n) s) :
    wpAny (model prog w) A (Builtin.Slice.sliceApplied (.ref sl) (pure (n : Int))) Q E s := by
  obtain ⟨os, hos, hcs, hds⟩ := id hs
  unfold Builtin.Slice.sliceApplied Builtin.Slice.sliceFields
  refine wpAny_bind (wpAny_bind (wpAny_field hos hds (x := .none) rfl ?_))
  refine wpAny_bind (wpAny_field hos hds (x := .none) rfl ?_)
  refine wpAny_bind (wpAny_field hos hds (x := .int (-1) t) rfl (wpAny_pure ?_))
  refine wpAny_bind (slicePart_int ?_)
  show wpAny _ _ (if ((-1 : Int) == 0) = true then _ else _) _ _ s
  rw [if_neg (by decide)]
  refine wpAny_bind (slicePart_none ?_)
  refine wpAny_bind (slicePart_none ?_)
  refine wpAny_bind (wpAny_pure ?_)
  have e : Builtin.Slice.sliceAdjust none none (-1) (n : Int) = ((n : Int) - 1, -1) := by
    unfold Builtin.Slice.sliceAdjust
    first
      | rfl
      | simp
  show wpAny _ _ (match Builtin.Slice.sliceAdjust none none (-1) (n : Int) with | (lo, hi) => pure (lo, (-1 : Int), Builtin.Slice.slicePlaces lo hi (-1))) _ _ s
  rw [e]
  show wpAny _ _ (pure ((n : Int) - 1, (-1 : Int), Builtin.Slice.slicePlaces ((n : Int) - 1) (-1) (-1))) _ _ s
  rw [rev_places]
  exact wpAny_pure h
theorem getItem_tuple_rev {t sl : Addr} {items : Array Value} {k : Tok} {Q : Value → Shared → Prop} (ht : IsTup s.heap t items) (hs : s.heap.IsSliceOf sl .none .none (.int (-1) k))
    (h : Q (.ref s.heap.objs.size) { s with heap := s.heap.push { cls := .type "tuple", data := .seq items.toList.reverse.toArray } }) (hsz : items.size ≤ sizeLine) :
    wpAny (model prog w) A (getItem (.ref t) (.ref sl)) Q E s := by
  have hok : sizeOk (.seq items.toList.reverse.toArray) := by
    show items.toList.reverse.toArray.size ≤ sizeLine
    rw [List.size_toArray, List.length_reverse, Array.length_toList]
    exact hsz
  obtain ⟨os, hos, hcs, hds⟩ := id hs
  have hTs : s.TypeIs (.ref sl) "slice" := ⟨os, hos, hcs⟩
  unfold getItem
  try with_reducible refine wpAny_holding ?_
  first | refine wpAny_bind (wpAny_pure ?_) | skip
  refine wpAny_bind (wpAny_sequenceKey ht.typeIs (by decide) ?_)
  refine wpAny_bind (wpAny_callSpecial?_slot (name := Str.ofString "__getitem__") ht.typeIs PyProof.Rows.slot_tuple_getitem ?_)
  refine wpAny_call_entry PyProof.Rows.slot_tuple_getitem ht.typeIs entry_tuple_getitem ?_ (args_tuple_getitem _ _)
  show wpAny _ _ (Builtin.Tuple.tupleItemsOf (.ref t) >>= _) _ _ s
  refine wpAny_bind (tupleItemsOf_ ht ?_)
  refine wpAny_bind (wpAny_typeOf hTs ?_)
  rw [if_pos (by decide)]
  refine wpAny_bind (sliceApplied_rev hs ?_)
  have hno : ¬ ((((items.size : Int) - 1) == 0 && (-1 : Int) == 1 && items.size == items.size) = true) := by
    rw [show ((-1 : Int) == 1) = false by decide, Bool.and_false, Bool.false_and]
    exact Bool.false_ne_true
  show wpAny _ _ (if (((items.size : Int) - 1) == 0 && (-1 : Int) == 1 && items.size == items.size) = true then _ else _) _ _ s
  rw [if_neg hno, rev_range]
  first
    | exact wpAny_bind (m := Builtin.Tuple.tupleExact _) (wpAny_newObj_type (wpAny_pure ⟨_, rfl, wpAny_pure h⟩) hok)
    | exact wpAny_bind (m := Builtin.Tuple.tupleExact _) (wpAny_newObj_type (wpAny_bind (wpAny_pure (wpAny_pure ⟨_, rfl, wpAny_pure h⟩))) hok)
    | exact wpAny_bind (wpAny_bind (m := Builtin.Tuple.tupleExact _) (wpAny_newObj_type (wpAny_pure (wpAny_pure ⟨_, rfl, wpAny_pure h⟩)) hok))
    | exact wpAny_bind (wpAny_bind (m := Builtin.Tuple.tupleExact _) (wpAny_newObj_type (wpAny_pure ⟨_, rfl, wpAny_pure h⟩) hok))
end
/-- t[::-1] -/
def tRevT (K : PySem.W.Frag) (te : TE) : TE := fun σ H Q => te σ H fun x H1 => ∃ a xs, x = .ref a ∧ SqT K H1 a xs ∧ ∀ p, H1 p = none → Q (.ref p) (upd H1 p (.tup xs.reverse))
theorem pe_revT {X : Cx} {e : Expr} {te : TE} {k : Nat} {p1 p2 p3 pos : Pos} (he : PE X e te) :
    PE X (.Subscript e (.Slice none none (some (.UnaryOp .USub (.Constant (.int 1) k p1) p2)) p3) pos) (tRevT X.K te) := by
  constructor
  intro pins s σ H Q I h
  refine Subscript_ (thn (he.run pins s σ H _ I h) ?_)
  intro v s1 ⟨x, H1, I1, r1, a, xs, ex, hx, q⟩
  subst ex
  cases r1
  have hst : PO X (some (.UnaryOp .USub (.Constant (.int 1) k p1) p2)) (tPart (tUn (rU fun i => .int (-i)) (tC (.int 1)))) := po_some (pe_un un_neg pe_int)
  have hno := po_none (X := X)
  refine wpAny_Slice (thn (hno.run pins s1 σ H1 (fun o H2 => o = none ∧ H2 = H1) I1 ⟨rfl, rfl⟩) ?_)
  intro vl s2 ⟨l, H2, I2, pl, el, e2⟩
  subst el e2
  refine thn (hno.run pins s2 σ H2 (fun o H3 => o = none ∧ H3 = H2) I2 ⟨rfl, rfl⟩) ?_
  intro vu s3 ⟨u, H3, I3, pu, eu, e3⟩
  subst eu e3
  refine thn (hst.run pins s3 σ H3 (fun o H4 => o = some (-1) ∧ H4 = H3) I3 ⟨1, rfl, -1, rfl, rfl, rfl⟩) ?_
  intro vs s4 ⟨o, H4, I4, ps, eo, e4⟩
  subst eo e4
  cases pl
  cases pu
  cases ps with
  | int i t =>
  have I5 : Inv X pins σ H4 { s4 with heap := s4.heap.push { cls := .type "slice", data := .fields #[.none, .none, .int (-1) t] } } :=
    I4.kept (t' := s4.toks) (fun b ob q => Heap.get?_push_of_some _ q)
  obtain ⟨its, r, ht, hz⟩ := I5.tuple hx
  have hlen := r.length
  refine tail_any (T := "tuple") (ops := [.ref a, .ref s4.heap.objs.size]) ht.typeIs PyProof.Rows.slot_tuple_getitem.lookup ?_ (by with_unfolding_all rfl)
  refine getItem_tuple_rev ht (Heap.IsSliceOf.new _ .none .none (.int (-1) t)) ?_ (by rw [List.size_toArray]; omega)
  refine ⟨.ref _, _, I5.laid (t' := s4.toks) (o := .tup xs.reverse) (fun b ob q => Heap.get?_push_of_some _ q) (Nat.le_refl _) ?_, rfl, q _ (I5.hok.fresh (Nat.le_refl _))⟩
  exact ⟨by rw [List.length_reverse]; exact hz, _, r.reverse, ⟨_, Heap.get?_push_size _ rfl, rfl, _, rfl⟩⟩
theorem ed_revT {K : PySem.W.Frag} {σ : L2.St} {H : Hp} {te : TE} {ds : List PyData} (h : EvD K te σ H (.tuple ds)) : EvD K (tRevT K te) σ H (.tuple ds.reverse) := fun H1 e Q q =>
  h H1 e _ fun x H2 e2 hx => by
    obtain ⟨a, xs, rfl, h1, h2⟩ := dp_tup hx
    refine ⟨a, xs, rfl, sqT_same hid_ex h1, fun p hp => ?_⟩
    refine q _ _ (e2.trans (Ex.new hp)) (.tup (.inl (.inl ((hid_new (ex_none e2 hp)).trans upd_same))) ?_)
    exact dpAll_same (hid_on (Ex.new hp)) (dpAll_rev h2)
end VG

set_option maxHeartbeats 4000000
/-! comprehensions with a test; dicts of lists of pairs; the items of a dict -/
namespace VG
open PySem PySem.Spec PyProof.Rows L2 Evl

section
variable {K : PySem.W.Frag} {σ : L2.St} {H : Hp} {te tl ta tb ty : TE} {g : TG} {vs : List Nat} {d : PyData}
/-- one comprehension with a test over any walk -/
theorem lcF {J : It} {n : Nat} {G : Hp → Prop} {Y : Nat → Hp → V → Hp → Prop} {tt : TT} (w : Walk J n G Y) (b : Nat → Bool) (f : Nat → PyData) (hn : n ≤ 100000)
    {H1 : Hp} (e1 : Ex H H1) (hG : ∀ H', Ex H H' → G H')
    (hs : ∀ i x H' H'', i < n → Ex H H' → Y i H' x H'' → ∀ Qg : L2.St → Hp → Prop,
      (∀ σ2 H2, wipe σ2 vs = wipe σ vs → Ex H' H2 → EvT tt σ2 H (b i) → (b i = true → EvD K te σ2 H (f i)) → Qg σ2 H2) → g x (wipe σ vs) H'' Qg)
    {D : Addr} (hD : H1 D = none) {Q : VK} (q : ∀ v H2, Ex H1 H2 → Dp K (hid H H1 H2) v (.list (((List.range n).filter b).map f)) → Q v H2) :
    ∃ W : Nat → Nat → Hp → Prop, (∃ m, W 0 m (upd H1 D (.lst []))) ∧ ∀ i m H, W i m H → (J.stop i H ∧ Q (.ref D) H) ∨
      (J.go i H ∧ ∃ Nx : Hp → Prop, (∀ H', Nx H' → ∃ m', m' < m ∧ W (i + 1) m' H') ∧ ∀ x H', J.yld i H x H' →
        g x (wipe σ vs) H' fun σ2 H2 => wipe σ2 vs = wipe σ vs ∧ tt σ2 H2 fun b H3 =>
          if b = true then te σ2 H3 fun y H4 => ∃ acc, H4 D = some (.lst acc) ∧ acc.length < sizeLine ∧ Nx (upd H4 D (.lst (acc ++ [y]))) else Nx H3) := by
  refine lc_it w (D := D) (Qd := Q (.ref D)) (fun i H' => ∃ acc, Ex H1 H' ∧ H' D = some (.lst acc) ∧ DpAll K (fun b => if b = D then none else hid H H1 H' b) acc (((List.range i).filter b).map f))
    ⟨[], Ex.new hD, upd_same, .nil⟩ (fun i H' _ ⟨_, e, _⟩ => hG H' (e1.trans e)) ?_ ?_
  · rintro i x H' H'' hi ⟨acc, e, h1, h2⟩ y
    refine hs i x H' H'' hi (e1.trans e) y _ ?_
    intro σ2 H2 hw e2 hbt hev
    refine ⟨hw, ?_⟩
    refine hbt H2 ((e1.trans e).trans e2) _ fun H2' e2' => ?_
    have e2 := e2.trans e2'
    have hl : acc.length ≤ i := by
      rw [dpAll_len h2, List.length_map]
      have := List.length_filter_le b (List.range i)
      rw [List.length_range] at this
      exact this
    have off : ∀ (H3 : Hp) (acc' : List V) (H4 : Hp), (∀ c, c ≠ D → H4 c = H3 c) → ∀ Hx : Hp, Ex Hx H3 → (∀ b, Hx b ≠ none → b ≠ D) → (∀ b, Hx b ≠ none → (H b = none → H1 b = none)) →
        Ex Hx (fun b => if b = D then none else hid H H1 H4 b) := fun H3 acc' H4 h4 Hx ex nD vis b o hb => by
      have n0 : Hx b ≠ none := by
        rw [hb]
        exact fun z => nomatch z
      have nb := nD b n0
      show (if b = D then none else hid H H1 H4 b) = some o
      rw [if_neg nb, hid_see (vis b n0), h4 _ nb]
      exact ex _ _ hb
    have old1 : ∀ H3, Ex H2' H3 → Ex (fun b => if b = D then none else hid H H1 H' b) H3 := fun H3 e3 b o hb => by
      have hb : (if b = D then none else hid H H1 H' b) = some o := hb
      by_cases z : b = D
      · rw [if_pos z] at hb
        cases hb
      · rw [if_neg z] at hb
        exact e3 _ _ (e2 _ _ ((hid_some hb).1))
    have old2 : ∀ b, (fun b => if b = D then none else hid H H1 H' b) b ≠ none → b ≠ D := fun b hb z => hb (if_pos z)
    have old3 : ∀ b, (fun b => if b = D then none else hid H H1 H' b) b ≠ none → (H b = none → H1 b = none) := fun b hb => by
      by_cases z : b = D
      · exact absurd (if_pos z) hb
      · cases hq : hid H H1 H' b with
        | none =>
          refine absurd ?_ hb
          show (if b = D then none else hid H H1 H' b) = none
          rw [if_neg z]
          exact hq
        | some o => exact (hid_some hq).2
    cases hb : b i with
    | false =>
      refine iteF ⟨acc, e.trans e2, e2 _ _ h1, ?_⟩
      rw [List.range_succ, List.filter_append, List.filter_cons, hb, if_neg Bool.false_ne_true, List.filter_nil, List.append_nil]
      exact dpAll_same (off H2' acc H2' (fun _ _ => rfl) _ (old1 _ (Ex.refl _)) old2 old3) h2
    | true =>
      refine iteT (hev hb H2' ((e1.trans e).trans e2) _ fun v H3 e3 hv => ?_)
      have eD : H3 D = some (.lst acc) := e3 _ _ (e2 _ _ h1)
      refine ⟨acc, eD, sz_lt (by omega), acc ++ [v], ((e.trans e2).trans e3).mut hD, upd_same, ?_⟩
      rw [List.range_succ, List.filter_append, List.filter_cons, hb, if_pos rfl, List.filter_nil, List.map_append]
      refine dpAll_app (dpAll_same (off H3 (acc ++ [v]) _ (fun c hc => upd_ne hc) _ (old1 _ e3) old2 old3) h2) (.cons (dp_same (off H3 (acc ++ [v]) _ (fun c hc => upd_ne hc) (hid H H2' H3) hid_ex ?_ ?_) hv) .nil)
      · intro b hb z
        subst z
        refine hb (hid_no ?_ ?_)
        · exact ex_none e1 hD
        · rw [e2 _ _ h1]
          exact fun z => nomatch z
      · intro b hb hn
        cases hq : hid H H2' H3 b with
        | none => exact absurd hq hb
        | some o => exact ex_none (e.trans e2) ((hid_some hq).2 hn)
  · rintro H' ⟨acc, e, h1, h2⟩
    refine q _ H' e (.lst (.inl (.inl ((hid_new hD).trans h1))) (dpAll_same ?_ h2))
    intro b o hb
    have hb : (if b = D then none else hid H H1 H' b) = some o := hb
    by_cases z : b = D
    · rw [if_pos z] at hb
      cases hb
    · rw [if_neg z] at hb
      exact hb
/-! ### what is at q is no list and no tuple -/
def NoSq (H : Hp) (q : Addr) : Prop := ∀ o, H q = some o → (∀ xs, o ≠ .tup xs ∧ o ≠ .lst xs ∧ ∀ u, o ≠ .frz u (.tup xs) ∧ o ≠ .frz u (.lst xs))
theorem NoSq.dK {q : Addr} {kvs : List (Key × V)} (h : H q = some (.dK kvs)) : NoSq H q := fun o ho xs => by
  rw [h] at ho
  cases ho
  exact ⟨(fun z => nomatch z), (fun z => nomatch z), fun u => ⟨(fun z => nomatch z), (fun z => nomatch z)⟩⟩
theorem NoSq.frz {q : Addr} {kvs : List (Key × V)} {od : Obj} (h : H q = some (.frz od (.dK kvs))) : NoSq H q := fun o ho xs => by
  rw [h] at ho
  cases ho
  exact ⟨(fun z => nomatch z), (fun z => nomatch z), fun u => ⟨(fun z => nomatch z), (fun z => nomatch z)⟩⟩
theorem sqT_sans {q : Addr} (n : NoSq H q) {a : Addr} {xs : List V} (h : SqT K H a xs) : SqT K (sans q H) a xs := by
  rcases h with (h | ⟨o, h⟩) | h
  · exact .inl (.inl ((sans_at (fun z => (n _ (z ▸ h) xs).1 rfl)).trans h))
  · exact .inl (.inr ⟨o, (sans_at (fun z => ((n _ (z ▸ h) xs).2.2 o).1 rfl)).trans h⟩)
  · exact .inr h
theorem sqL_sans {q : Addr} (n : NoSq H q) {a : Addr} {xs : List V} (h : SqL K H a xs) : SqL K (sans q H) a xs := by
  rcases h with (h | ⟨o, h⟩) | h
  · exact .inl (.inl ((sans_at (fun z => (n _ (z ▸ h) xs).2.1 rfl)).trans h))
  · exact .inl (.inr ⟨o, (sans_at (fun z => ((n _ (z ▸ h) xs).2.2 o).2 rfl)).trans h⟩)
  · exact .inr h
mutual
theorem dp_sans {q : Addr} (n : NoSq H q) : ∀ {v : V} {d : PyData}, Dp K H v d → Dp K (sans q H) v d
  | _, _, .non => .non
  | _, _, .bl b => .bl b
  | _, _, .int i => .int i
  | _, _, .str x => .str x
  | _, _, .lst h t => .lst (sqL_sans n h) (dpAll_sans n t)
  | _, _, .tup h t => .tup (sqT_sans n h) (dpAll_sans n t)
theorem dpAll_sans {q : Addr} (n : NoSq H q) : ∀ {vs : List V} {ds : List PyData}, DpAll K H vs ds → DpAll K (sans q H) vs ds
  | _, _, .nil => .nil
  | _, _, .cons h t => .cons (dp_sans n h) (dpAll_sans n t)
end
theorem tab_sans {q : Addr} (n : NoSq H q) : ∀ {kvs : List (Key × V)} {tab : List (Str × PyData)}, Tab K H kvs tab → Tab K (sans q H) kvs tab
  | _, _, .nil => .nil
  | _, _, .cons h t => .cons ⟨h.1, dp_sans n h.2⟩ (tab_sans n t)
/-! ### dict(a list of pairs) -/
def pairD (e : Str × PyData) : PyData := .tuple [.str e.1, e.2]
theorem pairs_tab : ∀ {tab : List (Str × PyData)} {vs : List V}, DpAll K H vs (tab.map pairD) →
    ∃ (ps : List Addr) (kvs : List (Key × V)), vs = ps.map V.ref ∧ Paired (fun p kv => SqT K H p [kV kv.1, kv.2]) ps kvs ∧ Tab K H kvs tab
  | [], _, .nil => ⟨[], [], rfl, .nil, .nil⟩
  | (t, d) :: tab, _, .cons h r => by
    obtain ⟨ps, kvs, rfl, h1, h2⟩ := pairs_tab r
    obtain ⟨a, xs, rfl, h3, h4⟩ := dp_tup h
    obtain ⟨x, y, rfl, h5, h6⟩ := dp2 h4
    cases h5
    exact ⟨a :: ps, (Sum.inr t, y) :: kvs, rfl, .cons h3 h1, .cons ⟨rfl, h6⟩ h2⟩
theorem tab_keys : ∀ {kvs : List (Key × V)} {tab : List (Str × PyData)}, Tab K H kvs tab → kvs.map (·.1) = (tab.map (·.1)).map Sum.inr
  | _, _, .nil => rfl
  | (k, v) :: _, (t, d) :: _, .cons h r => by
    have h1 : k = Sum.inr t := h.1
    rw [List.map_cons, List.map_cons, List.map_cons, tab_keys r, h1]
theorem val_none : ∀ {kvs : List (Key × V)} {k : Key}, k ∉ kvs.map Prod.fst → valV kvs k = none
  | [], _, _ => valV_nil
  | (k', v) :: kvs, k, h => by
    rw [valV_neg (fun z => h (by rw [← z]; exact List.mem_cons_self ..))]
    exact val_none fun z => h (List.mem_cons_of_mem _ z)
theorem merge_nd : ∀ {more acc : List (Key × V)}, ((acc ++ more).map (·.1)).Nodup → mergeK acc more = acc ++ more
  | [], acc, _ => by
    rw [List.append_nil]
    rfl
  | (k, v) :: more, acc, h => by
    have hk : k ∉ acc.map (·.1) := fun z => by
      rw [List.map_append, List.map_cons] at h
      exact (List.nodup_append.mp h).2.2 _ z _ (List.mem_cons_self ..) rfl
    show mergeK (putK acc k v) more = _
    rw [putK_new v (val_none hk)]
    have e : acc ++ (k, v) :: more = (acc ++ [(k, v)]) ++ more := by
      rw [List.append_assoc]
      rfl
    rw [e] at h ⊢
    exact merge_nd h
theorem mk_dict {v : V} {tab : List (Str × PyData)} (hd : Dp K H v (.list (tab.map pairD))) (nd : (tab.map Prod.fst).Nodup) {H1 : Hp} (e : Ex H H1) :
    ∃ (a : Addr) (ps : List Addr) (kvs : List (Key × V)), [v] = [V.ref a] ∧ SqL K H1 a (ps.map V.ref) ∧ Paired (fun p kv => SqT K H1 p [kV kv.1, kv.2]) ps kvs ∧ mergeK [] kvs = kvs ∧ Tab K H kvs tab := by
  obtain ⟨a, xs, rfl, h1, h2⟩ := dp_lst hd
  obtain ⟨ps, kvs, rfl, h3, h4⟩ := pairs_tab h2
  refine ⟨a, ps, kvs, rfl, ex_l e h1, ?_, ?_, h4⟩
  · clear h1 h2 hd h4
    induction h3 with
    | nil => exact .nil
    | cons h t ih => exact .cons (sqT_same e h) ih
  · have n : (([] ++ kvs).map Prod.fst).Nodup := by
      rw [List.nil_append, tab_keys h4]
      exact List.Pairwise.map _ (fun a b n z => n (Sum.inr.inj z)) nd
    rw [merge_nd n, List.nil_append]
theorem et_yes : EvT tYes σ H true := fun H1 e Q q => q H1 (Ex.refl _)
/-- [.. for .. in d.items() if ..], d locked -/
theorem lc_items {i : Nat} {q0 : Addr} {kvs : List (Key × V)} {od : Obj} {Hx H0 : Hp} {tt : TT} {Q : VK} (hi : σ[i]? = some (some (.ref q0))) (hq : Hx q0 = some (.frz od (.dK kvs))) (e : Ex Hx H0) (b : Nat → Bool) (f : Nat → PyData) (hn : kvs.length ≤ 100000)
    (hs : ∀ j k v T H', kvs[j]? = some (k, v) → Ex Hx H' → H' T = none → ∀ Qg : L2.St → Hp → Prop,
      (∀ σ2 H2, wipe σ2 vs = wipe σ vs → Ex H' H2 → EvT tt σ2 Hx (b j) → (b j = true → EvD K te σ2 Hx (f j)) → Qg σ2 H2) → g (.ref T) (wipe σ vs) (upd H' T (.tup [kV k, v])) Qg)
    (q : ∀ v H2, Ex H0 H2 → Dp K (hid Hx H0 H2) v (.list (((List.range kvs.length).filter b).map f)) → Q v H2) : tLc (iItems (tVar i)) g tt te vs σ H0 Q := by
  refine ⟨_, hi, q0, od, kvs, rfl, e _ _ hq, fun D hD => ?_⟩
  refine lcF (K := K) (H := Hx) (Q := Q) (walk_items (d := q0) (o := od) (kvs := kvs)) b f hn e (fun H' e' => e' _ _ hq) ?_ hD q
  rintro j x H' H'' hj e' ⟨T, x1, x2, rfl, hT, rfl, h1, h2⟩ Qg k
  have hj2 : kvs[j]? = some kvs[j] := List.getElem?_eq_getElem hj
  have h1 : kvs[j]?.map (fun kv => kV kv.1) = some x1 := h1
  have h2 : kvs[j]?.map Prod.snd = some x2 := h2
  rw [hj2] at h1 h2
  cases h1
  cases h2
  exact hs j _ _ T H' hj2 e' hT Qg k
/-- the dict made of them, the lock taken off -/
theorem un_dict {Hv H H2 : Hp} {q0 : Addr} {kvs : List (Key × V)} {od : Obj} {v : V} {tab : List (Str × PyData)} (hq : Hv q0 = some (.dK kvs)) (e : Ex Hv H) (nd : (tab.map Prod.fst).Nodup)
    (e2 : Ex (upd H q0 (.frz od (.dK kvs))) H2) (hd : Dp K (hid (upd Hv q0 (.frz od (.dK kvs))) (upd H q0 (.frz od (.dK kvs))) H2) v (.list (tab.map pairD))) :
    ∃ (a : Addr) (ps : List Addr) (kvs' : List (Key × V)), [v] = [V.ref a] ∧ SqL K H2 a (ps.map V.ref) ∧ Paired (fun p kv => SqT K H2 p [kV kv.1, kv.2]) ps kvs' ∧
      ∀ p, H2 p = none → upd H2 p (.dK (mergeK [] kvs')) q0 = some (.frz od (.dK kvs)) ∧ H p = none ∧ Ex H (upd (upd H2 p (.dK (mergeK [] kvs'))) q0 (.dK kvs)) ∧
        upd (upd H2 p (.dK (mergeK [] kvs'))) q0 (.dK kvs) p = some (.dK kvs') ∧ Tab K (hid Hv H (upd (upd H2 p (.dK (mergeK [] kvs'))) q0 (.dK kvs))) kvs' tab := by
  obtain ⟨a, ps, kvs', h1, h2, h3, h4, h5⟩ := mk_dict hd nd hid_ex
  refine ⟨a, ps, kvs', h1, h2, h3, fun p hp => ?_⟩
  rw [h4]
  have q2 : H2 q0 = some (.frz od (.dK kvs)) := e2 _ _ upd_same
  have npq : p ≠ q0 := fun z => by
    rw [z, q2] at hp
    cases hp
  have hpH : H p = none := (upd_ne npq).symm.trans (ex_none e2 hp)
  refine ⟨(upd_ne npq.symm).trans q2, hpH, fun b o hb => ?_, (upd_ne npq).trans upd_same, ?_⟩
  · by_cases z : b = q0
    · rw [z, e _ _ hq] at hb
      rw [z, upd_same]
      exact hb
    · rw [upd_ne z, upd_ne (ne_of_none hb hpH)]
      exact e2 _ _ ((upd_ne z).trans hb)
  · have hs : hid (upd Hv q0 (.frz od (.dK kvs))) (upd H q0 (.frz od (.dK kvs))) H2 q0 = some (.frz od (.dK kvs)) :=
      (hid_see (fun z => by rw [upd_same] at z; cases z)).trans q2
    refine tab_same (fun b o hb => ?_) (tab_sans (NoSq.frz hs) h5)
    have nb : b ≠ q0 := fun z => by
      rw [z, sans_none] at hb
      cases hb
    rw [sans_at nb] at hb
    obtain ⟨g1, g2⟩ := hid_some hb
    refine (hid_see (fun z => ?_)).trans ?_
    · exact (upd_ne nb).symm.trans (g2 ((upd_ne nb).trans z))
    · rw [upd_ne nb, upd_ne (ne_of_none g1 hp)]
      exact g1
/-! ### + of tuples, d[k] -/
theorem ed_catT {ds es : List PyData} (ha : EvD K ta σ H (.tuple ds)) (hb : EvD K tb σ H (.tuple es)) (n1 : ds ≠ []) (n2 : es ≠ []) (hl : ds.length + es.length ≤ 100000) : EvD K (tOp (rCatT K) ta tb) σ H (.tuple (ds ++ es)) :=
  ed_op ha hb fun x y H' e hx hy => by
    obtain ⟨a, xs, rfl, h1, h2⟩ := dp_tup hx
    obtain ⟨b, ys, rfl, h3, h4⟩ := dp_tup hy
    intro H1 e1 Q q
    have l1 := dpAll_len h2
    have l2 := dpAll_len h4
    refine ⟨a, b, xs, ys, rfl, rfl, sqT_same e1 h1, sqT_same e1 h3, fun z => n1 ?_, sz_of (by omega), fun z => absurd ?_ n2, fun _ p hp => ?_⟩
    · rw [z] at l1
      exact List.length_eq_zero_iff.mp l1.symm
    · rw [z] at l2
      exact List.length_eq_zero_iff.mp l2.symm
    · refine q _ _ (Ex.new hp) (.tup (.inl (.inl ((hid_new hp).trans upd_same))) ?_)
      exact dpAll_same (hid_base e1 (Ex.new hp)) (dpAll_app h2 h4)
theorem ed_dgetI {i : Nat} {p : Addr} {kvs : List (Key × V)} {tab : List (Str × PyData)} {t : Str} (hi : σ[i]? = some (some (.ref p))) (hp : H p = some (.dK kvs)) (ht : Tab K H kvs tab)
    (hy : EvD K ty σ H (.str t)) (h : tab.lookup t = some d) : EvD K (tDGet (tVar i) ty) σ H d := fun H1 e Q q => by
  refine ⟨_, hi, ?_⟩
  refine hy H1 e _ fun y H2 e2 hy => ?_
  cases hy
  rcases tab_val (t := t) ht with ⟨h1, h2⟩ | ⟨v, d', h1, h2, h3⟩
  · rw [h] at h1
    cases h1
  · rw [h] at h1
    cases h1
    refine ⟨p, v, rfl, .inl ⟨kvs, Sum.inr t, .inl (e2 _ _ (e _ _ hp)), rfl, h2.symm⟩, q v H2 e2 (dp_same (hid_base e e2) h3)⟩
end
end VG

set_option maxHeartbeats 4000000
/-! enumerate(t), t a tuple -/
namespace VG
open PySem PySem.Spec PyProof.Rows L2 Evl
open Sem (wp)
theorem meets_enum {v : Value} {o : Obj} {Hp0 : Heap → Prop} (B : Begins v o Hp0) :
    Meets (Builtin.«enumerate.__new__» ⟨[.type "enumerate", v], []⟩) (fun _ R s => Hp0 s.heap ∧
      R (.ok (.ret (.ref (s.heap.push o).objs.size))) { s with heap := (s.heap.push o).push { cls := .type "enumerate", data := .fields #[.none, .bool false, .ref s.heap.objs.size, rawInt 0, .none, .none] } }) :=
  .of_wp fun prog w A R s hq => by
    obtain ⟨hp, g, d, tk, os⟩ := s
    obtain ⟨h1, hR⟩ := hq
    have sub := sub_enumerate
    have goes : ∀ {A' : Around} {E : Value → Shared → Prop} {Q : Value → Shared → Prop}, Q (.ref hp.objs.size) ⟨hp.push o, g, d, tk, os⟩ → wpAny (model prog w) A' (pyIter v) Q E ⟨hp, g, d, tk, os⟩ := fun k => B.iter prog w _ _ ⟨hp, g, d, tk, os⟩ _ h1 k
    wp_walk using goes
    refine wpAny_stack_any fun st2 => wpAny_pure ?_
    split
    · rename_i c _ _ _ _ _
      cases (c == Value.type "enumerate") <;> (wp_walk using goes; exact ⟨_, rfl, hR⟩)
    · (wp_walk using goes; exact ⟨_, rfl, hR⟩)
section
variable {prog : Program} {w : World} {A : Around} {E : Value → Shared → Prop} {s : Shared}
theorem call_enumB {v : Value} {o : Obj} {Hp0 : Heap → Prop} {Q : Value → Shared → Prop} (B : Begins v o Hp0) (h1 : Hp0 s.heap)
    (k : ∀ h', IsEnum h' (s.heap.objs.size + 1) s.heap.objs.size 0 .none → h'.get? s.heap.objs.size = some o → (∀ b u, s.heap.get? b = some u → h'.get? b = some u) → Q (.ref (s.heap.objs.size + 1)) { s with heap := h' }) :
    wpAny (model prog w) A (call (.type "enumerate") [v]) Q E s := by
  refine callType_new F.called_enumerate (by decide) (F.typeCall_enumerate_1 _) (F.newCall_enumerate_1 _) (fun ob => F.args_object_init_2 ob _) F.entry_enumerate_new (meets_enum B) ⟨h1, ?_⟩
  have hz : (s.heap.push o).objs.size = s.heap.objs.size + 1 := Heap.size_push ..
  show _ ∧ _
  rw [hz]
  have he : IsEnum ((s.heap.push o).push { cls := .type "enumerate", data := .fields #[.none, .bool false, .ref s.heap.objs.size, rawInt 0, .none, .none] }) (s.heap.objs.size + 1) s.heap.objs.size 0 .none := by
    have q := Heap.get?_push_size (s.heap.push o) (o := { cls := .type "enumerate", data := .fields #[.none, .bool false, .ref s.heap.objs.size, rawInt 0, .none, .none] }) rfl
    rw [hz] at q
    exact q
  exact ⟨⟨_, he, rfl⟩, k _ he (Heap.get?_push_of_some _ (Heap.get?_push_size _ B.free)) fun b u x => Heap.get?_push_of_some _ (Heap.get?_push_of_some _ x)⟩
end
section
variable {prog : Program} {w : World} {A : Around} {E : Value → Shared → Prop} {s : Shared}
theorem end_enumT {e it t : Addr} {i : Int} {k : Nat} {items : Array Value} {old : Value} {Q : Option Value → Shared → Prop} (hh : A.handled = none) (he : IsEnum s.heap e it i old) (hit : IsTupIter s.heap it t k) (ht : IsTup s.heap t items) (hx : items[k]? = none)
    (q : ∀ h', Heap.ExtBut it s.heap h' → Q none { s with heap := h' }) : wpAny (model prog w) A (pyNext (.ref e)) Q E s := by
  have hT : s.TypeIs (.ref e) "enumerate" := ⟨_, he, rfl⟩
  unfold pyNext
  refine wpAny_bind (wpAny_attempt (wpAny_callSpecial?_slot (name := Str.ofString "__next__") hT F.slot_enumerate_next (wpAny_call_entry F.slot_enumerate_next hT F.entry_enumerate_next ?_ (F.args_enumerate_next_1 _))))
  show wpAny _ _ (field (.ref e) 2 >>= _) _ _ _
  refine wpAny_bind (wpAny_field he rfl (x := .ref it) rfl (wpAny_bind (wpAny_nextOf_tuple_end hh hit ht hx fun h' x he' hx' => ?_)))
  obtain ⟨o, ho, hc⟩ := hx'
  exact wpAny_bind (wpAny_isInstance (T := "StopIteration") (b := true) ⟨o, ho, hc⟩ isSubtype_stop (wpAny_pure (q _ he')))
end
/-- the tuple at a, each item in a new pair -/
def IteT (K : PySem.W.Frag) (a : Addr) : It :=
  ⟨fun i H => ∃ (xs : List V) (x : V), SqT K H a xs ∧ xs[i]? = some x, fun i H v H' => ∃ T x, v = .ref T ∧ H T = none ∧ H' = upd H T (.tup [.int (i : Nat), x]) ∧ ∀ xs, SqT K H a xs → xs[i]? = some x, fun i H => ∃ xs : List V, SqT K H a xs ∧ xs.length ≤ i⟩
theorem turn_enumT {P : Program} {w : World} {K : PySem.W.Frag} {elts : List Expr} {kk : Nat} {tpos : Pos} (a e it : Addr) :
    Turn P w K (.Tuple elts kk tpos) (IteT K a) [e, it] e (fun i h => (∃ old, IsEnum h e it ((i : Nat) : Int) old) ∧ IsTupIter h it a i ∧ e ≠ it ∧ a ≠ it ∧ a ≠ e) where
  mem := by simp
  obj := fun i h st b hb => by
    obtain ⟨⟨old, he⟩, ⟨o, ho, hc, hd⟩, _⟩ := st
    rcases List.mem_cons.mp hb with z | z
    · subst z
      exact ⟨_, he, fun v q => nomatch q⟩
    · rw [List.mem_singleton.mp z]
      exact ⟨o, ho, fun v q => by rw [hd] at q; cases q⟩
  keep := fun i h h' st k => by
    obtain ⟨⟨old, he⟩, ⟨o, ho, r⟩, n⟩ := st
    exact ⟨⟨old, k e (by simp) _ he⟩, ⟨o, k it (by simp) _ ho, r⟩, n⟩
  item := by
    intro X hP hw hK hc i pins s σ H E I hf st hg
    subst hP hw hK
    obtain ⟨⟨old, he⟩, hit, hne, nai, nae⟩ := st
    obtain ⟨xs, x, hq, hx⟩ := hg
    obtain ⟨its, rv, p, hz⟩ := I.tuple hq
    obtain ⟨u, hu, ru⟩ := rv.get hx
    have hel : e < s.heap.objs.size := Heap.lt_size he
    have hil : it < s.heap.objs.size := by
      obtain ⟨_, q, _⟩ := hit
      exact Heap.lt_size q
    have hu2 : its.toArray[i]? = some u := by simpa using hu
    have D := Draws.tuple (prog := X.prog) (w := X.w) (A := X.A.in1) (I.ok.hd hc) it a nai its.toArray
    refine wpAny_pyNext_enum_itemC (fp := [it, a]) D he ⟨hit, p⟩ (Array.getElem?_eq_some_iff.mp hu2).1 hne (by simp; exact ⟨hne, fun z => nae z.symm⟩) fun y h' tk hy ho st' hT hsz hk => ?_
    have hy : its.toArray[i]? = some y := hy
    rw [hu2] at hy
    cases hy
    refine ⟨_, rfl, wpAny_letOwnedTupleGo_enum (s := { s with heap := h', toks := tk + 1 }) ho fun h2 he2 sb => ?_⟩
    have hT2 : h2.get? s.heap.objs.size = some { cls := .type "tuple", data := .seq #[.int i tk, u] } := (sb.2 _ (Nat.ne_of_gt hel)).trans hT
    have new : ObjOk X.prog X.w (upd H s.heap.objs.size (.tup [.int (i : Nat), x])) h2 s.heap.objs.size (.tup [.int (i : Nat), x]) :=
      ⟨by show 2 ≤ sizeLine; decide, [.int i tk, u], .cons ⟨_, rfl⟩ (.cons ru .nil), ⟨_, hT2, rfl, _, rfl⟩⟩
    have I1 : Inv X pins σ (upd H s.heap.objs.size (.tup [.int (i : Nat), x])) { s with heap := h2, toks := tk + 1 } :=
      I.turnedNew (ch := [e, it]) (fun b ob hb q => (sb.2 b (fun z => hb (by rw [z]; exact List.mem_cons_self ..))).trans (hk b ob (fun z => hb (by rw [z]; exact List.mem_cons_self ..)) (fun z => hb (by simp [z])) q)) hf (Nat.le_refl _) new
    refine ⟨.ref s.heap.objs.size, _, I1, rfl, ⟨_, x, rfl, I.hok.fresh (Nat.le_refl _), rfl, fun ys hy => by rw [I.tuple_inj hy hq]; exact hx⟩, ⟨⟨u, ?_⟩, ?_, hne, nai, nae⟩, fun b hb => ?_⟩
    · have e1 : ((i + 1 : Nat) : Int) = (i : Int) + 1 := by omega
      rw [e1]
      exact he2
    · obtain ⟨o, ho2, r⟩ := st'.1
      exact ⟨o, (sb.2 it (Ne.symm hne)).trans ho2, r⟩
    · have hb' : b < s.heap.objs.size := by
        rcases List.mem_cons.mp hb with z | z
        · rw [z]; exact hel
        · rw [List.mem_singleton.mp z]; exact hil
      rw [upd_ne (Nat.ne_of_lt hb')]
      exact (hf b hb).1
  done := by
    intro X hP hw hK hc i pins s σ H E I hf st hg
    subst hP hw hK
    obtain ⟨⟨old, he⟩, hit, hne, nai, nae⟩ := st
    obtain ⟨xs, hq, hx⟩ := hg
    obtain ⟨its, rv, p, hz⟩ := I.tuple hq
    obtain ⟨f0, f1, f2, f3, f4, f5⟩ := hf it (by simp)
    have hl := rv.length
    exact end_enumT (I.ok.hd hc) he hit p (by simp; omega) fun h' eb => ⟨rfl, I.turned (t' := s.toks) (fun b o hb q => eb b o hb q) f0 f1 f3 f4 f5⟩
  self := fun A i s Q E st h => let ⟨⟨_, he⟩, _⟩ := st; wpAny_pyIter_enum he h
def iEnumT (K : PySem.W.Frag) (ta : TA) : TI := fun σ H R => ta σ H fun vs H1 => ∃ a xs, vs = [.ref a] ∧ SqT K H1 a xs ∧ R (IteT K a) H1
theorem pi_enumT {X : Cx} (K : PySem.W.Frag) {e : Expr} {ta : TA} {p pos tpos : Pos} {elts : List Expr} {kk : Nat} (hg : Gl X "enumerate") (hm : X.mg "enumerate" = none) (ha : PA X [e] ta) (hK : X.K = K := by rfl) (hs : starEach [e] X.env = [(false, eval e X.env)] := by rfl) :
    PI X (.Tuple elts kk tpos) (.Call (.Name "enumerate" p) [e] [] pos) (iEnumT K ta) := by
  subst hK
  refine ⟨fun pins s σ H R I h => ?_⟩
  refine Call_ (ld_blt I hg hm boot_enumerate (PyProof.Rows.callWith_type1 (thn (ha.run pos pins s σ H _ I h) fun us s1 ⟨vs, H1, I1, r1, a, xs, ex, hq, q⟩ => ?_) hs rfl))
  subst ex
  cases r1 with
  | cons r rr =>
    cases rr
    cases r
    obtain ⟨its, rv, p', hz⟩ := I1.tuple hq
    have hal : a < s1.heap.objs.size := by
      obtain ⟨_, q', _⟩ := p'
      exact Heap.lt_size q'
    refine call_enumB (begins_tuple a its.toArray) p' fun h' he hit hk => wpAny_pyIter_enum he ?_
    have I2 : Inv X pins σ H1 { s1 with heap := h' } := I1.kept (t' := s1.toks) hk
    refine ⟨s1.heap.objs.size + 1, [s1.heap.objs.size + 1, s1.heap.objs.size], _, _, H1, rfl, I2, turn_enumT a (s1.heap.objs.size + 1) s1.heap.objs.size, ⟨⟨.none, he⟩, ⟨_, hit, rfl, rfl⟩, Nat.succ_ne_self _, Nat.ne_of_lt hal, Nat.ne_of_lt (Nat.lt_succ_of_lt hal)⟩, fun b hb => ?_, q⟩
    have hle : s1.heap.objs.size ≤ b := by
      rcases List.mem_cons.mp hb with z | z
      · rw [z]; exact Nat.le_add_right _ _
      · rw [List.mem_singleton.mp z]; exact Nat.le_refl _
    exact I1.fpOk hle (I1.hok.fresh hle)
theorem walk_enumT {K : PySem.W.Frag} {a : Addr} {xs : List V} : Walk (IteT K a) xs.length (fun H => SqT K H a xs) (YPair (fun i => some (.int (i : Nat))) (fun i => xs[i]?)) := by
  refine ⟨fun i _ hi q => ⟨xs, xs[i], q, by simp [hi]⟩, fun _ q => ⟨xs, q, Nat.le_refl _⟩, fun i H v H' _ q y => ?_⟩
  obtain ⟨T, x, h1, h2, h3, h4⟩ := y
  exact ⟨T, .int (i : Nat), x, h1, h2, h3, rfl, h4 xs q⟩
end VG

set_option maxHeartbeats 2000000
/-! list(zip(t, u)) of two tuples: as many new pairs as the shorter one has items. -/
namespace VG
open PySem PySem.Spec PyProof.Rows L2 RZ Evl
section
variable {P : Program} {w : World} {A : Around} {E : Value → Shared → Prop} {s : Shared}
/-- a zip whose last pair, at a, is still held by somebody -/
abbrev ZipO (h : Heap) (z TI TO a : Addr) (f : Bool) : Prop :=
  h.get? z = some { cls := .type "zip", dict := none, data := .fields #[rawInt a, .bool f, .bool false, .ref TI, .ref TO], slots := #[] }
theorem owned_out {z TI TO a : Addr} {f : Bool} {oa : Obj} {Q : Bool → Shared → Prop} (hz : ZipO s.heap z TI TO a f) (ha : s.heap.get? a = some oa)
    (h : ∀ h', ZipO h' z TI TO a true → Heap.SameBut z s.heap h' → Q false { s with heap := h' }) :
    wpAny (model P w) A (Builtin.SmallTypes.ownedTupleIsFree (.ref z)) Q E s := by
  unfold Builtin.SmallTypes.ownedTupleIsFree
  refine wpAny_bind (wpAny_field hz rfl (x := rawInt a) rfl ?_)
  show wpAny (model P w) A (loadIfAlive ((a : Int).toNat) >>= _) _ _ s
  rw [Int.toNat_natCast]
  refine wpAny_bind (PySem.W.kdx_alive ha ?_)
  simp only [Option.isNone_some, Bool.false_eq_true, if_false]
  refine wpAny_bind (wpAny_field hz rfl (x := .bool f) rfl ?_)
  cases f with
  | true =>
    rw [if_neg (by decide)]
    exact wpAny_pure (h _ hz (Heap.SameBut.refl _ _))
  | false =>
    rw [if_pos (by decide)]
    refine wpAny_bind (wpAny_setField_rec hz (by simp) fun h3 e3 s3 => ?_)
    exact wpAny_pure (h h3 e3 s3)

theorem zipO_next {z TI TO a i1 i2 l1 l2 : Addr} {f : Bool} {oa : Obj} {k : Nat} {xs ys : Array Value} {x y : Value} {Q : Option Value → Shared → Prop} (D : ZipApart z TI TO i1 i2 l1 l2)
    (hz : ZipO s.heap z TI TO a f) (ha : s.heap.get? a = some oa) (hp : IsPair s.heap TI (.ref i1) (.ref i2)) (h1 : s.heap.IsTupleIter i1 l1 k) (h2 : s.heap.IsTupleIter i2 l2 k)
    (hl1 : s.heap.IsTuple l1 xs) (hl2 : s.heap.IsTuple l2 ys) (hx : xs[k]? = some x) (hy : ys[k]? = some y)
    (q : ∀ h', ZipO h' z TI TO a true → h'.IsTupleIter i1 l1 (k + 1) → h'.IsTupleIter i2 l2 (k + 1) → IsPair h' s.heap.objs.size x y →
      (∀ c o, c ≠ z → c ≠ i1 → c ≠ i2 → s.heap.get? c = some o → h'.get? c = some o) → Q (some (.ref s.heap.objs.size)) { s with heap := h' }) :
    wpAny (model P w) A (pyNext (.ref z)) Q E s := by
  have ty : s.TypeIs (.ref z) "zip" := ⟨_, hz, rfl⟩
  unfold pyNext
  refine wpAny_bind (wpAny_attempt (wpAny_callSpecial?_slot (name := Str.ofString "__next__") ty F.slot_zip_next (wpAny_call_entry F.slot_zip_next ty F.entry_zip_next ?_ (F.args_zip_next_1 _))))
  show wpAny (model P w) _ (field (.ref z) 2 >>= _) _ _ s
  refine wpAny_bind (wpAny_field hz rfl (x := .bool false) rfl ?_)
  show wpAny (model P w) _ (field (.ref z) 3 >>= _) _ _ s
  refine wpAny_bind (wpAny_field hz rfl (x := .ref TI) rfl ?_)
  refine wpAny_bind (wpAny_seqItems hp rfl ?_)
  show wpAny (model P w) _ (Builtin.SmallTypes.ownedTupleIsFree (.ref z) >>= _) _ _ s
  refine wpAny_bind (owned_out hz ha fun h3 z3 s3 => ?_)
  simp only [Bool.false_eq_true, if_false]
  refine wpAny_bind ?_
  first
  | rw [List.forIn_toArray]
  | (rw [← Array.forIn_toList]; simp only [List.toList_toArray])
  | rw [← Array.forIn_toList]
  simp only [List.forIn_cons, List.forIn_nil]
  refine wpAny_bind (wpAny_bind (wpAny_holding ?_))
  show wpAny (model P w) _ (Builtin.SmallTypes.nextOf (.ref i1) >>= _) _ _ _
  refine wpAny_bind (nextOf_tuple_item (s := { s with heap := h3 }) (h1.extBut s3.extBut D.i1z) (hl1.extBut s3.extBut D.l1z) hx fun h4 j1 s4 => wpAny_pure ?_)
  refine wpAny_pure ?_
  refine wpAny_bind (wpAny_bind (wpAny_holding ?_))
  show wpAny (model P w) _ (Builtin.SmallTypes.nextOf (.ref i2) >>= _) _ _ _
  refine wpAny_bind (nextOf_tuple_item (s := { s with heap := h4 }) ((h2.extBut s3.extBut D.i2z).extBut s4.extBut D.i12.symm) ((hl2.extBut s3.extBut D.l2z).extBut s4.extBut D.l2i1) hy fun h5 j2 s5 => wpAny_pure ?_)
  refine wpAny_pure ?_
  refine wpAny_pure ?_
  refine wpAny_bind (wpAny_newTuple ?_ (by show 2 ≤ sizeLine; decide))
  have e5 : h5.objs.size = s.heap.objs.size := by rw [s5.1, s4.1, s3.1]
  have kp : ∀ c o, c ≠ i1 → c ≠ i2 → h3.get? c = some o → h5.get? c = some o := fun c o c1 c2 e => s5.extBut _ _ c2 (s4.extBut _ _ c1 e)
  refine wpAny_pure ⟨_, rfl, wpAny_pure ?_⟩
  show Q (some (.ref h5.objs.size)) _
  rw [e5]
  refine q _ (Heap.get?_push_of_some _ (kp _ _ D.i1z.symm D.i2z.symm z3)) ((j1.extBut s5.extBut D.i12).at fun o e => Heap.get?_push_of_some _ e) (j2.at fun o e => Heap.get?_push_of_some _ e) ?_ fun c o c1 c2 c3 e => Heap.get?_push_of_some _ (kp c o c2 c3 (s3.extBut _ _ c1 e))
  rw [← e5]
  exact Heap.get?_push_size _ rfl

theorem zipO_last {z TI TO a i1 i2 l1 l2 : Addr} {f : Bool} {oa : Obj} {k : Nat} {xs ys : Array Value} {Q : Option Value → Shared → Prop} (hh : A.handled = none) (D : ZipApart z TI TO i1 i2 l1 l2)
    (hz : ZipO s.heap z TI TO a f) (ha : s.heap.get? a = some oa) (hp : IsPair s.heap TI (.ref i1) (.ref i2)) (h1 : s.heap.IsTupleIter i1 l1 k) (h2 : s.heap.IsTupleIter i2 l2 k)
    (hl1 : s.heap.IsTuple l1 xs) (hl2 : s.heap.IsTuple l2 ys) (he : xs[k]? = none ∨ ys[k]? = none)
    (q : ∀ h', (∀ c o, c ≠ z → c ≠ i1 → c ≠ i2 → s.heap.get? c = some o → h'.get? c = some o) → Q none { s with heap := h' }) :
    wpAny (model P w) A (pyNext (.ref z)) Q E s := by
  have ty : s.TypeIs (.ref z) "zip" := ⟨_, hz, rfl⟩
  have stop : ∀ (h' : Heap) (e : Addr), (∀ c o, c ≠ z → c ≠ i1 → c ≠ i2 → s.heap.get? c = some o → h'.get? c = some o) → (∃ o, h'.get? e = some o ∧ o.cls = .type "StopIteration") →
      wpAny (model P w) A (do if ← isInstance (.ref e) (.type "StopIteration") then pure none else throw (.ref e)) Q E { s with heap := h' } := fun h' e hk he => by
    obtain ⟨o, ho, hc⟩ := he
    refine wpAny_bind (wpAny_isInstance (T := "StopIteration") (b := true) ⟨o, ho, hc⟩ isSubtype_stop ?_)
    exact wpAny_pure (q _ hk)
  unfold pyNext
  refine wpAny_bind (wpAny_attempt (wpAny_callSpecial?_slot (name := Str.ofString "__next__") ty F.slot_zip_next (wpAny_call_entry F.slot_zip_next ty F.entry_zip_next ?_ (F.args_zip_next_1 _))))
  show wpAny (model P w) _ (field (.ref z) 2 >>= _) _ _ s
  refine wpAny_bind (wpAny_field hz rfl (x := .bool false) rfl ?_)
  show wpAny (model P w) _ (field (.ref z) 3 >>= _) _ _ s
  refine wpAny_bind (wpAny_field hz rfl (x := .ref TI) rfl ?_)
  refine wpAny_bind (wpAny_seqItems hp rfl ?_)
  show wpAny (model P w) _ (Builtin.SmallTypes.ownedTupleIsFree (.ref z) >>= _) _ _ s
  refine wpAny_bind (owned_out hz ha fun h3 z3 s3 => ?_)
  simp only [Bool.false_eq_true, if_false]
  refine wpAny_bind ?_
  first
  | rw [List.forIn_toArray]
  | (rw [← Array.forIn_toList]; simp only [List.toList_toArray])
  | rw [← Array.forIn_toList]
  simp only [List.forIn_cons, List.forIn_nil]
  refine wpAny_bind (wpAny_bind (wpAny_holding ?_))
  show wpAny (model P w) _ (Builtin.SmallTypes.nextOf (.ref i1) >>= _) _ _ _
  cases hx : xs[k]? with
  | none =>
    refine wpAny_bind (nextOf_tuple_end (s := { s with heap := h3 }) hh (h1.extBut s3.extBut D.i1z) (hl1.extBut s3.extBut D.l1z) hx fun h4 e s4 he => ?_)
    exact stop h4 e (fun c o c1 c2 _ x => s4 _ _ c2 (s3.extBut _ _ c1 x)) he
  | some x =>
    have hy : ys[k]? = none := by
      rcases he with h | h
      · rw [hx] at h; cases h
      · exact h
    refine wpAny_bind (nextOf_tuple_item (s := { s with heap := h3 }) (h1.extBut s3.extBut D.i1z) (hl1.extBut s3.extBut D.l1z) hx fun h4 j1 s4 => wpAny_pure ?_)
    refine wpAny_pure ?_
    refine wpAny_bind (wpAny_bind (wpAny_holding ?_))
    show wpAny (model P w) _ (Builtin.SmallTypes.nextOf (.ref i2) >>= _) _ _ _
    refine wpAny_bind (nextOf_tuple_end (s := { s with heap := h4 }) hh ((h2.extBut s3.extBut D.i2z).extBut s4.extBut D.i12.symm) ((hl2.extBut s3.extBut D.l2z).extBut s4.extBut D.l2i1) hy fun h5 e s5 he => ?_)
    exact stop h5 e (fun c o c1 c2 c3 x => s5 _ _ c3 (s4.extBut _ _ c2 (s3.extBut _ _ c1 x))) he
end

/-! ### all pairs of a zip, into a list -/
section
variable {P : Program} {w : World} {A : Around} {s : Shared} {xs ys : Array Value} {z TI TO i1 i2 l1 l2 S : Addr}
/-- a zip of two tuples behind k pairs; none of it lies at S -/
structure ZSt (h : Heap) (z TI TO i1 i2 l1 l2 S : Addr) (k : Nat) : Prop where
  tup : IsPair h TI (.ref i1) (.ref i2)
  one : h.IsTupleIter i1 l1 k
  two : h.IsTupleIter i2 l2 k
  zip : (IsZip h z TI TO .none ∧ ∃ a b, IsPair h TO a b) ∨ ∃ a f oa, ZipO h z TI TO a f ∧ h.get? a = some oa ∧ a ≠ z ∧ a ≠ i1 ∧ a ≠ i2 ∧ a ≠ S
/-- all that a zip is made of came before S -/
structure ZLow (z TI TO i1 i2 l1 l2 S : Addr) : Prop where
  z : z < S
  TI : TI < S
  TO : TO < S
  i1 : i1 < S
  i2 : i2 < S
  l1 : l1 < S
  l2 : l2 < S
theorem ZSt.keep {h h' : Heap} {k : Nat} (x : ZSt h z TI TO i1 i2 l1 l2 S k) (L : ZLow z TI TO i1 i2 l1 l2 S) (kp : ∀ b o, b ≠ S → h.get? b = some o → h'.get? b = some o) : ZSt h' z TI TO i1 i2 l1 l2 S k := by
  refine ⟨kp _ _ (Nat.ne_of_lt L.TI) x.tup, x.one.at fun o e => kp _ o (Nat.ne_of_lt L.i1) e, x.two.at fun o e => kp _ o (Nat.ne_of_lt L.i2) e, ?_⟩
  rcases x.zip with ⟨h1, a, b, h2⟩ | ⟨a, f, oa, h1, h2, h3⟩
  · exact .inl ⟨kp _ _ (Nat.ne_of_lt L.z) h1, a, b, kp _ _ (Nat.ne_of_lt L.TO) h2⟩
  · exact .inr ⟨a, f, oa, kp _ _ (Nat.ne_of_lt L.z) h1, kp _ _ h3.2.2.2 h2, h3⟩
theorem z_item {E : Value → Shared → Prop} {k : Nat} {x y : Value} {Q : Option Value → Shared → Prop} (D : ZipApart z TI TO i1 i2 l1 l2) (st : ZSt s.heap z TI TO i1 i2 l1 l2 S k) (hS : S < s.heap.objs.size)
    (hl1 : s.heap.IsTuple l1 xs) (hl2 : s.heap.IsTuple l2 ys) (hx : xs[k]? = some x) (hy : ys[k]? = some y)
    (q : ∀ h', ZSt h' z TI TO i1 i2 l1 l2 S (k + 1) → IsPair h' s.heap.objs.size x y → (∀ c o, c ≠ z → c ≠ TO → c ≠ i1 → c ≠ i2 → s.heap.get? c = some o → h'.get? c = some o) → Q (some (.ref s.heap.objs.size)) { s with heap := h' }) :
    wpAny (model P w) A (pyNext (.ref z)) Q E s := by
  have n1 : s.heap.objs.size ≠ i1 := by
    obtain ⟨_, e, _⟩ := st.one
    exact Nat.ne_of_gt (Heap.lt_size e)
  have n2 : s.heap.objs.size ≠ i2 := by
    obtain ⟨_, e, _⟩ := st.two
    exact Nat.ne_of_gt (Heap.lt_size e)
  rcases st.zip with ⟨h1, a, b, h2⟩ | ⟨a, f, oa, h1, h2, h3, h4, h5, h6⟩
  · exact pyNext_zipT_item D h1 st.tup h2 st.one st.two hl1 hl2 hx hy fun h' z' _ j1 j2 pr _ kp =>
      q h' ⟨kp _ _ D.TIz D.TITO D.TIi1 D.TIi2 st.tup, j1, j2, .inr ⟨_, false, _, z', pr, Nat.ne_of_gt (Heap.lt_size h1), n1, n2, Nat.ne_of_gt hS⟩⟩ pr kp
  · exact zipO_next D h1 h2 st.tup st.one st.two hl1 hl2 hx hy fun h' z' j1 j2 pr kp =>
      q h' ⟨kp _ _ D.TIz D.TIi1 D.TIi2 st.tup, j1, j2, .inr ⟨a, true, oa, z', kp _ _ h3 h4 h5 h2, h3, h4, h5, h6⟩⟩ pr fun c o c1 _ c3 c4 e => kp c o c1 c3 c4 e
theorem z_last {E : Value → Shared → Prop} {k : Nat} {Q : Option Value → Shared → Prop} (hh : A.handled = none) (D : ZipApart z TI TO i1 i2 l1 l2) (st : ZSt s.heap z TI TO i1 i2 l1 l2 S k)
    (hl1 : s.heap.IsTuple l1 xs) (hl2 : s.heap.IsTuple l2 ys) (he : xs[k]? = none ∨ ys[k]? = none)
    (q : ∀ h', (∀ c o, c ≠ z → c ≠ TO → c ≠ i1 → c ≠ i2 → s.heap.get? c = some o → h'.get? c = some o) → Q none { s with heap := h' }) :
    wpAny (model P w) A (pyNext (.ref z)) Q E s := by
  rcases st.zip with ⟨h1, a, b, h2⟩ | ⟨a, f, oa, h1, h2, h3, h4, h5, h6⟩
  · exact pyNext_zipT_end hh D h1 st.tup h2 st.one st.two hl1 hl2 he q
  · exact zipO_last hh D h1 h2 st.tup st.one st.two hl1 hl2 he fun h' kp => q h' fun c o c1 _ c3 c4 e => kp c o c1 c3 c4 e
/-- the pairs laid so far, at as, one behind the other -/
structure ZG (xs ys : Array Value) (S : Addr) (h : Heap) (as : List Addr) : Prop where
  rise : as.Pairwise (· < ·)
  above : ∀ a ∈ as, S < a
  pairs : ∀ (j : Nat) (a : Addr), as[j]? = some a → ∃ x y, xs[j]? = some x ∧ ys[j]? = some y ∧ IsPair h a x y
theorem ZG.at {h h' : Heap} {as : List Addr} (g : ZG xs ys S h as) (kp : ∀ a ∈ as, ∀ o, h.get? a = some o → h'.get? a = some o) : ZG xs ys S h' as := by
  refine ⟨g.rise, g.above, fun j a e => ?_⟩
  obtain ⟨x, y, h1, h2, h3⟩ := g.pairs j a e
  exact ⟨x, y, h1, h2, kp a (List.mem_of_getElem? e) _ h3⟩
theorem ZG.there {h : Heap} {as : List Addr} (g : ZG xs ys S h as) {a : Addr} (m : a ∈ as) : a < h.objs.size := by
  obtain ⟨j, e⟩ := List.mem_iff_getElem?.mp m
  obtain ⟨_, _, _, _, h3⟩ := g.pairs j a e
  exact Heap.lt_size h3
theorem ZG.snoc {h : Heap} {as : List Addr} {b : Addr} {x y : Value} (g : ZG xs ys S h as) (up : ∀ a ∈ as, a < b) (hS : S < b) (hx : xs[as.length]? = some x) (hy : ys[as.length]? = some y) (hb : IsPair h b x y) : ZG xs ys S h (as ++ [b]) := by
  refine ⟨List.pairwise_append.mpr ⟨g.rise, List.pairwise_singleton _ _, fun a m c n => ?_⟩, fun a m => ?_, fun j a e => ?_⟩
  · rw [List.mem_singleton.mp n]
    exact up a m
  · rcases List.mem_append.mp m with m | m
    · exact g.above a m
    · rw [List.mem_singleton.mp m]
      exact hS
  · by_cases hj : j < as.length
    · rw [List.getElem?_append_left hj] at e
      exact g.pairs j a e
    · rw [List.getElem?_append_right (by omega)] at e
      have hj0 : j - as.length = 0 := by
        rcases Nat.eq_zero_or_pos (j - as.length) with z | z
        · exact z
        · rw [List.getElem?_eq_none (by rw [List.length_singleton]; omega)] at e
          cases e
      rw [hj0] at e
      have hjj : j = as.length := by omega
      rw [hjj]
      cases e
      exact ⟨x, y, hx, hy, hb⟩

theorem z_loop {R : Result → Shared → Prop} (hh : A.handled = none) (D : ZipApart z TI TO i1 i2 l1 l2) (L : ZLow z TI TO i1 i2 l1 l2 S) {n : Nat} (hn : n = min xs.size ys.size) (hz : n ≤ sizeLine) (res : Value) {h1 : Heap}
    (q : ∀ h' tk acc c as, (∀ b o, b ≠ S → b ≠ z → b ≠ TO → b ≠ i1 → b ≠ i2 → h1.get? b = some o → h'.get? b = some o) → h'.get? S = some { cls := .type "list", dict := none, data := .seq acc c, slots := #[] } →
      as.length = n → ZG xs ys S h' as → acc.toList = as.map Value.ref → R (.ok (.ret res)) { s with heap := h', toks := tk }) :
    ∀ (k i : Nat) (h : Heap) (tk c : Nat) (acc : Array Value) (as : List Addr), n - i = k → i ≤ n → ZSt h z TI TO i1 i2 l1 l2 S i → h.IsTuple l1 xs → h.IsTuple l2 ys →
      (∀ b o, b ≠ S → b ≠ z → b ≠ TO → b ≠ i1 → b ≠ i2 → h1.get? b = some o → h.get? b = some o) → h.get? S = some { cls := .type "list", dict := none, data := .seq acc c, slots := #[] } →
      acc.toList = as.map Value.ref → as.length = i → ZG xs ys S h as →
      codeAny (model P w) A (.builtin "list.extend.loop" ⟨[.ref S, .ref z, res], []⟩) R { s with heap := h, toks := tk } := by
  intro k
  induction k with
  | zero =>
    intro i h tk c acc as hk hi st t1 t2 kp hS ha hl g
    refine codeAny_builtin PySem.F.entry_extend_loop ?_
    rw [Around.under_plainId PySem.F.plain_extend_loop _]
    show wpAny (model P w) A.in1 (pyNext (.ref z) >>= _) _ _ _
    refine wpAny_bind (z_last (s := { s with heap := h, toks := tk }) (A := A.in1) (S := S) hh D st t1 t2 ?_ fun h' kp' => ?_)
    · rcases Nat.le_total xs.size ys.size with e | e
      · exact .inl (Array.getElem?_eq_none (by omega))
      · exact .inr (Array.getElem?_eq_none (by omega))
    · refine wpAny_pure (q h' tk acc c as (fun b o b1 b2 b3 b4 b5 e => kp' b o b2 b3 b4 b5 (kp b o b1 b2 b3 b4 b5 e)) (kp' _ _ (Nat.ne_of_gt L.z) (Nat.ne_of_gt L.TO) (Nat.ne_of_gt L.i1) (Nat.ne_of_gt L.i2) hS) (by omega) (g.at fun a m o e => ?_) ha)
      have := g.above a m
      exact kp' _ _ (Nat.ne_of_gt (Nat.lt_trans L.z this)) (Nat.ne_of_gt (Nat.lt_trans L.TO this)) (Nat.ne_of_gt (Nat.lt_trans L.i1 this)) (Nat.ne_of_gt (Nat.lt_trans L.i2 this)) e
  | succ k ih =>
    intro i h tk c acc as hk hi st t1 t2 kp hS ha hl g
    have hx : xs[i]? = some xs[i]! := by
      rw [getElem!_def, Array.getElem?_eq_getElem (by omega)]
    have hy : ys[i]? = some ys[i]! := by
      rw [getElem!_def, Array.getElem?_eq_getElem (by omega)]
    have hsz : acc.size = i := by rw [← Array.length_toList, ha, List.length_map, hl]
    have hSl : S < h.objs.size := Heap.lt_size hS
    refine codeAny_builtin PySem.F.entry_extend_loop ?_
    rw [Around.under_plainId PySem.F.plain_extend_loop _]
    show wpAny (model P w) A.in1 (pyNext (.ref z) >>= _) _ _ _
    refine wpAny_bind (z_item (s := { s with heap := h, toks := tk }) D st hSl t1 t2 hx hy fun h' st' pr kp' => ?_)
    dsimp only at pr kp' ⊢
    have hS' := kp' _ _ (Nat.ne_of_gt L.z) (Nat.ne_of_gt L.TO) (Nat.ne_of_gt L.i1) (Nat.ne_of_gt L.i2) hS
    have up : ∀ b o, b ≠ S → h'.get? b = some o → (h'.update S (Obj.mapSeq (·.push (Value.ref h.objs.size)))).get? b = some o := fun b o n e => (Heap.get?_update_other _ _ (Ne.symm n)).trans e
    have old : ∀ a ∈ as, ∀ o, h.get? a = some o → (h'.update S (Obj.mapSeq (·.push (Value.ref h.objs.size)))).get? a = some o := fun a m o e => by
      have := g.above a m
      exact up _ _ (Nat.ne_of_gt this) (kp' _ _ (Nat.ne_of_gt (Nat.lt_trans L.z this)) (Nat.ne_of_gt (Nat.lt_trans L.TO this)) (Nat.ne_of_gt (Nat.lt_trans L.i1 this)) (Nat.ne_of_gt (Nat.lt_trans L.i2 this)) e)
    show wpAny (model P w) A.in1 (updateSeq S (·.push (Value.ref h.objs.size)) >>= _) _ _ _
    refine wpAny_bind ?_
    refine wpAny_updateSeq hS' rfl (wpAny_pure ⟨plainId_quiet PySem.F.plain_extend_loop _, ih (i + 1) _ tk _ (acc.push (Value.ref h.objs.size)) (as ++ [h.objs.size]) (by omega) (by omega) (st'.keep L up)
      (t1.at fun o e => up _ o (Nat.ne_of_lt L.l1) (kp' _ o D.l1z D.l1TO D.l1i1 D.l1i2 e)) (t2.at fun o e => up _ o (Nat.ne_of_lt L.l2) (kp' _ o D.l2z D.l2TO D.l2i1 D.l2i2 e))
      (fun b o b1 b2 b3 b4 b5 e => up b o b1 (kp' b o b2 b3 b4 b5 (kp b o b1 b2 b3 b4 b5 e))) (Heap.get?_update_self _ hS' rfl) (by rw [Array.toList_push, ha, List.map_append]; rfl) (by rw [List.length_append, hl]; rfl) ?_⟩)
      (by rw [hsz]; omega) (by show (acc.push (Value.ref h.objs.size)).size ≤ sizeLine + 1; rw [Array.size_push, hsz]; omega)
    exact (g.at old).snoc (fun a m => g.there m) hSl (by rw [hl]; exact hx) (by rw [hl]; exact hy) (up _ _ (Nat.ne_of_gt hSl) pr)
end

theorem zip_nolen : typeLookup (.type "zip") "__len__" = pure none := by rw [typeLookup_type, builtinLookup_eq_fast]; kernel_rfl
theorem zip_nohint : typeLookup (.type "zip") "__length_hint__" = pure none := by rw [typeLookup_type, builtinLookup_eq_fast]; kernel_rfl
section
variable {P : Program} {w : World} {A : Around} {E : Value → Shared → Prop} {s : Shared} {xs ys : Array Value} {z TI TO i1 i2 l1 l2 : Addr}
theorem z_extend {S : Addr} {R : Result → Shared → Prop} (hh : A.handled = none) (D : ZipApart z TI TO i1 i2 l1 l2) (L : ZLow z TI TO i1 i2 l1 l2 S) {n : Nat} (hn : n = min xs.size ys.size) (hz : n ≤ sizeLine) (res : Value) (c0 : Nat)
    (h1 : IsZip s.heap z TI TO .none) (h2 : IsPair s.heap TI (.ref i1) (.ref i2)) (h3 : IsPair s.heap TO .none .none) (h4 : s.heap.IsTupleIter i1 l1 0) (h5 : s.heap.IsTupleIter i2 l2 0) (h6 : s.heap.IsTuple l1 xs) (h7 : s.heap.IsTuple l2 ys)
    (hS : s.heap.get? S = some { cls := .type "list", data := .seq #[] c0 })
    (q : ∀ h' tk acc c as, (∀ b o, b ≠ S → b ≠ z → b ≠ TO → b ≠ i1 → b ≠ i2 → s.heap.get? b = some o → h'.get? b = some o) → h'.get? S = some { cls := .type "list", dict := none, data := .seq acc c, slots := #[] } →
      as.length = n → ZG xs ys S h' as → acc.toList = as.map Value.ref → R (.ok (.ret res)) { s with heap := h', toks := tk }) :
    wpAny (model P w) A.in1 (Builtin.List.listExtendWith (.ref S) (.ref z) res)
      (fun r s' => match r with | .done f => R (.ok f) s' | .again cd => cd.quiet = true ∧ codeAny (model P w) A cd R s') (fun e s' => R (.error e) s') s := by
  have ty : s.TypeIs (.ref z) "zip" := ⟨_, h1, rfl⟩
  have Sz : S ≠ z := Nat.ne_of_gt L.z
  have go : ∀ (h : Heap) (c tk : Nat), (∀ b o, b ≠ S → s.heap.get? b = some o → h.get? b = some o) → h.get? S = some { cls := .type "list", data := .seq #[] c } →
      codeAny (model P w) A (.builtin "list.extend.loop" ⟨[.ref S, .ref z, res], []⟩) R { s with heap := h, toks := tk } := fun h c tk kp hS' => by
    have st : ZSt s.heap z TI TO i1 i2 l1 l2 S 0 := ⟨h2, h4, h5, .inl ⟨h1, _, _, h3⟩⟩
    exact z_loop (xs := xs) (ys := ys) (h1 := s.heap) hh D L hn hz res q n 0 h tk c #[] [] (Nat.sub_zero _) (Nat.zero_le _) (st.keep L kp) (h6.at fun o e => kp _ o (Nat.ne_of_lt L.l1) e) (h7.at fun o e => kp _ o (Nat.ne_of_lt L.l2) e)
      (fun b o b1 _ _ _ _ e => kp b o b1 e) hS' rfl rfl ⟨List.Pairwise.nil, (fun _ m => nomatch m), fun j a e => by simp at e⟩
  unfold Builtin.List.listExtendWith
  refine wpAny_bind (wpAny_typeOf (T := "zip") ty ?_)
  have n1 : Builtin.List.listSameRef (.ref S) (.ref z) = false := by simp [Builtin.List.listSameRef, Sz]
  have n2 : (Value.type "zip" == Value.type "list") = false := by decide
  have n3 : (Value.type "zip" == Value.type "tuple") = false := by decide
  simp only [n1, n2, n3, Bool.or_false, Bool.false_eq_true, if_false]
  refine wpAny_bind (wpAny_pyIter_zip h1 ?_)
  refine wpAny_bind (wpAny_holding ?_)
  unfold Builtin.List.listLengthHint
  refine wpAny_bind (wpAny_specialOf ty zip_nolen ?_)
  show wpAny (model P w) A.in1 (specialOf (Value.ref z) (Str.ofString "__length_hint__") >>= _) _ _ _
  refine wpAny_bind (wpAny_specialOf ty zip_nohint ?_)
  refine wpAny_pure ?_
  refine wpAny_ite_split (fun _ => ?_) (fun _ => wpAny_pure ⟨plainId_quiet PySem.F.plain_extend_loop _, go _ c0 _ (fun b o _ e => e) hS⟩)
  refine wpAny_bind (wpAny_rule ?_)
  refine wpAny_bind ?_
  show wpAny (model P w) _ (updateSeq S (·.push .none) >>= fun _ => updateSeq S (·.pop)) _ _ _
  refine wpAny_bind (wpAny_updateSeq hS rfl ?_)
  have hS2 := Heap.get?_update_self (Obj.mapSeq (·.push Value.none)) hS rfl
  refine wpAny_updateSeq (hz := by seq_fits) hS2 rfl ?_
  have hS3 := Heap.get?_update_self (Obj.mapSeq (·.pop)) hS2 rfl
  refine wpAny_pure ⟨plainId_quiet PySem.F.plain_extend_loop _, go _ _ _ (fun b o n e => ?_) hS3⟩
  exact (Heap.get?_update_other _ _ (Ne.symm n)).trans ((Heap.get?_update_other _ _ (Ne.symm n)).trans e)

theorem z_call {Q : Value → Shared → Prop} (hh : A.handled = none) (D : ZipApart z TI TO i1 i2 l1 l2) (L : ZLow z TI TO i1 i2 l1 l2 s.heap.objs.size) {n : Nat} (hn : n = min xs.size ys.size) (hz : n ≤ sizeLine)
    (h1 : IsZip s.heap z TI TO .none) (h2 : IsPair s.heap TI (.ref i1) (.ref i2)) (h3 : IsPair s.heap TO .none .none) (h4 : s.heap.IsTupleIter i1 l1 0) (h5 : s.heap.IsTupleIter i2 l2 0) (h6 : s.heap.IsTuple l1 xs) (h7 : s.heap.IsTuple l2 ys)
    (q : ∀ h' tk acc c as, (∀ b o, b ≠ z → b ≠ TO → b ≠ i1 → b ≠ i2 → s.heap.get? b = some o → h'.get? b = some o) → h'.get? s.heap.objs.size = some { cls := .type "list", dict := none, data := .seq acc c, slots := #[] } →
      as.length = n → ZG xs ys s.heap.objs.size h' as → acc.toList = as.map Value.ref → Q (.ref s.heap.objs.size) { s with heap := h', toks := tk }) :
    wpAny (model P w) A (call (.type "list") [.ref z]) Q E s := by
  refine callType_codes (Q₁ := fun obj s1 => obj = .ref s.heap.objs.size ∧ s1 = { s with heap := s.heap.push { cls := .type "list", data := .seq #[] } }) PySem.F.called_list (PySem.F.typeCall_list_1 _) PySem.F.entry_list_init
    (code_list_new _ ⟨rfl, rfl⟩) fun obj s1 g => ?_
  obtain ⟨rfl, rfl⟩ := g
  have hS : (s.heap.push { cls := .type "list", data := .seq #[] }).get? s.heap.objs.size = some { cls := .type "list", data := .seq #[] } := Heap.get?_push_size _ rfl
  have up : ∀ b o, s.heap.get? b = some o → (s.heap.push { cls := .type "list", data := .seq #[] }).get? b = some o := fun b o e => Heap.get?_push_of_some _ e
  refine ⟨⟨_, hS, rfl⟩, PySem.F.args_list_init_2 _ _, ?_⟩
  show wpAny (model P w) _ (do let old ← Builtin.List.listItems (.ref s.heap.objs.size); Builtin.List.listUpdate (.ref s.heap.objs.size) (fun _ => #[]); letGo old.toList.reverse; Builtin.List.listExtendWith (.ref s.heap.objs.size) (.ref z) .none) _ _ _
  refine wpAny_bind ?_
  unfold Builtin.List.listItems
  refine wpAny_bind (wpAny_seqItems hS rfl (wpAny_pure ?_))
  show wpAny (model P w) _ (updateSeq s.heap.objs.size (fun _ => #[]) >>= fun _ => letGo (#[] : Array Value).toList.reverse >>= fun _ => Builtin.List.listExtendWith (.ref s.heap.objs.size) (.ref z) .none) _ _ _
  refine wpAny_bind (wpAny_updateSeq hS rfl ?_)
  have hS2 := Heap.get?_update_self (Obj.mapSeq (fun _ => (#[] : Array Value))) hS rfl
  have oth : ∀ b o, b < s.heap.objs.size → s.heap.get? b = some o → ((s.heap.push { cls := .type "list", data := .seq #[] }).update s.heap.objs.size (Obj.mapSeq (fun _ => (#[] : Array Value)))).get? b = some o :=
    fun b o n e => (Heap.get?_update_other _ _ (Nat.ne_of_gt n)).trans (up b o e)
  refine wpAny_bind (wpAny_letGo ?_)
  refine z_extend (xs := xs) (ys := ys) (A := A.in1) hh D L hn hz .none _ (oth _ _ L.z h1) (oth _ _ L.TI h2) (oth _ _ L.TO h3) (h4.at fun o e => oth _ o L.i1 e) (h5.at fun o e => oth _ o L.i2 e) (h6.at fun o e => oth _ o L.l1 e) (h7.at fun o e => oth _ o L.l2 e) hS2 fun h' tk acc c as kp e1 e2 e3 e4 => ?_
  exact ⟨rfl, q h' tk acc c as (fun b o b1 b2 b3 b4 e => kp b o (Nat.ne_of_lt (Heap.lt_size e)) b1 b2 b3 b4 (oth b o (Heap.lt_size e) e)) e1 e2 e3 e4⟩
end

/-! ### as a rule -/
/-- pairs known at their addresses -/
def putP : Hp → List Addr → List (V × V) → Hp
  | H, a :: as, p :: ps => putP (upd H a (.tup [p.1, p.2])) as ps
  | H, _, _ => H
theorem putP_off {b : Addr} : ∀ {as : List Addr} {ps : List (V × V)} {H : Hp}, b ∉ as → putP H as ps b = H b
  | [], _, _, _ => rfl
  | _ :: _, [], _, _ => rfl
  | a :: as, p :: ps, H, h => by
    show putP (upd H a (.tup [p.1, p.2])) as ps b = H b
    rw [putP_off (fun m => h (List.mem_cons_of_mem _ m)), upd_ne (fun m => h (by rw [m]; exact List.mem_cons_self))]
theorem putP_at : ∀ {as : List Addr} {ps : List (V × V)} {H : Hp}, as.Nodup → ∀ {j : Nat} {a : Addr} {p : V × V}, as[j]? = some a → ps[j]? = some p → putP H as ps a = some (.tup [p.1, p.2])
  | a :: as, p :: ps, H, n, 0, a', p', e1, e2 => by
    cases e1
    cases e2
    show putP (upd H a (.tup [p.1, p.2])) as ps a = _
    rw [putP_off (List.nodup_cons.mp n).1, upd_same]
  | a :: as, p :: ps, H, n, j + 1, a', p', e1, e2 => putP_at (as := as) (ps := ps) (List.nodup_cons.mp n).2 (j := j) (by simpa using e1) (by simpa using e2)
  | [], _, _, _, j, _, _, e1, _ => by simp at e1
  | _ :: _, [], _, _, j, _, _, _, e2 => by simp at e2
theorem refs_vals : ∀ as : List Addr, Vals (as.map V.ref) (as.map Value.ref)
  | [] => .nil
  | _ :: as => .cons rfl (refs_vals as)
/-- list(zip(x, y)) -/
def tListZip (K : PySem.W.Frag) (ta : TA) : TE := fun σ H Q => ta σ H fun vs H1 => ∃ (a b : Addr) (xs ys : List V), vs = [.ref a, .ref b] ∧ SqT K H1 a xs ∧ SqT K H1 b ys ∧
  ∀ (H' : Hp) (p : Addr) (ts : List Addr), Ex H1 H' → H1 p = none → (∀ t ∈ ts, H1 t = none) → H' p = some (.lst (ts.map V.ref)) → ts.length = min xs.length ys.length →
    (∀ (j : Nat) (t : Addr) (x y : V), ts[j]? = some t → xs[j]? = some x → ys[j]? = some y → H' t = some (.tup [x, y])) → Q (.ref p) H'
theorem pe_listZip {X : Cx} {e e2 : Expr} {ta : TA} {p zp zpos pos : Pos} (hc : X.calm = true) (ha : PA X [e, e2] ta) (hg : Gl X "list") (hm : X.mg "list" = none) (hv : bootBuiltins "list" = some (.type "list"))
    (hgz : Gl X "zip") (hmz : X.mg "zip" = none)
    (hs : starEach [.Call (.Name "zip" zp) [e, e2] [] zpos] X.env = (false, eval (.Call (.Name "zip" zp) [e, e2] [] zpos) X.env) :: starEach [] X.env := by rfl)
    (hsz : starEach [e, e2] X.env = (false, eval e X.env) :: starEach [e2] X.env := by rfl) (hpl : (backTo zpos (starEach [e2] X.env)).any (·.1) = false := by rfl) :
    PE X (.Call (.Name "list" p) [.Call (.Name "zip" zp) [e, e2] [] zpos] [] pos) (tListZip X.K ta) := by
  refine ⟨fun pins s σ H Q I h => ?_⟩
  refine wpAny_Call_Name_kw (ld_blt I hg hm hv (PyProof.Rows.callWith_type1 ?_ hs rfl))
  rw [hs]
  show wpAny (model X.prog X.w) X.A (spliced ((false, eval (.Call (.Name "zip" zp) [e, e2] [] zpos) X.env) :: backTo pos (starEach [] X.env))) _ _ s
  refine Calls.spliced_cons ?_
  refine wpAny_Call_Name_kw (ld_blt I hgz hmz PyProof.Rows.boot_zip (PyProof.Rows.callWith_type1 (thn (ha.run zpos pins s σ H _ I h) fun us s1 ⟨vs, H1, I1, r1, q1⟩ => ?_) hsz hpl))
  obtain ⟨a, b, xs, ys, ex, qx, qy, q⟩ := q1
  subst ex
  obtain ⟨u1, u2, rfl, r1, r2⟩ := vals2 r1
  obtain rfl : u1 = Value.ref a := r1
  obtain rfl : u2 = Value.ref b := r2
  obtain ⟨its, rv, p1, z1⟩ := I1.tuple qx
  obtain ⟨its2, rv2, p2, z2⟩ := I1.tuple qy
  obtain ⟨o1, ho1, _⟩ := id p1
  obtain ⟨o2, ho2, _⟩ := id p2
  have la := Heap.lt_size ho1
  have lb := Heap.lt_size ho2
  refine call_zipT (show s1.heap.IsTuple a its.toArray from p1) (show s1.heap.IsTuple b its2.toArray from p2) fun h' hz hTI hTO j1 j2 hsz hk => ?_
  refine Calls.spliced_nil ?_
  have l1 := rv.length
  have l2 := rv2.length
  have hn : min xs.length ys.length = min its.toArray.size its2.toArray.size := by rw [List.size_toArray, List.size_toArray, l1, l2]
  have low0 : ZLow (s1.heap.objs.size + 4) (s1.heap.objs.size + 2) (s1.heap.objs.size + 3) s1.heap.objs.size (s1.heap.objs.size + 1) a b h'.objs.size := by
    rw [hsz]
    exact ⟨Nat.lt_succ_self _, Nat.add_lt_add_left (by decide) _, Nat.add_lt_add_left (by decide) _, Nat.lt_add_of_pos_right (by decide), Nat.add_lt_add_left (by decide) _, Nat.lt_add_right 5 la, Nat.lt_add_right 5 lb⟩
  refine z_call (s := { s1 with heap := h' }) (xs := its.toArray) (ys := its2.toArray) (I1.ok.hd hc) (PySem.W.ktu_apart s1.heap.objs.size a b la lb) low0 hn (by omega) hz hTI hTO j1 j2 (Heap.IsTuple.at (show s1.heap.IsTuple a its.toArray from p1) fun o e => hk _ o e) (Heap.IsTuple.at (show s1.heap.IsTuple b its2.toArray from p2) fun o e => hk _ o e) fun h2 tk acc c as kp hS hl g hacc => ?_
  dsimp only at kp hS g ⊢
  rw [hsz] at hS g ⊢
  have nd : as.Nodup := g.rise.imp fun {x y} (l : x < y) => Nat.ne_of_lt l
  have fresh : ∀ c, s1.heap.objs.size ≤ c → H1 c = none := fun c l => I1.hok.fresh l
  have newS : H1 (s1.heap.objs.size + 5) = none := fresh _ (Nat.le_add_right _ 5)
  have new : ∀ t ∈ as, H1 t = none := fun t m => fresh t (Nat.le_of_lt (Nat.lt_of_le_of_lt (Nat.le_add_right _ 5) (g.above t m)))
  have hSn : s1.heap.objs.size + 5 ∉ as := fun m => Nat.lt_irrefl _ (g.above _ m)
  let Hn := putP (upd H1 (s1.heap.objs.size + 5) (.lst (as.map V.ref))) as (xs.zip ys)
  have eS : Hn (s1.heap.objs.size + 5) = some (.lst (as.map V.ref)) := (putP_off hSn).trans upd_same
  have off : ∀ b, b ∉ as → b ≠ s1.heap.objs.size + 5 → Hn b = H1 b := fun b n1 n2 => (putP_off n1).trans (upd_ne n2)
  have ex : Ex H1 Hn := fun b o e => by
    rw [off b (fun m => by rw [new b m] at e; cases e) (fun m => by rw [m, newS] at e; cases e)]
    exact e
  have at' : ∀ (j : Nat) (t : Addr) (x y : V), as[j]? = some t → xs[j]? = some x → ys[j]? = some y → Hn t = some (.tup [x, y]) := fun j t x y e1 e2 e3 =>
    putP_at (p := (x, y)) nd e1 (by rw [List.getElem?_zip_eq_some]; exact ⟨e2, e3⟩)
  have low : ∀ b o, s1.heap.get? b = some o → b < s1.heap.objs.size := fun b o e => Heap.lt_size e
  have kp1 : ∀ b o, s1.heap.get? b = some o → h2.get? b = some o := fun b o e => by
    have l := low b o e
    exact kp b o (Nat.ne_of_lt (Nat.lt_add_right 4 l)) (Nat.ne_of_lt (Nat.lt_add_right 3 l)) (Nat.ne_of_lt l) (Nat.ne_of_lt (Nat.lt_add_right 1 l)) (hk b o e)
  refine ⟨.ref _, Hn, ?_, rfl, q Hn _ as ex newS new eS (by rw [hl, hn]) at'⟩
  refine I1.call' (ch := []) rfl ⟨fun b o e _ _ _ => kp1 b o e, fun b o e _ _ _ => ⟨o.slots, kp1 b o e⟩, fun b o e n _ => ?_, fun b o e _ => ⟨o, kp1 b o e⟩, fun b xs e => ex b _ e, fun b o u e => ex b _ e, fun b ps e => ⟨#[], by rw [ex b _ e]; simp⟩⟩ (fun b u e => ?_) I1.bare fun b m => by simp at m
  · have l := low b o e
    rw [off b (fun m => Nat.lt_irrefl _ (Nat.lt_trans (Nat.lt_add_right 5 l) (g.above b m))) (Nat.ne_of_lt (Nat.lt_add_right 5 l))]
    exact n
  · by_cases hb : b ∈ as
    · obtain ⟨j, e1⟩ := List.mem_iff_getElem?.mp hb
      obtain ⟨x, y, e2, e3, e4⟩ := g.pairs j b e1
      have f2 : its[j]? = some x := by simpa using e2
      have f3 : its2[j]? = some y := by simpa using e3
      have g2 : j < xs.length := by rw [l1]; exact (List.getElem?_eq_some_iff.mp f2).1
      have g3 : j < ys.length := by rw [l2]; exact (List.getElem?_eq_some_iff.mp f3).1
      obtain ⟨x', m2, r2⟩ := rv.get (List.getElem?_eq_getElem g2)
      obtain ⟨y', m3, r3⟩ := rv2.get (List.getElem?_eq_getElem g3)
      rw [f2] at m2
      rw [f3] at m3
      cases m2
      cases m3
      rw [at' j b xs[j] ys[j] e1 (List.getElem?_eq_getElem g2) (List.getElem?_eq_getElem g3)] at e
      cases e
      exact ⟨by show 2 ≤ sizeLine; decide, [x, y], .cons r2 (.cons r3 .nil), ⟨_, e4, rfl, _, rfl⟩⟩
    · by_cases hb2 : b = s1.heap.objs.size + 5
      · rw [hb2] at e ⊢
        rw [eS] at e
        cases e
        refine ⟨by rw [List.length_map]; omega, acc.toList, c, by rw [hacc]; exact refs_vals as, ?_⟩
        rw [Array.toArray_toList]
        exact hS
      · rw [off b hb hb2] at e
        exact (I1.hok b u e).stay (fun d v _ y => kp1 d v y) (fun d y => ex d _ y) fun d xs y => ex d _ y
end VG

set_option maxHeartbeats 1000000
/-! slices of tuples of data; pairs of two tuples -/
namespace VG
open PySem PySem.Spec PyProof.Rows L2 Evl
section
variable {K : PySem.W.Frag} {σ : L2.St} {H H' : Hp} {ta : TA} {te : TE} {tl th : TO} {d : PyData}
theorem dpAll_pt : ∀ {vs : List V} {ds : List PyData}, vs.length = ds.length → (∀ (i : Nat) v d, vs[i]? = some v → ds[i]? = some d → Dp K H v d) → DpAll K H vs ds
  | [], [], _, _ => .nil
  | [], _ :: _, h, _ => nomatch h
  | _ :: _, [], h, _ => nomatch h
  | v :: vs, d :: ds, h, f => .cons (f 0 v d rfl rfl) (dpAll_pt (Nat.succ.inj h) fun i v' d' e1 e2 => f (i + 1) v' d' (by simpa using e1) (by simpa using e2))
theorem dpAll_at : ∀ {vs : List V} {ds : List PyData}, DpAll K H vs ds → ∀ {i : Nat} {v : V} {d : PyData}, vs[i]? = some v → ds[i]? = some d → Dp K H v d := fun h i v d e1 e2 => by
  obtain ⟨d', e3, h'⟩ := dpAll_get h e1
  rw [e2] at e3
  cases e3
  exact h'
/-- list(zip(x, y)) -/
theorem ed_listZip {ds es : List PyData} (h : EvDA K ta σ H [.tuple ds, .tuple es]) : EvD K (tListZip K ta) σ H (.list ((ds.zip es).map fun p => .tuple [p.1, p.2])) := fun H1 e Q q =>
  h H1 e _ fun vs H2 e2 hvs => by
    obtain ⟨v1, v2, rfl, h1, h2⟩ : ∃ v1 v2, vs = [v1, v2] ∧ Dp K (hid H H1 H2) v1 (.tuple ds) ∧ Dp K (hid H H1 H2) v2 (.tuple es) := by
      cases hvs with
      | cons h1 t =>
        cases t with
        | cons h2 t =>
          cases t
          exact ⟨_, _, rfl, h1, h2⟩
    obtain ⟨a, xs, rfl, s1, s2⟩ := dp_tup h1
    obtain ⟨b, ys, rfl, t1, t2⟩ := dp_tup h2
    refine ⟨a, b, xs, ys, rfl, sqT_same hid_ex s1, sqT_same hid_ex t1, fun H3 p ts e3 np nts hp hl hat => ?_⟩
    have l1 := dpAll_len s2
    have l2 := dpAll_len t2
    have old : Ex (hid H H1 H2) (hid H H1 H3) := hid_on e3
    refine q _ H3 (e2.trans e3) (.lst (.inl (.inl ((hid_new (ex_none e2 np)).trans hp))) (dpAll_pt ?_ ?_))
    · rw [List.length_map, hl, List.length_map, List.length_zip, l1, l2]
    · intro i v d e1 e4
      rw [List.getElem?_map] at e1 e4
      obtain ⟨t, f1, rfl⟩ := Option.map_eq_some_iff.mp e1
      obtain ⟨⟨x, y⟩, f2, rfl⟩ := Option.map_eq_some_iff.mp e4
      obtain ⟨g1, g2⟩ := List.getElem?_zip_eq_some.mp f2
      have k1 : i < xs.length := by rw [l1]; exact (List.getElem?_eq_some_iff.mp g1).1
      have k2 : i < ys.length := by rw [l2]; exact (List.getElem?_eq_some_iff.mp g2).1
      have m1 : xs[i]? = some xs[i] := List.getElem?_eq_getElem k1
      have m2 : ys[i]? = some ys[i] := List.getElem?_eq_getElem k2
      have ht := hat i t _ _ f1 m1 m2
      have nt : H1 t = none := ex_none e2 (nts t (List.mem_of_getElem? f1))
      exact .tup (.inl (.inl ((hid_new nt).trans ht))) (.cons (dp_same old (dpAll_at s2 m1 g1)) (.cons (dp_same old (dpAll_at t2 m2 g2)) .nil))
theorem ed_lenT {te : TE} {ds : List PyData} (ha : EvD K te σ H (.tuple ds)) : EvD K (tCB (rLenK K) (tCons te tNil)) σ H (.int (ds.length : Int)) := fun H1 e Q q =>
  ha H1 e _ fun x H2 e2 hx => by
    obtain ⟨a, xs, rfl, h1, h2⟩ := dp_tup hx
    refine ⟨a, xs, rfl, .inr (sqT_same hid_ex h1), ?_⟩
    rw [dpAll_len h2]
    exact q _ H2 e2 (.int _)
/-- a + b, tuples -/
theorem ed_catA {ta tb : TE} {ds es : List PyData} (ha : EvD K ta σ H (.tuple ds)) (hb : EvD K tb σ H (.tuple es)) (hl : ds.length + es.length ≤ 100000) : EvD K (tOp (rCatA K) ta tb) σ H (.tuple (ds ++ es)) :=
  ed_op ha hb fun x y H' e hx hy => by
    obtain ⟨a, xs, rfl, s1, s2⟩ := dp_tup hx
    obtain ⟨b, ys, rfl, t1, t2⟩ := dp_tup hy
    have l1 := dpAll_len s2
    have l2 := dpAll_len t2
    intro H1 e1 Q q
    have up : ∀ {H2 : Hp}, Ex H1 H2 → Ex H' (hid H' H1 H2) := fun h => hid_base e1 h
    refine ⟨a, b, xs, ys, rfl, rfl, sqT_same e1 s1, sqT_same e1 t1, sz_of (by omega), fun h => ?_, fun h1 h2 => ?_, fun h1 h2 p hp => ?_⟩
    · subst h
      cases s2
      exact q _ H1 (Ex.refl _) (.tup (sqT_same (up (Ex.refl _)) t1) (dpAll_same (up (Ex.refl _)) t2))
    · subst h2
      cases t2
      rw [List.append_nil] at q
      exact q _ H1 (Ex.refl _) (.tup (sqT_same (up (Ex.refl _)) s1) (dpAll_same (up (Ex.refl _)) s2))
    · exact q _ _ (Ex.new hp) (.tup (.inl (.inl ((hid_new hp).trans upd_same))) (dpAll_same (up (Ex.new hp)) (dpAll_app s2 t2)))
/-! ### slices -/
theorem eo_int {i : Int} (h : EvD K te σ H (.int i)) : EvO (tPart te) σ H (some i) := fun H1 e Q q => h H1 e _ fun v H2 e2 hv => by
  cases hv
  exact ⟨i, rfl, q H2 e2⟩
def cutA {α : Type} (xs : List α) (lo hi : Option Int) : List α := (xs.drop (HT.sIx xs.length 0 lo)).take (HT.sIx xs.length xs.length hi - HT.sIx xs.length 0 lo)
theorem dpAll_drop : ∀ {vs : List V} {ds : List PyData} (n : Nat), DpAll K H vs ds → DpAll K H (vs.drop n) (ds.drop n)
  | _, _, 0, h => h
  | _, _, n + 1, .nil => .nil
  | _, _, n + 1, .cons _ t => dpAll_drop n t
theorem dpAll_take : ∀ {vs : List V} {ds : List PyData} (n : Nat), DpAll K H vs ds → DpAll K H (vs.take n) (ds.take n)
  | _, _, 0, _ => .nil
  | _, _, n + 1, .nil => .nil
  | _, _, n + 1, .cons h t => .cons h (dpAll_take n t)
theorem dpAll_cut {vs : List V} {ds : List PyData} (lo hi : Option Int) (h : DpAll K H vs ds) : DpAll K H (cutV vs lo hi) (cutA ds lo hi) := by
  have l := dpAll_len h
  unfold cutV cutA
  rw [l]
  exact dpAll_take _ (dpAll_drop _ h)
theorem ed_slT {ds : List PyData} {lo hi : Option Int} (h : EvD K te σ H (.tuple ds)) (h1 : EvO tl σ H lo) (h2 : EvO th σ H hi) : EvD K (tSl (rSlA K) te tl th) σ H (.tuple (cutA ds lo hi)) := fun H1 e Q q =>
  h H1 e _ fun v H2 e2 hv => h1 H2 (e.trans e2) _ fun H3 e3 => h2 H3 ((e.trans e2).trans e3) _ fun H4 e4 => by
    obtain ⟨a, xs, rfl, s1, s2⟩ := dp_tup hv
    have l := dpAll_len s2
    have up : Ex (hid H H1 H2) (hid H H1 H4) := hid_on (e3.trans e4)
    have en : Ex H1 H4 := (e2.trans e3).trans e4
    refine ⟨a, xs, rfl, sqT_same (hid_ex.trans (e3.trans e4)) s1, fun hw => ?_, fun hw p hp => ?_⟩
    · refine q _ H4 en (.tup (sqT_same up s1) ?_)
      have c : cutA ds lo hi = ds := by
        unfold cutA
        rw [← l, hw.1, hw.2, List.drop_zero, Nat.sub_zero, l, List.take_length]
      rw [c]
      exact dpAll_same up s2
    · refine q _ _ (en.trans (Ex.new hp)) (.tup (.inl (.inl ((hid_new (ex_none en hp)).trans upd_same))) ?_)
      exact dpAll_same (hid_on ((e3.trans e4).trans (Ex.new hp))) (dpAll_cut lo hi s2)
theorem cut_tail {α : Type} (xs : List α) : cutA xs (some 1) none = xs.drop 1 := by
  unfold cutA
  rw [HT.sIx_none, show (1 : Int) = ((1 : Nat) : Int) from rfl, HT.sIx_nat]
  cases xs with
  | nil => rfl
  | cons x xs =>
    have e : min 1 (x :: xs).length = 1 := by
      rw [List.length_cons]
      omega
    rw [e, List.drop_one, List.tail_cons]
    exact List.take_of_length_le (by rw [List.length_cons]; omega)
theorem cut_head {α : Type} (xs : List α) (k : Nat) : cutA xs none (some (k : Int)) = xs.take k := by
  unfold cutA
  rw [HT.sIx_none, HT.sIx_nat, List.drop_zero, Nat.sub_zero]
  by_cases h : k ≤ xs.length
  · rw [Nat.min_eq_left h]
  · rw [Nat.min_eq_right (by omega), List.take_length, List.take_of_length_le (by omega)]
theorem cut_one {α : Type} (xs : List α) (k : Nat) : cutA xs (some (k : Int)) (some ((k : Int) + 1)) = (xs[k]?).toList := by
  unfold cutA
  rw [show (k : Int) + 1 = ((k + 1 : Nat) : Int) from by omega, HT.sIx_nat, HT.sIx_nat]
  by_cases h : k < xs.length
  · rw [Nat.min_eq_left (by omega), Nat.min_eq_left (by omega), List.getElem?_eq_getElem h, show k + 1 - k = 1 by omega, List.drop_eq_getElem_cons h]
    rfl
  · rw [Nat.min_eq_right (by omega), Nat.min_eq_right (by omega), List.getElem?_eq_none (by omega), Nat.sub_self, List.take_zero]
    rfl
end
theorem op_catAK {X : Cx} (K : PySem.W.Frag) (h : X.K = K := by rfl) : OpR X (binaryOp .Add) (rCatA K) := h ▸ op_catA
theorem sl_tupAK {X : Cx} (K : PySem.W.Frag) (h : X.K = K := by rfl) : SlR X (rSlA K) := h ▸ sl_tupA
theorem pe_listZipK {X : Cx} (K : PySem.W.Frag) {e e2 : Expr} {ta : TA} {p zp zpos pos : Pos} (hc : X.calm = true) (ha : PA X [e, e2] ta) (hg : Gl X "list") (hm : X.mg "list" = none) (hv : bootBuiltins "list" = some (.type "list"))
    (hgz : Gl X "zip") (hmz : X.mg "zip" = none) (h : X.K = K := by rfl)
    (hs : starEach [.Call (.Name "zip" zp) [e, e2] [] zpos] X.env = (false, eval (.Call (.Name "zip" zp) [e, e2] [] zpos) X.env) :: starEach [] X.env := by rfl)
    (hsz : starEach [e, e2] X.env = (false, eval e X.env) :: starEach [e2] X.env := by rfl) (hpl : (backTo zpos (starEach [e2] X.env)).any (·.1) = false := by rfl) :
    PE X (.Call (.Name "list" p) [.Call (.Name "zip" zp) [e, e2] [] zpos] [] pos) (tListZip K ta) := h ▸ pe_listZip hc ha hg hm hv hgz hmz hs hsz hpl
end VG

set_option maxHeartbeats 3200000
/-! set(x) of a list of whole numbers; sorted(set(x)) -/
namespace VG
open PySem PySem.Spec PyProof.Rows L2 Evl
/-- a set as it is made -/
abbrev set0 (w : World) : Obj := { cls := .type "set", dict := none, data := .set #[] 0 (.fresh 0 0 (!w.params.followText "set-order")) }
section
variable {P : Program} {w : World} {A : Around} {E : Value → Shared → Prop} {s : Shared}
theorem set_of_list {l : Addr} {items : Array Value} (ns : List Int) {Q : Value → Shared → Prop} (hh : A.handled = none) (hl : s.heap.IsList l items) (hi : IntsAre items.toList ns) (hb : ns.length + 1 < scanBound)
    (q : ∀ (h' : Heap) (tk c : Nat), SetR w h' s.heap.objs.size (fun j => decide (j ∈ ns)) c → c ≤ ns.length → (∀ b o, s.heap.get? b = some o → h'.get? b = some o) → Q (.ref s.heap.objs.size) { s with heap := h', toks := tk }) :
    wpAny (model P w) A (call (.type "set") [.ref l]) Q E s := by
  have lenI : items.size = ns.length := by
    have z := IntsAre.length hi
    rw [Array.length_toList] at z
    exact z
  have noType := F.called_set.notType
  have canC := F.called_set.canCreate
  have here := F.called_set.made
  have selfS := F.called_set.sub
  obtain ⟨mc, mt, hmro⟩ := F.called_set.mro
  have tc1 := F.typeCall_set_1 (.ref l)
  refine wpAny_call (codeAny_of_tree ?_)
  show wpAny (model P w) _ (callAny (.type "set") _) _ _ s
  refine wpAny_pure ⟨Code.quiet_builtin _ (by decide +kernel), codeAny_builtin F.entry_type_call ?_⟩
  rw [Around.under_plain (weight_type_call_type "set" [.ref l] []) rfl]
  repeat (any_goals (first | assumption | wp_step))
  refine codeAny_mono (code_set_led1 (.ref l) (E := E) (Q₁ := fun v s1 => v = .ref s.heap.objs.size ∧ s1 = { s with heap := s.heap.push (set0 w) }) ⟨rfl, rfl⟩) fun r s1 hr => ?_
  cases r with
  | error e => exact hr
  | ok fl =>
    cases fl with
    | next => exact hr.elim
    | brk => exact hr.elim
    | cont => exact hr.elim
    | ret v =>
      obtain ⟨rfl, rfl⟩ := hr
      have at0 : (s.heap.push (set0 w)).get? s.heap.objs.size = some (set0 w) := Heap.get?_push_size _ rfl
      have ty : Shared.TypeIs { s with heap := s.heap.push (set0 w) } (.ref s.heap.objs.size) "set" := ⟨_, at0, rfl⟩
      have lkI := F.called_set.init.lookup
      have bdI := F.called_set.init.bind (.ref s.heap.objs.size)
      repeat (any_goals (first | assumption | wp_step))
      refine codeAny_mono (codeAny_call_builtin (R := wants (fun r s2 => r = .none ∧ ∃ h' tk c, s2 = { s with heap := h', toks := tk } ∧ SetR w h' s.heap.objs.size (fun j => decide (j ∈ ns)) c ∧ c ≤ ns.length ∧
        ∀ b o, s.heap.get? b = some o → h'.get? b = some o) E) F.called_set.init.plain F.entry_set_init (check_set_init_1 ty ?_)) fun r2 s2 hr2 => ?_
      · obtain ⟨⟨c0, d0, t0, x0⟩, go, rfl, nl, rfl⟩ := hl
        have go' : (s.heap.push (set0 w)).get? l = some { cls := .type "list", dict := d0, data := .seq items nl, slots := x0 } := Heap.get?_push_of_some _ go
        have isl : (s.heap.push (set0 w)).IsList l items := ⟨_, go', rfl, nl, rfl⟩
        have sub1 := F.sub_list_set
        have sub2 := F.sub_list_frozenset
        have nod : (Value.type "list" == Value.type "dict") = false := by decide
        unfold Builtin.«set.__init__» noKeywords Builtin.Frozenset.updateFrom
        generalize itE : pyIter = PI
        wp_walk
        subst itE
        refine wpAny_pyIter_list isl ?_
        refine wpAny_bind (wpAny_runValue ?_)
        have ltl : l < s.heap.objs.size := Heap.lt_size go
        have h3 : A.in1.in1.in1.handled = none := by simp [hh]
        have sz1 : (s.heap.push (set0 w)).objs.size = s.heap.objs.size + 1 := Heap.size_push ..
        have lne : l ≠ (s.heap.push (set0 w)).objs.size := by
          rw [sz1]
          exact Nat.ne_of_lt (Nat.lt_succ_of_lt ltl)
        have off : s.heap.objs.size ∉ [(s.heap.push (set0 w)).objs.size, l] := by
          rw [sz1]
          intro m
          rcases List.mem_cons.mp m with z | z
          · exact Nat.ne_of_lt (Nat.lt_succ_self _) z
          · exact Nat.ne_of_gt ltl (List.mem_singleton.mp z)
        have vals : ∀ (i : Nat) (v : Value), items[i]? = some v → ∃ k t, ns[i]? = some k ∧ v = .int k t := fun i v hv => by
          have li : i < ns.length := by
            rw [← lenI]
            exact (Array.getElem?_eq_some_iff.mp hv).1
          obtain ⟨t, e⟩ := PyProof.Rows.IntsAre.int_at hi i v (by rw [Array.getElem?_toList]; exact hv)
          refine ⟨ns[i], t, List.getElem?_eq_getElem li, ?_⟩
          rw [e, List.getD_eq_getElem?_getD, List.getElem?_eq_getElem li]
          rfl
        refine set_update_ints ((Walks.list h3 _ l lne items).toS) s.heap.objs.size off ns lenI hb vals (items.size - 0) 0 _ (by omega) (Nat.zero_le _) ⟨⟨_, Heap.get?_push_size _ rfl, rfl, rfl⟩, isl.push _⟩ ?first ?last
        case first => exact ⟨0, Nat.le_refl 0, setR_new_at (Heap.get?_push_of_some _ at0)⟩
        case last =>
          intro s3 c mv lc R
          obtain ⟨h', g3, d3, tk', o3⟩ := s3
          obtain rfl : g3 = s.gens := mv.gens
          obtain rfl : d3 = s.drawn := mv.drawn
          obtain rfl : o3 = s.os := mv.os
          refine wpAny_pure ?_
          show wpAny (model P w) _ (ret Value.none) _ _ _
          rw [lenI] at lc
          refine wpAny_pure ⟨rfl, h', tk', c, rfl, R, lc, fun b o e => ?_⟩
          have lb : b < s.heap.objs.size := Heap.lt_size e
          refine mv.heap b o (fun m => ?_) (Heap.get?_push_of_some _ (Heap.get?_push_of_some _ e))
          rcases List.mem_cons.mp m with z | z
          · exact Nat.ne_of_lt lb z
          · have z := List.mem_singleton.mp z
            rw [sz1] at z
            exact Nat.ne_of_lt (Nat.lt_succ_of_lt lb) z
      · cases r2 with
        | error e => exact hr2
        | ok f2 =>
          cases f2 with
          | next => exact hr2.elim
          | brk => exact hr2.elim
          | cont => exact hr2.elim
          | ret r =>
            obtain ⟨rfl, h', tk, c, rfl, R, lc, kp⟩ := hr2
            repeat (any_goals (first | assumption | wp_step))
            exact q _ _ _ R lc kp
end
/-- set(x), x a list of whole numbers -/
def rSetL (K : PySem.W.Frag) (w : World) : List V → Hp → VK → Prop := fun xs H Q => ∃ (a : Addr) (ns : List Int), xs = [.ref a] ∧ SqL K H a (ns.map V.int) ∧ ns.length + 1 < scanBound ∧
  ∀ (p : Addr) (c : Nat), c ≤ ns.length → H p = none → Q (.ref p) (upd H p (SetO w p (fun j => decide (j ∈ ns)) c))
theorem cr_setL {X : Cx} (K : PySem.W.Frag) (w : World) (hc : X.calm = true) (hK : X.K = K := by rfl) (hw : X.w = w := by rfl) : CallR X (.type "set") (rSetL K w) := by
  subst hK
  subst hw
  intro pins s σ H xs us Q I r h
  obtain ⟨a, ns, rfl, hs, hb, q⟩ := h
  obtain ⟨its, rv, hl, hz⟩ := I.list hs
  rw [Vals.ref1 r]
  refine set_of_list ns (I.ok.hd hc) hl.isList (by simpa using rv.ints) hb fun h' tk c R lc kp => ?_
  exact ⟨.ref _, upd H s.heap.objs.size (SetO X.w s.heap.objs.size (fun j => decide (j ∈ ns)) c), I.laid (t' := tk) kp (Nat.le_refl _) (setO_new R), rfl, q _ c lc (I.hok.fresh (Nat.le_refl _))⟩
theorem cr_sortedSetW {X : Cx} (w : World) (hc : X.calm = true) (h : X.w = w := by rfl) : CallR X (.builtin "sorted") (rSortedSet w) := h ▸ cr_sortedSet hc
/-! ### what comes out -/
def insU (x : Int) : List Int → List Int
  | [] => [x]
  | y :: r => if x < y then x :: y :: r else if x = y then y :: r else y :: insU x r
def ssetM : List Int → List Int
  | [] => []
  | x :: r => insU x (ssetM r)
theorem insU_mem {x k : Int} : ∀ {l : List Int}, k ∈ insU x l ↔ k = x ∨ k ∈ l
  | [] => by
    show k ∈ [x] ↔ _
    rw [List.mem_singleton]
    exact ⟨.inl, fun h => h.elim id fun z => absurd z List.not_mem_nil⟩
  | y :: r => by
    show k ∈ (if _ then _ else _) ↔ _
    split
    · rw [List.mem_cons]
    · rename_i h
      split
      · rename_i e
        subst e
        constructor
        · exact .inr
        · rintro (rfl | h)
          · exact List.mem_cons_self
          · exact h
      · rw [List.mem_cons, insU_mem, List.mem_cons]
        constructor
        · rintro (h | h | h)
          · exact .inr (.inl h)
          · exact .inl h
          · exact .inr (.inr h)
        · rintro (h | h | h)
          · exact .inr (.inl h)
          · exact .inl h
          · exact .inr (.inr h)
theorem insU_asc {x : Int} : ∀ {l : List Int}, l.Pairwise (· < ·) → (insU x l).Pairwise (· < ·)
  | [], _ => List.pairwise_singleton _ _
  | y :: r, h => by
    have hh := List.pairwise_cons.mp h
    show (if _ then _ else _ : List Int).Pairwise (· < ·)
    split
    · rename_i c
      refine List.pairwise_cons.mpr ⟨fun z hz => ?_, h⟩
      rcases List.mem_cons.mp hz with e | e
      · rw [e]
        exact c
      · exact Int.lt_trans c (hh.1 z e)
    · split
      · exact h
      · refine List.pairwise_cons.mpr ⟨fun z hz => ?_, insU_asc hh.2⟩
        rcases insU_mem.mp hz with e | e
        · omega
        · exact hh.1 z e
theorem sset_mem {k : Int} : ∀ {l : List Int}, k ∈ ssetM l ↔ k ∈ l
  | [] => Iff.rfl
  | x :: r => by
    show k ∈ insU x (ssetM r) ↔ _
    rw [insU_mem, sset_mem, List.mem_cons]
theorem sset_asc : ∀ l : List Int, (ssetM l).Pairwise (· < ·)
  | [] => List.Pairwise.nil
  | _ :: r => insU_asc (sset_asc r)
theorem asc_one : ∀ {l m : List Int}, l.Pairwise (· < ·) → m.Pairwise (· < ·) → (∀ k, k ∈ l ↔ k ∈ m) → l = m
  | [], [], _, _, _ => rfl
  | [], y :: m, _, _, h => absurd ((h y).mpr List.mem_cons_self) List.not_mem_nil
  | x :: l, [], _, _, h => absurd ((h x).mp List.mem_cons_self) List.not_mem_nil
  | x :: l, y :: m, hl, hm, h => by
    have pl := List.pairwise_cons.mp hl
    have pm := List.pairwise_cons.mp hm
    have e : x = y := by
      rcases List.mem_cons.mp ((h x).mp List.mem_cons_self) with e | e
      · exact e
      · rcases List.mem_cons.mp ((h y).mpr List.mem_cons_self) with e2 | e2
        · exact e2.symm
        · have := pl.1 y e2
          have := pm.1 x e
          omega
    subst e
    rw [asc_one pl.2 pm.2 fun k => ⟨fun z => by
      rcases List.mem_cons.mp ((h k).mp (List.mem_cons_of_mem _ z)) with e | e
      · have := pl.1 k z
        omega
      · exact e, fun z => by
      rcases List.mem_cons.mp ((h k).mpr (List.mem_cons_of_mem _ z)) with e | e
      · have := pm.1 k z
        omega
      · exact e⟩]
/-- sorted(set(x)) -/
theorem ed_sortedSet {K : PySem.W.Frag} {w : World} {σ : L2.St} {H : Hp} {ta : TE} {ns : List Int} (ha : EvD K ta σ H (.list (ns.map PyData.int))) (hz : ns.length < 64) :
    EvD K (tCB (rSortedSet w) (tCons (tCB (rSetL K w) (tCons ta tNil)) tNil)) σ H (.list ((ssetM ns).map PyData.int)) := fun H1 e Q q =>
  ha H1 e _ fun x H2 e2 hx => by
    obtain ⟨a, xs, rfl, h1, h2⟩ := dp_lst hx
    rw [vals_of_ints h2] at h1
    refine ⟨a, ns, rfl, ex_l hid_ex h1, by unfold scanBound; omega, fun p c hc hp => ?_⟩
    refine ⟨p, _, c, rfl, upd_same, by omega, fun ms p2 m1 m2 m3 hp2 => ?_⟩
    have em : ms = ssetM ns := asc_one m1 (sset_asc ns) fun k => by
      rw [m2 k, sset_mem, decide_eq_true_eq]
    subst em
    have e3 : Ex H2 (upd (upd H2 p (SetO w p (fun j => decide (j ∈ ns)) c)) p2 (.lst ((ssetM ns).map V.int))) := (Ex.new hp).trans (Ex.new hp2)
    exact q _ _ (e2.trans e3) (.lst (.inl (.inl ((hid_new (ex_none (e2.trans (Ex.new hp)) hp2)).trans upd_same))) (dpAll_ints _))
end VG

set_option maxHeartbeats 1000000
/-! data told alike or not; whether data is in a list of data -/
namespace VG
open PySem PySem.Spec PyProof.Rows L2 Evl
def rEqP (K : PySem.W.Frag) : R2 := fun x y H Q => ∃ d e, Dp K H x d ∧ Dp K H y e ∧ d.plain = true ∧ e.plain = true ∧ d.depth ≤ 60 ∧ Q (.bl (PyData.eqv d e)) H
def rNeP (K : PySem.W.Frag) : R2 := fun x y H Q => ∃ d e, Dp K H x d ∧ Dp K H y e ∧ d.plain = true ∧ e.plain = true ∧ d.depth ≤ 60 ∧ Q (.bl (!PyData.eqv d e)) H
def rNotInP (K : PySem.W.Frag) : R2 := fun x y H Q => ∃ d es, Dp K H x d ∧ Dp K H y (.list es) ∧ d.plain = true ∧ PyData.plainAll es = true ∧ d.depth ≤ 60 ∧ Q (.bl (!es.any fun e => PyData.eqv e d)) H
section
variable {X : Cx}
theorem op_eqP (K : PySem.W.Frag) (hu : X.A.units + 200 < cLine) (hK : X.K = K := by rfl) : OpR X (compareOp .Eq) (rEqP K) := by
  subst hK
  intro pins s σ H x y v u Q I rx ry h
  obtain ⟨d, e, hd, he, pd, pe, hl, q⟩ := h
  obtain ⟨as, r1⟩ := Dp.reads I d x v hd rx
  obtain ⟨bs, r2⟩ := Dp.reads I e y u he ry
  exact SeqAt.eq_plain r1 r2 pd pe (by omega) ⟨.bl _, H, I, rfl, q⟩
theorem op_neP (K : PySem.W.Frag) (hu : X.A.units + 200 < cLine) (hK : X.K = K := by rfl) : OpR X (compareOp .NotEq) (rNeP K) := by
  subst hK
  intro pins s σ H x y v u Q I rx ry h
  obtain ⟨d, e, hd, he, pd, pe, hl, q⟩ := h
  obtain ⟨as, r1⟩ := Dp.reads I d x v hd rx
  obtain ⟨bs, r2⟩ := Dp.reads I e y u he ry
  exact SeqAt.ne_plain r1 r2 pd pe (by omega) ⟨.bl _, H, I, rfl, q⟩
theorem op_notInP (K : PySem.W.Frag) (hu : X.A.units + 200 < cLine) (hK : X.K = K := by rfl) : OpR X (compareOp .NotIn) (rNotInP K) := by
  subst hK
  intro pins s σ H x y v u Q I rx ry h
  obtain ⟨d, es, hd, he, pd, pe, hl, q⟩ := h
  obtain ⟨as, r1⟩ := Dp.reads I d x v hd rx
  obtain ⟨bs, r2⟩ := Dp.reads I (.list es) y u he ry
  exact SeqAt.notIn_list_data r2 r1 pe pd (by omega) ⟨.bl _, H, I, rfl, q⟩
end
section
variable {K : PySem.W.Frag} {σ : L2.St} {H : Hp} {ta tb : TE} {d e : PyData}
theorem ed_neP (ha : EvD K ta σ H d) (hb : EvD K tb σ H e) (pd : d.plain = true) (pe : e.plain = true) (hl : d.depth ≤ 60) : EvD K (tOp (rNeP K) ta tb) σ H (.bool (!PyData.eqv d e)) :=
  ed_op ha hb fun x y H' e' hx hy H1 e1 Q q => ⟨d, e, dp_same e1 hx, dp_same e1 hy, pd, pe, hl, q _ H1 (Ex.refl _) (.bl _)⟩
theorem ed_eqP (ha : EvD K ta σ H d) (hb : EvD K tb σ H e) (pd : d.plain = true) (pe : e.plain = true) (hl : d.depth ≤ 60) : EvD K (tOp (rEqP K) ta tb) σ H (.bool (PyData.eqv d e)) :=
  ed_op ha hb fun x y H' e' hx hy H1 e1 Q q => ⟨d, e, dp_same e1 hx, dp_same e1 hy, pd, pe, hl, q _ H1 (Ex.refl _) (.bl _)⟩
theorem ed_notInP {es : List PyData} (ha : EvD K ta σ H d) (hb : EvD K tb σ H (.list es)) (pd : d.plain = true) (pe : PyData.plainAll es = true) (hl : d.depth ≤ 60) : EvD K (tOp (rNotInP K) ta tb) σ H (.bool (!es.any fun e => PyData.eqv e d)) :=
  ed_op ha hb fun x y H' e' hx hy H1 e1 Q q => ⟨d, es, dp_same e1 hx, dp_same e1 hy, pd, pe, hl, q _ H1 (Ex.refl _) (.bl _)⟩
/-- unlike data of one kind -/
theorem ed_neSameP (ha : EvD K ta σ H d) (hb : EvD K tb σ H d) (pd : d.plain = true) (hl : d.depth ≤ 60) : EvD K (tOp (rNeP K) ta tb) σ H (.bool false) := by
  have h := ed_neP ha hb pd pd hl
  rw [SeqAt.eqv_refl_plain d pd] at h
  exact h
end
/-- two numbers -/
def nnD (p : Nat × Nat) : PyData := .tuple [.int (p.1 : Nat), .int (p.2 : Nat)]
theorem nnD_plain (p : Nat × Nat) : (nnD p).plain = true := rfl
theorem nnD_all : ∀ ps : List (Nat × Nat), PyData.plainAll (ps.map nnD) = true
  | [] => rfl
  | p :: ps => by
    rw [List.map_cons, PyData.plainAll, nnD_plain, nnD_all ps]
    rfl
theorem nnD_eqv (p q : Nat × Nat) : PyData.eqv (nnD p) (nnD q) = decide (p = q) := by
  obtain ⟨a, b⟩ := p
  obtain ⟨c, d⟩ := q
  unfold nnD
  simp [PyData.eqv, PyData.eqvAll]
  have h : ∀ x y : Nat, ((x : Int) == (y : Int)) = decide (x = y) := fun x y => by
    rw [Bool.eq_iff_iff, beq_iff_eq, decide_eq_true_eq]
    omega
  rw [h, h]
theorem nnD_any (ps : List (Nat × Nat)) (p : Nat × Nat) : ((ps.map nnD).any fun e => PyData.eqv e (nnD p)) = decide (p ∈ ps) := by
  rw [List.any_map]
  induction ps with
  | nil => rfl
  | cons q ps ih =>
    rw [List.any_cons, ih]
    show (PyData.eqv (nnD q) (nnD p) || _) = _
    rw [nnD_eqv]
    by_cases h : q = p
    · subst h
      simp
    · have h' : ¬ p = q := fun z => h z.symm
      simp [h, h']
end VG

set_option maxHeartbeats 2000000
/-! sorted(t) of a tuple of pairs that ascend -/
namespace VG
open PySem PySem.Spec PyProof.Rows L2 Evl
/-- the whole numbers that a pair at an address holds -/
def ivOf : Value → Int
  | .int i _ => i
  | _ => 0
def kOf (h : Heap) : Value → Int × Int
  | .ref t => match h.get? t with
    | some o => match o.data with
      | .seq items _ => (ivOf (items.getD 0 .none), ivOf (items.getD 1 .none))
      | _ => (0, 0)
    | none => (0, 0)
  | _ => (0, 0)
section
variable {P : Program} {w : World} {A : Around} {E : Value → Shared → Prop} {s : Shared}
theorem collect_tup {t : Addr} {o : Obj} {n : Nat} {items : Array Value} {Q : List Value → Shared → Prop} (ho : s.heap.get? t = some o) (hc : o.cls = .type "tuple") (hd : o.data = .seq items n) (hz : items.size ≤ sizeLine)
    (q : Q items.toList { s with heap := (s.heap.push (seqObj "list" #[] 0)).update s.heap.objs.size (Obj.mapSeq (· ++ items)) }) : wpAny (model P w) A (collect (.ref t)) Q E s := by
  have at0 : (s.heap.push (seqObj "list" #[] 0)).get? s.heap.objs.size = some (seqObj "list" #[] 0) := Heap.get?_push_size _ rfl
  have at1 := Heap.get?_update_self (Obj.mapSeq (· ++ items)) at0 rfl
  have last : wpAny (model P w) A (do
      let o ← load s.heap.objs.size
      match o.data with
      | .seq xs _ => pure xs.toList
      | _ => unsupported "internal:collect") Q E { s with heap := (s.heap.push (seqObj "list" #[] 0)).update s.heap.objs.size (Obj.mapSeq (· ++ items)) } := by
    refine wpAny_bind (wpAny_load at1 (wpAny_pure ?_))
    show Q ((#[] : Array Value) ++ items).toList _
    rw [show ((#[] : Array Value) ++ items).toList = items.toList by simp]
    exact q
  unfold collect
  refine wpAny_bind (wpAny_runValue (codeAny_builtin entry_proto_collect' ?_))
  rw [Around.under_plainId PySem.F.plain_proto_collect _]
  show wpAny (model P w) _ (newList [] >>= fun x => again (.builtin "list.__iadd__" ⟨[x, .ref t], []⟩)) _ _ s
  refine wpAny_bind (wpAny_newList (wpAny_pure ⟨plainId_quiet PySem.F.plain_list_iadd _, codeAny_builtin entry_list_iadd' ?_⟩))
  rw [Around.under_plainId PySem.F.plain_list_iadd _]
  show wpAny (model P w) _ (Builtin.List.listExtendWith (.ref s.heap.objs.size) (.ref t) (.ref s.heap.objs.size)) _ _ { s with heap := s.heap.push (seqObj "list" #[] 0) }
  refine wpAny_mono (wpAny_extend_seq (hsz := hz) (A := A) (R := fun r s2 => r = .ok (.ret (.ref s.heap.objs.size)) ∧ s2 = { s with heap := (s.heap.push (seqObj "list" #[] 0)).update s.heap.objs.size (Obj.mapSeq (· ++ items)) })
    (s := { s with heap := s.heap.push (seqObj "list" #[] 0) }) _ t _ 0 (.inr rfl) at0 (Heap.get?_push_of_some _ ho) hc hd ⟨rfl, rfl⟩) (fun r s2 h => ?_) fun e s2 h => absurd h.1 (by simp)
  cases r with
  | done f =>
    obtain ⟨e, rfl⟩ := h
    cases e
    exact last
  | again cd => exact ⟨h.1, codeAny_mono h.2 fun r s3 hr => by
      obtain ⟨rfl, rfl⟩ := hr
      exact last⟩
theorem sorted_tup {t : Addr} {vs : List Value} {k : Value → Int × Int} {Q : Value → Shared → Prop} (ht : s.heap.IsTuple t vs.toArray) (hz : vs.length ≤ sizeLine) (hp : ∀ v ∈ vs, Srt.IsPair s.heap v (k v).1 (k v).2)
    (q : ∀ (h' : Heap) (d : Addr) (out : List Value), SrtO.Srtd (fun v u => SrtO.lexB (k v) (k u)) out → SrtO.Stb (fun v u => SrtO.lexB (k v) (k u)) out vs → (∀ b o, s.heap.get? b = some o → h'.get? b = some o) → s.heap.objs.size ≤ d →
      (∃ n, h'.get? d = some (seqObj "list" out.toArray n)) → Q (.ref d) { s with heap := h' }) :
    wpAny (model P w) A (call (.builtin "sorted") [.ref t]) Q E s := by
  obtain ⟨o, ho, hc, n, hd⟩ := ht
  refine Calls.call_function_entry kind_sorted plain_sorted entry_sorted (args_sorted1 _) ?_
  unfold Builtin.«sorted»
  refine wpAny_bind (m := checkCount "sorted" 1 1 _) (wpAny_pure ?_)
  refine wpAny_bind (collect_tup ho hc hd (by rw [List.size_toArray]; exact hz) ?_)
  rw [List.toList_toArray]
  have k1 : ∀ b o, s.heap.get? b = some o → ((s.heap.push (seqObj "list" #[] 0)).update s.heap.objs.size (Obj.mapSeq (· ++ vs.toArray))).get? b = some o := fun b o e =>
    (Heap.get?_update_other _ _ (Nat.ne_of_gt (Heap.lt_size e))).trans (Heap.get?_push_of_some _ e)
  have le1 : s.heap.objs.size ≤ ((s.heap.push (seqObj "list" #[] 0)).update s.heap.objs.size (Obj.mapSeq (· ++ vs.toArray))).objs.size := by
    rw [Heap.size_update, size_push']
    exact Nat.le_succ _
  generalize (s.heap.push (seqObj "list" #[] 0)).update s.heap.objs.size (Obj.mapSeq (· ++ vs.toArray)) = h1 at k1 le1 ⊢
  refine wpAny_bind (wpAny_newList ?_ hz)
  have hoL : (h1.push (seqObj "list" vs.toArray 0)).get? h1.objs.size = some (seqObj "list" vs.toArray 0) := Heap.get?_push_size _ rfl
  have lt1 : ∀ b o, s.heap.get? b = some o → b < h1.objs.size := fun b o e => Heap.lt_size (k1 b o e)
  refine wpAny_bind (wpAny_holding (wpAny_call_entry slot_list_sort ⟨_, hoL, rfl⟩ entry_list_sort (SrtO.list_sort_ord (SrtO.swo_lex k) hoL hz (fun h2 => ?_) fun out a1 a2 => ⟨_, rfl, ?_⟩) (args_list_sort _)))
  · refine SrtO.pairs_sortableO (s := { s with heap := h1.push (seqObj "list" vs.toArray 0) }) (by omega) (fun v hm => (hp v hm).keeps fun b o e _ => Heap.get?_push_of_some _ (k1 b o e)) fun o e => ?_
    have e2 : some o = some (seqObj "list" vs.toArray 0) := e.symm.trans hoL
    cases e2
    intro c
    exact absurd (Value.type.inj c) (by decide)
  · have at' := sortedHeap_at (vs := vs) (out := out.toArray) hoL
    refine wpAny_pure ⟨_, rfl, q _ h1.objs.size out a1 a2 (fun b o e => ?_) le1 at'⟩
    have lt := lt1 b o e
    rw [sortedHeap_old (Nat.ne_of_lt lt) (by rw [size_push']; exact Nat.lt_succ_of_lt lt)]
    exact Heap.get?_push_of_some _ (k1 b o e)
end
/-- sorted(t), t a tuple of pairs that ascend: a list of the same -/
def rSortedAsc (K : PySem.W.Frag) : List V → Hp → VK → Prop := fun vs H Q => ∃ (a : Addr) (xs : List V) (st : List (Int × Int)), vs = [.ref a] ∧ SqT K H a xs ∧ xs.length = st.length ∧
  (∀ (i : Nat) (x : V) (p : Int × Int), xs[i]? = some x → st[i]? = some p → ∃ t, x = .ref t ∧ SqT K H t [.int p.1, .int p.2]) ∧ st.Pairwise (fun x y => x.1 < y.1) ∧ ∀ p, H p = none → Q (.ref p) (upd H p (.lst xs))
theorem cr_sortedAsc {X : Cx} (K : PySem.W.Frag) (hK : X.K = K := by rfl) : CallR X (.builtin "sorted") (rSortedAsc K) := by
  subst hK
  intro pins s σ H vs us Q I r h
  obtain ⟨a, xs, st, rfl, hs, hlen, hx, hup, q⟩ := h
  obtain ⟨its, rv, pl, hz⟩ := I.tuple hs
  rw [Vals.ref1 r]
  have hl := rv.length
  have look : ∀ (i : Nat) (v : Value) (p : Int × Int), its[i]? = some v → st[i]? = some p → Srt.IsPair s.heap v p.1 p.2 ∧ kOf s.heap v = p := fun i v p e1 e2 => by
    have hi : i < xs.length := by
      rw [hl]
      exact (List.getElem?_eq_some_iff.mp e1).1
    obtain ⟨u, e3, ru⟩ := rv.get (List.getElem?_eq_getElem hi)
    rw [e1] at e3
    cases e3
    obtain ⟨t, e4, sq⟩ := hx i _ p (List.getElem?_eq_getElem hi) e2
    rw [e4] at ru
    obtain rfl : v = Value.ref t := ru
    obtain ⟨ys, ry, ⟨o, ho, hc, n, hd⟩, _⟩ := I.tuple sq
    obtain ⟨u1, u2, rfl, r1, r2⟩ := vals2 ry
    obtain ⟨t1, rfl⟩ := r1
    obtain ⟨t2, rfl⟩ := r2
    refine ⟨⟨t, o, t1, t2, n, rfl, ho, hc, hd⟩, ?_⟩
    unfold kOf
    dsimp only
    rw [ho]
    dsimp only
    rw [hd]
    rfl
  have at' : ∀ (i : Nat) (v : Value), its[i]? = some v → ∃ p, st[i]? = some p ∧ Srt.IsPair s.heap v p.1 p.2 ∧ kOf s.heap v = p := fun i v e1 => by
    have hi : i < st.length := by
      rw [← hlen, hl]
      exact (List.getElem?_eq_some_iff.mp e1).1
    obtain ⟨h1, h2⟩ := look i v st[i] e1 (List.getElem?_eq_getElem hi)
    exact ⟨st[i], List.getElem?_eq_getElem hi, h1, h2⟩
  refine sorted_tup (k := kOf s.heap) (show s.heap.IsTuple a its.toArray from pl) (by rw [← hl]; exact hz) (fun v hv => ?_) fun h' d out h1 h2 kp hd hn => ?_
  · obtain ⟨i, e⟩ := List.mem_iff_getElem?.mp hv
    obtain ⟨p, _, h1, h2⟩ := at' i v e
    rw [h2]
    exact h1
  · have hs2 : SrtO.Srtd (fun v u => SrtO.lexB (kOf s.heap v) (kOf s.heap u)) its := by
      refine List.pairwise_iff_getElem.mpr fun i j hi hj hij => ?_
      obtain ⟨p, e1, _, e2⟩ := at' i its[i] (List.getElem?_eq_getElem hi)
      obtain ⟨p', e3, _, e4⟩ := at' j its[j] (List.getElem?_eq_getElem hj)
      have li := (List.getElem?_eq_some_iff.mp e1).1
      have lj := (List.getElem?_eq_some_iff.mp e3).1
      have up := List.pairwise_iff_getElem.mp hup i j li lj hij
      rw [(List.getElem?_eq_some_iff.mp e1).2, (List.getElem?_eq_some_iff.mp e3).2] at up
      show SrtO.lexB (kOf s.heap its[j]) (kOf s.heap its[i]) = false
      rw [e2, e4]
      exact SrtO.lexB_no.mpr (by omega)
    have e : out = its := SrtO.stb_uniq (SrtO.swo_lex (kOf s.heap)) h1 hs2 h2
    subst e
    obtain ⟨n, hn⟩ := hn
    exact ⟨.ref d, upd H d (.lst xs), I.laid (t' := s.toks) kp hd ⟨hz, out, n, rv, hn⟩, rfl, q d (I.hok.fresh hd)⟩
end VG

set_option maxHeartbeats 4000000
namespace K11
open PySem PySem.Spec PyProof.Rows L2 Evl VG
def top (i : Nat) : Stmt := PySem.Challenge.pw_enoughhands_k11_whole_stairs_of_steps.main.body.getD i (.Pass ⟨0, 0, 0, 0⟩)
variable {P : Program} {w : World} {K : PySem.W.Frag} {mg : Str → Option Value} {base : Heap} {f : Addr} {fd : FuncData}

/-! ### is_integer -/
abbrev s_is_integer : Stmt := top 1
theorem sc_is_integer : FnScope ["value"] ["value"] (defScope s_is_integer) := ⟨rfl, rfl, rfl, by decide +kernel, rfl, by decide +kernel, by decide +kernel⟩
def okInteger : List PyData → PyData → Prop := fun ds d => ∃ i, ds = [.int i] ∧ d = .bool true
theorem ok_is_integer (F : Fun K "is_integer" "is_integer" s_is_integer f fd) (B : Bltn mg) :
    FnG P w K mg base CX0 1 f fd ["value"] (spOf K 1 okInteger) := by
  refine okG F sc_is_integer (fun vs H Q E h => ?_) (fun cdv A outer s H vs Q E hcm hr h => ?_)
  · obtain ⟨_, _, _, h, _⟩ := h
    exact h
  · obtain ⟨Hv, ds, d, hl, e, hds, ⟨i, rfl, rfl⟩, q⟩ := h
    obtain ⟨v, rfl, h1⟩ := dp1 hds
    cases h1
    refine ⟨_, (pss_one (ps_ret (pe_and (pe_callB (call_isBK K) (by rfl) B.isinstance bt_isinstance (pa_cons (pv 0) (pa_cons (pe_bltn (v := .ty "int") (by rfl) B.int bt_int rfl) pa_nil))) (pe_one (pe_not (pe_callB (call_isBK K) (by rfl) B.isinstance bt_isinstance (pa_cons (pv 0) (pa_cons (pe_bltn (v := .ty "bool") (by rfl) B.bool bt_bool rfl) pa_nil)))))))), ?_⟩
    refine Runs.go (d := .bool true) ?_ e q
    refine ru_ret ?_
    exact ed_and (b := true) (c := true) (ed_isB (ed_var rfl (.int i)) kb_ii) fun _ => ed_not (b := false) (ed_isB (ed_var rfl (.int i)) kb_ib)

/-! ### is_name -/
abbrev s_is_name : Stmt := top 2
theorem sc_is_name : FnScope ["value", "sign"] ["value"] (defScope s_is_name) := ⟨rfl, rfl, rfl, by decide +kernel, rfl, by decide +kernel, by decide +kernel⟩
def nameOk (z : Str) : Prop := 1 ≤ z.length ∧ z.length ≤ 8 ∧ ∀ (i : Nat) (c : Nat), z.cps[i]? = some c → 97 ≤ c ∧ c ≤ 122
def okName : List PyData → PyData → Prop := fun ds d => ∃ z, ds = [.str z] ∧ nameOk z ∧ d = .bool true
theorem ok_is_name (F : Fun K "is_name" "is_name" s_is_name f fd) (B : Bltn mg) :
    FnG P w K mg base CX0 1 f fd ["value"] (spOf K 1 okName) := by
  refine okG F sc_is_name (fun vs H Q E h => ?_) (fun cdv A outer s H vs Q E hcm hr h => ?_)
  · obtain ⟨_, _, _, h, _⟩ := h
    exact h
  · obtain ⟨Hv, ds, d, hl, e, hds, ⟨z, rfl, ⟨hz1, hz2, hz3⟩, rfl⟩, q⟩ := h
    obtain ⟨v, rfl, h1⟩ := dp1 hds
    cases h1
    refine ⟨_, (pss_cons (ps_if (pt_not (pt_val (pe_callB (call_isBK K) (by rfl) B.isinstance bt_isinstance (pa_cons (pv 0) (pa_cons (pe_bltn (v := .ty "str") (by rfl) B.str bt_str rfl) pa_nil))))) (pss_one (ps_ret pe_bl)) pss_nil)
      (pss_one (ps_ret (pe_and (pe_chain op_le op_le pe_int (pe_callB call_len_str (by rfl) B.len bt_len (pa_cons (pv 0) pa_nil)) pe_int) (pe_one (pe_callB (cr_allK K rfl) (by rfl) B.all bt_all (pa_cons (pe_lc (own := [(("sign" : Str), 1)])  rfl sc_is_name.nd (pi_str (pv 0)) (blkOk_by (N := ["value", "sign"]) (sc := defScope s_is_name) (by decide +kernel)) (fun _ _ _ _ _ => (pg_name (i := 1) sc_is_name.nd rfl (Or.inl rfl))) (fun _ _ _ _ _ => pts_nil) (fun _ _ _ _ _ => (pe_chain op_le_str op_le_str pe_str (pv 1) pe_str))) pa_nil))))))), ?_⟩
    refine Runs.go (d := .bool true) ?_ e q
    refine ru_when (b := false) (et_not (a := true) (etB_bool (ed_isB (ed_var rfl (.str z)) kb_ss))) (fun h => by cases h) fun _ => ?_
    refine ru_ret ?_
    refine ed_and (b := true) (c := true) ?_ fun _ => ?_
    · refine ed_isb ?_ (ed_chainI (g := fun i j => decide (i ≤ j)) (g' := fun i j => decide (i ≤ j)) ed_int (ed_lenS (ed_var rfl (.str z)) (by show z.length ≤ 16777216; omega)) fun _ => ed_int)
      have a1 : (1 : Int) ≤ (z.length : Int) := by omega
      have a2 : (z.length : Int) ≤ 8 := by omega
      rw [decide_eq_true a1, decide_eq_true a2]
      rfl
    · refine ed_isb ?_ (ed_all (bs := (List.range z.cps.size).map fun _ => true) ?_)
      · rw [List.all_map]
        exact List.all_eq_true.mpr fun _ _ => rfl
      · rw [List.map_map]
        refine ed_lcS _ (ed_var rfl (.str z)) (by have : z.cps.size = z.length := rfl; omega) ?_
        intro i c hc H' H'' e1 e2 Qg k
        refine g_name rfl ?_ k
        obtain ⟨c1, c2⟩ := hz3 i c hc
        refine ed_leS rfl c1 c2
end K11

set_option maxHeartbeats 4000000
namespace K11
open PySem PySem.Spec PyProof.Rows L2 Evl VG
variable {P : Program} {w : World} {K : PySem.W.Frag} {mg : Str → Option Value} {base : Heap} {f : Addr} {fd : FuncData}

/-! ### is_row_of -/
abbrev s_is_row_of : Stmt := top 3
theorem sc_is_row_of : FnScope ["value", "size"] ["value", "size"] (defScope s_is_row_of) := ⟨rfl, rfl, rfl, by decide +kernel, rfl, by decide +kernel, by decide +kernel⟩
def okRowOf : List PyData → PyData → Prop := fun ds d => ∃ es, ds = [.tuple es, .int (es.length : Int)] ∧ d = .bool true
theorem ok_is_row_of (F : Fun K "is_row_of" "is_row_of" s_is_row_of f fd) (B : Bltn mg) :
    FnG P w K mg base CX0 1 f fd ["value", "size"] (spOf K 2 okRowOf) := by
  refine okG F sc_is_row_of (fun vs H Q E h => ?_) (fun cdv A outer s H vs Q E hcm hr h => ?_)
  · obtain ⟨_, _, _, h, _⟩ := h
    exact h
  · obtain ⟨Hv, ds, d, hl, e, hds, ⟨es, rfl, rfl⟩, q⟩ := h
    obtain ⟨v, u, rfl, h1, h2⟩ := dp2 hds
    refine ⟨_, (pss_one (ps_ret (pe_and (pe_callB (call_isBK K) (by rfl) B.isinstance bt_isinstance (pa_cons (pv 0) (pa_cons (pe_bltn (v := .ty "tuple") (by rfl) B.tuple bt_tuple rfl) pa_nil))) (pe_one (pe_cmpR op_eq (pe_callB (call_lenK K) (by rfl) B.len bt_len (pa_cons (pv 0) pa_nil)) (pv 1) (nomark _)))))), ?_⟩
    refine Runs.go (d := .bool true) ?_ e q
    refine ru_ret ?_
    refine ed_and (b := true) (c := true) (ed_isB (ed_var rfl h1) kb_tt) fun _ => ?_
    exact ed_isb (decide_eq_true rfl) (ed_eqI (ed_len (ed_var rfl h1)) (ed_var rfl h2))

/-! ### ascends -/
abbrev s_ascends : Stmt := top 4
theorem sc_ascends : FnScope ["rows", "at"] ["rows"] (defScope s_ascends) := ⟨rfl, rfl, rfl, by decide +kernel, rfl, by decide +kernel, by decide +kernel⟩
def okAsc : List PyData → PyData → Prop := fun ds d => ∃ ts : List Str, ds = [.list (ts.map .str)] ∧ ts.length ≤ 1000 ∧ ascS ts ∧ d = .bool true
theorem ok_ascends (F : Fun K "ascends" "ascends" s_ascends f fd) (B : Bltn mg) :
    FnG P w K mg base CX0 1 f fd ["rows"] (spOf K 1 okAsc) := by
  refine okG F sc_ascends (fun vs H Q E h => ?_) (fun cdv A outer s H vs Q E hcm hr h => ?_)
  · obtain ⟨_, _, _, h, _⟩ := h
    exact h
  · obtain ⟨Hv, ds, d, hl, e, hds, ⟨ts, rfl, hts, ha, rfl⟩, q⟩ := h
    obtain ⟨v, rfl, h1⟩ := dp1 hds
    refine ⟨_, (pss_one (ps_ret (pe_callB (cr_allK K rfl) (by rfl) B.all bt_all (pa_cons (pe_lc (own := [(("at" : Str), 1)])  rfl sc_ascends.nd (pi_range1 (by rfl) B.range (pa_cons (pe_op op_sub (pe_callB (call_lenK K) (by rfl) B.len bt_len (pa_cons (pv 0) pa_nil)) pe_int) pa_nil)) (blkOk_by (N := ["rows", "at"]) (sc := defScope s_ascends) (by decide +kernel)) (fun _ _ _ _ _ => (pg_name (i := 1) sc_ascends.nd rfl (Or.inl rfl))) (fun _ _ _ _ _ => pts_nil) (fun _ _ _ _ _ => (pe_cmpR op_lt_str (pe_ix (ix_listK K) (pv 0) (pv 1) (fun _ _ => rfl)) (pe_ix (ix_listK K) (pv 0) (pe_op op_add (pv 1) pe_int) (fun _ _ => rfl)) (nomark _)))) pa_nil)))), ?_⟩
    refine Runs.go (d := .bool true) ?_ e q
    refine ru_ret ?_
    refine ed_isb ?_ (ed_all (bs := (List.range ((ts.length : Int) - 1).toNat).map fun _ => true) ?_)
    · rw [List.all_map]
      exact List.all_eq_true.mpr fun _ _ => rfl
    · rw [List.map_map]
      have hv : EvD K (tVar 0) [some v, none] Hv (.list (ts.map .str)) := ed_var rfl h1
      refine ed_lcR _ (eda_cons (ed_I0 (g := fun i j => i - j) (ed_is (by rw [List.length_map]) (ed_lenL hv)) ed_int) eda_nil) (by omega) ?_
      intro i hi H' H'' e1 e2 Qg k
      refine g_name rfl ?_ k
      have i1 : i < ts.length := by omega
      have i2 : i + 1 < ts.length := by omega
      have g1 : ts[i]? = some ts[i] := List.getElem?_eq_getElem i1
      have g2 : ts[i + 1]? = some ts[i + 1] := List.getElem?_eq_getElem i2
      have h1' := dp_same e1 h1
      refine ed_isb ?_ (ed_ltS (x := ts[i]) (y := ts[i + 1]) (ed_ixLz (k := i) (ed_var rfl h1') (ed_var rfl (.int _)) (by omega) (by rw [List.getElem?_map, g1]; rfl))
        (ed_ixLz (k := i + 1) (ed_var rfl h1') (ed_I0 (g := fun i j => i + j) (ed_var rfl (.int _)) ed_int) (by omega) (by rw [List.getElem?_map, g2]; rfl)))
      exact decide_eq_true (ha i _ _ g1 g2)

/-! ### are_names -/
abbrev s_are_names : Stmt := top 5
theorem sc_are_names : FnScope ["value", "one"] ["value"] (defScope s_are_names) := ⟨rfl, rfl, rfl, by decide +kernel, rfl, by decide +kernel, by decide +kernel⟩
def okNames : List PyData → PyData → Prop := fun ds d => ∃ ts : List Str, ds = [.tuple (ts.map .str)] ∧ ts.length ≤ 1000 ∧ (∀ t ∈ ts, nameOk t) ∧ d = .bool true
theorem ok_are_names (F : Fun K "are_names" "are_names" s_are_names f fd) (B : Bltn mg) (D_is_name : Def P w K mg base 1 "is_name" ["value"] (spOf K 1 okName)) :
    FnG P w K mg base CX0 2 f fd ["value"] (spOf K 1 okNames) := by
  refine okG F sc_are_names (fun vs H Q E h => ?_) (fun cdv A outer s H vs Q E hcm hr h => ?_)
  · obtain ⟨_, _, _, h, _⟩ := h
    exact h
  · obtain ⟨Hv, ds, d, hl, e, hds, ⟨ts, rfl, hts, hn, rfl⟩, q⟩ := h
    obtain ⟨v, rfl, h1⟩ := dp1 hds
    refine ⟨_, (pss_one (ps_ret (pe_and (pe_callB (call_isBK K) (by rfl) B.isinstance bt_isinstance (pa_cons (pv 0) (pa_cons (pe_bltn (v := .ty "tuple") (by rfl) B.tuple bt_tuple rfl) pa_nil))) (pe_one (pe_callB (cr_allK K rfl) (by rfl) B.all bt_all (pa_cons (pe_lc (own := [(("one" : Str), 1)])  rfl sc_are_names.nd (pi_tup (pv 0)) (blkOk_by (N := ["value", "one"]) (sc := defScope s_are_names) (by decide +kernel)) (fun _ _ _ _ _ => (pg_name (i := 1) sc_are_names.nd rfl (Or.inl rfl))) (fun _ _ _ _ _ => pts_nil) (fun _ _ _ _ _ => (pe_d D_is_name hcm hr (by decide) (by rfl) (pa_cons (pv 1) pa_nil)))) pa_nil)))))), ?_⟩
    refine Runs.go (d := .bool true) ?_ e q
    refine ru_ret ?_
    refine ed_and (b := true) (c := true) (ed_isB (ed_var rfl h1) kb_tt) fun _ => ?_
    refine ed_isb ?_ (ed_all (bs := (List.range (ts.map PyData.str).length).map fun _ => true) ?_)
    · rw [List.all_map]
      exact List.all_eq_true.mpr fun _ _ => rfl
    · rw [List.map_map]
      refine ed_lcT _ (ed_var rfl h1) (by rw [List.length_map]; omega) ?_
      intro i x dx H' hdx e1 hx H'' e2 Qg k
      rw [List.getElem?_map] at hdx
      obtain ⟨t, ht, rfl⟩ := Option.map_eq_some_iff.mp hdx
      refine g_name rfl ?_ k
      exact ed_call (eda_cons (ed_var rfl hx) eda_nil) (spD_of ⟨t, rfl, hn t (List.mem_of_getElem? ht), rfl⟩)

/-! ### is_line -/
abbrev s_is_line : Stmt := top 16
theorem sc_is_line : FnScope ["value"] ["value"] (defScope s_is_line) := ⟨rfl, rfl, rfl, by decide +kernel, rfl, by decide +kernel, by decide +kernel⟩
abbrev Line := Str × Int × Int
def lineD (l : Line) : PyData := .tuple [.str l.1, .int l.2.1, .int l.2.2]
def lineOk (l : Line) : Prop := nameOk l.1 ∧ 0 ≤ l.2.1 ∧ l.2.1 ≤ 9999 ∧ 0 ≤ l.2.1 + l.2.2 ∧ l.2.1 + l.2.2 ≤ 9999
def okLine : List PyData → PyData → Prop := fun ds d => ∃ l, ds = [lineD l] ∧ lineOk l ∧ d = .bool true
theorem ok_is_line (F : Fun K "is_line" "is_line" s_is_line f fd) (B : Bltn mg) {t0 : Tok} (C_MOST_NEED : mg "MOST_NEED" = some (.int 9999 t0))
    (D_is_row_of : Def P w K mg base 1 "is_row_of" ["value", "size"] (spOf K 2 okRowOf)) (D_is_name : Def P w K mg base 1 "is_name" ["value"] (spOf K 1 okName))
    (D_is_integer : Def P w K mg base 1 "is_integer" ["value"] (spOf K 1 okInteger)) :
    FnG P w K mg base CX0 2 f fd ["value"] (spOf K 1 okLine) := by
  refine okG F sc_is_line (fun vs H Q E h => ?_) (fun cdv A outer s H vs Q E hcm hr h => ?_)
  · obtain ⟨_, _, _, h, _⟩ := h
    exact h
  · obtain ⟨Hv, ds, d, hl, e, hds, ⟨⟨t, n, g⟩, rfl, ⟨p1, p2, p3, p4, p5⟩, rfl⟩, q⟩ := h
    obtain ⟨v, rfl, h1⟩ := dp1 hds
    refine ⟨_, (pss_cons (ps_if (PW.pt (pw_or (pt_not (pt_val (pe_d D_is_row_of hcm hr (by decide) (by rfl) (pa_cons (pv 0) (pa_cons pe_int pa_nil))))) (pw_or1 (pt_not (pt_val (pe_d D_is_name hcm hr (by decide) (by rfl) (pa_cons (pe_ix (ix_tupK K) (pv 0) pe_int (fun _ _ => rfl)) pa_nil))))))) (pss_one (ps_ret pe_bl)) pss_nil)
      (pss_cons (ps_if (PW.pt (pw_or (pt_not (pt_val (pe_d D_is_integer hcm hr (by decide) (by rfl) (pa_cons (pe_ix (ix_tupK K) (pv 0) pe_int (fun _ _ => rfl)) pa_nil)))) (pw_or1 (pt_not (pt_val (pe_d D_is_integer hcm hr (by decide) (by rfl) (pa_cons (pe_ix (ix_tupK K) (pv 0) pe_int (fun _ _ => rfl)) pa_nil))))))) (pss_one (ps_ret pe_bl)) pss_nil)
      (pss_one (ps_ret (pe_and (pe_chain op_le op_le pe_int (pe_ix (ix_tupK K) (pv 0) pe_int (fun _ _ => rfl)) (pe_glob (v := .int 9999) (by rfl) C_MOST_NEED ⟨_, rfl⟩)) (pe_one (pe_chain op_le op_le pe_int (pe_op op_add (pe_ix (ix_tupK K) (pv 0) pe_int (fun _ _ => rfl)) (pe_ix (ix_tupK K) (pv 0) pe_int (fun _ _ => rfl))) (pe_glob (v := .int 9999) (by rfl) C_MOST_NEED ⟨_, rfl⟩)))))))), ?_⟩
    refine Runs.go (d := .bool true) ?_ e q
    have hv : EvD K (tVar 0) [some v] Hv (.tuple [.str t, .int n, .int g]) := ed_var rfl h1
    have v0 : EvD K (tOp (rIxT K) (tVar 0) (tC (.int 0))) [some v] Hv (.str t) := ed_ixT (k := 0) hv ed_int rfl
    have v1 : EvD K (tOp (rIxT K) (tVar 0) (tC (.int 1))) [some v] Hv (.int n) := ed_ixT (k := 1) hv ed_int rfl
    have v2 : EvD K (tOp (rIxT K) (tVar 0) (tC (.int 2))) [some v] Hv (.int g) := ed_ixT (k := 2) hv ed_int rfl
    refine ru_when (b := false) (et_or (a := false) (b := false) (et_not (a := true) (etB_bool (ed_call (eda_cons hv (eda_cons ed_int eda_nil)) (spD_of ⟨_, rfl, rfl⟩))))
      fun _ => et_not (a := true) (etB_bool (ed_call (eda_cons v0 eda_nil) (spD_of ⟨t, rfl, p1, rfl⟩)))) (fun h => by cases h) fun _ => ?_
    refine ru_when (b := false) (et_or (a := false) (b := false) (et_not (a := true) (etB_bool (ed_call (eda_cons v1 eda_nil) (spD_of ⟨n, rfl, rfl⟩))))
      fun _ => et_not (a := true) (etB_bool (ed_call (eda_cons v2 eda_nil) (spD_of ⟨g, rfl, rfl⟩)))) (fun h => by cases h) fun _ => ?_
    refine ru_ret ?_
    refine ed_and (b := true) (c := true) ?_ fun _ => ?_
    · refine ed_isb ?_ (ed_chainI (g := fun i j => decide (i ≤ j)) (g' := fun i j => decide (i ≤ j)) ed_int v1 fun _ => ed_int)
      rw [decide_eq_true p2, decide_eq_true p3]
      rfl
    · refine ed_isb ?_ (ed_chainI (g := fun i j => decide (i ≤ j)) (g' := fun i j => decide (i ≤ j)) ed_int (ed_I0 (g := fun i j => i + j) v1 v2) fun _ => ed_int)
      rw [decide_eq_true p4, decide_eq_true p5]
      rfl

/-! ### is_trade -/
abbrev s_is_trade : Stmt := top 17
theorem sc_is_trade : FnScope ["value", "line"] ["value"] (defScope s_is_trade) := ⟨rfl, rfl, rfl, by decide +kernel, rfl, by decide +kernel, by decide +kernel⟩
abbrev Tr := List Line
def tradeD (tr : Tr) : PyData := .tuple (tr.map lineD)
def tradeOk (tr : Tr) : Prop := tr.length ≤ 16 ∧ (∀ l ∈ tr, lineOk l) ∧ ascS (tr.map (·.1))
def okTrade : List PyData → PyData → Prop := fun ds d => ∃ tr, ds = [tradeD tr] ∧ tradeOk tr ∧ d = .bool true
theorem ok_is_trade (F : Fun K "is_trade" "is_trade" s_is_trade f fd) (B : Bltn mg) {t0 : Tok} (C_MOST_LINES : mg "MOST_LINES" = some (.int 16 t0))
    (D_is_line : Def P w K mg base 2 "is_line" ["value"] (spOf K 1 okLine)) (D_ascends : Def P w K mg base 1 "ascends" ["rows"] (spOf K 1 okAsc)) :
    FnG P w K mg base CX0 3 f fd ["value"] (spOf K 1 okTrade) := by
  refine okG F sc_is_trade (fun vs H Q E h => ?_) (fun cdv A outer s H vs Q E hcm hr h => ?_)
  · obtain ⟨_, _, _, h, _⟩ := h
    exact h
  · obtain ⟨Hv, ds, d, hl, e, hds, ⟨tr, rfl, ⟨hle, hok, hasc⟩, rfl⟩, q⟩ := h
    obtain ⟨v, rfl, h1⟩ := dp1 hds
    refine ⟨_, (pss_cons (ps_if (PW.pt (pw_or (pt_not (pt_val (pe_callB (call_isBK K) (by rfl) B.isinstance bt_isinstance (pa_cons (pv 0) (pa_cons (pe_bltn (v := .ty "tuple") (by rfl) B.tuple bt_tuple rfl) pa_nil))))) (pw_or1 (pt_cmpR op_gt (pe_callB (call_lenK K) (by rfl) B.len bt_len (pa_cons (pv 0) pa_nil)) (pe_glob (v := .int 16) (by rfl) C_MOST_LINES ⟨_, rfl⟩) (nomark _))))) (pss_one (ps_ret pe_bl)) pss_nil)
      (pss_one (ps_ret (pe_and (pe_callB (cr_allK K rfl) (by rfl) B.all bt_all (pa_cons (pe_lc (own := [(("line" : Str), 1)])  rfl sc_is_trade.nd (pi_tup (pv 0)) (blkOk_by (N := ["value", "line"]) (sc := defScope s_is_trade) (by decide +kernel)) (fun _ _ _ _ _ => (pg_name (i := 1) sc_is_trade.nd rfl (Or.inl rfl))) (fun _ _ _ _ _ => pts_nil) (fun _ _ _ _ _ => (pe_d D_is_line hcm hr (by decide) (by rfl) (pa_cons (pv 1) pa_nil)))) pa_nil)) (pe_one (pe_d D_ascends hcm hr (by decide) (by rfl) (pa_cons (pe_lc (own := [(("line" : Str), 1)])  rfl sc_is_trade.nd (pi_tup (pv 0)) (blkOk_by (N := ["value", "line"]) (sc := defScope s_is_trade) (by decide +kernel)) (fun _ _ _ _ _ => (pg_name (i := 1) sc_is_trade.nd rfl (Or.inl rfl))) (fun _ _ _ _ _ => pts_nil) (fun _ _ _ _ _ => (pe_ix (ix_tupK K) (pv 1) pe_int (fun _ _ => rfl)))) pa_nil))))))), ?_⟩
    refine Runs.go (d := .bool true) ?_ e q
    have hv : EvD K (tVar 0) [some v, none] Hv (.tuple (tr.map lineD)) := ed_var rfl h1
    have hlen : (tr.map lineD).length = tr.length := List.length_map _
    refine ru_when (b := false) (et_or (a := false) (b := false) (et_not (a := true) (etB_bool (ed_isB hv kb_tt))) fun _ => et_is (etI_gt (ed_len hv) ed_int) ?_) (fun h => by cases h) fun _ => ?_
    · refine decide_eq_false ?_
      omega
    refine ru_ret ?_
    refine ed_and (b := true) (c := true) ?_ fun _ => ?_
    · refine ed_isb ?_ (ed_all (bs := (List.range (tr.map lineD).length).map fun _ => true) ?_)
      · rw [List.all_map]
        exact List.all_eq_true.mpr fun _ _ => rfl
      · rw [List.map_map]
        refine ed_lcT _ hv (by omega) ?_
        intro i x dx H' hdx e1 hx H'' e2 Qg k
        rw [List.getElem?_map] at hdx
        obtain ⟨l, hl, rfl⟩ := Option.map_eq_some_iff.mp hdx
        refine g_name rfl ?_ k
        exact ed_call (eda_cons (ed_var rfl hx) eda_nil) (spD_of ⟨l, rfl, hok l (List.mem_of_getElem? hl), rfl⟩)
    · refine ed_call (eda_cons (ed_lcT (fun i => .str ((tr.map (·.1)).getD i Str.empty)) hv (by omega) ?_) eda_nil) (spD_of ⟨tr.map (·.1), ?_, by rw [List.length_map]; omega, hasc, rfl⟩)
      · intro i x dx H' hdx e1 hx H'' e2 Qg k
        rw [List.getElem?_map] at hdx
        obtain ⟨l, hl, rfl⟩ := Option.map_eq_some_iff.mp hdx
        refine g_name rfl ?_ k
        have e3 : (tr.map (·.1)).getD i Str.empty = l.1 := by
          rw [List.getD_eq_getElem?_getD, List.getElem?_map, hl]
          rfl
        rw [e3]
        exact ed_ixT (k := 0) (ed_var rfl hx) ed_int rfl
      · have e4 := range_map_get (tr.map (·.1)) PyData.str Str.empty
        rw [List.length_map] at e4
        rw [hlen, e4]
end K11

set_option maxHeartbeats 4000000
namespace K11
open PySem PySem.Spec PyProof.Rows L2 Evl VG
variable {P : Program} {w : World} {K : PySem.W.Frag} {mg : Str → Option Value} {base : Heap} {f : Addr} {fd : FuncData}

/-! ### is_stock -/
def okStock : List PyData → PyData → Prop := fun ds d => ∃ i : Int, ds = [.int i] ∧ 0 ≤ i ∧ i ≤ 99999 ∧ d = .bool true

/-! ### check_stock -/
def okCheck : List PyData → PyData → Prop := fun ds d => ∃ i : Int, ds = [.int i] ∧ 0 ≤ i ∧ i ≤ 99999 ∧ d = .none

/-! ### trade_table -/
abbrev s_trade_table : Stmt := top 18
theorem sc_trade_table : FnScope ["trade", "task", "need", "gain"] ["trade"] (defScope s_trade_table) := ⟨rfl, rfl, rfl, by decide +kernel, rfl, by decide +kernel, by decide +kernel⟩
def tabOf (tr : Tr) : List (Str × PyData) := tr.map fun l => (l.1, .tuple [.int l.2.1, .int l.2.2])
def spTable (K : PySem.W.Frag) : Sp := fun vs H Q _ => ∃ Hv v tr, vs = [v] ∧ Ex Hv H ∧ Dp K Hv v (tradeD tr) ∧ tradeOk tr ∧
  ∀ p kvs H2, Ex H H2 → H p = none → H2 p = some (.dK kvs) → Tab K (fun b => if b = p then none else hid Hv H H2 b) kvs (tabOf tr) → Q (.ref p) H2
theorem ok_trade_table (F : Fun K "trade_table" "trade_table" s_trade_table f fd) (D_is_trade : Def P w K mg base 3 "is_trade" ["value"] (spOf K 1 okTrade)) :
    FnG P w K mg base CX0 4 f fd ["trade"] (spTable K) := by
  refine okG F sc_trade_table (fun vs H Q E h => ?_) (fun cdv A outer s H vs Q E hcm hr h => ?_)
  · obtain ⟨_, _, _, rfl, _⟩ := h
    rfl
  · obtain ⟨Hv, v, tr, rfl, e, h1, hok, q⟩ := h
    refine ⟨_, (pss_cons (ps_if (pt_not (pt_val (pe_d D_is_trade hcm hr (by decide) (by rfl) (pa_cons (pv 0) pa_nil)))) (pss_one ps_never) pss_nil)
      (pss_one (ps_ret (pe_dc (own := [(("task" : Str), 1), (("need" : Str), 2), (("gain" : Str), 3)])  rfl sc_trade_table.nd (pi_tup (pv 0)) (blkOk_by (N := ["trade", "task", "need", "gain"]) (sc := defScope s_trade_table) (by decide +kernel)) (fun _ _ _ _ _ => (pg_tupK K (n := 3) rfl (pgs_cons (pg_name (i := 1) sc_trade_table.nd rfl (Or.inl rfl)) (pgs_cons (pg_name (i := 2) sc_trade_table.nd rfl (Or.inl rfl)) (pgs_cons (pg_name (i := 3) sc_trade_table.nd rfl (Or.inl rfl)) pgs_nil))))) (fun _ _ _ _ _ => pts_nil) (fun _ _ _ _ _ => (pv 1)) (fun _ _ _ _ _ => (pe_tup (pa_cons (pv 2) (pa_cons (pv 3) pa_nil)))))))), ?_⟩
    have hv : EvD K (tVar 0) [some v, none, none, none] Hv (tradeD tr) := ed_var rfl h1
    have ht := et_not (a := true) (etB_bool (ed_call (E := E0) (eda_cons hv eda_nil) (spD_of (n := 1) (ok := okTrade) ⟨tr, rfl, hok, rfl⟩)))
    refine q_not (K := K) ht e fun H2 e2 => ?_
    obtain ⟨a, xs, rfl, s1, s2⟩ := dp_tup h1
    have e02 : Ex Hv H2 := e.trans e2
    refine ⟨_, rfl, a, rfl, ⟨xs, sqT_same e02 s1⟩, fun D hD => ?_⟩
    have hlen : xs.length = tr.length := by
      rw [dpAll_len s2, List.length_map]
    refine dc_tup (K := K) (a := a) (xs := xs) (fun i H' => ∃ kvs, Ex H2 H' ∧ H' D = some (.dK kvs) ∧ Tab K (fun b => if b = D then none else hid Hv H H' b) kvs (tabOf (tr.take i)))
      ⟨[], Ex.new hD, upd_same, .nil⟩ (fun i H' _ ⟨_, e', _⟩ => sqT_same (e02.trans e') s1) ?_ ?_
    · rintro i x H' hx' ⟨kvs, e', k1, k2⟩
      obtain ⟨dx, hdx, hx2⟩ := dpAll_get s2 hx'
      rw [List.getElem?_map] at hdx
      obtain ⟨⟨t, n, g⟩, hl, rfl⟩ := Option.map_eq_some_iff.mp hdx
      obtain ⟨b, ys, rfl, u1, u2⟩ := dp_tup hx2
      obtain ⟨x1, x2, x3, rfl, v1, v2, v3⟩ := dp3 u2
      cases v1
      cases v2
      cases v3
      refine ⟨b, _, rfl, sqT_same (e02.trans e') u1, rfl, _, _, rfl, ?_⟩
      refine ⟨_, _, rfl, ?_⟩
      refine ⟨_, _, rfl, ?_⟩
      refine ⟨rfl, rfl, ?_⟩
      refine yes_go ?_
      refine ⟨_, rfl, ?_⟩
      refine ⟨_, rfl, _, rfl, (by show 2 ≤ sizeLine; decide), fun p hp => ?_⟩
      have nDp : D ≠ p := fun z => by
        rw [z, hp] at k1
        cases k1
      have hklen : kvs.length ≤ 16 := by
        rw [tab_len k2]
        unfold tabOf
        rw [List.length_map, List.length_take]
        have := hok.1
        omega
      refine ⟨kvs, Sum.inr t, rfl, (upd_ne nDp).trans k1, sz_lt (by omega), ?_⟩
      have hnew : valV kvs (Sum.inr t : Key) = none := by
        rcases tab_val (t := t) k2 with ⟨_, h⟩ | ⟨_, d', h, _⟩
        · exact h
        · exfalso
          have hm := VG.mem_of_lookup h
          unfold tabOf at hm
          obtain ⟨l, hl1, hl2⟩ := List.mem_map.mp hm
          obtain ⟨j, hj⟩ := List.mem_iff_getElem?.mp hl1
          have hji : j < i := by
            have := (List.getElem?_eq_some_iff.mp hj).1
            rw [List.length_take] at this
            omega
          rw [List.getElem?_take_of_lt hji] at hj
          have hlt := asc_lt hok.2.2 (i := j) (j := i) hji (x := l.1) (y := t) (by rw [List.getElem?_map, hj]; rfl) (by rw [List.getElem?_map, hl]; rfl)
          have e5 : l.1 = t := (Prod.mk.inj hl2).1
          rw [e5] at hlt
          exact List.lt_irrefl _ hlt
      rw [putK_new _ hnew]
      refine ⟨_, ?_, upd_same, ?_⟩
      · exact ((e'.trans (Ex.new hp)).mut hD)
      · rw [List.take_add_one, hl]
        unfold tabOf
        rw [List.map_append]
        have vis : ∀ c o, (fun b => if b = D then none else hid Hv H H' b) c = some o → (fun b => if b = D then none else hid Hv H (upd (upd H' p (.tup [.int n, .int g])) D (.dK (kvs ++ [(Sum.inr t, V.ref p)]))) b) c = some o := by
          intro c o hc
          have hc : (if c = D then none else hid Hv H H' c) = some o := hc
          by_cases z : c = D
          · rw [if_pos z] at hc
            cases hc
          · rw [if_neg z] at hc
            obtain ⟨c1, c2⟩ := hid_some hc
            show (if c = D then none else _) = some o
            rw [if_neg z, hid_see c2, upd_ne z, upd_ne (ne_of_none c1 hp)]
            exact c1
        have hp0 : Hv p = none → H p = none := fun _ => ex_none (e2.trans e') hp
        refine paired_app (tab_same vis k2) (.cons ⟨rfl, ?_⟩ .nil)
        refine .tup (xs := [.int n, .int g]) (.inl (.inl ?_)) (.cons (.int n) (.cons (.int g) .nil))
        show (if p = D then none else _) = _
        rw [if_neg nDp.symm, hid_see hp0, upd_ne nDp.symm]
        exact upd_same
    · rintro H' ⟨kvs, e', k1, k2⟩
      rw [hlen, List.take_length] at k2
      exact q D kvs H' (e2.trans e') (ex_none e2 hD) k1 k2
end K11

set_option maxHeartbeats 4000000
namespace K11
open PySem PySem.Spec PyProof.Rows L2 Evl VG
variable {P : Program} {w : World} {K : PySem.W.Frag} {mg : Str → Option Value} {base : Heap} {f : Addr} {fd : FuncData}

/-! ### steps_for -/
abbrev s_steps_for : Stmt := top 19
theorem sc_steps_for : FnScope ["table", "tasks", "task"] ["table", "tasks"] (defScope s_steps_for) := ⟨rfl, rfl, rfl, by decide +kernel, rfl, by decide +kernel, by decide +kernel⟩
abbrev Stp := Int × Int
def stepD (s : Stp) : PyData := .tuple [.int s.1, .int s.2]
def look (tr : Tr) (t : Str) : Stp := (tr.lookup t).getD (0, 0)
theorem tab_look (tr : Tr) (t : Str) : ((tabOf tr).lookup t).getD (.tuple [.int 0, .int 0]) = stepD (look tr t) := by
  induction tr with
  | nil => rfl
  | cons l r ih =>
    obtain ⟨s, n, g⟩ := l
    unfold look tabOf at *
    rw [List.map_cons, List.lookup_cons, List.lookup_cons]
    cases h : t == s with
    | true => rfl
    | false => exact ih
def stepsD (tr : Tr) (ts : List Str) : PyData := .list (ts.map fun t => stepD (look tr t))
/-- the table a dict at p of which nothing is known but this -/
def spSteps (K : PySem.W.Frag) : Sp := fun vs H Q _ => ∃ Hv p kvs v tr ts, vs = [.ref p, v] ∧ Ex Hv H ∧ Hv p = some (.dK kvs) ∧ Tab K Hv kvs (tabOf tr) ∧
  Dp K Hv v (.tuple (ts.map .str)) ∧ ts.length ≤ 1000 ∧ ∀ v H2, Ex H H2 → Dp K (hid Hv H H2) v (stepsD tr ts) → Q v H2
theorem ok_steps_for (F : Fun K "steps_for" "steps_for" s_steps_for f fd) : FnG P w K mg base CX0 1 f fd ["table", "tasks"] (spSteps K) := by
  refine okG F sc_steps_for (fun vs H Q E h => ?_) (fun cdv A outer s H vs Q E hcm hr h => ?_)
  · obtain ⟨_, _, _, _, _, _, rfl, _⟩ := h
    rfl
  · obtain ⟨Hv, p, kvs, v, tr, ts, rfl, e, hp, ht, hv, hts, q⟩ := h
    have hu1 := hu_of hr
    refine ⟨_, (pss_one (ps_ret (pe_lc (own := [(("task" : Str), 2)])  rfl sc_steps_for.nd (pi_tup (pv 1)) (blkOk_by (N := ["table", "tasks", "task"]) (sc := defScope s_steps_for) (by decide +kernel)) (fun _ _ _ _ _ => (pg_name (i := 2) sc_steps_for.nd rfl (Or.inl rfl))) (fun _ _ _ _ _ => pts_nil) (fun _ _ _ _ _ => (pe_dget2 hu1 (pv 0) (pv 2) (pe_tup (pa_cons pe_int (pa_cons pe_int pa_nil))) ⟨rfl, rfl, rfl, rfl⟩))))), ?_⟩
    refine Runs.go (d := stepsD tr ts) ?_ e q
    refine ru_ret ?_
    have e0 := range_map_get ts (fun t => stepD (look tr t)) Str.empty
    rw [← List.length_map (f := PyData.str) (as := ts)] at e0
    unfold stepsD
    rw [← e0]
    refine ed_lcT _ (ed_var rfl hv) (by rw [List.length_map]; omega) ?_
    intro i x dx H' hdx e1 hx H'' e2 Qg k
    rw [List.getElem?_map] at hdx
    obtain ⟨t, hti, rfl⟩ := Option.map_eq_some_iff.mp hdx
    refine g_name rfl ?_ k
    have e3 : ts.getD i Str.empty = t := by
      rw [List.getD_eq_getElem?_getD, hti]
      rfl
    rw [e3, ← tab_look]
    exact ed_dget rfl (e1 _ _ hp) (tab_same e1 ht) (ed_var rfl hx) (ed_tup (eda_cons ed_int (eda_cons ed_int eda_nil)) (by show 2 ≤ 100000; decide))

/-! ### levels_from -/
def levelsM : Int → List Stp → List Int
  | s, [] => [s]
  | s, (n, g) :: r => if s < n then [s] else s :: levelsM (s + g) r
theorem levelsM_cons (s n g : Int) (r : List Stp) : levelsM s ((n, g) :: r) = if s < n then [s] else s :: levelsM (s + g) r := rfl
def okLevelsFrom : List PyData → PyData → Prop := fun ds d => ∃ s sts, ds = [.int s, .list (sts.map stepD)] ∧ sts.length ≤ 1000 ∧ d = .list ((levelsM s sts).map .int)
theorem last_at (pre : List Int) (z : Int) : atI ((pre ++ [z]).map V.int) (-1) = some (V.int z) := by
  rw [List.map_append]
  exact atI_last _ _

/-! ### least_for -/
def leastM : Int → Int → List Stp → Int
  | lo, _, [] => lo
  | lo, ri, (n, g) :: r => leastM (if n - ri > lo then n - ri else lo) (ri + g) r
def okLeastFor : List PyData → PyData → Prop := fun ds d => ∃ sts, ds = [.list (sts.map stepD)] ∧ sts.length ≤ 1000 ∧ d = .int (leastM 0 0 sts)
end K11

set_option maxHeartbeats 4000000
namespace K11
open PySem PySem.Spec PyProof.Rows L2 Evl VG
variable {P : Program} {w : World} {K : PySem.W.Frag} {mg : Str → Option Value} {base : Heap} {f : Addr} {fd : FuncData}

/-! ### checked_steps -/
abbrev s_checked_steps : Stmt := top 20
theorem sc_checked_steps : FnScope ["trade", "tasks", "table"] ["trade", "tasks"] (defScope s_checked_steps) := ⟨rfl, rfl, rfl, by decide +kernel, rfl, by decide +kernel, by decide +kernel⟩
def tasksOk (ts : List Str) : Prop := (∀ t ∈ ts, nameOk t) ∧ ts.Nodup ∧ ts.length ≤ 100
def okChecked : List PyData → PyData → Prop := fun ds d => ∃ tr ts, ds = [tradeD tr, .tuple (ts.map .str)] ∧ tradeOk tr ∧ tasksOk ts ∧ d = stepsD tr ts
theorem hid_via {Hv H H2 Hv' H3 : Hp} (e : Ex H H2) (hv : ∀ b, Hv' b ≠ none → Hv b = none → H b = none) : Ex (hid Hv' H2 H3) (hid Hv H H3) := fun b o h => by
  obtain ⟨h1, h2⟩ := hid_some h
  rw [hid_see (fun q => ?_)]
  · exact h1
  · by_cases z : Hv' b = none
    · exact ex_none e (h2 z)
    · exact hv b z q
theorem ed_lenSet {σ : L2.St} {H : Hp} {ta : TE} {ts : List Str} (ha : EvD K ta σ H (.tuple (ts.map .str))) (hn : ts.Nodup) (hl : ts.length ≤ 1000) : EvD K (tLenSetS K ta) σ H (.int (ts.length : Int)) := fun H1 e Q q =>
  ha H1 e _ fun x H2 e2 hx => by
    obtain ⟨a, xs, rfl, h1, h2⟩ := dp_tup hx
    rw [vals_of_strs h2] at h1
    exact ⟨a, ts, rfl, sqT_same hid_ex h1, hn, hl, q _ H2 e2 (.int _)⟩
theorem ok_checked_steps (F : Fun K "checked_steps" "checked_steps" s_checked_steps f fd) (B : Bltn mg) (D_trade_table : Def P w K mg base 4 "trade_table" ["trade"] (spTable K))
    (D_are_names : Def P w K mg base 2 "are_names" ["value"] (spOf K 1 okNames)) (D_steps_for : Def P w K mg base 1 "steps_for" ["table", "tasks"] (spSteps K)) :
    FnG P w K mg base CX0 5 f fd ["trade", "tasks"] (spOf K 2 okChecked) := by
  refine okG F sc_checked_steps (fun vs H Q E h => ?_) (fun cdv A outer s H vs Q E hcm hr h => ?_)
  · obtain ⟨_, _, _, h, _⟩ := h
    exact h
  · obtain ⟨Hv, ds, d, hl, e, hds, ⟨tr, ts, rfl, hok, ⟨t1, t2, t3⟩, rfl⟩, q⟩ := h
    obtain ⟨v, u, rfl, h1, h2⟩ := dp2 hds
    refine ⟨_, (pss_cons (ps_set (i := 2) sc_checked_steps.nd rfl (Or.inl rfl) (pe_d D_trade_table hcm hr (by decide) (by rfl) (pa_cons (pv 0) pa_nil)))
      (pss_cons (ps_if (PW.pt (pw_or (pt_not (pt_val (pe_d D_are_names hcm hr (by decide) (by rfl) (pa_cons (pv 1) pa_nil)))) (pw_or1 (pt_cmpR op_lt (pe_lenSetS (by rfl) B.len (by rfl) B.set (pv 1)) (pe_callB (call_lenK K) (by rfl) B.len bt_len (pa_cons (pv 1) pa_nil)) (nomark _))))) (pss_one ps_never) pss_nil)
      (pss_one (ps_ret (pe_d D_steps_for hcm hr (by decide) (by rfl) (pa_cons (pv 2) (pa_cons (pv 1) pa_nil))))))), ?_⟩
    refine ⟨_, rfl, Hv, v, tr, rfl, e, h1, hok, fun p kvs H2 e2 hp hk tab => ?_⟩
    let Hw : Hp := fun b => if b = p then some (.dK kvs) else hid Hv H H2 b
    have ew : Ex Hw H2 := fun b o hb => by
      have hb : (if b = p then some (.dK kvs) else hid Hv H H2 b) = some o := hb
      by_cases z : b = p
      · rw [if_pos z] at hb
        rw [z, hk]
        exact hb
      · rw [if_neg z] at hb
        exact (hid_some hb).1
    have hvp : Hv p = none := ex_none e hp
    have evw : Ex Hv Hw := fun b o hb => by
      show (if b = p then some (.dK kvs) else hid Hv H H2 b) = some o
      by_cases z : b = p
      · rw [z, hvp] at hb
        cases hb
      · rw [if_neg z]
        exact hid_base e e2 _ _ hb
    have tabw : Tab K Hw kvs (tabOf tr) := tab_same (fun b o hb => by
      have hb : (if b = p then none else hid Hv H H2 b) = some o := hb
      show (if b = p then some (.dK kvs) else hid Hv H H2 b) = some o
      by_cases z : b = p
      · rw [if_pos z] at hb
        cases hb
      · rw [if_neg z] at hb ⊢
        exact hb) tab
    have hpw : Hw p = some (.dK kvs) := if_pos rfl
    have hts : EvD K (tVar 1) [some v, some u, some (.ref p)] Hw (.tuple (ts.map .str)) := ed_var rfl (dp_same evw h2)
    refine q_not (K := K) (Hv := Hw) (et_or (a := false) (b := false) (et_not (a := true) (etB_bool (ed_call (E := E0) (eda_cons hts eda_nil) (spD_of (n := 1) (ok := okNames) ⟨ts, rfl, by omega, t1, rfl⟩))))
      fun _ => et_is (etI_lt (ed_lenSet hts t2 (by omega)) (ed_len hts)) ?_) ew fun H3 e3 => ?_
    · rw [List.length_map]
      exact decide_eq_false (by omega)
    · refine ⟨_, rfl, _, rfl, Hw, p, kvs, u, tr, ts, rfl, ew.trans e3, hpw, tabw, dp_same evw h2, by omega, fun x H4 e4 hx => ?_⟩
      refine q x H4 ((e2.trans e3).trans e4) (dp_same (hid_via (e2.trans e3) fun b hb hn => ?_) hx)
      by_cases z : b = p
      · rw [z]
        exact hp
      · have hb : hid Hv H H2 b ≠ none := by
          have hb : (if b = p then some (.dK kvs) else hid Hv H H2 b) ≠ none := hb
          rw [if_neg z] at hb
          exact hb
        cases hq : hid Hv H H2 b with
        | none => exact absurd hq hb
        | some o => exact (hid_some hq).2 hn
theorem ru_dropTable {σ : L2.St} {Hv : Hp} {i : Nat} {v : V} {u : TS} {d : PyData} {tr : Tr} (hi : σ[i]? = some (some v)) (hv : Dp K Hv v (tradeD tr)) (hok : tradeOk tr) (k : Runs K u σ Hv d) :
    Runs K (tSeq (tDrop (tCall (spTable K) [] E0 (tCons (tVar i) tNil))) u) σ Hv d := fun H1 e D q =>
  ⟨_, hi, Hv, v, tr, rfl, e, hv, hok, fun p kvs H2 e2 _ _ _ => k H2 (e.trans e2) D fun w H3 e3 hw => q w H3 (e2.trans e3) (dp_same (hid_late e2) hw)⟩

/-! ### levels -/
def stepsOf (tr : Tr) (ts : List Str) : List Stp := ts.map (look tr)
theorem stepsD_eq (tr : Tr) (ts : List Str) : stepsD tr ts = .list ((stepsOf tr ts).map stepD) := by
  unfold stepsD stepsOf
  rw [List.map_map]
  rfl
theorem stepsOf_len (tr : Tr) (ts : List Str) : (stepsOf tr ts).length = ts.length := List.length_map _
def okLevels : List PyData → PyData → Prop := fun ds d => ∃ tr s ts, ds = [tradeD tr, .int s, .tuple (ts.map .str)] ∧ tradeOk tr ∧ 0 ≤ s ∧ s ≤ 99999 ∧ tasksOk ts ∧ d = .tuple ((levelsM s (stepsOf tr ts)).map .int)

/-! ### least -/
def okLeast : List PyData → PyData → Prop := fun ds d => ∃ tr ts, ds = [tradeD tr, .tuple (ts.map .str)] ∧ tradeOk tr ∧ tasksOk ts ∧ d = .int (leastM 0 0 (stepsOf tr ts))

/-! ### net -/
def netM (sts : List Stp) : Int := (sts.map (·.2)).sum
def okNet : List PyData → PyData → Prop := fun ds d => ∃ tr ts, ds = [tradeD tr, .tuple (ts.map .str)] ∧ tradeOk tr ∧ tasksOk ts ∧ d = .int (netM (stepsOf tr ts))

/-! ### told_back -/
def backL (l : Line) : Line := (l.1, l.2.1 + l.2.2, -l.2.2)
def okBack : List PyData → PyData → Prop := fun ds d => ∃ tr, ds = [tradeD tr] ∧ tradeOk tr ∧ d = tradeD (tr.map backL)
end K11

set_option maxHeartbeats 4000000
namespace K11
open PySem PySem.Spec PyProof.Rows L2 Evl VG
variable {P : Program} {w : World} {K : PySem.W.Frag} {mg : Str → Option Value} {base : Heap} {f : Addr} {fd : FuncData}

/-! ### _law_pot -/
abbrev s_law_pot : Stmt := top 41
theorem sc_law_pot : FnScope ["_law_script", "_law_place", "_law_cell", "_law_own", "_law_small"] ["_law_script", "_law_place"] (defScope s_law_pot) := ⟨rfl, rfl, rfl, by decide +kernel, rfl, by decide +kernel, by decide +kernel⟩
theorem bit_ok (b : Bool) : -(2 ^ 64) < (if b = true then (1 : Int) else 0) ∧ (if b = true then (1 : Int) else 0) < 2 ^ 64 := by
  cases b <;> decide
theorem own_ok (A : Int) (b : Bool) : 0 ≤ (if A < 0 then -A else A) % (((10 : Int) ^ (60 : Int).toNat) ^ (5 : Int).toNat) * (if b then 1 else 0) ∧
    ((if A < 0 then -A else A) % (((10 : Int) ^ (60 : Int).toNat) ^ (5 : Int).toNat) * (if b then 1 else 0)).natAbs < 2 ^ 2000 := by
  have hM : (0 : Int) < ((10 : Int) ^ (60 : Int).toNat) ^ (5 : Int).toNat := by decide +kernel
  have hM2 : ((10 : Int) ^ (60 : Int).toNat) ^ (5 : Int).toNat ≤ ((2 ^ 2000 : Nat) : Int) := by decide +kernel
  generalize ((10 : Int) ^ (60 : Int).toNat) ^ (5 : Int).toNat = M at hM hM2
  generalize (if A < 0 then -A else A) = B
  have h1 := Int.emod_nonneg B (show M ≠ 0 by omega)
  have h2 := Int.emod_lt_of_pos B hM
  cases b with
  | true =>
    show 0 ≤ B % M * 1 ∧ (B % M * 1).natAbs < 2 ^ 2000
    rw [Int.mul_one]
    exact ⟨h1, natAbs_lt h1 (by omega)⟩
  | false =>
    show 0 ≤ B % M * 0 ∧ (B % M * 0).natAbs < 2 ^ 2000
    rw [Int.mul_zero]
    exact ⟨Int.le_refl _, by decide +kernel⟩
theorem ok_pot (F : Fun K "_law_pot" "_law_pot" s_law_pot f fd) (B : Bltn mg) : FnG P w K mg base CX0 1 f fd ["_law_script", "_law_place"] (spPot K) := by
  refine okG F sc_law_pot (fun vs H Q E h => ?_) (fun cdv A outer s H vs Q E hcm hr h => ?_)
  · obtain ⟨_, _, _, rfl, _⟩ := h
    rfl
  · obtain ⟨a, ns, p, rfl, hS, hl, hp, q⟩ := h
    refine ⟨_, (pss_cons (ps_set (i := 2) sc_law_pot.nd rfl (Or.inl rfl) (pe_ifExp (pt_cmpR op_lt (pv 1) (pe_callB (call_lenK K) (by rfl) B.len bt_len (pa_cons (pv 0) pa_nil)) (nomark _)) (pe_ix (ix_listK K) (pv 0) (pv 1) (fun _ _ => rfl)) (pe_op op_add (pe_op op_mul pe_int (pv 1)) pe_int)))
      (pss_cons (ps_set (i := 3) sc_law_pot.nd rfl (Or.inl rfl) (pe_op op_mul (pe_op op_mod (pe_callTy call_int1 (by rfl) B.int bt_int (pa_cons (pe_callB call_abs (by rfl) B.abs bt_abs (pa_cons (pv 2) pa_nil)) pa_nil)) (pe_op op_powX (pe_op op_pow pe_int pe_int) pe_int)) (pe_callTy call_int1 (by rfl) B.int bt_int (pa_cons (pe_cmpR op_ge (pe_callB call_abs (by rfl) B.abs bt_abs (pa_cons (pv 2) pa_nil)) (pe_op op_pow pe_int pe_int) (nomark _)) pa_nil))))
      (pss_cons (ps_set (i := 4) sc_law_pot.nd rfl (Or.inl rfl) (pe_op op_mod (pe_callTy call_int1 (by rfl) B.int bt_int (pa_cons (pv 2) pa_nil)) pe_int))
      (pss_one (ps_ret (pe_lst (pa_cons (pv 3) (pa_cons (pe_op op_mod (pe_callTy call_int1 (by rfl) B.int bt_int (pa_cons (pe_op op_add (pe_op op_add (pe_op op_mul (pv 4) pe_int) (pe_op op_mul (pe_op op_mul pe_int (pv 1)) (pv 1))) pe_int) pa_nil)) pe_int) (pa_cons pe_int pa_nil))))))))), ?_⟩
    obtain ⟨cell, hcell⟩ := ed_cell (K := K) (σ := L2.start ["_law_script", "_law_place", "_law_cell", "_law_own", "_law_small"] [.ref a, .int (p : Int)]) (c1 := 245) (c2 := 98) rfl rfl hS (by decide)
    refine qs_setI hcell (Ex.refl _) fun H1 e1 => ?_
    have cv : ∀ H', EvD K (tVar 2) [some (.ref a), some (.int (p : Int)), some (.int cell), none, none] H' (.int cell) := fun H' => ed_var rfl (.int _)
    refine qs_setI (K := K) (H0 := H1) (ed_I (g := fun i j => i * j) (ed_I (g := fun i j => i % j) (ed_intI (ed_abs (cv H1)))
        (ed_I (g := fun i j => i ^ j.toNat) (ed_I (g := fun i j => i ^ j.toNat) ed_int ed_int ⟨by decide, by decide, by decide⟩) ed_int ⟨by decide, by decide +kernel⟩) ?_)
      (ed_intB (etI_ge (ed_abs (cv H1)) (ed_I (g := fun i j => i ^ j.toNat) ed_int ed_int ⟨by decide, by decide, by decide⟩))) ?_) (Ex.refl _) fun H2 e2 => ?_
    · show (0 : Int) < ((10 : Int) ^ (60 : Int).toNat) ^ (5 : Int).toNat
      decide +kernel
    · exact .inr (bit_ok _)
    obtain ⟨o1, o2⟩ := own_ok cell (decide ((10 : Int) ^ (18 : Int).toNat ≤ if cell < 0 then -cell else cell))
    generalize ((if cell < 0 then -cell else cell) % (((10 : Int) ^ (60 : Int).toNat) ^ (5 : Int).toNat) * (if decide ((10 : Int) ^ (18 : Int).toNat ≤ if cell < 0 then -cell else cell) then 1 else 0)) = own at o1 o2
    refine qs_setI (K := K) (H0 := H2) (ed_I (g := fun i j => i % j) (ed_intI (ed_var rfl (.int cell))) ed_int (by decide)) (Ex.refl _) fun H3 e3 => ?_
    have m1 := Int.emod_nonneg cell (show (2305843009213693951 : Int) ≠ 0 by decide)
    have m2 := Int.emod_lt_of_pos cell (show (0 : Int) < 2305843009213693951 by decide)
    generalize cell % 2305843009213693951 = small at m1 m2
    -- the list of three
    refine ⟨_, rfl, ?_⟩
    refine ev_int (K := K) (H := H3) (ed_I (g := fun i j => i % j) (ed_intI (ed_I0 (g := fun i j => i + j) (ed_I0 (g := fun i j => i + j)
          (ed_I (g := fun i j => i * j) (ed_var rfl (.int small)) ed_int (.inr ⟨by decide, by decide⟩))
          (ed_I (g := fun i j => i * j) (ed_I (g := fun i j => i * j) ed_int (ed_var rfl (.int (p : Int))) (.inl ⟨by decide, by decide⟩)) (ed_var rfl (.int (p : Int))) (.inr ⟨by omega, by omega⟩))) ed_int)) ed_int (by decide)) H3 (Ex.refl _) _ fun H4 e4 => ?_
    refine ⟨by show 3 ≤ sizeLine; decide, fun q' hq' => ?_⟩
    have e14 : Ex H H4 := ((e1.trans e2).trans e3).trans e4
    refine q q' _ (ex_none e14 hq') (e14.trans (Ex.new hq')) ⟨own, _, 0, upd_same, o1, o2, Int.emod_nonneg _ (by decide), ?_, Int.le_refl _, Int.le_refl _⟩
    exact Int.lt_trans (Int.emod_lt_of_pos _ (by decide)) (by decide)
end K11

set_option maxHeartbeats 4000000
namespace K11
open PySem PySem.Spec PyProof.Rows L2 Evl VG
variable {P : Program} {w : World} {K : PySem.W.Frag} {mg : Str → Option Value} {base : Heap} {f : Addr} {fd : FuncData}

/-! ### _law_take -/
abbrev s_law_take : Stmt := top 42
theorem sc_law_take : FnScope ["_law_pot_here", "_law_upto", "_law_prime", "_law_blend", "_law_digit"] ["_law_pot_here", "_law_upto"] (defScope s_law_take) := ⟨rfl, rfl, rfl, by decide +kernel, rfl, by decide +kernel, by decide +kernel⟩
theorem ok_take (F : Fun K "_law_take" "_law_take" s_law_take f fd) (B : Bltn mg) : FnG P w K mg base CX0 1 f fd ["_law_pot_here", "_law_upto"] spTake := by
  refine okG F sc_law_take (fun vs H Q E h => ?_) (fun cdv A outer s H vs Q E hcm hr h => ?_)
  · obtain ⟨_, _, _, rfl, _⟩ := h
    rfl
  · obtain ⟨a, n, k, rfl, ⟨u, v, c, ha, u1, u2, v1, v2, c1, c2⟩, hn, k1, k2, q⟩ := h
    have lp : ∀ {H' : Hp} {x y z : Int}, H' a = some (potL x y z) → Dp K H' (.ref a) (.list [.int x, .int y, .int z]) := fun {H' x y z} h => .lst (.inl (.inl h)) (.cons (.int x) (.cons (.int y) (.cons (.int z) .nil)))
    refine ⟨_, (pss_cons (ps_if (pt_cmpR op_gt (pe_ix (ix_listK K) (pv 0) pe_int (fun _ _ => rfl)) pe_int (nomark _)) (pss_cons (ps_set (i := 4) sc_law_take.nd rfl (Or.inl rfl) (pe_op op_mod (pe_callTy call_int1 (by rfl) B.int bt_int (pa_cons (pe_ix (ix_listK K) (pv 0) pe_int (fun _ _ => rfl)) pa_nil)) (pv 1)))
      (pss_cons (ps_asg (pe_op op_fdivW (pe_ix (ix_listK K) (pv 0) pe_int (fun _ _ => rfl)) (pv 1)) (pg_sub (pv 0) pe_int set_list))
      (pss_one (ps_ret (pv 4))))) pss_nil)
      (pss_cons (ps_asg (pe_op op_add (pe_ix (ix_listK K) (pv 0) pe_int (fun _ _ => rfl)) pe_int) (pg_sub (pv 0) pe_int set_list))
      (pss_cons (ps_set (i := 2) sc_law_take.nd rfl (Or.inl rfl) (pe_ix (ix_listK K) (pe_lst (pa_cons pe_int (pa_cons pe_int (pa_cons pe_int (pa_cons pe_int (pa_cons pe_int pa_nil)))))) (pe_op op_mod (pe_callTy call_int1 (by rfl) B.int bt_int (pa_cons (pe_ix (ix_listK K) (pv 0) pe_int (fun _ _ => rfl)) pa_nil)) pe_int) (fun _ _ => rfl)))
      (pss_cons (ps_set (i := 3) sc_law_take.nd rfl (Or.inl rfl) (pe_op op_mod (pe_callTy call_int1 (by rfl) B.int bt_int (pa_cons (pe_op op_pow (pe_callTy call_int1 (by rfl) B.int bt_int (pa_cons (pe_op op_add (pe_op op_add (pe_ix (ix_listK K) (pv 0) pe_int (fun _ _ => rfl)) (pe_op op_mul (pe_op op_mul pe_int (pe_ix (ix_listK K) (pv 0) pe_int (fun _ _ => rfl))) (pe_ix (ix_listK K) (pv 0) pe_int (fun _ _ => rfl)))) pe_int) pa_nil)) pe_int) pa_nil)) (pv 2)))
      (pss_cons (ps_set (i := 3) sc_law_take.nd rfl (Or.inl rfl) (pe_op op_mod (pe_callTy call_int1 (by rfl) B.int bt_int (pa_cons (pe_op op_mul (pv 3) (pe_op op_add (pe_op op_mod (pe_callTy call_int1 (by rfl) B.int bt_int (pa_cons (pv 3) pa_nil)) pe_int) (pe_op op_mul pe_int (pe_ix (ix_listK K) (pv 0) pe_int (fun _ _ => rfl))))) pa_nil)) pe_int))
      (pss_one (ps_ret (pe_op op_mod (pe_callTy call_int1 (by rfl) B.int bt_int (pa_cons (pe_op op_fdiv (pv 3) pe_int) pa_nil)) (pv 1))))))))), ?_⟩
    have d0 := lp ha
    refine qs_if (b := decide (0 < u)) (etI_gt (ed_ixL (k := 0) (ed_var rfl d0) ed_int rfl) ed_int) (Ex.refl _) (fun hb H1 e1 => ?_) (fun hb H1 e1 => ?_)
    · have hu : 0 < u := of_decide_eq_true hb
      have a1 := e1 _ _ ha
      have m1 := Int.emod_nonneg u (show k ≠ 0 by omega)
      have m2 := Int.emod_lt_of_pos u k1
      have q1 : 0 ≤ u / k := Int.ediv_nonneg u1 (by omega)
      have q2 : (u / k).natAbs < 2 ^ 2000 := Nat.lt_of_le_of_lt (by have := Int.ediv_le_self k u1; omega) u2
      refine qs_setI (K := K) (ed_I (g := fun i j => i % j) (ed_intI (ed_ixL (k := 0) (ed_var rfl (lp a1)) ed_int rfl)) (ed_var rfl (.int k)) k1) (Ex.refl _) fun H2 e2 => ?_
      have a2 := e2 _ _ a1
      refine qs_pot (K := K) (j := 0) (xs := [.int u, .int v, .int c]) (ed_I (g := fun i j => i / j) (ed_ixL (k := 0) (ed_var rfl (lp a2)) ed_int rfl) (ed_var rfl (.int k)) ⟨k1, ?_⟩) (Ex.refl _) rfl a2 rfl (by show 0 < 3; decide) fun H3 e3 => ?_
      · exact Nat.lt_trans (PySem.Flt.log2_lt_of (k := 40) (by decide) (by omega)) (by decide)
      refine ⟨_, rfl, ?_⟩
      refine q _ _ m1 m2 ((But.ex ((e1.trans e2).trans e3)).upd) ⟨u / k, v, c, upd_same, q1, q2, v1, v2, c1, by omega⟩
    · have a1 := e1 _ _ ha
      -- pot[2] = pot[2] + 1
      refine qs_pot (K := K) (j := 2) (xs := [.int u, .int v, .int c]) (ed_I0 (g := fun i j => i + j) (ed_ixL (k := 2) (ed_var rfl (lp a1)) ed_int rfl) ed_int) (Ex.refl _) rfl a1 rfl (by show 2 < 3; decide) fun H2 e2 => ?_
      have a3 : upd H2 a (.lst [.int u, .int v, .int (c + 1)]) a = some (potL u v (c + 1)) := upd_same
      have b3 : But a H (upd H2 a (.lst [.int u, .int v, .int (c + 1)])) := (But.ex (e1.trans e2)).upd
      change tSeq _ _ _ _ (upd H2 a (.lst [.int u, .int v, .int (c + 1)]))
      generalize upd H2 a (.lst [.int u, .int v, .int (c + 1)]) = H3 at a3 b3
      -- the prime
      have m1 := Int.emod_nonneg (c + 1) (show (5 : Int) ≠ 0 by decide)
      have m2 := Int.emod_lt_of_pos (c + 1) (show (0 : Int) < 5 by decide)
      obtain ⟨pr, p1, p2, p3⟩ : ∃ pr : Int, ([PyData.int 2147483647, .int 2147483629, .int 2147483587, .int 2147483579, .int 2147483563] : List PyData)[((c + 1) % 5).toNat]? = some (.int pr) ∧ 0 < pr ∧ pr < 2 ^ 31 := by
        have : (c + 1) % 5 = 0 ∨ (c + 1) % 5 = 1 ∨ (c + 1) % 5 = 2 ∨ (c + 1) % 5 = 3 ∨ (c + 1) % 5 = 4 := by omega
        rcases this with h | h | h | h | h <;> rw [h] <;> exact ⟨_, rfl, by decide, by decide⟩
      refine qs_setI (K := K) (ed_ixLz (k := ((c + 1) % 5).toNat) (ed_lst (eda_cons ed_int (eda_cons ed_int (eda_cons ed_int (eda_cons ed_int (eda_cons ed_int eda_nil))))) (by show 5 ≤ 100000; decide))
        (ed_I (g := fun i j => i % j) (ed_intI (ed_ixL (k := 2) (ed_var rfl (lp a3)) ed_int rfl)) ed_int (by decide)) (by omega) p1) (Ex.refl _) fun H4 e4 => ?_
      have a4 := e4 _ _ a3
      -- the blend
      have cb : -(2 ^ 64) < c + 1 ∧ c + 1 < 2 ^ 64 := ⟨by omega, by omega⟩
      have sq1 : (c + 1) * (c + 1) ≤ 1000001 * 1000001 := Int.mul_le_mul (by omega) (by omega) (by omega) (by decide)
      have sq0 : 0 ≤ (c + 1) * (c + 1) := Int.mul_nonneg (by omega) (by omega)
      have hk1 : EvD K (tOp (rIxL K) (tVar 0) (tC (.int 1))) [some (.ref a), some (.int k), none, some (.int pr), none] H4 (.int v) := ed_ixL (k := 1) (ed_var rfl (lp a4)) ed_int rfl
      have hk2 : EvD K (tOp (rIxL K) (tVar 0) (tC (.int 2))) [some (.ref a), some (.int k), none, some (.int pr), none] H4 (.int (c + 1)) := ed_ixL (k := 2) (ed_var rfl (lp a4)) ed_int rfl
      refine qs_setI (K := K) (ed_I (g := fun i j => i % j) (ed_intI (ed_I (g := fun i j => i ^ j.toNat) (ed_intI (ed_I0 (g := fun i j => i + j) (ed_I0 (g := fun i j => i + j) hk1
          (ed_I (g := fun i j => i * j) (ed_I (g := fun i j => i * j) ed_int hk2 (.inl ⟨by decide, by decide⟩)) hk2 (.inr cb))) ed_int)) ed_int ⟨by decide, by decide, ?_⟩)) (ed_var rfl (.int pr)) p2) (Ex.refl _) fun H5 e5 => ?_
      · rw [Int.mul_assoc]
        omega
      have a5 := e5 _ _ a4
      generalize hbl : ((v + 98059 * (c + 1) * (c + 1) + 100) ^ (3 : Int).toNat) % pr = bl
      have b1 : 0 ≤ bl := by rw [← hbl]; exact Int.emod_nonneg _ (by omega)
      have b2 : bl < pr := by rw [← hbl]; exact Int.emod_lt_of_pos _ p2
      have hb5 : EvD K (tVar 4) [some (.ref a), some (.int k), none, some (.int pr), some (.int bl)] H5 (.int bl) := ed_var rfl (.int _)
      have hk5 : EvD K (tOp (rIxL K) (tVar 0) (tC (.int 2))) [some (.ref a), some (.int k), none, some (.int pr), some (.int bl)] H5 (.int (c + 1)) := ed_ixL (k := 2) (ed_var rfl (lp a5)) ed_int rfl
      refine qs_setI (K := K) (ed_I (g := fun i j => i % j) (ed_intI (ed_I (g := fun i j => i * j) hb5 (ed_I0 (g := fun i j => i + j) (ed_I (g := fun i j => i % j) (ed_intI hb5) ed_int (by decide))
          (ed_I (g := fun i j => i * j) ed_int hk5 (.inl ⟨by decide, by decide⟩))) (.inl ⟨by omega, by omega⟩))) ed_int (by decide)) (Ex.refl _) fun H6 e6 => ?_
      have a6 := e6 _ _ a5
      refine qs_retI (K := K) (ed_I (g := fun i j => i % j) (ed_intI (ed_I (g := fun i j => i / j) (ed_var rfl (.int _)) ed_int ⟨by decide, by decide⟩)) (ed_var rfl (.int k)) k1) (Ex.refl _) fun H7 e7 => ?_
      refine q _ H7 (Int.emod_nonneg _ (by omega)) (Int.emod_lt_of_pos _ k1) (b3.trans (But.ex (((e4.trans e5).trans e6).trans e7))) ⟨u, v, c + 1, e7 _ _ a6, u1, u2, v1, v2, by omega, by omega⟩
end K11

set_option maxHeartbeats 4000000
namespace K11
open PySem PySem.Spec PyProof.Rows L2 Evl VG
variable {P : Program} {w : World} {K : PySem.W.Frag} {mg : Str → Option Value} {base : Heap} {f : Addr} {fd : FuncData}

/-! ### _law_of -/
abbrev s_law_of : Stmt := top 43
theorem sc_law_of : FnScope ["_law_pot_here", "_law_some"] ["_law_pot_here", "_law_some"] (defScope s_law_of) := ⟨rfl, rfl, rfl, by decide +kernel, rfl, by decide +kernel, by decide +kernel⟩
theorem ok_of (F : Fun K "_law_of" "_law_of" s_law_of f fd) (B : Bltn mg) (D_law_take : Def P w K mg base 1 "_law_take" ["_law_pot_here", "_law_upto"] spTake) :
    FnG P w K mg base CX0 2 f fd ["_law_pot_here", "_law_some"] (spOne K) := by
  refine okG F sc_law_of (fun vs H Q E h => ?_) (fun cdv A outer s H vs Q E hcm hr h => ?_)
  · obtain ⟨_, _, _, _, rfl, _⟩ := h
    rfl
  · obtain ⟨a, b, n, xs, rfl, hp, hn, hba, hS, x1, x2, q⟩ := h
    refine ⟨_, (pss_one (ps_ret (pe_ix (ix_listK K) (pv 1) (pe_d D_law_take hcm hr (by decide) (by rfl) (pa_cons (pv 0) (pa_cons (pe_callB (call_lenK K) (by rfl) B.len bt_len (pa_cons (pv 1) pa_nil)) pa_nil))) (fun _ _ => rfl)))), ?_⟩
    refine ⟨_, rfl, _, rfl, _, rfl, b, xs, rfl, .inl hS, a, n, _, rfl, hp, hn, by omega, by omega, fun r H' r0 r1 hb hp' => ?_⟩
    have hS' : SqL K H' b xs := by
      rcases hS with (h | ⟨o, h⟩) | h
      · exact .inl (.inl (hb _ _ hba h))
      · exact .inl (.inr ⟨o, hb _ _ hba h⟩)
      · exact .inr h
    have hlt : r.toNat < xs.length := by omega
    refine ⟨b, xs, r, xs[r.toNat], rfl, rfl, hS', ?_, q _ H' (List.getElem_mem hlt) hb hp'⟩
    have e : r = ((r.toNat : Nat) : Int) := by omega
    exact L2.at_of e (List.getElem?_eq_getElem hlt)

/-! ### _law_some -/

/-! ### _law_cells -/
abbrev s_law_cells : Stmt := top 44
theorem sc_law_cells : FnScope ["_law_script", "_law_limit"] ["_law_script", "_law_limit"] (defScope s_law_cells) := ⟨rfl, rfl, rfl, by decide +kernel, rfl, by decide +kernel, by decide +kernel⟩
theorem ok_cells (F : Fun K "_law_cells" "_law_cells" s_law_cells f fd) (B : Bltn mg) : FnG P w K mg base CX0 1 f fd ["_law_script", "_law_limit"] (spCells K) := by
  refine okG F sc_law_cells (fun vs H Q E h => ?_) (fun cdv A outer s H vs Q E hcm hr h => ?_)
  · obtain ⟨_, _, _, rfl, _⟩ := h
    rfl
  · obtain ⟨a, ns, z, rfl, hS, hl, z0, z1, q⟩ := h
    refine ⟨_, (pss_one (ps_ret (pe_listRg rfl (by rfl) B.list (prg_1 (by rfl) B.range (pe_callB (call_max2 rfl) (by rfl) B.max bt_max (pa_cons pe_int (pa_cons (pe_callB (call_min2 rfl) (by rfl) B.min bt_min (pa_cons (pv 1) (pa_cons (pe_callB (call_lenK K) (by rfl) B.len bt_len (pa_cons (pv 0) pa_nil)) pa_nil))) pa_nil))))))), ?_⟩
    have hs : Dp K H (.ref a) (.list (ns.map .int)) := .lst hS (dpAll_ints ns)
    have hm := ev_int (K := K) (σ := [some (.ref a), some (.int z)]) (H := H) (ed_max2 (ed_int (i := 1)) (ed_min2 (ed_var (i := 1) rfl (.int z)) (ed_is (by rw [List.length_map]) (ed_lenL (ed_var (i := 0) rfl hs)))))
    refine hm H (Ex.refl _) (fun x H1 => ∃ n, x = V.int n ∧ RgOk 0 n ∧ ∀ q, H1 q = none → Q (.ref q) (upd H1 q (.lst (rgV 0 n)))) fun H1 e1 => ?_
    have b1 : 0 ≤ (if (if (ns.length : Int) < z then (ns.length : Int) else z) > 1 then (if (ns.length : Int) < z then (ns.length : Int) else z) else 1) := by split <;> omega
    have b2 : (if (if (ns.length : Int) < z then (ns.length : Int) else z) > 1 then (if (ns.length : Int) < z then (ns.length : Int) else z) else 1) ≤ 100 := by split <;> split <;> omega
    generalize (if (if (ns.length : Int) < z then (ns.length : Int) else z) > 1 then (if (ns.length : Int) < z then (ns.length : Int) else z) else 1) = y at b1 b2
    refine ⟨y, rfl, .of_le (by omega) (by omega) (by omega) (by omega), fun p hp => ?_⟩
    refine q p y.toNat _ (by omega) (ex_none e1 hp) (e1.trans (Ex.new hp)) ?_
    rw [upd_same]
    unfold rgV
    rw [Int.sub_zero]
    simp only [Int.zero_add]
end K11

set_option maxHeartbeats 4000000
namespace K11
open PySem PySem.Spec PyProof.Rows L2 Evl VG
variable {P : Program} {w : World} {K : PySem.W.Frag} {mg : Str → Option Value} {base : Heap} {f : Addr} {fd : FuncData}

/-! ### _law_names -/
def pool16 : List Str := ["a", "b", "c", "d", "task", "may", "few", "do", "go", "x", "zzzzzzzz", "same", "bench", "stock", "plan", "m"]
def goodB (z : Str) : Bool := decide (1 ≤ z.length) && decide (z.length ≤ 8) && z.cps.toList.all fun c => decide (97 ≤ c) && decide (c ≤ 122)
theorem nameOk_of {z : Str} (h : goodB z = true) : nameOk z := by
  simp only [goodB, Bool.and_eq_true, decide_eq_true_eq, List.all_eq_true] at h
  obtain ⟨⟨h1, h2⟩, h3⟩ := h
  refine ⟨h1, h2, fun i c hc => h3 c ?_⟩
  rw [← Array.getElem?_toList] at hc
  exact List.mem_of_getElem? hc
theorem pool_ok : ∀ z ∈ pool16, nameOk z := fun z hz => nameOk_of (by
  have h : pool16.all goodB = true := by decide +kernel
  exact List.all_eq_true.mp h z hz)
theorem pool_nd : pool16.Nodup := by decide +kernel
def spNames : Sp := fun vs H Q _ => ∃ (a : Addr) (n m : Nat), vs = [.ref a, .int (m : Int)] ∧ Pot a n H ∧ n + m ≤ 1000000 ∧ m ≤ 16 ∧
  ∀ (q : Addr) (us : List Str) (H' : Hp), us.Nodup → (∀ u ∈ us, u ∈ pool16) → us.length = m → H q = none → But a H H' → Pot a (n + m) H' → H' q = some (.lst (us.map V.str)) → Q (.ref q) H'

/-! ### _law_trade -/
abbrev s_law_trade : Stmt := top 45
theorem sc_law_trade : FnScope ["_law_pot_here", "_law_tasks", "_law_great", "_law_found", "_law_task", "_law_need", "_law_some"] ["_law_pot_here", "_law_tasks", "_law_great"] (defScope s_law_trade) := ⟨rfl, rfl, rfl, by decide +kernel, rfl, by decide +kernel, by decide +kernel⟩
/-- what is new in H' but q -/
def newIn (H H' : Hp) (q : Addr) : Hp := fun c => if H c = none ∧ c ≠ q then H' c else none
theorem newIn_at {H H' : Hp} {q c : Addr} (h : H c = none) (n : c ≠ q) : newIn H H' q c = H' c := if_pos ⟨h, n⟩
theorem newIn_some {H H' : Hp} {q c : Addr} {o : HO} (h : newIn H H' q c = some o) : H c = none ∧ c ≠ q ∧ H' c = some o := by
  unfold newIn at h
  split at h
  · rename_i x
    exact ⟨x.1, x.2, h⟩
  · cases h
/-- a drawn line -/
def drawnOk (G : Int) (l : Line) : Prop := 0 ≤ l.2.1 ∧ l.2.1 ≤ G ∧ 0 ≤ l.2.1 + l.2.2 ∧ l.2.2 ≤ G
def spTrade (K : PySem.W.Frag) : Sp := fun vs H Q _ => ∃ (a b : Addr) (n : Nat) (G : Int) (ts : List Str), vs = [.ref a, .ref b, .int G] ∧ Pot a n H ∧ n + 200 ≤ 1000000 ∧ b ≠ a ∧ SqL K H b (ts.map V.str) ∧ ts.Nodup ∧ ts.length ≤ 16 ∧ 2 ≤ G ∧ G ≤ 9999 ∧
  ∀ (q : Addr) (es : Tr) (kvs : List (Key × V)) (H' : Hp), (es.map (·.1)).Nodup → (∀ l ∈ es, l.1 ∈ ts ∧ drawnOk G l) → es.length ≤ 16 → H q = none → But a H H' → Pot a (n + 200) H' → H' q = some (.dK kvs) → Tab K (newIn H H' q) kvs (tabOf es) → Q (.ref q) H'
theorem tabOf_len (es : Tr) : (tabOf es).length = es.length := List.length_map _
theorem tab_new {H : Hp} {kvs : List (Key × V)} {es : Tr} {t : Str} (h : Tab K H kvs (tabOf es)) (n : t ∉ es.map (·.1)) : valV kvs (Sum.inr t : Key) = none := by
  rcases tab_val (t := t) h with ⟨_, h⟩ | ⟨_, d', h, _⟩
  · exact h
  · exfalso
    have hm := VG.mem_of_lookup h
    unfold tabOf at hm
    obtain ⟨l, hl1, hl2⟩ := List.mem_map.mp hm
    exact n (List.mem_map.mpr ⟨l, hl1, (Prod.mk.inj hl2).1⟩)
theorem sql_but {a b : Addr} {H H' : Hp} {xs : List V} (hb : But a H H') (n : b ≠ a) (hS : SqL K H b xs) : SqL K H' b xs := by
  rcases hS with (h | ⟨o, h⟩) | h
  · exact .inl (.inl (hb _ _ n h))
  · exact .inl (.inr ⟨o, hb _ _ n h⟩)
  · exact .inr h
theorem ok_trade (F : Fun K "_law_trade" "_law_trade" s_law_trade f fd) (D_law_take : Def P w K mg base 1 "_law_take" ["_law_pot_here", "_law_upto"] spTake)
    (D_law_of : Def P w K mg base 2 "_law_of" ["_law_pot_here", "_law_some"] (spOne K)) :
    FnG P w K mg base CX0 3 f fd ["_law_pot_here", "_law_tasks", "_law_great"] (spTrade K) := by
  refine okG F sc_law_trade (fun vs H Q E h => ?_) (fun cdv A outer s H vs Q E hcm hr h => ?_)
  · obtain ⟨_, _, _, _, _, rfl, _⟩ := h
    rfl
  · obtain ⟨a, b, n, G, ts, rfl, hp, hn, hba, hS, t1, t2, g1, g2, q⟩ := h
    have hu1 := hu_of hr
    refine ⟨_, (pss_cons (ps_set (i := 3) sc_law_trade.nd rfl (Or.inl rfl) pe_dnewK)
      (pss_cons (ps_for PassesOwn.never rfl (pi_list (pv 1)) (pg_name (i := 4) sc_law_trade.nd rfl (Or.inl rfl)) (pss_one (ps_if (pt_cmpR op_gt (pe_d D_law_take hcm hr (by decide) (by rfl) (pa_cons (pv 0) (pa_cons pe_int pa_nil))) pe_int (nomark _)) (pss_cons (ps_set (i := 5) sc_law_trade.nd rfl (Or.inl rfl) (pe_d D_law_of hcm hr (by decide) (by rfl) (pa_cons (pv 0) (pa_cons (pe_lst (pa_cons pe_int (pa_cons pe_int (pa_cons pe_int (pa_cons (pe_d D_law_take hcm hr (by decide) (by rfl) (pa_cons (pv 0) (pa_cons (pe_op op_add (pv 2) pe_int) pa_nil))) pa_nil))))) pa_nil))))
      (pss_cons (ps_set (i := 6) sc_law_trade.nd rfl (Or.inl rfl) (pe_lst (pa_cons (pe_un un_neg (pv 5)) (pa_cons pe_int (pa_cons pe_int (pa_cons pe_int (pa_cons (pe_d D_law_take hcm hr (by decide) (by rfl) (pa_cons (pv 0) (pa_cons (pe_op op_add (pv 2) pe_int) pa_nil))) (pa_cons (pe_op op_sub (pe_d D_law_take hcm hr (by decide) (by rfl) (pa_cons (pv 0) (pa_cons (pe_op op_add (pv 5) pe_int) pa_nil))) (pv 5)) pa_nil))))))))
      (pss_one (ps_dput hu1 (pv 3) (pv 4) (pe_tup (pa_cons (pv 5) (pa_cons (pe_d D_law_of hcm hr (by decide) (by rfl) (pa_cons (pv 0) (pa_cons (pv 6) pa_nil))) pa_nil))) rfl)))) pss_nil)))
      (pss_one (ps_ret (pv 3))))), ?_⟩
    intro d hd
    have nad : a ≠ d := fun z => hp.some (by rw [z]; exact hd)
    refine ⟨_, rfl, b, rfl, ⟨_, sql_but (But.ex (Ex.new hd)) hba hS⟩, ?_⟩
    refine for_list (K := K) (a := b) (xs := ts.map V.str) (fun i σ H' => ∃ (es : Tr) (kvs : List (Key × V)) (o1 o2 o3 : Option V), σ = [some (.ref a), some (.ref b), some (.int G), some (.ref d), o1, o2, o3] ∧ But a H H' ∧ Pot a (n + 8 * i) H' ∧
        H' d = some (.dK kvs) ∧ Tab K (newIn H H' d) kvs (tabOf es) ∧ (es.map (·.1)).Sublist (ts.take i) ∧ (∀ l ∈ es, drawnOk G l))
      ⟨[], [], none, none, none, rfl, But.ex (Ex.new hd), hp.ex (Ex.new hd), upd_same, .nil, List.Sublist.refl _, fun l hl => absurd hl List.not_mem_nil⟩
      (fun i σ H' _ ⟨_, _, _, _, _, _, hb, _⟩ => sql_but hb hba hS) ?_ ?_
    · rintro i x σ H0 hx ⟨es, kvs, o1, o2, o3, rfl, hb0, hp0, hd0, tab0, sub0, ok0⟩
      rw [List.getElem?_map] at hx
      obtain ⟨t, ht, rfl⟩ := Option.map_eq_some_iff.mp hx
      have hi : i < ts.length := (List.getElem?_eq_some_iff.mp ht).1
      have hee : es.length ≤ i := by
        have h1 := sub0.length_le
        rw [List.length_map, List.length_take] at h1
        omega
      have htk : ts.take (i + 1) = ts.take i ++ [t] := by
        rw [List.take_add_one, ht]
        rfl
      -- the first draw
      refine ⟨_, rfl, a, n + 8 * i, 6, rfl, hp0, by omega, by decide, by decide, fun r1 H1 _ _ hb1 hp1 => ?_⟩
      have hb01 := hb0.trans hb1
      refine ⟨_, _, rfl, rfl, _, rfl, ?_⟩
      refine ite2 (fun _ => ?_) (fun _ => ?_)
      rotate_left
      · -- nothing is told of it
        refine ⟨es, kvs, _, _, _, rfl, hb01, hp1.le (by omega), hb1 _ _ nad.symm hd0, tab_same (fun c o hc => ?_) tab0, sub0.trans ?_, ok0⟩
        · obtain ⟨c1, c2, c3⟩ := newIn_some hc
          rw [newIn_at c1 c2]
          exact hb1 _ _ (fun z => hp.some (z ▸ c1)) c3
        · rw [htk]
          exact List.sublist_append_left _ _
      -- need
      refine ⟨_, rfl, _, rfl, _, rfl, _, _, rfl, rfl, a, n + 8 * i + 1, G + 1, rfl, hp1, by omega, by omega, by omega, fun r2 H2 r20 r21 hb2 hp2 => ?_⟩
      refine ⟨by show 4 ≤ sizeLine; decide, fun p3 hp3 => ?_⟩
      refine ⟨a, p3, n + 8 * i + 2, _, rfl, hp2.ex (Ex.new hp3), by omega, fun z => hp2.some (z ▸ hp3), .inl (.inl upd_same), (by show 0 < 4; decide), (by show 4 ≤ 1000; decide), fun v H4 hv hb4 hp4 => ?_⟩
      obtain ⟨need, rfl, nd0, nd1⟩ : ∃ need : Int, v = .int need ∧ 0 ≤ need ∧ need ≤ G := by
        simp only [List.mem_cons, List.not_mem_nil, or_false] at hv
        rcases hv with h | h | h | h <;> rw [h] <;> exact ⟨_, rfl, by omega, by omega⟩
      have hb14 : But a H1 H4 := (hb2.trans (But.ex (Ex.new hp3))).trans hb4
      -- the list of gains
      refine ⟨_, rfl, need, rfl, ?_⟩
      refine ⟨_, rfl, _, rfl, _, _, rfl, rfl, a, n + 8 * i + 3, G + 1, rfl, hp4, by omega, by omega, by omega, fun r5 H5 r50 r51 hb5 hp5 => ?_⟩
      refine ⟨_, rfl, _, rfl, _, _, rfl, rfl, a, n + 8 * i + 4, need + 1, rfl, hp5, by omega, by omega, by omega, fun r6 H6 r60 r61 hb6 hp6 => ?_⟩
      refine ⟨_, rfl, _, _, rfl, rfl, ?_⟩
      refine ⟨by show 6 ≤ sizeLine; decide, fun p7 hp7 => ?_⟩
      have hp6' := hp6.ex (Ex.new hp7 (o := .lst [.int (-need), .int 0, .int 1, .int 2, .int r5, .int (r6 - need)]))
      have s7 : upd H6 p7 (.lst [.int (-need), .int 0, .int 1, .int 2, .int r5, .int (r6 - need)]) p7 = some (.lst [.int (-need), .int 0, .int 1, .int 2, .int r5, .int (r6 - need)]) := upd_same
      have hb67 : But a H6 (upd H6 p7 (.lst [.int (-need), .int 0, .int 1, .int 2, .int r5, .int (r6 - need)])) := But.ex (Ex.new hp7)
      have np7 : p7 ≠ a := fun z => hp6.some (z ▸ hp7)
      -- found[task] = (need, gain)
      refine ⟨_, rfl, _, rfl, _, rfl, ?_⟩
      refine ⟨a, p7, n + 8 * i + 5, _, rfl, hp6', by omega, np7, .inl (.inl s7), (by show 0 < 6; decide), (by show 6 ≤ 1000; decide), fun v8 H8 hv8 hb8 hp8 => ?_⟩
      obtain ⟨gain, rfl, gn0, gn1⟩ : ∃ gain : Int, v8 = .int gain ∧ 0 ≤ need + gain ∧ gain ≤ G := by
        simp only [List.mem_cons, List.not_mem_nil, or_false] at hv8
        rcases hv8 with h | h | h | h | h | h <;> rw [h] <;> exact ⟨_, rfl, by omega, by omega⟩
      refine ⟨by show 2 ≤ sizeLine; decide, fun p9 hp9 => ?_⟩
      have hb18 : But a H1 H8 := (((hb14.trans hb5).trans hb6).trans hb67).trans hb8
      have hd8 : H8 d = some (.dK kvs) := hb18 _ _ nad.symm (hb1 _ _ nad.symm hd0)
      have n9d : d ≠ p9 := fun z => by
        rw [z, hp9] at hd8
        cases hd8
      have hb09 : But a H (upd H8 p9 (.tup [.int need, .int gain])) := ((hb01.trans hb18)).trans (But.ex (Ex.new hp9))
      have h9 : H p9 = none := by
        cases q9 : H p9 with
        | none => rfl
        | some o =>
          by_cases z : p9 = a
          · exact absurd hp9 (z ▸ hp8.some)
          · have := (hb01.trans hb18) _ _ z q9
            rw [hp9] at this
            cases this
      refine ⟨_, rfl, _, rfl, ?_⟩
      have nt : t ∉ es.map (·.1) := fun hm => by
        have hm2 := sub0.subset hm
        obtain ⟨j, hj⟩ := List.mem_iff_getElem?.mp hm2
        have hji : j < i := by
          have := (List.getElem?_eq_some_iff.mp hj).1
          rw [List.length_take] at this
          omega
        rw [List.getElem?_take_of_lt hji] at hj
        have := nd_ix t1 hj ht
        omega
      refine ⟨d, _, rfl, .inl ⟨kvs, Sum.inr t, (upd_ne n9d).trans hd8, rfl, ?_, rfl⟩, ?_⟩
      · have := tab_len tab0
        rw [tabOf_len] at this
        exact sz_lt (by omega)
      rw [putK_new _ (tab_new tab0 nt)]
      refine ⟨es ++ [(t, need, gain)], _, _, _, _, rfl, ?_, ?_, upd_same, ?_, ?_, ?_⟩
      · intro c o nc hc
        rw [upd_ne (ne_of_none hc hd)]
        exact hb09 _ _ nc hc
      · have hp9' := (hp8.ex (Ex.new hp9 (o := .tup [.int need, .int gain])))
        obtain ⟨u, v, c, z, rest⟩ := hp9'.le (m := n + 8 * (i + 1)) (by omega)
        refine ⟨u, v, c, ?_, rest⟩
        rw [upd_ne nad]
        exact z
      · have vis : Ex (newIn H H0 d) (newIn H (upd (upd H8 p9 (.tup [.int need, .int gain])) d (.dK (kvs ++ [(Sum.inr t, V.ref p9)]))) d) := fun c o hc => by
          obtain ⟨c1, c2, c3⟩ := newIn_some hc
          rw [newIn_at c1 c2, upd_ne c2]
          have nca : c ≠ a := fun z => hp.some (z ▸ c1)
          have h8 := hb18 _ _ nca (hb1 _ _ nca c3)
          rw [upd_ne (fun z => by rw [z, hp9] at h8; cases h8)]
          exact h8
        unfold tabOf
        rw [List.map_append]
        refine paired_app (tab_same vis tab0) (.cons ⟨rfl, ?_⟩ .nil)
        refine .tup (xs := [.int need, .int gain]) (.inl (.inl ?_)) (.cons (.int _) (.cons (.int _) .nil))
        rw [newIn_at h9 n9d.symm, upd_ne n9d.symm]
        exact upd_same
      · rw [htk, List.map_append]
        exact sub0.append (List.Sublist.refl _)
      · intro l hl
        rcases List.mem_append.mp hl with h | h
        · exact ok0 l h
        · rw [List.mem_singleton.mp h]
          exact ⟨nd0, nd1, gn0, gn1⟩
    · rintro σ H0 ⟨es, kvs, o1, o2, o3, rfl, hb0, hp0, hd0, tab0, sub0, ok0⟩
      rw [List.length_map] at hp0 sub0
      rw [List.take_length] at sub0
      refine ⟨_, rfl, ?_⟩
      have hel := sub0.length_le
      rw [List.length_map] at hel
      exact q d es kvs H0 (t1.sublist sub0) (fun l hl => ⟨sub0.subset (List.mem_map.mpr ⟨l, hl, rfl⟩), ok0 l hl⟩) (by omega) hd hb0 (hp0.le (by omega)) hd0 tab0
end K11

set_option maxHeartbeats 4000000
/-! what the mirrors of k10 say of one another -/
namespace K11
open PySem PySem.Spec PyProof.Rows L2 Evl VG

/-! ### the order of names -/
theorem str_ext {x y : Str} (h : x.cps.toList = y.cps.toList) : x = y := by
  cases x
  cases y
  simp at h
  rw [h]
theorem rising_asc : ∀ (r : List Str) (x : Str), risingS x r = true → (x :: r).Nodup → ascS (x :: r)
  | [], x, _, _ => fun i a b h1 h2 => by
    have := (List.getElem?_eq_some_iff.mp h2).1
    simp at this
  | y :: r, x, h, nd => by
    have h : ltCps y.cps.toList x.cps.toList = false ∧ risingS y r = true := by
      simpa [risingS] using h
    have ih := rising_asc r y h.2 (List.nodup_cons.mp nd).2
    intro i a b h1 h2
    cases i with
    | zero =>
      have h1 : x = a := by simpa using h1
      have h2 : y = b := by simpa using h2
      subst h1
      subst h2
      have n := h.1
      rw [ltCps_eq, decide_eq_false_iff_not] at n
      rcases List.le_iff_lt_or_eq.mp (List.not_lt.mp n) with h | h
      · exact h
      · exact absurd (str_ext h) (fun z => (List.nodup_cons.mp nd).1 (z ▸ List.mem_cons_self ..))
    | succ i =>
      exact ih i a b (by simpa using h1) (by simpa using h2)
theorem sorted_asc {ts : List Str} (h : sortedS ts = true) (nd : ts.Nodup) : ascS ts := by
  cases ts with
  | nil => exact fun i a b h1 _ => by simp at h1
  | cons x r => exact rising_asc r x h nd
theorem asc_pw {ts : List Str} (h : ascS ts) : ts.Pairwise fun x y => x.cps.toList < y.cps.toList := by
  rw [List.pairwise_iff_getElem]
  intro i j hi hj hij
  exact asc_lt h hij (List.getElem?_eq_getElem hi) (List.getElem?_eq_getElem hj)
theorem perm_pw {α : Type} {R : α → α → Prop} (irr : ∀ a b, R a b → R b a → False) : ∀ {l m : List α}, l.Perm m → l.Pairwise R → m.Pairwise R → l = m
  | [], m, p, _, _ => (List.nil_perm.mp p).symm
  | a :: l, [], p, _, _ => absurd p.symm (by simp)
  | a :: l, b :: m, p, h1, h2 => by
    have h1 := List.pairwise_cons.mp h1
    have h2 := List.pairwise_cons.mp h2
    have e : a = b := by
      have ha : a ∈ b :: m := p.mem_iff.mp (List.mem_cons_self ..)
      have hb : b ∈ a :: l := p.mem_iff.mpr (List.mem_cons_self ..)
      rcases List.mem_cons.mp ha with h | h
      · exact h
      · rcases List.mem_cons.mp hb with h' | h'
        · exact h'.symm
        · exact (irr _ _ (h1.1 _ h') (h2.1 _ h)).elim
    subst e
    rw [perm_pw irr ((List.perm_cons a).mp p) h1.2 h2.2]
theorem asc_uniq {x y : Tr} (p : x.Perm y) (h1 : ascS (x.map (·.1))) (h2 : ascS (y.map (·.1))) : x = y := by
  refine perm_pw (R := fun a b => a.1.cps.toList < b.1.cps.toList) (fun a b h g => ?_) p ?_ ?_
  · exact List.lt_irrefl _ (List.lt_trans h g)
  · have q := asc_pw h1
    rw [List.pairwise_map] at q
    exact q
  · have q := asc_pw h2
    rw [List.pairwise_map] at q
    exact q
theorem asc_nd {ts : List Str} (h : ascS ts) : ts.Nodup := (asc_pw h).imp fun {a b} h z => by
  subst z
  exact List.lt_irrefl _ h

/-! ### looking up -/
theorem look_cons (l : Line) (tr : Tr) (t : Str) : look (l :: tr) t = if t = l.1 then l.2 else look tr t := by
  obtain ⟨s, n, g⟩ := l
  unfold look
  rw [List.lookup_cons]
  by_cases h : t = s
  · subst h
    rw [if_pos rfl, show (t == t) = true from beq_self_eq_true t]
    rfl
  · rw [if_neg h, beq_eq_false_iff_ne.mpr h]
theorem look_mem : ∀ {tr : Tr}, (tr.map (·.1)).Nodup → ∀ {l : Line}, l ∈ tr → look tr l.1 = l.2
  | [], _, _, h => absurd h List.not_mem_nil
  | x :: tr, nd, l, h => by
    have nd := List.nodup_cons.mp (show ((x.1) :: tr.map (·.1)).Nodup from nd)
    rw [look_cons]
    rcases List.mem_cons.mp h with h | h
    · rw [h, if_pos rfl]
    · have n : ¬ l.1 = x.1 := fun z => nd.1 (by
        rw [← z]
        exact List.mem_map.mpr ⟨l, h, rfl⟩)
      rw [if_neg n, look_mem nd.2 h]
theorem look_no : ∀ {tr : Tr} {t : Str}, t ∉ tr.map (·.1) → look tr t = (0, 0)
  | [], _, _ => rfl
  | x :: tr, t, h => by
    have n : ¬ t = x.1 := fun z => h (by
      rw [z]
      exact List.mem_cons_self ..)
    rw [look_cons, if_neg n, look_no (fun z => h (List.mem_cons_of_mem _ z))]
theorem look_perm {x y : Tr} (p : x.Perm y) (nd : (y.map (·.1)).Nodup) (t : Str) : look x t = look y t := by
  have pm : (x.map (·.1)).Perm (y.map (·.1)) := p.map _
  by_cases h : t ∈ y.map (·.1)
  · obtain ⟨l, hl, rfl⟩ := List.mem_map.mp h
    rw [look_mem nd hl, look_mem (pm.nodup_iff.mpr nd) (p.mem_iff.mpr hl)]
  · rw [look_no h, look_no (fun z => h (pm.mem_iff.mp z))]
def backS (s : Stp) : Stp := (s.1 + s.2, -s.2)
theorem look_back : ∀ (tr : Tr) (t : Str), look (tr.map backL) t = backS (look tr t)
  | [], _ => rfl
  | x :: tr, t => by
    rw [List.map_cons, look_cons, look_cons]
    show (if t = x.1 then _ else _) = _
    by_cases h : t = x.1
    · rw [if_pos h, if_pos h]
      rfl
    · rw [if_neg h, if_neg h, look_back tr t]
theorem steps_perm {x y : Tr} (p : x.Perm y) (nd : (y.map (·.1)).Nodup) (ts : List Str) : stepsOf x ts = stepsOf y ts := List.map_congr_left fun t _ => look_perm p nd t
theorem steps_back (tr : Tr) (ts : List Str) : stepsOf (tr.map backL) ts = (stepsOf tr ts).map backS := by
  unfold stepsOf
  rw [List.map_map]
  exact List.map_congr_left fun t _ => look_back tr t
theorem keys_back (tr : Tr) : (tr.map backL).map (·.1) = tr.map (·.1) := by
  rw [List.map_map]
  rfl
theorem back_back (tr : Tr) : (tr.map backL).map backL = tr := by
  rw [List.map_map]
  conv => rhs; rw [← List.map_id tr]
  refine List.map_congr_left fun l _ => ?_
  obtain ⟨t, n, g⟩ := l
  show (t, n + g + -g, - -g) = (t, n, g)
  rw [show n + g + -g = n by omega, Int.neg_neg]
theorem back_ok {tr : Tr} (h : tradeOk tr) : tradeOk (tr.map backL) := by
  refine ⟨by rw [List.length_map]; exact h.1, fun l hl => ?_, by rw [keys_back]; exact h.2.2⟩
  obtain ⟨x, hx, rfl⟩ := List.mem_map.mp hl
  obtain ⟨h1, h2, h3, h4, h5⟩ := h.2.1 x hx
  exact ⟨h1, h4, h5, by show 0 ≤ x.2.1 + x.2.2 + -x.2.2; omega, by show x.2.1 + x.2.2 + -x.2.2 ≤ 9999; omega⟩
/-- steps as they are told -/
def stpOk (s : Stp) : Prop := 0 ≤ s.1 ∧ s.1 ≤ 9999 ∧ 0 ≤ s.1 + s.2 ∧ s.1 + s.2 ≤ 9999
theorem look_ok : ∀ {tr : Tr}, (∀ l ∈ tr, lineOk l) → ∀ t, stpOk (look tr t)
  | [], _, _ => by
    show stpOk (0, 0)
    exact ⟨by decide, by decide, by decide, by decide⟩
  | x :: tr, h, t => by
    rw [look_cons]
    split
    · exact (h x (List.mem_cons_self ..)).2
    · exact look_ok (fun l hl => h l (List.mem_cons_of_mem _ hl)) t
theorem steps_ok {tr : Tr} (h : tradeOk tr) (ts : List Str) : ∀ s ∈ stepsOf tr ts, stpOk s := fun s hs => by
  obtain ⟨t, _, rfl⟩ := List.mem_map.mp hs
  exact look_ok h.2.1 t

/-! ### the least stock -/
/-- all that is needed is at hand with z -/
def okZ (z : Int) : Int → List Stp → Prop
  | _, [] => True
  | ri, (n, g) :: r => n - ri ≤ z ∧ okZ z (ri + g) r
theorem least_iff : ∀ (sts : List Stp) (lo ri z : Int), leastM lo ri sts ≤ z ↔ lo ≤ z ∧ okZ z ri sts
  | [], lo, ri, z => by simp [leastM, okZ]
  | (n, g) :: r, lo, ri, z => by
    show leastM (if n - ri > lo then n - ri else lo) (ri + g) r ≤ z ↔ lo ≤ z ∧ n - ri ≤ z ∧ okZ z (ri + g) r
    rw [least_iff r]
    split <;> constructor <;> intro h <;> refine ⟨?_, ?_⟩ <;> first | omega | exact h.2 | exact h.2.2 | exact ⟨by omega, h.2⟩
theorem okZ_app {z : Int} : ∀ (xs ys : List Stp) (ri : Int), okZ z ri (xs ++ ys) ↔ okZ z ri xs ∧ okZ z (ri + netM xs) ys
  | [], ys, ri => by
    show okZ z ri ys ↔ True ∧ okZ z (ri + 0) ys
    rw [Int.add_zero, true_and]
  | (n, g) :: xs, ys, ri => by
    show (n - ri ≤ z ∧ okZ z (ri + g) (xs ++ ys)) ↔ (n - ri ≤ z ∧ okZ z (ri + g) xs) ∧ okZ z (ri + netM ((n, g) :: xs)) ys
    rw [okZ_app xs ys (ri + g), show netM ((n, g) :: xs) = g + netM xs from rfl, Int.add_assoc, and_assoc]
theorem okZ_shift : ∀ (xs : List Stp) (z ri c : Int), okZ z ri xs ↔ okZ (z + c) (ri - c) xs
  | [], z, ri, c => Iff.rfl
  | (n, g) :: xs, z, ri, c => by
    show (n - ri ≤ z ∧ okZ z (ri + g) xs) ↔ (n - (ri - c) ≤ z + c ∧ okZ (z + c) (ri - c + g) xs)
    rw [okZ_shift xs z (ri + g) c, show ri + g - c = ri - c + g by omega, show (n - ri ≤ z) ↔ (n - (ri - c) ≤ z + c) from ⟨fun h => by omega, fun h => by omega⟩]
theorem net_app (xs ys : List Stp) : netM (xs ++ ys) = netM xs + netM ys := by
  unfold netM
  rw [List.map_append, List.sum_append]
theorem net_back : ∀ xs : List Stp, netM (xs.map backS) = -netM xs
  | [] => rfl
  | (n, g) :: xs => by
    show -g + netM (xs.map backS) = -(g + netM xs)
    rw [net_back xs]
    omega
theorem net_rev (xs : List Stp) : netM xs.reverse = netM xs := by
  induction xs with
  | nil => rfl
  | cons s r ih =>
    rw [List.reverse_cons, net_app, ih]
    show netM r + (s.2 + 0) = s.2 + netM r
    omega
theorem okZ_rev : ∀ (xs : List Stp) (z ri : Int), okZ z ri (xs.map backS).reverse ↔ okZ (z + ri - netM xs) 0 xs
  | [], z, ri => Iff.rfl
  | (n, g) :: xs, z, ri => by
    rw [List.map_cons, List.reverse_cons, okZ_app, okZ_rev xs z ri, net_rev, net_back]
    show (_ ∧ (n + g - (ri + -netM xs) ≤ z ∧ True)) ↔ (n - 0 ≤ z + ri - (g + netM xs) ∧ okZ (z + ri - (g + netM xs)) (0 + g) xs)
    rw [okZ_shift xs (z + ri - (g + netM xs)) (0 + g) g, show z + ri - (g + netM xs) + g = z + ri - netM xs by omega, show 0 + g - g = 0 by omega]
    constructor
    · intro h
      exact ⟨by omega, h.1⟩
    · intro h
      exact ⟨h.2, by omega, trivial⟩
theorem okZ_end : ∀ {xs : List Stp} {z ri : Int}, xs ≠ [] → (∀ s ∈ xs, stpOk s) → okZ z ri xs → 0 ≤ z + ri + netM xs
  | [], _, _, h, _, _ => absurd rfl h
  | [(n, g)], z, ri, _, h, o => by
    have h := (h (n, g) (List.mem_cons_self ..)).2.2.1
    have o := o.1
    show 0 ≤ z + ri + (g + 0)
    have h : 0 ≤ n + g := h
    omega
  | (n, g) :: y :: xs, z, ri, _, h, o => by
    have := okZ_end (xs := y :: xs) (z := z) (ri := ri + g) (by simp) (fun s hs => h s (List.mem_cons_of_mem _ hs)) o.2
    show 0 ≤ z + ri + (g + netM (y :: xs))
    omega
theorem least_rev {sts : List Stp} (h : ∀ s ∈ sts, stpOk s) : leastM 0 0 (sts.map backS).reverse = leastM 0 0 sts + netM sts := by
  have key : ∀ z, leastM 0 0 (sts.map backS).reverse ≤ z ↔ leastM 0 0 sts + netM sts ≤ z := fun z => by
    have e : leastM 0 0 sts + netM sts ≤ z ↔ leastM 0 0 sts ≤ z - netM sts := ⟨fun h => by omega, fun h => by omega⟩
    rw [e, least_iff, least_iff, okZ_rev, Int.add_zero]
    cases sts with
    | nil =>
      show (0 ≤ z ∧ True) ↔ (0 ≤ z - 0 ∧ True)
      rw [Int.sub_zero]
    | cons s r =>
      have h1 := (h s (List.mem_cons_self ..)).1
      constructor
      · intro q
        have := q.2.1
        exact ⟨by omega, q.2⟩
      · intro q
        have := okZ_end (by simp) h q.2
        exact ⟨by omega, q.2⟩
  have a := (key _).mpr (Int.le_refl _)
  have b := (key _).mp (Int.le_refl _)
  omega
theorem least_nonneg (sts : List Stp) : 0 ≤ leastM 0 0 sts := ((least_iff sts 0 0 _).mp (Int.le_refl _)).1
theorem least_le : ∀ (sts : List Stp) (lo ri M : Int), (∀ s ∈ sts, stpOk s) → lo ≤ M → -ri + 10000 * (sts.length : Int) ≤ M → leastM lo ri sts ≤ M
  | [], lo, ri, M, _, h, _ => h
  | (n, g) :: r, lo, ri, M, h, h1, h2 => by
    have hs := h (n, g) (List.mem_cons_self ..)
    have a1 : 0 ≤ n := hs.1
    have a2 : n ≤ 9999 := hs.2.1
    have a3 : 0 ≤ n + g := hs.2.2.1
    rw [List.length_cons] at h2
    refine least_le r _ _ M (fun s hs => h s (List.mem_cons_of_mem _ hs)) ?_ ?_
    · split <;> omega
    · omega
theorem net_le : ∀ (sts : List Stp), (∀ s ∈ sts, stpOk s) → -(10000 * (sts.length : Int)) ≤ netM sts ∧ netM sts ≤ 10000 * (sts.length : Int)
  | [], _ => by
    show _ ≤ (0 : Int) ∧ (0 : Int) ≤ _
    simp
  | (n, g) :: r, h => by
    have hs := h (n, g) (List.mem_cons_self ..)
    have a1 : 0 ≤ n := hs.1
    have a2 : n ≤ 9999 := hs.2.1
    have a3 : 0 ≤ n + g := hs.2.2.1
    have a4 : n + g ≤ 9999 := hs.2.2.2
    have ih := net_le r (fun s hs => h s (List.mem_cons_of_mem _ hs))
    rw [List.length_cons]
    show _ ≤ g + netM r ∧ g + netM r ≤ _
    omega
/-! ### the levels -/
theorem levels_len : ∀ (sts : List Stp) (s : Int), (levelsM s sts).length ≤ sts.length + 1
  | [], s => by show 1 ≤ 0 + 1; decide
  | (n, g) :: r, s => by
    rw [levelsM_cons]
    split
    · show 1 ≤ _
      rw [List.length_cons]
      omega
    · rw [List.length_cons, List.length_cons]
      have := levels_len r (s + g)
      omega
theorem levels_pos : ∀ (sts : List Stp) (s : Int), 1 ≤ (levelsM s sts).length
  | [], s => by show 1 ≤ 1; decide
  | (n, g) :: r, s => by
    rw [levelsM_cons]
    split
    · show 1 ≤ 1
      decide
    · rw [List.length_cons]
      omega
theorem levels_all : ∀ (sts : List Stp) (s ri : Int), (levelsM (s + ri) sts).length = sts.length + 1 ↔ okZ s ri sts
  | [], s, ri => by
    show (1 = 0 + 1) ↔ True
    simp
  | (n, g) :: r, s, ri => by
    rw [levelsM_cons]
    show _ ↔ (n - ri ≤ s ∧ okZ s (ri + g) r)
    by_cases h : s + ri < n
    · rw [if_pos h]
      constructor
      · intro q
        exfalso
        have q : 1 = (r.length + 1) + 1 := q
        omega
      · intro q
        omega
    · rw [if_neg h, List.length_cons, List.length_cons, ← levels_all r s (ri + g), Int.add_assoc]
      constructor
      · intro q
        exact ⟨by omega, by omega⟩
      · intro q
        omega
theorem levels_due (sts : List Stp) {s : Int} (h : 0 ≤ s) : (levelsM s sts).length = sts.length + 1 ↔ leastM 0 0 sts ≤ s := by
  have := levels_all sts s 0
  rw [Int.add_zero] at this
  rw [this, least_iff]
  exact ⟨fun q => ⟨h, q⟩, fun q => q.2⟩
theorem levels_mild : ∀ (sts : List Stp) (s : Int), (∀ x ∈ sts, stpOk x) → ∀ z ∈ levelsM s sts, s - 10000 * (sts.length : Int) ≤ z ∧ z ≤ s + 10000 * (sts.length : Int)
  | [], s, _, z, hz => by
    have : z = s := by simpa [levelsM] using hz
    subst this
    simp
  | (n, g) :: r, s, h, z, hz => by
    have hs := h (n, g) (List.mem_cons_self ..)
    have a1 : 0 ≤ n := hs.1
    have a2 : n ≤ 9999 := hs.2.1
    have a3 : 0 ≤ n + g := hs.2.2.1
    have a4 : n + g ≤ 9999 := hs.2.2.2
    rw [List.length_cons]
    rw [levelsM_cons] at hz
    split at hz
    · have : z = s := by simpa using hz
      subst this
      omega
    · rcases List.mem_cons.mp hz with e | hz
      · subst e
        omega
      · have := levels_mild r (s + g) (fun x hx => h x (List.mem_cons_of_mem _ hx)) z hz
        omega
/-! ### short reprs -/
theorem mild_ints : ∀ {ns : List Int}, (∀ n ∈ ns, n.natAbs < 10 ^ 30) → mildAll (ns.map .int) = true
  | [], _ => rfl
  | n :: ns, h => by
    rw [List.map_cons]
    show (mild (.int n) && mildAll (ns.map .int)) = true
    rw [mild_ints fun m hm => h m (List.mem_cons_of_mem _ hm), Bool.and_true]
    show decide (n.natAbs < 10 ^ 30) = true
    exact decide_eq_true (h n (List.mem_cons_self ..))
theorem nodes_ints : ∀ (ns : List Int), nodesAll (ns.map .int) = ns.length
  | [] => rfl
  | n :: ns => by
    rw [List.map_cons, List.length_cons]
    show 1 + nodesAll (ns.map .int) = _
    rw [nodes_ints ns]
    omega
theorem mild_name {z : Str} (h : nameOk z) : mild (.str z) = true := by
  simp only [mild, Bool.and_eq_true, decide_eq_true_eq, List.all_eq_true]
  have h2 : z.cps.size ≤ 8 := h.2.1
  refine ⟨by omega, fun c hc => ?_⟩
  obtain ⟨i, hi⟩ := List.mem_iff_getElem?.mp hc
  rw [Array.getElem?_toList] at hi
  have := (h.2.2 i c hi).2
  omega
theorem mild_line {l : Line} (h : lineOk l) : mild (lineD l) = true := by
  obtain ⟨h1, h2, h3, h4, h5⟩ := h
  show (mild (.str l.1) && (mild (.int l.2.1) && (mild (.int l.2.2) && true))) = true
  rw [mild_name h1]
  show (true && (decide (l.2.1.natAbs < 10 ^ 30) && (decide (l.2.2.natAbs < 10 ^ 30) && true))) = true
  rw [decide_eq_true (show l.2.1.natAbs < 10 ^ 30 by omega), decide_eq_true (show l.2.2.natAbs < 10 ^ 30 by omega)]
  rfl
theorem mild_trade : ∀ {tr : Tr}, (∀ l ∈ tr, lineOk l) → mildAll (tr.map lineD) = true
  | [], _ => rfl
  | l :: tr, h => by
    rw [List.map_cons]
    show (mild (lineD l) && mildAll (tr.map lineD)) = true
    rw [mild_line (h l (List.mem_cons_self ..)), mild_trade fun m hm => h m (List.mem_cons_of_mem _ hm)]
    rfl
theorem nodes_trade : ∀ (tr : Tr), nodesAll (tr.map lineD) = 4 * tr.length
  | [] => rfl
  | l :: tr => by
    rw [List.map_cons, List.length_cons]
    show 4 + nodesAll (tr.map lineD) = _
    rw [nodes_trade tr]
    omega
end K11

set_option maxHeartbeats 4000000
namespace K11
open PySem PySem.Spec PyProof.Rows L2 Evl VG
variable {P : Program} {w : World} {K : PySem.W.Frag} {mg : Str → Option Value} {base : Heap} {f : Addr} {fd : FuncData}
theorem op_catTK {X : Cx} (K : PySem.W.Frag) (h : X.K = K := by rfl) : OpR X (binaryOp .Add) (rCatT K) := h ▸ op_catT
theorem pi_listK {X : Cx} (K : PySem.W.Frag) {tg l : Expr} {tl : TE} (hl : PE X l tl) (h : X.K = K := by rfl) : PI X tg l (iList K tl) := h ▸ pi_list hl
theorem pi_tupK {X : Cx} (K : PySem.W.Frag) {tg l : Expr} {tl : TE} (hl : PE X l tl) (h : X.K = K := by rfl) : PI X tg l (iTup K tl) := h ▸ pi_tup hl
/-- a dict of a trade's lines -/
structure Dk (K : PySem.W.Frag) (Hv : Hp) (q : Addr) (es : Tr) : Prop where
  at_ : ∃ kvs, Hv q = some (.dK kvs) ∧ Tab K Hv kvs (tabOf es)
  nd : (es.map (·.1)).Nodup
  len : es.length ≤ 16
theorem tabOf_keys (es : Tr) : (tabOf es).map Prod.fst = es.map (·.1) := by
  unfold tabOf
  rw [List.map_map]
  rfl
theorem tabOf_look : ∀ {es : Tr}, (es.map (·.1)).Nodup → ∀ {l : Line}, l ∈ es → (tabOf es).lookup l.1 = some (stepD l.2)
  | [], _, _, h => absurd h List.not_mem_nil
  | x :: tr, nd, l, h => by
    have nd := List.nodup_cons.mp (show ((x.1) :: tr.map (·.1)).Nodup from nd)
    show ((x.1, stepD x.2) :: tabOf tr).lookup l.1 = _
    rw [List.lookup_cons]
    rcases List.mem_cons.mp h with h | h
    · subst h
      rw [show (l.1 == l.1) = true from beq_self_eq_true _]
    · have n : ¬ l.1 = x.1 := fun z => nd.1 (by
        rw [← z]
        exact List.mem_map.mpr ⟨l, h, rfl⟩)
      rw [beq_eq_false_iff_ne.mpr n]
      exact tabOf_look nd.2 h

/-! ### _law_trade_told -/
abbrev s_law_trade_told : Stmt := top 46
theorem sc_law_trade_told : FnScope ["_law_trade_here", "_law_task"] ["_law_trade_here"] (defScope s_law_trade_told) := ⟨rfl, rfl, rfl, by decide +kernel, rfl, by decide +kernel, by decide +kernel⟩
def spTold (K : PySem.W.Frag) : Sp := fun vs H Q _ => ∃ (Hv : Hp) (q : Addr) (es : Tr), vs = [.ref q] ∧ Ex Hv H ∧ Dk K Hv q es ∧
  ∀ tr v H2, tr.Perm es → ascS (tr.map (·.1)) → Ex H H2 → Dp K (hid Hv H H2) v (tradeD tr) → Q v H2
theorem ok_trade_told (F : Fun K "_law_trade_told" "_law_trade_told" s_law_trade_told f fd) (B : Bltn mg) :
    FnG P w K mg base CX0 1 f fd ["_law_trade_here"] (spTold K) := by
  refine okG F sc_law_trade_told (fun vs H Q E h => ?_) (fun cdv A outer s H vs Q E hcm hr h => ?_)
  · obtain ⟨_, _, _, rfl, _⟩ := h
    rfl
  · obtain ⟨Hv, p, es, rfl, e, ⟨⟨kvs, hp, tab⟩, nd, hl⟩, q⟩ := h
    have hu1 := hu_of hr
    refine ⟨_, (pss_one (ps_ret (pe_callTy call_tuple_of (by rfl) B.tuple bt_tuple (pa_cons (pe_lc (own := [(("_law_task" : Str), 1)])  rfl sc_law_trade_told.nd (pi_listK K (pe_callB (call_sortedD rfl) (by rfl) B.sorted bt_sorted (pa_cons (pv 0) pa_nil))) (blkOk_by (N := ["_law_trade_here", "_law_task"]) (sc := defScope s_law_trade_told) (by decide +kernel)) (fun _ _ _ _ _ => (pg_name (i := 1) sc_law_trade_told.nd rfl (Or.inl rfl))) (fun _ _ _ _ _ => pts_nil) (fun _ _ _ _ _ => (pe_op (op_catTK K) (pe_tup (pa_cons (pv 1) pa_nil)) (pe_dget hu1 (pv 0) (pv 1) (fun _ _ => rfl))))) pa_nil)))), ?_⟩
    refine ⟨_, rfl, p, kvs, es.map (·.1), rfl, .inl (e _ _ hp), ?_, ?_, fun ys l hperm hsort hl0 => ?_⟩
    · rw [tab_keys tab, tabOf_keys]
    · rw [List.length_map]
      omega
    · have nys : ys.Nodup := hperm.nodup_iff.mpr nd
      have hyl : ys.length = es.length := by rw [hperm.length_eq, List.length_map]
      have hlv : Hv l = none := ex_none e hl0
      let Hx : Hp := upd Hv l (.lst (ys.map V.str))
      have evx : Ex Hv Hx := Ex.new hlv
      have ex1 : Ex Hx (upd H l (.lst (ys.map V.str))) := fun b o hb => by
        by_cases z : b = l
        · rw [z, upd_same]
          rw [z] at hb
          exact (upd_same.symm.trans hb)
        · rw [upd_ne z]
          exact e _ _ ((upd_ne z).symm.trans hb)
      refine ⟨l, rfl, ⟨_, SqL.of upd_same⟩, fun D hD => ?_⟩
      refine lcD (K := K) (H := Hx) (Q := fun x H1 => ∃ p ys, [x] = [V.ref p] ∧ ((SqL K H1 p ys ∧ ∀ l, H1 l = none → Q (.ref l) (upd H1 l (.tup ys))) ∨ (SqT K H1 p ys ∧ Q (.ref p) H1))) (walk_list (K := K) (a := l) (xs := ys.map V.str)) (fun i => lineD (ys.getD i Str.empty, look es (ys.getD i Str.empty))) (by rw [List.length_map]; omega) ex1 (fun H' e' => SqL.of (e' _ _ upd_same)) ?_ hD fun v H3 e3 hv => ?_
      · rintro i x H' H'' hi e' ⟨rfl, hx⟩ Qg k
        rw [List.getElem?_map] at hx
        obtain ⟨t, ht, rfl⟩ := Option.map_eq_some_iff.mp hx
        have e5 : ys.getD i Str.empty = t := by
          rw [List.getD_eq_getElem?_getD, ht]
          rfl
        refine k _ _ rfl (Ex.refl _) ?_
        rw [e5]
        have ht2 : t ∈ es.map (·.1) := hperm.mem_iff.mp (List.mem_of_getElem? ht)
        obtain ⟨l', hl', rfl⟩ := List.mem_map.mp ht2
        have e6 : lineD (l'.1, look es l'.1) = .tuple ([.str l'.1] ++ [.int l'.2.1, .int l'.2.2]) := by
          rw [look_mem nd hl']
          rfl
        rw [e6]
        exact ed_catT (ed_tup (eda_cons (ed_var rfl (.str _)) eda_nil) (by show 1 ≤ 100000; decide)) (ed_dgetI rfl (evx _ _ hp) (tab_same evx tab) (ed_var rfl (.str _)) (tabOf_look nd hl')) (by simp) (by simp) (by show 3 ≤ 100000; decide)
      · rw [List.length_map, range_map_get ys (fun t => lineD (t, look es t)) Str.empty] at hv
        obtain ⟨a, xs, rfl, h1, h2⟩ := dp_lst hv
        refine ⟨a, xs, rfl, .inl ⟨ex_l hid_ex h1, fun r hr' => ?_⟩⟩
        have pm : (ys.map fun t => (t, look es t)).Perm es := by
          have q1 := hperm.map (fun t => ((t, look es t) : Line))
          rw [List.map_map] at q1
          have q2 : es.map ((fun t => ((t, look es t) : Line)) ∘ (·.1)) = es := by
            conv => rhs; rw [← List.map_id es]
            refine List.map_congr_left fun l' hl' => ?_
            show (l'.1, look es l'.1) = l'
            rw [look_mem nd hl']
          rw [q2] at q1
          exact q1
        have e03 : Ex H H3 := (Ex.new hl0).trans e3
        refine q (ys.map fun t => (t, look es t)) _ _ pm ?_ (e03.trans (Ex.new hr')) ?_
        · rw [List.map_map]
          have : (ys.map ((·.1) ∘ fun t => ((t, look es t) : Line))) = ys := List.map_id ys
          rw [this]
          exact sorted_asc hsort nys
        · unfold tradeD
          rw [List.map_map]
          refine .tup (.inl (.inl ((hid_new (ex_none e03 hr')).trans upd_same))) (dpAll_same (fun b o hb => ?_) h2)
          obtain ⟨g1, g2⟩ := hid_some hb
          refine (hid_see (fun z => ?_)).trans ((Ex.new hr') _ _ g1)
          by_cases z2 : b = l
          · rw [z2]
            exact hl0
          · have g3 := g2 ((upd_ne z2).trans z)
            exact (upd_ne z2).symm.trans g3
end K11

set_option maxHeartbeats 1000000
namespace K11
open PySem PySem.Spec PyProof.Rows L2 Evl VG
variable {P : Program} {w : World} {K : PySem.W.Frag} {mg : Str → Option Value} {base : Heap} {f : Addr} {fd : FuncData}

/-! ### is_integers -/
abbrev s_is_integers : Stmt := top 22
theorem sc_is_integers : FnScope ["value"] ["value"] (defScope s_is_integers) := ⟨rfl, rfl, rfl, by decide +kernel, rfl, by decide +kernel, by decide +kernel⟩
def okIntegers : List PyData → PyData → Prop := fun ds d => ∃ s : Stp, ds = [stepD s] ∧ d = .bool true
theorem ok_is_integers (F : Fun K "is_integers" "is_integers" s_is_integers f fd) (B : Bltn mg) (D_is_row_of : Def P w K mg base 1 "is_row_of" ["value", "size"] (spOf K 2 okRowOf)) (D_is_integer : Def P w K mg base 1 "is_integer" ["value"] (spOf K 1 okInteger)) :
    FnG P w K mg base CX0 2 f fd ["value"] (spOf K 1 okIntegers) := by
  refine okG F sc_is_integers (fun vs H Q E h => ?_) (fun cdv A outer s H vs Q E hcm hr h => ?_)
  · obtain ⟨_, _, _, h, _⟩ := h
    exact h
  · obtain ⟨Hv, ds, d, hl, e, hds, ⟨⟨n, g⟩, rfl, rfl⟩, q⟩ := h
    obtain ⟨v, rfl, h1⟩ := dp1 hds
    refine ⟨_, (pss_one (ps_ret (pe_and (pe_d D_is_row_of hcm hr (by decide) (by rfl) (pa_cons (pv 0) (pa_cons pe_int pa_nil))) (pe_and (pe_d D_is_integer hcm hr (by decide) (by rfl) (pa_cons (pe_ix (ix_tupK K) (pv 0) pe_int (fun _ _ => rfl)) pa_nil)) (pe_one (pe_d D_is_integer hcm hr (by decide) (by rfl) (pa_cons (pe_ix (ix_tupK K) (pv 0) pe_int (fun _ _ => rfl)) pa_nil))))))), ?_⟩
    refine Runs.go (d := .bool true) ?_ e q
    have hv : EvD K (tVar 0) [some v] Hv (.tuple [.int n, .int g]) := ed_var rfl h1
    refine ru_ret (ed_and (b := true) (c := true) (ed_call (eda_cons hv (eda_cons ed_int eda_nil)) (spD_of ⟨[.int n, .int g], rfl, rfl⟩)) fun _ => ed_and (b := true) (c := true) (ed_call (eda_cons (ed_ixT (k := 0) hv ed_int rfl) eda_nil) (spD_of ⟨n, rfl, rfl⟩)) fun _ => ed_call (eda_cons (ed_ixT (k := 1) hv ed_int rfl) eda_nil) (spD_of ⟨g, rfl, rfl⟩))

/-! ### is_step -/
abbrev s_is_step : Stmt := top 23
theorem sc_is_step : FnScope ["value"] ["value"] (defScope s_is_step) := ⟨rfl, rfl, rfl, by decide +kernel, rfl, by decide +kernel, by decide +kernel⟩
/-- a step as it may be -/
def stOk (s : Stp) : Prop := 0 ≤ s.1 ∧ 0 ≤ s.1 + s.2
def okStep : List PyData → PyData → Prop := fun ds d => ∃ s : Stp, ds = [stepD s] ∧ stOk s ∧ d = .bool true
theorem ok_is_step (F : Fun K "is_step" "is_step" s_is_step f fd) (D_is_integers : Def P w K mg base 2 "is_integers" ["value"] (spOf K 1 okIntegers)) :
    FnG P w K mg base CX0 3 f fd ["value"] (spOf K 1 okStep) := by
  refine okG F sc_is_step (fun vs H Q E h => ?_) (fun cdv A outer s H vs Q E hcm hr h => ?_)
  · obtain ⟨_, _, _, h, _⟩ := h
    exact h
  · obtain ⟨Hv, ds, d, hl, e, hds, ⟨⟨n, g⟩, rfl, ⟨o1, o2⟩, rfl⟩, q⟩ := h
    obtain ⟨v, rfl, h1⟩ := dp1 hds
    refine ⟨_, (pss_one (ps_ret (pe_and (pe_d D_is_integers hcm hr (by decide) (by rfl) (pa_cons (pv 0) pa_nil)) (pe_and (pe_cmpR op_ge (pe_ix (ix_tupK K) (pv 0) pe_int (fun _ _ => rfl)) pe_int (nomark _)) (pe_one (pe_cmpR op_ge (pe_op op_add (pe_ix (ix_tupK K) (pv 0) pe_int (fun _ _ => rfl)) (pe_ix (ix_tupK K) (pv 0) pe_int (fun _ _ => rfl))) pe_int (nomark _))))))), ?_⟩
    refine Runs.go (d := .bool true) ?_ e q
    have hv : EvD K (tVar 0) [some v] Hv (.tuple [.int n, .int g]) := ed_var rfl h1
    refine ru_ret (ed_and (b := true) (c := true) (ed_call (eda_cons (ed_var rfl h1) eda_nil) (spD_of ⟨(n, g), rfl, rfl⟩)) fun _ => ed_and (b := true) (c := true) (ed_isb ?_ (ed_B0 (g := fun i j => decide (j ≤ i)) (ed_ixT (k := 0) hv ed_int rfl) ed_int)) fun _ =>
      ed_isb ?_ (ed_B0 (g := fun i j => decide (j ≤ i)) (ed_I0 (g := fun i j => i + j) (ed_ixT (k := 0) hv ed_int rfl) (ed_ixT (k := 1) hv ed_int rfl)) ed_int))
    · exact decide_eq_true o1
    · exact decide_eq_true o2

/-! ### check_steps -/
abbrev s_check_steps : Stmt := top 24
theorem sc_check_steps : FnScope ["steps", "step"] ["steps"] (defScope s_check_steps) := ⟨rfl, rfl, rfl, by decide +kernel, rfl, by decide +kernel, by decide +kernel⟩
def stepsT (sts : List Stp) : PyData := .tuple (sts.map stepD)
def okCheckSteps : List PyData → PyData → Prop := fun ds d => ∃ sts, ds = [stepsT sts] ∧ sts.length ≤ 1000 ∧ (∀ s ∈ sts, stOk s) ∧ d = .none
theorem ok_check_steps (F : Fun K "check_steps" "check_steps" s_check_steps f fd) (B : Bltn mg) (D_is_step : Def P w K mg base 3 "is_step" ["value"] (spOf K 1 okStep)) :
    FnG P w K mg base CX0 4 f fd ["steps"] (spOf K 1 okCheckSteps) := by
  refine okG F sc_check_steps (fun vs H Q E h => ?_) (fun cdv A outer s H vs Q E hcm hr h => ?_)
  · obtain ⟨_, _, _, h, _⟩ := h
    exact h
  · obtain ⟨Hv, ds, d, hl, e, hds, ⟨sts, rfl, hsz, hok, rfl⟩, q⟩ := h
    obtain ⟨v, rfl, h1⟩ := dp1 hds
    refine ⟨_, (pss_one (ps_if (PW.pt (pw_or (pt_not (pt_val (pe_callB (call_isBK K) (by rfl) B.isinstance bt_isinstance (pa_cons (pv 0) (pa_cons (pe_bltn (v := .ty "tuple") (by rfl) B.tuple bt_tuple rfl) pa_nil))))) (pw_or1 (pt_not (pt_val (pe_callB (cr_allK K rfl) (by rfl) B.all bt_all (pa_cons (pe_lc (own := [(("step" : Str), 1)])  rfl sc_check_steps.nd (pi_tup (pv 0)) (blkOk_by (N := ["steps", "step"]) (sc := defScope s_check_steps) (by decide +kernel)) (fun _ _ _ _ _ => (pg_name (i := 1) sc_check_steps.nd rfl (Or.inl rfl))) (fun _ _ _ _ _ => pts_nil) (fun _ _ _ _ _ => (pe_d D_is_step hcm hr (by decide) (by rfl) (pa_cons (pv 1) pa_nil)))) pa_nil))))))) (pss_one ps_never) pss_nil)), ?_⟩
    have hv : EvD K (tVar 0) [some v, none] Hv (.tuple (sts.map stepD)) := ed_var rfl h1
    refine (et_or (a := false) (b := false) (et_not (a := true) (etB_bool (ed_isB hv kb_tt))) fun _ => et_not (a := true) (etB_bool (ed_isb (b := (sts.map fun _ => true).all id) ?_ (ed_all ?_)))) H e _ fun H2 e2 => iteF (q _ H2 e2 .non)
    · simp
    · rw [List.map_map]
      rw [← range_map_get sts (PyData.bool ∘ fun _ => true) (0, 0)]
      have hl : sts.length = (sts.map stepD).length := (List.length_map _).symm
      rw [hl]
      refine ed_lcT _ hv (by rw [List.length_map]; omega) ?_
      intro i x dx H' hdx e1 hx H'' e2 Qg k
      rw [List.getElem?_map] at hdx
      obtain ⟨st, hst, rfl⟩ := Option.map_eq_some_iff.mp hdx
      refine g_name rfl ?_ k
      exact ed_call (eda_cons (ed_var rfl hx) eda_nil) (spD_of ⟨st, rfl, hok st (List.mem_of_getElem? hst), rfl⟩)
end K11

set_option maxHeartbeats 1000000
namespace K11
open PySem PySem.Spec PyProof.Rows L2 Evl VG
variable {P : Program} {w : World} {K : PySem.W.Frag} {mg : Str → Option Value} {base : Heap} {f : Addr} {fd : FuncData}
/-- more built-in names that the module does not take -/
structure Bltn2 (mg : Str → Option Value) : Prop where
  enumerate : mg "enumerate" = none
  reversed : mg "reversed" = none
  zip : mg "zip" = none
theorem pi_revAK {X : Cx} {tg : Expr} (K : PySem.W.Frag) {e : Expr} {te : TE} {p pos : Pos} (hg : Gl X "reversed") (hm : X.mg "reversed" = none) (he : PE X e te) (hK : X.K = K := by rfl) (hs : starEach [e] X.env = (false, eval e X.env) :: starEach [] X.env := by rfl) :
    PI X tg (.Call (.Name "reversed" p) [e] [] pos) (RT.iRevA K te) := hK ▸ RT.pi_revA hg hm he hs

/-! ### put_pair -/
abbrev s_put_pair : Stmt := top 27
theorem sc_put_pair : FnScope ["found", "pair"] ["found", "pair"] (defScope s_put_pair) := ⟨rfl, rfl, rfl, by decide +kernel, rfl, by decide +kernel, by decide +kernel⟩
theorem dpAll_snoc {H : Hp} : ∀ {ds : List PyData} {d : PyData} {xs : List V}, DpAll K H xs (ds ++ [d]) → ∃ xs0 y, xs = xs0 ++ [y] ∧ DpAll K H xs0 ds ∧ Dp K H y d
  | [], d, xs, h => by
    obtain ⟨y, rfl, hy⟩ := dp1 h
    exact ⟨[], y, rfl, .nil, hy⟩
  | d0 :: ds, d, _, .cons (v := v) h t => by
    obtain ⟨xs0, y, rfl, h1, h2⟩ := dpAll_snoc t
    exact ⟨v :: xs0, y, rfl, .cons h h1, h2⟩
/-- whether the last one's head is b -/
def lastIs (ds : List (Int × List PyData)) (b : Int) : Bool := match ds.getLast? with | some e => decide (e.1 = b) | none => false
def putV {α : Type} (c : Bool) (xs : List α) (x : α) : List α := if c then xs.dropLast ++ [x] else xs ++ [x]
def headD (e : Int × List PyData) : PyData := .tuple (.int e.1 :: e.2)
def spPut (K : PySem.W.Frag) : Sp := fun vs H Q _ => ∃ (Hv : Hp) (l : Addr) (v : V) (xs : List V) (ds : List (Int × List PyData)) (b : Int) (r : List PyData), vs = [.ref l, v] ∧ H l = some (.lst xs) ∧ Ex Hv H ∧ DpAll K Hv xs (ds.map headD) ∧
  Dp K Hv v (.tuple (.int b :: r)) ∧ xs.length ≤ 1000 ∧ ∀ H', (∀ c o, c ≠ l → H c = some o → H' c = some o) → H' l = some (.lst (putV (lastIs ds b) xs v)) → Q .non H'
theorem ok_put_pair (F : Fun K "put_pair" "put_pair" s_put_pair f fd) : FnG P w K mg base CX0 1 f fd ["found", "pair"] (spPut K) := by
  refine okG F sc_put_pair (fun vs H Q E h => ?_) (fun cdv A outer s H vs Q E hcm hr h => ?_)
  · obtain ⟨_, _, _, _, _, _, _, rfl, _⟩ := h
    rfl
  · obtain ⟨Hv, l, v, xs, ds, b, r, rfl, hl, e, hx, hv, hsz, q⟩ := h
    refine ⟨_, (pss_cons (ps_if (PW.pt (pw_and (pt_truth (pv 0) (by intro _; rfl)) (pw_and1 (pt_cmpR op_eq (pe_ix (ix_tupK K) (pe_ix (ix_listK K) (pv 0) (pe_un un_neg pe_int) (fun _ _ => rfl)) pe_int (fun _ _ => rfl)) (pe_ix (ix_tupK K) (pv 1) pe_int (fun _ _ => rfl)) (nomark _))))) (pss_one (ps_expr (pe_bm0 PySem.F.plainAttrs_list PySem.F.slot_list_pop PySem.F.type_list_pop mt_pop (pv 0)))) pss_nil)
      (pss_one (ps_expr (pe_bm PySem.F.plainAttrs_list PySem.F.slot_list_append PySem.F.type_list_append mt_append (pv 0) (pa_cons (pv 1) pa_nil))))), ?_⟩
    have hlen : xs.length = ds.length := by rw [dpAll_len hx, List.length_map]
    have tail : ∀ (ys : List V) (H1 : Hp), (∀ c o, c ≠ l → H c = some o → H1 c = some o) → H1 l = some (.lst ys) → ys.length ≤ 1000 → ys ++ [v] = putV (lastIs ds b) xs v → Q .non (upd H1 l (.lst (ys ++ [v]))) := fun ys H1 h1 h2 h3 h4 =>
      q _ (fun c o n hc => (upd_ne n).trans (h1 c o n hc)) (by rw [upd_same, h4])
    have hput : ∀ (ys : List V) (H1 : Hp), (∀ c o, c ≠ l → H c = some o → H1 c = some o) → H1 l = some (.lst ys) → ys.length ≤ 1000 → ys ++ [v] = putV (lastIs ds b) xs v →
        tDrop (tBM K "list" rAppend (tVar 0) (tCons (tVar 1) tNil)) { nx := fun _ H' => Q .non H', rt := Q } [some (.ref l), some v] H1 := fun ys H1 h1 h2 h3 h4 =>
      ⟨_, rfl, .inl ⟨rfl, _, SqL.of h2⟩, _, rfl, l, _, _, rfl, rfl, h2, sz_lt (by omega), tail ys H1 h1 h2 h3 h4⟩
    rcases List.eq_nil_or_concat ds with hd | ⟨ds0, ⟨k, r0⟩, hd⟩
    · subst hd
      have hx0 : xs = [] := List.length_eq_zero_iff.mp hlen
      subst hx0
      refine ⟨_, rfl, false, .inl ⟨[], SqL.of hl, rfl⟩, ?_⟩
      exact iteF (iteF (hput [] H (fun _ _ _ h => h) hl (Nat.zero_le _) rfl))
    · rw [List.concat_eq_append] at hd
      subst hd
      have hlast : lastIs (ds0 ++ [(k, r0)]) b = decide (k = b) := by
        unfold lastIs
        rw [List.getLast?_concat]
      rw [List.length_append] at hlen
      have hlen : xs.length = ds0.length + 1 := hlen
      rw [List.map_append] at hx
      obtain ⟨xs0, yl, rfl, hx0, hy2⟩ := dpAll_snoc hx
      obtain ⟨p, ys, rfl, s1, s2⟩ := dp_tup hy2
      refine ⟨_, rfl, true, .inl ⟨_, SqL.of hl, by cases xs0 <;> rfl⟩, ?_⟩
      refine iteT ?_
      obtain ⟨y0, ys0, rfl, y1, y2⟩ : ∃ y0 ys0, ys = y0 :: ys0 ∧ Dp K Hv y0 (.int k) ∧ DpAll K Hv ys0 r0 := by
        cases s2 with | cons h t => exact ⟨_, _, rfl, h, t⟩
      cases y1
      obtain ⟨p2, zs, rfl, t1, t2⟩ := dp_tup hv
      obtain ⟨z0, zs0, rfl, z1, z2⟩ : ∃ z0 zs0, zs = z0 :: zs0 ∧ Dp K Hv z0 (.int b) ∧ DpAll K Hv zs0 r := by
        cases t2 with | cons h t => exact ⟨_, _, rfl, h, t⟩
      cases z1
      refine ⟨_, rfl, _, rfl, l, _, _, V.ref p, rfl, rfl, SqL.of hl, atI_last _ _, ?_⟩
      refine ⟨p, _, _, V.int k, rfl, rfl, sqT_same e s1, atI_nat (j := 0) rfl, _, rfl, p2, _, _, V.int b, rfl, rfl, sqT_same e t1, atI_nat (j := 0) rfl, rfl, _, rfl, ?_⟩
      have edk : decide (V.int k = V.int b) = decide (k = b) := by
        by_cases h : k = b
        · rw [h, decide_eq_true rfl, decide_eq_true rfl]
        · rw [decide_eq_false h, decide_eq_false fun q => h (V.int.inj q)]
      rw [edk]
      refine ite2 (fun hc => ?_) (fun hc => ?_)
      · refine ⟨_, rfl, .inl ⟨rfl, _, SqL.of hl⟩, l, _, V.ref p, rfl, rfl, hl, (by rw [List.length_append]; exact List.getElem?_concat_length ..), ?_⟩
        refine hput _ _ (fun c o n h => (upd_ne n).trans h) upd_same (by rw [List.length_dropLast]; omega) ?_
        unfold putV
        rw [hlast, hc, if_pos rfl]
      · refine hput _ H (fun _ _ _ h => h) hl hsz ?_
        unfold putV
        rw [hlast, if_neg hc]
end K11

set_option maxHeartbeats 1000000
namespace K11
open PySem PySem.Spec PyProof.Rows L2 Evl VG
variable {P : Program} {w : World} {K : PySem.W.Frag} {mg : Str → Option Value} {base : Heap} {f : Addr} {fd : FuncData}
theorem dpAll_dropLast {H : Hp} : ∀ {vs : List V} {ds : List PyData}, DpAll K H vs ds → DpAll K H vs.dropLast ds.dropLast
  | _, _, .nil => .nil
  | [_], [_], .cons _ .nil => .nil
  | _ :: _ :: _, _ :: _ :: _, .cons h t => .cons h (dpAll_dropLast t)
theorem dpAll_put {H : Hp} {vs : List V} {ds : List PyData} {v : V} {d : PyData} (c : Bool) (h : DpAll K H vs ds) (hv : Dp K H v d) : DpAll K H (putV c vs v) (putV c ds d) := by
  unfold putV
  cases c with
  | true => exact dpAll_app (dpAll_dropLast h) (.cons hv .nil)
  | false => exact dpAll_app h (.cons hv .nil)
theorem putV_map {α β : Type} (g : α → β) (c : Bool) (xs : List α) (x : α) : (putV c xs x).map g = putV c (xs.map g) (g x) := by
  unfold putV
  cases c with
  | true =>
    rw [if_pos rfl, if_pos rfl, List.map_append, List.map_dropLast]
    rfl
  | false =>
    rw [if_neg Bool.false_ne_true, if_neg Bool.false_ne_true, List.map_append]
    rfl
theorem putV_len {α : Type} (c : Bool) (xs : List α) (x : α) : (putV c xs x).length ≤ xs.length + 1 := by
  unfold putV
  cases c with
  | true =>
    rw [if_pos rfl, List.length_append, List.length_dropLast]
    show _ + 1 ≤ _
    omega
  | false =>
    rw [if_neg Bool.false_ne_true, List.length_append]
    show _ + 1 ≤ _
    omega

/-! ### climbs -/
abbrev s_climbs : Stmt := top 28
theorem sc_climbs : FnScope ["steps", "found", "base", "risen", "most", "at", "need", "gain"] ["steps"] (defScope s_climbs) := ⟨rfl, rfl, rfl, by decide +kernel, rfl, by decide +kernel, by decide +kernel⟩
/-- base, most, number -/
abbrev Ent := Int × Int × Int
def entD (e : Ent) : PyData := .tuple [.int e.1, .int e.2.1, .int e.2.2]
def lastB {α : Type} (k : α → Int) (xs : List α) (b : Int) : Bool := match xs.getLast? with | some e => decide (k e = b) | none => false
theorem lastIs_map {α : Type} (k : α → Int) (r : α → List PyData) (xs : List α) (b : Int) : lastIs (xs.map fun e => (k e, r e)) b = lastB k xs b := by
  unfold lastIs lastB
  rw [List.getLast?_map]
  cases xs.getLast? <;> rfl
def putE (xs : List Ent) (e : Ent) : List Ent := putV (lastB (·.1) xs e.1) xs e
def climbsM : Nat → Int → Int → Int → List Ent → List Stp → List Ent
  | _, _, _, _, fo, [] => fo
  | at', ba, ri, mo, fo, (n, g) :: r =>
    if ri + g > mo then climbsM (at' + 1) (if n - ri > ba then n - ri else ba) (ri + g) (ri + g) (putE fo (if n - ri > ba then n - ri else ba, ri + g, (at' : Int) + 1)) r
    else climbsM (at' + 1) (if n - ri > ba then n - ri else ba) (ri + g) mo fo r
theorem climbsM_cons (at' : Nat) (ba ri mo : Int) (fo : List Ent) (n g : Int) (r : List Stp) : climbsM at' ba ri mo fo ((n, g) :: r) =
    if ri + g > mo then climbsM (at' + 1) (if n - ri > ba then n - ri else ba) (ri + g) (ri + g) (putE fo (if n - ri > ba then n - ri else ba, ri + g, (at' : Int) + 1)) r
    else climbsM (at' + 1) (if n - ri > ba then n - ri else ba) (ri + g) mo fo r := rfl
def okClimbs : List PyData → PyData → Prop := fun ds d => ∃ sts, ds = [stepsT sts] ∧ sts.length ≤ 900 ∧ d = .list ((climbsM 0 0 0 0 [] sts).map entD)
theorem ok_climbs (F : Fun K "climbs" "climbs" s_climbs f fd) (B : Bltn mg) (B2 : Bltn2 mg) (D_put_pair : Def P w K mg base 1 "put_pair" ["found", "pair"] (spPut K)) :
    FnG P w K mg base CX0 2 f fd ["steps"] (spOf K 1 okClimbs) := by
  refine okG F sc_climbs (fun vs H Q E h => ?_) (fun cdv A outer s H vs Q E hcm hr h => ?_)
  · obtain ⟨_, _, _, h, _⟩ := h
    exact h
  · obtain ⟨Hv, ds, d, hl, e, hds, ⟨sts, rfl, hsz, rfl⟩, q⟩ := h
    obtain ⟨v, rfl, h1⟩ := dp1 hds
    obtain ⟨a, xs, rfl, s1, s2⟩ := dp_tup h1
    have hlen : xs.length = sts.length := by rw [dpAll_len s2, List.length_map]
    refine ⟨_, (pss_cons (ps_set (i := 1) sc_climbs.nd rfl (Or.inl rfl) (pe_lst pa_nil))
      (pss_cons (ps_asg3 pe_int (pg_name (i := 2) sc_climbs.nd rfl (Or.inl rfl)) (pg_name (i := 3) sc_climbs.nd rfl (Or.inl rfl)) (pg_name (i := 4) sc_climbs.nd rfl (Or.inl rfl)))
      (pss_cons (ps_for PassesOwn.never rfl (pi_enumT K (by rfl) B2.enumerate (pa_cons (pv 0) pa_nil)) (pg_tupK K (n := 2) rfl (pgs_cons (pg_name (i := 5) sc_climbs.nd rfl (Or.inl rfl)) (pgs_cons (pg_tupK K (n := 2) rfl (pgs_cons (pg_name (i := 6) sc_climbs.nd rfl (Or.inl rfl)) (pgs_cons (pg_name (i := 7) sc_climbs.nd rfl (Or.inl rfl)) pgs_nil))) pgs_nil))) (pss_cons (ps_set (i := 2) sc_climbs.nd rfl (Or.inl rfl) (pe_callB (call_max2 rfl) (by rfl) B.max bt_max (pa_cons (pv 2) (pa_cons (pe_op op_sub (pv 6) (pv 3)) pa_nil))))
      (pss_cons (ps_aug (i := 3) sc_climbs.nd rfl (Or.inl rfl) (pv 7) ip_add)
      (pss_one (ps_if (pt_cmpR op_gt (pv 3) (pv 4) (nomark _)) (pss_cons (ps_set (i := 4) sc_climbs.nd rfl (Or.inl rfl) (pv 3))
      (pss_one (ps_expr (pe_d D_put_pair hcm hr (by decide) (by rfl) (pa_cons (pv 1) (pa_cons (pe_tup (pa_cons (pv 2) (pa_cons (pv 4) (pa_cons (pe_op op_add (pv 5) pe_int) pa_nil)))) pa_nil)))))) pss_nil)))))
      (pss_one (ps_ret (pv 1)))))), ?_⟩
    refine ⟨by show 0 ≤ sizeLine; decide, fun l hl => ?_⟩
    refine ⟨_, rfl, a, xs, rfl, sqT_same (e.trans (Ex.new hl)) s1, ?_⟩
    refine for_it (walk_enumT (K := K) (a := a) (xs := xs)) (fun i σ H' => ∃ (o5 o6 o7 : Option V) (ba ri mo : Int) (fo : List Ent) (ys : List V), σ = [some (.ref a), some (.ref l), some (.int ba), some (.int ri), some (.int mo), o5, o6, o7] ∧ Ex H H' ∧
        H' l = some (.lst ys) ∧ DpAll K (fun b => if b = l then none else hid Hv H H' b) ys (fo.map entD) ∧ fo.length ≤ i ∧ climbsM i ba ri mo fo (sts.drop i) = climbsM 0 0 0 0 [] sts)
      ⟨none, none, none, 0, 0, 0, [], [], rfl, Ex.new hl, upd_same, .nil, Nat.le_refl _, by rw [List.drop_zero]⟩ (fun i σ H' _ ⟨_, _, _, _, _, _, _, _, _, e', _⟩ => sqT_same (e.trans e') s1) ?_ ?_
    · rintro i x σ H0 H1 hi ⟨o5, o6, o7, ba, ri, mo, fo, ys, rfl, e0, hl0, hys, hfo, hm⟩ ⟨T, x1, x2, rfl, hT, rfl, h1', h2'⟩
      cases h1'
      have hi : i < sts.length := by omega
      obtain ⟨dx, hdx, hx2⟩ := dpAll_get s2 h2'
      rw [List.getElem?_map] at hdx
      obtain ⟨⟨n, g⟩, hst, rfl⟩ := Option.map_eq_some_iff.mp hdx
      have hdrop : sts.drop i = (n, g) :: sts.drop (i + 1) := by
        rw [List.drop_eq_getElem_cons hi]
        rw [List.getElem?_eq_getElem hi] at hst
        rw [Option.some.inj hst]
      obtain ⟨b, zs, rfl, u1, u2⟩ := dp_tup hx2
      obtain ⟨y1, y2, rfl, v1, v2⟩ := dp2 u2
      cases v1
      cases v2
      rw [hdrop] at hm
      refine ⟨T, _, rfl, .inl (.inl upd_same), rfl, _, _, rfl, ?_⟩
      refine ⟨_, _, rfl, ?_⟩
      refine ⟨b, _, rfl, sqT_same ((e.trans e0).trans (Ex.new hT)) u1, rfl, _, _, rfl, ?_⟩
      refine ⟨_, _, rfl, ?_⟩
      refine ⟨rfl, rfl, ?_⟩
      rw [climbsM_cons] at hm
      refine ⟨_, rfl, _, rfl, _, rfl, _, _, rfl, rfl, _, _, rfl, ?_⟩
      refine ⟨_, rfl, _, rfl, _, _, rfl, rfl, ?_⟩
      refine ⟨_, rfl, _, rfl, _, _, rfl, rfl, _, rfl, ?_⟩
      have nTl : T ≠ l := fun z => by
        rw [z, hl0] at hT
        cases hT
      refine ite2 (fun hc => ?_) (fun hc => ?_)
      · have hc : mo < ri + g := of_decide_eq_true hc
        rw [if_pos hc] at hm
        refine ⟨_, rfl, ?_⟩
        refine ⟨_, rfl, _, rfl, _, rfl, _, rfl, _, _, rfl, rfl, (by show 3 ≤ sizeLine; decide), fun p hp => ?_⟩
        have npl : p ≠ l := fun z => by
          rw [z, upd_ne nTl.symm, hl0] at hp
          cases hp
        have e02 : Ex H0 (upd (upd H0 T (.tup [.int (i : Nat), .ref b])) p (.tup [.int (if n - ri > ba then n - ri else ba), .int (ri + g), .int ((i : Nat) + 1)])) := (Ex.new hT).trans (Ex.new hp)
        have hpH : H p = none := ex_none (e0.trans (Ex.new hT)) hp
        have old : ∀ H3 : Hp, (∀ c o, c ≠ l → H0 c = some o → H3 c = some o) → ∀ c o, (if c = l then none else hid Hv H H0 c) = some o → (if c = l then none else hid Hv H H3 c) = some o := fun H3 h3 c o hc => by
          by_cases z : c = l
          · rw [if_pos z] at hc
            cases hc
          · rw [if_neg z] at hc ⊢
            obtain ⟨g1, g2⟩ := hid_some hc
            exact (hid_see g2).trans (h3 c o z g1)
        refine ⟨sans l _, l, .ref p, ys, fo.map fun e => (e.1, [.int e.2.1, .int e.2.2]), (if n - ri > ba then n - ri else ba), [.int (ri + g), .int ((i : Nat) + 1)], rfl, e02 _ _ hl0, sans_ex, ?_, ?_, ?_, fun H3 h3 hl3 => ?_⟩
        · rw [List.map_map]
          refine dpAll_same (fun c o hc => ?_) hys
          have hc : (if c = l then none else hid Hv H H0 c) = some o := hc
          by_cases z : c = l
          · rw [if_pos z] at hc
            cases hc
          · rw [if_neg z] at hc
            exact (sans_at z).trans (e02 _ _ (hid_some hc).1)
        · exact .tup (.inl (.inl ((sans_at npl).trans upd_same))) (.cons (.int _) (.cons (.int _) (.cons (.int _) .nil)))
        · have := dpAll_len hys
          rw [List.length_map] at this
          omega
        · rw [lastIs_map] at hl3
          refine ⟨_, _, _, _, _, _, putE fo ((if n - ri > ba then n - ri else ba), ri + g, ((i : Nat) : Int) + 1), _, rfl, fun c o hc => ?_, hl3, ?_, ?_, hm⟩
          · exact h3 c o (ne_of_none hc hl) (e02 _ _ (e0 _ _ hc))
          · unfold putE
            rw [putV_map]
            refine dpAll_put _ (dpAll_same (old H3 fun c o n hc => h3 c o n (e02 _ _ hc)) hys) ?_
            refine .tup (.inl (.inl ?_)) (.cons (.int _) (.cons (.int _) (.cons (.int _) .nil)))
            show (if p = l then none else hid Hv H H3 p) = _
            rw [if_neg npl, hid_new hpH]
            exact h3 p _ npl upd_same
          · exact Nat.le_trans (putV_len _ _ _) (Nat.succ_le_succ hfo)
      · have hc : ¬ mo < ri + g := fun z => hc (decide_eq_true z)
        rw [if_neg hc] at hm
        refine ⟨_, _, _, _, _, _, fo, ys, rfl, e0.trans (Ex.new hT), (upd_ne nTl.symm).trans hl0, dpAll_same (fun c o hc => ?_) hys, Nat.le_succ_of_le hfo, hm⟩
        have hc : (if c = l then none else hid Hv H H0 c) = some o := hc
        show (if c = l then none else hid Hv H (upd H0 T _) c) = some o
        by_cases z : c = l
        · rw [if_pos z] at hc
          cases hc
        · rw [if_neg z] at hc ⊢
          exact hid_on (Ex.new hT) _ _ hc
    · rintro σ H' ⟨o5, o6, o7, ba, ri, mo, fo, ys, rfl, e', hl', hys, hfo, hm⟩
      rw [hlen, List.drop_length] at hm
      refine ⟨_, rfl, ?_⟩
      refine q _ H' e' ?_
      rw [← hm]
      refine .lst (.inl (.inl ((hid_new hl).trans hl'))) (dpAll_same (fun c o hc => ?_) hys)
      have hc : (if c = l then none else hid Hv H H' c) = some o := hc
      by_cases z : c = l
      · rw [if_pos z] at hc
        cases hc
      · rw [if_neg z] at hc
        exact hc
end K11

set_option maxHeartbeats 1000000
namespace K11
open PySem PySem.Spec PyProof.Rows L2 Evl VG
variable {P : Program} {w : World} {K : PySem.W.Frag} {mg : Str → Option Value} {base : Heap} {f : Addr} {fd : FuncData}
theorem walk_revT {a : Addr} {xs : List V} : Walk (RT.ItvT K a xs.length) xs.length (fun H => SqT K H a xs) (fun i H x H' => H' = H ∧ xs[xs.length - 1 - i]? = some x) :=
  ⟨fun i _ hi q => ⟨hi, xs, xs[xs.length - 1 - i]'(by omega), q, by simp [show xs.length - 1 - i < xs.length by omega]⟩, fun _ _ => Nat.le_refl _, fun _ _ _ _ _ q y => ⟨y.1, y.2 xs q⟩⟩
theorem ed_lcRevT {σ : L2.St} {H : Hp} {te tl : TE} {g : TG} {vs : List Nat} {ds : List PyData} (f : Nat → PyData) (hl : EvD K tl σ H (.tuple ds)) (hz : ds.length ≤ 100000)
    (hs : ∀ i x dx H', ds.reverse[i]? = some dx → Ex H H' → Dp K H' x dx → ∀ H'', Ex H' H'' → ∀ Qg : L2.St → Hp → Prop,
      (∀ σ2 H2, wipe σ2 vs = wipe σ vs → Ex H'' H2 → EvD K te σ2 H' (f i) → Qg σ2 H2) → g x (wipe σ vs) H'' Qg) :
    EvD K (tLc (RT.iRevA K tl) g tYes te vs) σ H (.list ((List.range ds.length).map f)) := fun H1 e Q q =>
  hl H1 e _ fun x H2 e2 hx => by
    obtain ⟨a, xs, rfl, h1, h2⟩ := dp_tup hx
    have hlen := dpAll_len h2
    refine ⟨a, xs, rfl, .inr ⟨sqT_same hid_ex h1, fun D hD => ?_⟩⟩
    refine lcD (K := K) (H := hid H H1 H2) (walk_revT (K := K) (a := a) (xs := xs)) f (by omega) hid_ex (fun H' e' => sqT_same e' h1) ?_ hD fun v H3 e3 hv => ?_
    · rintro i x H' H'' hi e' ⟨rfl, hx⟩ Qg k
      obtain ⟨dx, hd, hdx⟩ := dpAll_get h2 hx
      refine hs i x dx (hid H H1 H2) ?_ (hid_base e e2) hdx _ e' Qg k
      rw [List.getElem?_reverse (by omega), ← hlen]
      exact hd
    · refine q v H3 (e2.trans e3) (dp_same (hid_two e2) ?_)
      rw [hlen] at hv
      exact hv

/-! ### stairs_for -/
abbrev s_stairs_for : Stmt := top 29
theorem sc_stairs_for : FnScope ["steps", "base", "gain", "number"] ["steps"] (defScope s_stairs_for) := ⟨rfl, rfl, rfl, by decide +kernel, rfl, by decide +kernel, by decide +kernel⟩
def stairsM (sts : List Stp) : List Stp := (climbsM 0 0 0 0 [] sts).map fun e => (e.1, e.2.1)
def okStairsFor : List PyData → PyData → Prop := fun ds d => ∃ sts, ds = [stepsT sts] ∧ sts.length ≤ 900 ∧ d = stepsT (stairsM sts)
theorem climbsM_len : ∀ (r : List Stp) (i : Nat) (ba ri mo : Int) (fo : List Ent), (climbsM i ba ri mo fo r).length ≤ fo.length + r.length
  | [], _, _, _, _, fo => Nat.le_refl _
  | (n, g) :: r, i, ba, ri, mo, fo => by
    rw [climbsM_cons, List.length_cons]
    split
    · have h1 := climbsM_len r (i + 1) (if n - ri > ba then n - ri else ba) (ri + g) (ri + g) (putE fo (if n - ri > ba then n - ri else ba, ri + g, (i : Int) + 1))
      have h2 : (putE fo (if n - ri > ba then n - ri else ba, ri + g, (i : Int) + 1)).length ≤ fo.length + 1 := putV_len _ _ _
      omega
    · have h1 := climbsM_len r (i + 1) (if n - ri > ba then n - ri else ba) (ri + g) mo fo
      omega
theorem stairsM_len (sts : List Stp) : (stairsM sts).length ≤ sts.length := by
  unfold stairsM
  rw [List.length_map]
  have := climbsM_len sts 0 0 0 0 []
  rw [List.length_nil] at this
  omega
theorem ok_stairs_for (F : Fun K "stairs_for" "stairs_for" s_stairs_for f fd) (B : Bltn mg) (D_climbs : Def P w K mg base 2 "climbs" ["steps"] (spOf K 1 okClimbs)) :
    FnG P w K mg base CX0 3 f fd ["steps"] (spOf K 1 okStairsFor) := by
  refine okG F sc_stairs_for (fun vs H Q E h => ?_) (fun cdv A outer s H vs Q E hcm hr h => ?_)
  · obtain ⟨_, _, _, h, _⟩ := h
    exact h
  · obtain ⟨Hv, ds, d, hl, e, hds, ⟨sts, rfl, hsz, rfl⟩, q⟩ := h
    obtain ⟨v, rfl, h1⟩ := dp1 hds
    refine ⟨_, (pss_one (ps_ret (pe_callTy call_tuple_of (by rfl) B.tuple bt_tuple (pa_cons (pe_lc (own := [(("base" : Str), 1), (("gain" : Str), 2), (("number" : Str), 3)])  rfl sc_stairs_for.nd (pi_list (pe_d D_climbs hcm hr (by decide) (by rfl) (pa_cons (pv 0) pa_nil))) (blkOk_by (N := ["steps", "base", "gain", "number"]) (sc := defScope s_stairs_for) (by decide +kernel)) (fun _ _ _ _ _ => (pg_tupK K (n := 3) rfl (pgs_cons (pg_name (i := 1) sc_stairs_for.nd rfl (Or.inl rfl)) (pgs_cons (pg_name (i := 2) sc_stairs_for.nd rfl (Or.inl rfl)) (pgs_cons (pg_name (i := 3) sc_stairs_for.nd rfl (Or.inl rfl)) pgs_nil))))) (fun _ _ _ _ _ => pts_nil) (fun _ _ _ _ _ => (pe_tup (pa_cons (pv 1) (pa_cons (pv 2) pa_nil))))) pa_nil)))), ?_⟩
    refine Runs.go (d := stepsT (stairsM sts)) ?_ e q
    refine ru_ret (ed_tupleOf ?_)
    unfold stairsM
    rw [List.map_map]
    have hcl := climbsM_len sts 0 0 0 0 []
    rw [List.length_nil] at hcl
    rw [← range_map_get (climbsM 0 0 0 0 [] sts) (stepD ∘ fun e => (e.1, e.2.1)) (0, 0, 0)]
    have hl : (climbsM 0 0 0 0 [] sts).length = ((climbsM 0 0 0 0 [] sts).map entD).length := (List.length_map _).symm
    rw [hl]
    refine ed_lcL _ (ed_call (eda_cons (ed_var rfl h1) eda_nil) (spD_of (n := 1) (ok := okClimbs) ⟨sts, rfl, hsz, rfl⟩)) (by rw [← hl]; omega) ?_
    intro i x dx H' hdx e1 hx H'' e2 Qg k
    rw [List.getElem?_map] at hdx
    obtain ⟨en, hst, rfl⟩ := Option.map_eq_some_iff.mp hdx
    refine g_tup3 hx e2 (fun _ _ _ => rfl) (fun a b c ha hb hc => ?_) k
    have e3 : (climbsM 0 0 0 0 [] sts).getD i (0, 0, 0) = en := by
      rw [List.getD_eq_getElem?_getD, hst]
      rfl
    rw [e3]
    exact ed_tup (eda_cons (ed_var rfl ha) (eda_cons (ed_var rfl hb) eda_nil)) (by show 2 ≤ 100000; decide)

/-! ### back_steps -/
abbrev s_back_steps : Stmt := top 30
theorem sc_back_steps : FnScope ["steps", "need", "gain"] ["steps"] (defScope s_back_steps) := ⟨rfl, rfl, rfl, by decide +kernel, rfl, by decide +kernel, by decide +kernel⟩
def backSteps (sts : List Stp) : List Stp := (sts.map backS).reverse
def okBackSteps : List PyData → PyData → Prop := fun ds d => ∃ sts, ds = [stepsT sts] ∧ sts.length ≤ 1000 ∧ d = .list ((backSteps sts).map stepD)
theorem ok_back_steps (F : Fun K "back_steps" "back_steps" s_back_steps f fd) (B2 : Bltn2 mg) : FnG P w K mg base CX0 1 f fd ["steps"] (spOf K 1 okBackSteps) := by
  refine okG F sc_back_steps (fun vs H Q E h => ?_) (fun cdv A outer s H vs Q E hcm hr h => ?_)
  · obtain ⟨_, _, _, h, _⟩ := h
    exact h
  · obtain ⟨Hv, ds, d, hl, e, hds, ⟨sts, rfl, hsz, rfl⟩, q⟩ := h
    obtain ⟨v, rfl, h1⟩ := dp1 hds
    refine ⟨_, (pss_one (ps_ret (pe_lc (own := [(("need" : Str), 1), (("gain" : Str), 2)])  rfl sc_back_steps.nd (pi_revAK K (by rfl) B2.reversed (pv 0)) (blkOk_by (N := ["steps", "need", "gain"]) (sc := defScope s_back_steps) (by decide +kernel)) (fun _ _ _ _ _ => (pg_tupK K (n := 2) rfl (pgs_cons (pg_name (i := 1) sc_back_steps.nd rfl (Or.inl rfl)) (pgs_cons (pg_name (i := 2) sc_back_steps.nd rfl (Or.inl rfl)) pgs_nil)))) (fun _ _ _ _ _ => pts_nil) (fun _ _ _ _ _ => (pe_tup (pa_cons (pe_op op_add (pv 1) (pv 2)) (pa_cons (pe_un un_neg (pv 2)) pa_nil))))))), ?_⟩
    refine Runs.go (d := .list ((backSteps sts).map stepD)) ?_ e q
    refine ru_ret ?_
    unfold backSteps
    rw [← List.map_reverse, List.map_map, ← range_map_get sts.reverse (stepD ∘ backS) (0, 0)]
    have hl : sts.reverse.length = (sts.map stepD).length := by rw [List.length_reverse, List.length_map]
    rw [hl]
    refine ed_lcRevT _ (ed_var rfl h1) (by rw [List.length_map]; omega) ?_
    intro i x dx H' hdx e1 hx H'' e2 Qg k
    rw [← List.map_reverse, List.getElem?_map] at hdx
    obtain ⟨⟨n, g⟩, hst, rfl⟩ := Option.map_eq_some_iff.mp hdx
    refine g_tup2 hx e2 (fun _ _ => rfl) (fun a b ha hb => ?_) k
    have e3 : sts.reverse.getD i (0, 0) = (n, g) := by
      rw [List.getD_eq_getElem?_getD, hst]
      rfl
    rw [e3]
    exact ed_tup (eda_cons (ed_I0 (g := fun i j => i + j) (ed_var rfl ha) (ed_var rfl hb)) (eda_cons (ed_neg (ed_var rfl hb)) eda_nil)) (by show 2 ≤ 100000; decide)

/-! ### stairs_of -/
abbrev s_stairs_of : Stmt := top 31
theorem sc_stairs_of : FnScope ["steps"] ["steps"] (defScope s_stairs_of) := ⟨rfl, rfl, rfl, by decide +kernel, rfl, by decide +kernel, by decide +kernel⟩
def okStairsOf : List PyData → PyData → Prop := fun ds d => ∃ sts, ds = [stepsT sts] ∧ sts.length ≤ 900 ∧ (∀ s ∈ sts, stOk s) ∧ d = stepsT (stairsM sts)
theorem ok_stairs_of (F : Fun K "stairs_of" "stairs_of" s_stairs_of f fd) (D_check_steps : Def P w K mg base 4 "check_steps" ["steps"] (spOf K 1 okCheckSteps)) (D_stairs_for : Def P w K mg base 3 "stairs_for" ["steps"] (spOf K 1 okStairsFor)) :
    FnG P w K mg base CX0 5 f fd ["steps"] (spOf K 1 okStairsOf) := by
  refine okG F sc_stairs_of (fun vs H Q E h => ?_) (fun cdv A outer s H vs Q E hcm hr h => ?_)
  · obtain ⟨_, _, _, h, _⟩ := h
    exact h
  · obtain ⟨Hv, ds, d, hl, e, hds, ⟨sts, rfl, hsz, hok, rfl⟩, q⟩ := h
    obtain ⟨v, rfl, h1⟩ := dp1 hds
    refine ⟨_, (pss_cons (ps_expr (pe_d D_check_steps hcm hr (by decide) (by rfl) (pa_cons (pv 0) pa_nil)))
      (pss_one (ps_ret (pe_d D_stairs_for hcm hr (by decide) (by rfl) (pa_cons (pv 0) pa_nil))))), ?_⟩
    refine Runs.go (d := stepsT (stairsM sts)) ?_ e q
    exact ru_drop (ed_call (eda_cons (ed_var rfl h1) eda_nil) (spD_of (n := 1) (ok := okCheckSteps) ⟨sts, rfl, by omega, hok, rfl⟩)) (ru_ret (ed_call (eda_cons (ed_var rfl h1) eda_nil) (spD_of (n := 1) (ok := okStairsFor) ⟨sts, rfl, hsz, rfl⟩)))

/-! ### steps_by -/
abbrev s_steps_by : Stmt := top 32
theorem sc_steps_by : FnScope ["trade", "tasks"] ["trade", "tasks"] (defScope s_steps_by) := ⟨rfl, rfl, rfl, by decide +kernel, rfl, by decide +kernel, by decide +kernel⟩
def okStepsBy : List PyData → PyData → Prop := fun ds d => ∃ tr ts, ds = [tradeD tr, .tuple (ts.map .str)] ∧ tradeOk tr ∧ tasksOk ts ∧ d = stepsT (stepsOf tr ts)
theorem ok_steps_by (F : Fun K "steps_by" "steps_by" s_steps_by f fd) (B : Bltn mg) (D_checked_steps : Def P w K mg base 5 "checked_steps" ["trade", "tasks"] (spOf K 2 okChecked)) :
    FnG P w K mg base CX0 6 f fd ["trade", "tasks"] (spOf K 2 okStepsBy) := by
  refine okG F sc_steps_by (fun vs H Q E h => ?_) (fun cdv A outer s H vs Q E hcm hr h => ?_)
  · obtain ⟨_, _, _, h, _⟩ := h
    exact h
  · obtain ⟨Hv, ds, d, hl, e, hds, ⟨tr, ts, rfl, hok, hts, rfl⟩, q⟩ := h
    obtain ⟨v, u, rfl, h1, h2⟩ := dp2 hds
    refine ⟨_, (pss_one (ps_ret (pe_callTy call_tuple_of (by rfl) B.tuple bt_tuple (pa_cons (pe_d D_checked_steps hcm hr (by decide) (by rfl) (pa_cons (pv 0) (pa_cons (pv 1) pa_nil))) pa_nil)))), ?_⟩
    refine Runs.go (d := stepsT (stepsOf tr ts)) ?_ e q
    exact ru_ret (ed_tupleOf (ed_call (eda_cons (ed_var rfl h1) (eda_cons (ed_var rfl h2) eda_nil)) (spD_of (n := 2) (ok := okChecked) ⟨tr, ts, rfl, hok, hts, (stepsD_eq tr ts).symm⟩)))

/-! ### steps_back -/
abbrev s_steps_back : Stmt := top 33
theorem sc_steps_back : FnScope ["steps"] ["steps"] (defScope s_steps_back) := ⟨rfl, rfl, rfl, by decide +kernel, rfl, by decide +kernel, by decide +kernel⟩
def okStepsBack : List PyData → PyData → Prop := fun ds d => ∃ sts, ds = [stepsT sts] ∧ sts.length ≤ 1000 ∧ (∀ s ∈ sts, stOk s) ∧ d = stepsT (backSteps sts)
theorem ok_steps_back (F : Fun K "steps_back" "steps_back" s_steps_back f fd) (B : Bltn mg) (D_check_steps : Def P w K mg base 4 "check_steps" ["steps"] (spOf K 1 okCheckSteps)) (D_back_steps : Def P w K mg base 1 "back_steps" ["steps"] (spOf K 1 okBackSteps)) :
    FnG P w K mg base CX0 5 f fd ["steps"] (spOf K 1 okStepsBack) := by
  refine okG F sc_steps_back (fun vs H Q E h => ?_) (fun cdv A outer s H vs Q E hcm hr h => ?_)
  · obtain ⟨_, _, _, h, _⟩ := h
    exact h
  · obtain ⟨Hv, ds, d, hl, e, hds, ⟨sts, rfl, hsz, hok, rfl⟩, q⟩ := h
    obtain ⟨v, rfl, h1⟩ := dp1 hds
    refine ⟨_, (pss_cons (ps_expr (pe_d D_check_steps hcm hr (by decide) (by rfl) (pa_cons (pv 0) pa_nil)))
      (pss_one (ps_ret (pe_callTy call_tuple_of (by rfl) B.tuple bt_tuple (pa_cons (pe_d D_back_steps hcm hr (by decide) (by rfl) (pa_cons (pv 0) pa_nil)) pa_nil))))), ?_⟩
    refine Runs.go (d := stepsT (backSteps sts)) ?_ e q
    exact ru_drop (ed_call (eda_cons (ed_var rfl h1) eda_nil) (spD_of (n := 1) (ok := okCheckSteps) ⟨sts, rfl, hsz, hok, rfl⟩)) (ru_ret (ed_tupleOf (ed_call (eda_cons (ed_var rfl h1) eda_nil) (spD_of (n := 1) (ok := okBackSteps) ⟨sts, rfl, hsz, rfl⟩))))
end K11

set_option maxHeartbeats 1000000
namespace K11
open PySem PySem.Spec PyProof.Rows L2 Evl VG
variable {P : Program} {w : World} {K : PySem.W.Frag} {mg : Str → Option Value} {base : Heap} {f : Addr} {fd : FuncData}
section
variable {σ : L2.St} {H : Hp} {ta tb te tl : TE} {g : TG} {tt : TT} {vs : List Nat}
theorem ed_lcTF {ds : List PyData} (b : Nat → Bool) (f : Nat → PyData) (hl : EvD K tl σ H (.tuple ds)) (hz : ds.length ≤ 100000)
    (hs : ∀ i x dx H', ds[i]? = some dx → Ex H H' → Dp K H' x dx → ∀ H'', Ex H' H'' → ∀ Qg : L2.St → Hp → Prop,
      (∀ σ2 H2, wipe σ2 vs = wipe σ vs → Ex H'' H2 → EvT tt σ2 H' (b i) → (b i = true → EvD K te σ2 H' (f i)) → Qg σ2 H2) → g x (wipe σ vs) H'' Qg) :
    EvD K (tLc (iTup K tl) g tt te vs) σ H (.list (((List.range ds.length).filter b).map f)) := fun H1 e Q q =>
  hl H1 e _ fun x H2 e2 hx => by
    obtain ⟨a, xs, rfl, h1, h2⟩ := dp_tup hx
    have hlen := dpAll_len h2
    refine ⟨a, rfl, ⟨xs, sqT_same hid_ex h1⟩, fun D hD => ?_⟩
    refine lcF (K := K) (H := hid H H1 H2) (walk_tup (K := K) (a := a) (xs := xs)) b f (by omega) hid_ex (fun H' e' => sqT_same e' h1) ?_ hD fun v H3 e3 hv => ?_
    · rintro i x H' H'' hi e' ⟨rfl, hx⟩ Qg k
      obtain ⟨dx, hd, hdx⟩ := dpAll_get h2 hx
      exact hs i x dx (hid H H1 H2) hd (hid_base e e2) hdx _ e' Qg k
    · refine q v H3 (e2.trans e3) (dp_same (hid_two e2) ?_)
      rw [hlen] at hv
      exact hv
theorem range_filter_map {α β : Type} (xs : List α) (p : α → Bool) (g : α → β) (z : α) :
    ((List.range xs.length).filter fun i => p (xs.getD i z)).map (fun i => g (xs.getD i z)) = (xs.filter p).map g := by
  have h := range_map_get xs (fun x => x) z
  rw [List.map_id'] at h
  conv => rhs; rw [← h]
  rw [List.filter_map, List.map_map]
  rfl
/-- the truth of a list -/
theorem et_truthL {ds : List PyData} (h : EvD K ta σ H (.list ds)) : EvT (fun σ H Q => ta σ H fun x H' => ∃ k, TruV K x H' k ∧ Q k H') σ H (!ds.isEmpty) := fun H1 e Q q =>
  h H1 e _ fun x H2 e2 hx => by
    obtain ⟨a, xs, rfl, h1, h2⟩ := dp_lst hx
    refine ⟨!xs.isEmpty, .inl ⟨xs, ex_l hid_ex h1, rfl⟩, ?_⟩
    have : xs.isEmpty = ds.isEmpty := by
      have := dpAll_len h2
      cases xs <;> cases ds <;> first | rfl | cases this
    rw [this]
    exact q H2 e2
/-- the last one -/
theorem ed_ixLast {ds : List PyData} {d : PyData} (ha : EvD K ta σ H (.list (ds ++ [d]))) (hb : EvD K tb σ H (.int (-1))) : EvD K (tOp (rIxL K) ta tb) σ H d :=
  ed_op ha hb fun x y H' e hx hy => by
    obtain ⟨a, xs, rfl, h1, h2⟩ := dp_lst hx
    cases hy
    obtain ⟨xs0, yl, rfl, h3, h4⟩ := dpAll_snoc h2
    intro H1 e1 Q q
    exact ⟨a, _, _, yl, rfl, rfl, ex_l e1 h1, atI_last _ _, q _ H1 (Ex.refl _) (dp_same (hid_base e1 (Ex.refl _)) h4)⟩
theorem ru_setL {D : Nat} {u : TS} {d1 d : PyData} {i : Nat} (h : EvD K te σ H d1) (k : ∀ v H', Ex H H' → Dp K H' v d1 → Runs K u (σ.set i (some v)) H' d) : Runs K (tSeq (tAsg te (gName i)) u) σ H d := ru_set h k
end

/-! ### gain_for -/
abbrev s_gain_for : Stmt := top 34
theorem sc_gain_for : FnScope ["stairs", "base", "gains", "least", "gain"] ["stairs", "base"] (defScope s_gain_for) := ⟨rfl, rfl, rfl, by decide +kernel, rfl, by decide +kernel, by decide +kernel⟩
def gainM (st : List Stp) (b : Int) : Int := (((st.filter fun s => decide (s.1 ≤ b)).map (·.2)).getLast?).getD 0
def okGainFor : List PyData → PyData → Prop := fun ds d => ∃ st b, ds = [stepsT st, .int b] ∧ st.length ≤ 1000 ∧ d = .int (gainM st b)
theorem ok_gain_for (F : Fun K "gain_for" "gain_for" s_gain_for f fd) : FnG P w K mg base CX0 1 f fd ["stairs", "base"] (spOf K 2 okGainFor) := by
  refine okG F sc_gain_for (fun vs H Q E h => ?_) (fun cdv A outer s H vs Q E hcm hr h => ?_)
  · obtain ⟨_, _, _, h, _⟩ := h
    exact h
  · obtain ⟨Hv, ds, d, hl, e, hds, ⟨st, b, rfl, hsz, rfl⟩, q⟩ := h
    obtain ⟨v, u, rfl, h1, h2⟩ := dp2 hds
    cases h2
    refine ⟨_, (pss_cons (ps_setLc (i := 2) (own := [(("least" : Str), 3), (("gain" : Str), 4)])  rfl sc_gain_for.nd rfl rfl (sw_true rfl rfl rfl (by decide +kernel)) (pi_tupK K (pv 0)) (blkOk_by (N := ["stairs", "base", "gains", "least", "gain"]) (sc := defScope s_gain_for) (by decide +kernel)) (fun _ _ _ _ _ => (pg_tupK K (n := 2) rfl (pgs_cons (pg_name (i := 3) sc_gain_for.nd rfl (Or.inl rfl)) (pgs_cons (pg_name (i := 4) sc_gain_for.nd rfl (Or.inl rfl)) pgs_nil)))) (fun _ _ _ _ _ => (pts_one (pt_cmpR op_le (pv 3) (pv 1) (nomark _)))) (fun _ _ _ _ _ => (pv 4)))
      (pss_one (ps_ret (pe_ifExp (pt_truth (pv 2) (by intro _; rfl)) (pe_ix (ix_listK K) (pv 2) (pe_un un_neg pe_int) (fun _ _ => rfl)) pe_int)))), ?_⟩
    refine Runs.go (d := .int (gainM st b)) ?_ e q
    refine ru_set (d1 := .list (((st.filter fun s => decide (s.1 ≤ b)).map (·.2)).map .int)) ?_ fun v' H' e' hv' => ?_
    · rw [List.map_map, ← range_filter_map st (fun s => decide (s.1 ≤ b)) (PyData.int ∘ fun s => s.2) (0, 0)]
      have hl : st.length = (st.map stepD).length := (List.length_map _).symm
      rw [hl]
      refine ed_lcTF _ _ (ed_var rfl h1) (by rw [← hl]; omega) ?_
      intro i x dx H' hdx e1 hx H'' e2 Qg k
      rw [List.getElem?_map] at hdx
      obtain ⟨⟨n, g⟩, hst, rfl⟩ := Option.map_eq_some_iff.mp hdx
      have e3 : st.getD i (0, 0) = (n, g) := by
        rw [List.getD_eq_getElem?_getD, hst]
        rfl
      obtain ⟨a, xs, rfl, s1, s2⟩ := dp_tup hx
      obtain ⟨y1, y2, rfl, v1, v2⟩ := dp2 s2
      cases v1
      cases v2
      refine ⟨a, _, rfl, sqT_same e2 s1, rfl, _, _, rfl, ?_⟩
      refine ⟨_, _, rfl, ?_⟩
      refine ⟨rfl, ?_⟩
      rw [e3] at k
      refine k _ _ ?_ (Ex.refl _) ?_ fun _ => ?_
      · rfl
      · exact et_bool (K := K) (ed_B0 (g := fun i j => decide (i ≤ j)) (ed_var rfl (.int n)) (ed_var rfl (.int b)))
      · exact ed_var rfl (.int g)
    · refine ru_ret ?_
      unfold gainM
      generalize ((st.filter fun s => decide (s.1 ≤ b)).map (·.2)) = ns at hv'
      rcases List.eq_nil_or_concat ns with hn | ⟨ns0, z, hn⟩
      · subst hn
        exact ed_ifE (b := false) (et_truthL (ed_var rfl hv')) (fun z => nomatch z) fun _ => ed_int
      · rw [List.concat_eq_append] at hn
        subst hn
        rw [List.getLast?_concat]
        have hne : (!((ns0 ++ [z]).map PyData.int).isEmpty) = true := by
          cases ns0 <;> rfl
        rw [List.map_append] at hv' hne
        exact ed_ifE (b := true) (et_is (et_truthL (ed_var rfl hv')) hne) (fun _ => ed_ixLast (ed_var rfl hv') (ed_neg (ed_int (i := 1)))) (fun z => nomatch z)
end K11

set_option maxHeartbeats 1000000
namespace K11
open PySem PySem.Spec PyProof.Rows L2 Evl VG
variable {P : Program} {w : World} {K : PySem.W.Frag} {mg : Str → Option Value} {base : Heap} {f : Addr} {fd : FuncData}

/-! ### lower_base -/
abbrev s_lower_base : Stmt := top 36
theorem sc_lower_base : FnScope ["one", "other", "bases", "base", "gain"] ["one", "other"] (defScope s_lower_base) := ⟨rfl, rfl, rfl, by decide +kernel, rfl, by decide +kernel, by decide +kernel⟩
def lowerM (one other : List Stp) : Option Int := ((other.filter fun s => decide (gainM one s.1 < s.2)).map (·.1)).head?
def optD : Option Int → PyData
  | none => .none
  | some b => .int b
def okLowerBase : List PyData → PyData → Prop := fun ds d => ∃ one other, ds = [stepsT one, stepsT other] ∧ one.length ≤ 1000 ∧ other.length ≤ 1000 ∧ d = optD (lowerM one other)
theorem ok_lower_base (F : Fun K "lower_base" "lower_base" s_lower_base f fd) (D_gain_for : Def P w K mg base 1 "gain_for" ["stairs", "base"] (spOf K 2 okGainFor)) :
    FnG P w K mg base CX0 2 f fd ["one", "other"] (spOf K 2 okLowerBase) := by
  refine okG F sc_lower_base (fun vs H Q E h => ?_) (fun cdv A outer s H vs Q E hcm hr h => ?_)
  · obtain ⟨_, _, _, h, _⟩ := h
    exact h
  · obtain ⟨Hv, ds, d, hl, e, hds, ⟨one, other, rfl, z1, z2, rfl⟩, q⟩ := h
    obtain ⟨v, u, rfl, h1, h2⟩ := dp2 hds
    refine ⟨_, (pss_cons (ps_setLc (i := 2) (own := [(("base" : Str), 3), (("gain" : Str), 4)])  rfl sc_lower_base.nd rfl rfl (sw_true rfl rfl rfl (by decide +kernel)) (pi_tupK K (pv 1)) (blkOk_by (N := ["one", "other", "bases", "base", "gain"]) (sc := defScope s_lower_base) (by decide +kernel)) (fun _ _ _ _ _ => (pg_tupK K (n := 2) rfl (pgs_cons (pg_name (i := 3) sc_lower_base.nd rfl (Or.inl rfl)) (pgs_cons (pg_name (i := 4) sc_lower_base.nd rfl (Or.inl rfl)) pgs_nil)))) (fun _ _ _ _ _ => (pts_one (pt_cmpR op_lt (pe_d D_gain_for hcm hr (by decide) (by rfl) (pa_cons (pv 0) (pa_cons (pv 3) pa_nil))) (pv 4) (nomark _)))) (fun _ _ _ _ _ => (pv 3)))
      (pss_one (ps_ret (pe_ifExp (pt_truth (pv 2) (by intro _; rfl)) (pe_ix (ix_listK K) (pv 2) pe_int (fun _ _ => rfl)) pe_non)))), ?_⟩
    refine Runs.go (d := optD (lowerM one other)) ?_ e q
    refine ru_set (d1 := .list (((other.filter fun s => decide (gainM one s.1 < s.2)).map (·.1)).map .int)) ?_ fun v' H' e' hv' => ?_
    · rw [List.map_map, ← range_filter_map other (fun s => decide (gainM one s.1 < s.2)) (PyData.int ∘ fun s => s.1) (0, 0)]
      have hl : other.length = (other.map stepD).length := (List.length_map _).symm
      rw [hl]
      refine ed_lcTF _ _ (ed_var rfl h2) (by rw [← hl]; omega) ?_
      intro i x dx H' hdx e1 hx H'' e2 Qg k
      rw [List.getElem?_map] at hdx
      obtain ⟨⟨n, g⟩, hst, rfl⟩ := Option.map_eq_some_iff.mp hdx
      have e3 : other.getD i (0, 0) = (n, g) := by
        rw [List.getD_eq_getElem?_getD, hst]
        rfl
      obtain ⟨a, xs, rfl, s1, s2⟩ := dp_tup hx
      obtain ⟨y1, y2, rfl, v1, v2⟩ := dp2 s2
      cases v1
      cases v2
      refine ⟨a, _, rfl, sqT_same e2 s1, rfl, _, _, rfl, ?_⟩
      refine ⟨_, _, rfl, ?_⟩
      refine ⟨rfl, ?_⟩
      rw [e3] at k
      refine k _ _ ?_ (Ex.refl _) ?_ fun _ => ?_
      · rfl
      · exact etI_lt (K := K) (ed_call (eda_cons (ed_var rfl (dp_same e1 h1)) (eda_cons (ed_var rfl (.int n)) eda_nil)) (spD_of (n := 2) (ok := okGainFor) ⟨one, n, rfl, z1, rfl⟩)) (ed_var rfl (.int g))
      · exact ed_var rfl (.int n)
    · refine ru_ret ?_
      unfold lowerM
      generalize ((other.filter fun s => decide (gainM one s.1 < s.2)).map (·.1)) = ns at hv'
      cases ns with
      | nil => exact ed_ifE (b := false) (et_truthL (ed_var rfl hv')) (fun z => nomatch z) fun _ => ed_non
      | cons z r => exact ed_ifE (b := true) (et_truthL (ed_var rfl hv')) (fun _ => ed_ixL (k := 0) (ed_var rfl hv') ed_int rfl) (fun z => nomatch z)

/-! ### gain_at -/
abbrev s_gain_at : Stmt := top 35
theorem sc_gain_at : FnScope ["stairs", "base"] ["stairs", "base"] (defScope s_gain_at) := ⟨rfl, rfl, rfl, by decide +kernel, rfl, by decide +kernel, by decide +kernel⟩
/-- stairs as they may be -/
def stairsOk (st : List Stp) : Prop := (∀ s, st[0]? = some s → 0 ≤ s.1 ∧ 0 < s.2) ∧ ∀ (i : Nat) (a b : Stp), st[i]? = some a → st[i + 1]? = some b → a.1 < b.1 ∧ a.2 < b.2
def okCheckStairs : List PyData → PyData → Prop := fun ds d => ∃ st, ds = [stepsT st] ∧ st.length ≤ 900 ∧ stairsOk st ∧ d = .none
def okGainAt : List PyData → PyData → Prop := fun ds d => ∃ st b, ds = [stepsT st, .int b] ∧ st.length ≤ 900 ∧ stairsOk st ∧ d = .int (gainM st b)
theorem ok_gain_at (F : Fun K "gain_at" "gain_at" s_gain_at f fd) (D_check_stairs : Def P w K mg base 4 "check_stairs" ["stairs"] (spOf K 1 okCheckStairs)) (D_is_integer : Def P w K mg base 1 "is_integer" ["value"] (spOf K 1 okInteger))
    (D_gain_for : Def P w K mg base 1 "gain_for" ["stairs", "base"] (spOf K 2 okGainFor)) : FnG P w K mg base CX0 5 f fd ["stairs", "base"] (spOf K 2 okGainAt) := by
  refine okG F sc_gain_at (fun vs H Q E h => ?_) (fun cdv A outer s H vs Q E hcm hr h => ?_)
  · obtain ⟨_, _, _, h, _⟩ := h
    exact h
  · obtain ⟨Hv, ds, d, hl, e, hds, ⟨st, b, rfl, hsz, hok, rfl⟩, q⟩ := h
    obtain ⟨v, u, rfl, h1, h2⟩ := dp2 hds
    refine ⟨_, (pss_cons (ps_expr (pe_d D_check_stairs hcm hr (by decide) (by rfl) (pa_cons (pv 0) pa_nil)))
      (pss_cons (ps_if (pt_not (pt_val (pe_d D_is_integer hcm hr (by decide) (by rfl) (pa_cons (pv 1) pa_nil)))) (pss_one ps_never) pss_nil)
      (pss_one (ps_ret (pe_d D_gain_for hcm hr (by decide) (by rfl) (pa_cons (pv 0) (pa_cons (pv 1) pa_nil))))))), ?_⟩
    refine Runs.go (d := .int (gainM st b)) ?_ e q
    refine ru_drop (ed_call (eda_cons (ed_var rfl h1) eda_nil) (spD_of (n := 1) (ok := okCheckStairs) ⟨st, rfl, hsz, hok, rfl⟩)) ?_
    refine ru_when (b := false) (et_not (a := true) (etB_bool (ed_call (eda_cons (ed_var rfl h2) eda_nil) (spD_of (n := 1) (ok := okInteger) ⟨b, rfl, rfl⟩)))) (fun z => nomatch z) fun _ => ?_
    exact ru_ret (ed_call (eda_cons (ed_var rfl h1) (eda_cons (ed_var rfl h2) eda_nil)) (spD_of (n := 2) (ok := okGainFor) ⟨st, b, rfl, by omega, rfl⟩))

/-! ### no_less -/
abbrev s_no_less : Stmt := top 37
theorem sc_no_less : FnScope ["one", "other"] ["one", "other"] (defScope s_no_less) := ⟨rfl, rfl, rfl, by decide +kernel, rfl, by decide +kernel, by decide +kernel⟩
def okNoLess : List PyData → PyData → Prop := fun ds d => ∃ one other, ds = [stepsT one, stepsT other] ∧ one.length ≤ 900 ∧ other.length ≤ 900 ∧ stairsOk one ∧ stairsOk other ∧ d = optD (lowerM one other)
theorem ok_no_less (F : Fun K "no_less" "no_less" s_no_less f fd) (D_check_stairs : Def P w K mg base 4 "check_stairs" ["stairs"] (spOf K 1 okCheckStairs)) (D_lower_base : Def P w K mg base 2 "lower_base" ["one", "other"] (spOf K 2 okLowerBase)) :
    FnG P w K mg base CX0 5 f fd ["one", "other"] (spOf K 2 okNoLess) := by
  refine okG F sc_no_less (fun vs H Q E h => ?_) (fun cdv A outer s H vs Q E hcm hr h => ?_)
  · obtain ⟨_, _, _, h, _⟩ := h
    exact h
  · obtain ⟨Hv, ds, d, hl, e, hds, ⟨one, other, rfl, z1, z2, o1, o2, rfl⟩, q⟩ := h
    obtain ⟨v, u, rfl, h1, h2⟩ := dp2 hds
    refine ⟨_, (pss_cons (ps_expr (pe_d D_check_stairs hcm hr (by decide) (by rfl) (pa_cons (pv 0) pa_nil)))
      (pss_cons (ps_expr (pe_d D_check_stairs hcm hr (by decide) (by rfl) (pa_cons (pv 1) pa_nil)))
      (pss_one (ps_ret (pe_d D_lower_base hcm hr (by decide) (by rfl) (pa_cons (pv 0) (pa_cons (pv 1) pa_nil))))))), ?_⟩
    refine Runs.go (d := optD (lowerM one other)) ?_ e q
    refine ru_drop (ed_call (eda_cons (ed_var rfl h1) eda_nil) (spD_of (n := 1) (ok := okCheckStairs) ⟨one, rfl, z1, o1, rfl⟩)) ?_
    refine ru_drop (ed_call (eda_cons (ed_var rfl h2) eda_nil) (spD_of (n := 1) (ok := okCheckStairs) ⟨other, rfl, z2, o2, rfl⟩)) ?_
    exact ru_ret (ed_call (eda_cons (ed_var rfl h1) (eda_cons (ed_var rfl h2) eda_nil)) (spD_of (n := 2) (ok := okLowerBase) ⟨one, other, rfl, by omega, by omega, rfl⟩))
end K11

set_option maxHeartbeats 1000000
namespace K11
open PySem PySem.Spec PyProof.Rows L2 Evl VG
variable {P : Program} {w : World} {K : PySem.W.Frag} {mg : Str → Option Value} {base : Heap} {f : Addr} {fd : FuncData}
theorem pe_revTK {X : Cx} (K : PySem.W.Frag) {e : Expr} {te : TE} {k : Nat} {p1 p2 p3 pos : Pos} (he : PE X e te) (h : X.K = K := by rfl) :
    PE X (.Subscript e (.Slice none none (some (.UnaryOp .USub (.Constant (.int 1) k p1) p2)) p3) pos) (tRevT K te) := h ▸ pe_revT he
/-- walked: a list or a tuple, whichever comes -/
def iSeq (K : PySem.W.Frag) (tl : TE) : TI := fun σ H R => tl σ H fun x H1 => ∃ a xs, x = .ref a ∧ ((SqL K H1 a xs ∧ R (Itl K a) H1) ∨ (SqT K H1 a xs ∧ R (Itt K a) H1))
theorem pi_seqK {X : Cx} {tg : Expr} (K : PySem.W.Frag) {l : Expr} {tl : TE} (hl : PE X l tl) (hK : X.K = K := by rfl) : PI X tg l (iSeq K tl) := by
  subst hK
  refine ⟨fun pins s σ H R I h => thn (hl.run pins s σ H _ I h) fun v s1 ⟨x, H1, I1, r1, a, xs, ex, q⟩ => ?_⟩
  subst ex
  cases r1
  have fp : ∀ b, b ∈ [s1.heap.objs.size] → FpOk X pins H1 b := fun b hb => by
    rw [List.mem_singleton.mp hb]
    exact I1.fpOk (Nat.le_refl _) (I1.hok.fresh (Nat.le_refl _))
  rcases q with ⟨hq, q⟩ | ⟨hq, q⟩
  · obtain ⟨its, rv, p, hz⟩ := I1.list hq
    exact wpAny_pyIter_list p.isList ⟨_, [s1.heap.objs.size], _, _, H1, rfl, I1.kept (t' := s1.toks) (fun b o e => Heap.get?_push_of_some _ e), turn_list a _, ⟨_, Heap.get?_push_size _ rfl, rfl, rfl⟩, fp, q⟩
  · obtain ⟨its, rv, p, hz⟩ := I1.tuple hq
    exact wpAny_pyIter_tuple (show s1.heap.IsTuple a its.toArray from p) ⟨_, [s1.heap.objs.size], _, _, H1, rfl, I1.kept (t' := s1.toks) (fun b o e => Heap.get?_push_of_some _ e), turn_tuple a _, ⟨_, Heap.get?_push_size _ rfl, rfl, rfl⟩, fp, q⟩

/-! ### _law_back_steps -/
abbrev s_law_back_steps : Stmt := top 52
theorem sc_law_back_steps : FnScope ["_law_steps_here", "_law_need", "_law_more"] ["_law_steps_here"] (defScope s_law_back_steps) := ⟨rfl, rfl, rfl, by decide +kernel, rfl, by decide +kernel, by decide +kernel⟩
def okLawBackSteps : List PyData → PyData → Prop := fun ds d => ∃ sts, ds = [stepsT sts] ∧ sts.length ≤ 1000 ∧ d = stepsT (backSteps sts)
theorem ok_law_back_steps (F : Fun K "_law_back_steps" "_law_back_steps" s_law_back_steps f fd) (B : Bltn mg) : FnG P w K mg base CX0 1 f fd ["_law_steps_here"] (spOf K 1 okLawBackSteps) := by
  refine okG F sc_law_back_steps (fun vs H Q E h => ?_) (fun cdv A outer s H vs Q E hcm hr h => ?_)
  · obtain ⟨_, _, _, h, _⟩ := h
    exact h
  · obtain ⟨Hv, ds, d, hl, e, hds, ⟨sts, rfl, hsz, rfl⟩, q⟩ := h
    obtain ⟨v, rfl, h1⟩ := dp1 hds
    refine ⟨_, (pss_one (ps_ret (pe_callTy call_tuple_of (by rfl) B.tuple bt_tuple (pa_cons (pe_lc (own := [(("_law_need" : Str), 1), (("_law_more" : Str), 2)])  rfl sc_law_back_steps.nd (pi_tupK K (pe_revTK K (pv 0))) (blkOk_by (N := ["_law_steps_here", "_law_need", "_law_more"]) (sc := defScope s_law_back_steps) (by decide +kernel)) (fun _ _ _ _ _ => (pg_tupK K (n := 2) rfl (pgs_cons (pg_name (i := 1) sc_law_back_steps.nd rfl (Or.inl rfl)) (pgs_cons (pg_name (i := 2) sc_law_back_steps.nd rfl (Or.inl rfl)) pgs_nil)))) (fun _ _ _ _ _ => pts_nil) (fun _ _ _ _ _ => (pe_tup (pa_cons (pe_op op_add (pv 1) (pv 2)) (pa_cons (pe_un un_neg (pv 2)) pa_nil))))) pa_nil)))), ?_⟩
    refine Runs.go (d := stepsT (backSteps sts)) ?_ e q
    refine ru_ret (ed_tupleOf ?_)
    unfold backSteps
    rw [← List.map_reverse, List.map_map, ← range_map_get sts.reverse (stepD ∘ backS) (0, 0)]
    have hl : sts.reverse.length = (sts.map stepD).reverse.length := by rw [List.length_reverse, List.length_reverse, List.length_map]
    rw [hl]
    refine ed_lcT _ (ed_revT (ed_var rfl h1)) (by rw [List.length_reverse, List.length_map]; omega) ?_
    intro i x dx H' hdx e1 hx H'' e2 Qg k
    rw [← List.map_reverse, List.getElem?_map] at hdx
    obtain ⟨⟨n, g⟩, hst, rfl⟩ := Option.map_eq_some_iff.mp hdx
    refine g_tup2 hx e2 (fun _ _ => rfl) (fun a b ha hb => ?_) k
    have e3 : sts.reverse.getD i (0, 0) = (n, g) := by
      rw [List.getD_eq_getElem?_getD, hst]
      rfl
    rw [e3]
    exact ed_tup (eda_cons (ed_I0 (g := fun i j => i + j) (ed_var rfl ha) (ed_var rfl hb)) (eda_cons (ed_neg (ed_var rfl hb)) eda_nil)) (by show 2 ≤ 100000; decide)

/-! ### _law_bases -/
abbrev s_law_bases : Stmt := top 51
theorem sc_law_bases : FnScope ["_law_steps_here", "_law_found", "_law_gone", "_law_least_base", "_law_need", "_law_more"] ["_law_steps_here"] (defScope s_law_bases) := ⟨rfl, rfl, rfl, by decide +kernel, rfl, by decide +kernel, by decide +kernel⟩
def basesM : Int → Int → List Stp → List Int
  | _, _, [] => []
  | lo, ri, (n, g) :: r => (if n - ri > lo then n - ri else lo) :: basesM (if n - ri > lo then n - ri else lo) (ri + g) r
theorem drop_get {α : Type} {l : List α} {i : Nat} {x : α} (h : l[i]? = some x) : l.drop i = x :: l.drop (i + 1) := by
  have hi := (List.getElem?_eq_some_iff.mp h).1
  rw [List.drop_eq_getElem_cons hi]
  rw [List.getElem?_eq_getElem hi] at h
  rw [Option.some.inj h]
def okLawBases : List PyData → PyData → Prop := fun ds d => ∃ sts, ds = [stepsT sts] ∧ sts.length ≤ 1000 ∧ d = .list ((basesM 0 0 sts).map .int)
theorem ok_law_bases (F : Fun K "_law_bases" "_law_bases" s_law_bases f fd) (B : Bltn mg) : FnG P w K mg base CX0 1 f fd ["_law_steps_here"] (spOf K 1 okLawBases) := by
  refine okG F sc_law_bases (fun vs H Q E h => ?_) (fun cdv A outer s H vs Q E hcm hr h => ?_)
  · obtain ⟨_, _, _, h, _⟩ := h
    exact h
  · obtain ⟨Hv, ds, d, hl, e, hds, ⟨sts, rfl, hsz, rfl⟩, q⟩ := h
    obtain ⟨v, rfl, h1⟩ := dp1 hds
    obtain ⟨a, xs, rfl, s1, s2⟩ := dp_tup h1
    have hlen : xs.length = sts.length := by rw [dpAll_len s2, List.length_map]
    refine ⟨_, (pss_cons (ps_par3 (i := 1) (j := 2) (l := 3) rfl sc_law_bases.nd rfl rfl rfl (by decide) (by decide) (by decide) rfl rfl rfl (pa_cons (pe_lst pa_nil) (pa_cons pe_int (pa_cons pe_int pa_nil))) rfl)
      (pss_cons (ps_for PassesOwn.never rfl (pi_tupK K (pv 0)) (pg_tupK K (n := 2) rfl (pgs_cons (pg_name (i := 4) sc_law_bases.nd rfl (Or.inl rfl)) (pgs_cons (pg_name (i := 5) sc_law_bases.nd rfl (Or.inl rfl)) pgs_nil))) (pss_cons (ps_par (i := 3) (j := 2) rfl sc_law_bases.nd rfl rfl (by decide) rfl rfl (pa_cons (pe_callB (call_max2 rfl) (by rfl) B.max bt_max (pa_cons (pv 3) (pa_cons (pe_op op_sub (pv 4) (pv 2)) pa_nil))) (pa_cons (pe_op op_add (pv 2) (pv 5)) pa_nil)) rfl)
      (pss_one (ps_expr (pe_bm PySem.F.plainAttrs_list PySem.F.slot_list_append PySem.F.type_list_append mt_append (pv 1) (pa_cons (pv 3) pa_nil))))))
      (pss_one (ps_ret (pv 1))))), ?_⟩
    refine ⟨by show 0 ≤ sizeLine; decide, fun l hl => ?_⟩
    refine ⟨_, _, _, rfl, ?_⟩
    refine ⟨_, rfl, a, rfl, ⟨xs, sqT_same (e.trans (Ex.new hl)) s1⟩, ?_⟩
    refine for_tup (K := K) (a := a) (xs := xs) (fun i σ H' => ∃ (o1 o2 : Option V) (pre : List Int) (lo ri : Int), σ = [some (.ref a), some (.ref l), some (.int ri), some (.int lo), o1, o2] ∧ Ex H H' ∧
        H' l = some (.lst (pre.map V.int)) ∧ pre.length ≤ i ∧ pre ++ basesM lo ri (sts.drop i) = basesM 0 0 sts)
      ⟨none, none, [], 0, 0, rfl, Ex.new hl, upd_same, Nat.le_refl _, by rw [List.drop_zero]; rfl⟩ (fun i σ H' _ ⟨_, _, _, _, _, _, e', _⟩ => sqT_same (e.trans e') s1) ?_ ?_
    · rintro i x σ H' hx ⟨o1, o2, pre, lo, ri, rfl, e', hl', hpl, hm⟩
      have hi : i < sts.length := by
        have := (List.getElem?_eq_some_iff.mp hx).1
        omega
      obtain ⟨dx, hdx, hx2⟩ := dpAll_get s2 hx
      rw [List.getElem?_map] at hdx
      obtain ⟨⟨n, g⟩, hst, rfl⟩ := Option.map_eq_some_iff.mp hdx
      obtain ⟨b, ys, rfl, u1, u2⟩ := dp_tup hx2
      obtain ⟨x1, x2, rfl, v1, v2⟩ := dp2 u2
      cases v1
      cases v2
      rw [drop_get hst] at hm
      refine ⟨b, _, rfl, sqT_same (e.trans e') u1, rfl, _, _, rfl, ?_⟩
      refine ⟨_, _, rfl, ?_⟩
      refine ⟨rfl, ?_⟩
      refine ⟨_, rfl, _, rfl, _, rfl, _, _, rfl, rfl, _, _, rfl, ?_⟩
      refine ⟨_, rfl, _, rfl, _, _, rfl, rfl, ?_⟩
      refine ⟨_, _, rfl, ?_⟩
      refine ⟨_, rfl, .inl ⟨rfl, _, SqL.of hl'⟩, _, rfl, l, _, _, rfl, rfl, hl', ?_, ?_⟩
      · rw [List.length_map]
        exact sz_lt (by omega)
      · refine ⟨_, _, pre ++ [if n - ri > lo then n - ri else lo], _, _, rfl, e'.mut hl, ?_, ?_, ?_⟩
        · rw [upd_same, List.map_append]
          rfl
        · rw [List.length_append]
          exact Nat.succ_le_succ hpl
        · rw [List.append_assoc]
          exact hm
    · rintro σ H' ⟨o1, o2, pre, lo, ri, rfl, e', hl', hpl, hm⟩
      rw [hlen, List.drop_length] at hm
      have hm : pre = basesM 0 0 sts := by
        rw [← hm]
        exact (List.append_nil _).symm
      refine ⟨_, rfl, ?_⟩
      refine q _ H' e' ?_
      rw [← hm]
      exact .lst (.inl (.inl ((hid_new hl).trans hl'))) (dpAll_ints _)
end K11

set_option maxHeartbeats 1000000
namespace K11
open PySem PySem.Spec PyProof.Rows L2 Evl VG
variable {P : Program} {w : World} {K : PySem.W.Frag} {mg : Str → Option Value} {base : Heap} {f : Addr} {fd : FuncData}

/-! ### _law_gain_of -/
abbrev s_law_gain_of : Stmt := top 48
theorem sc_law_gain_of : FnScope ["_law_steps_here", "_law_base", "_law_best_sum", "_law_gone", "_law_need", "_law_more"] ["_law_steps_here", "_law_base"] (defScope s_law_gain_of) := ⟨rfl, rfl, rfl, by decide +kernel, rfl, by decide +kernel, by decide +kernel⟩
/-- what is won of a base at most, walking on as far as it goes -/
def gainR (b : Int) : Int → Int → List Stp → Int
  | best, _, [] => best
  | best, gone, (n, g) :: r => if b + gone < n then best else gainR b (if gone + g > best then gone + g else best) (gone + g) r
theorem gainR_cons (b best gone n g : Int) (r : List Stp) : gainR b best gone ((n, g) :: r) = if b + gone < n then best else gainR b (if gone + g > best then gone + g else best) (gone + g) r := rfl
def gainOfM (sts : List Stp) (b : Int) : Int := if 0 ≤ b then gainR b 0 0 sts else 0
def okLawGainOf : List PyData → PyData → Prop := fun ds d => ∃ sts b, ds = [stepsT sts, .int b] ∧ sts.length ≤ 1000 ∧ d = .int (gainOfM sts b)
theorem ok_law_gain_of (F : Fun K "_law_gain_of" "_law_gain_of" s_law_gain_of f fd) (B : Bltn mg) : FnG P w K mg base CX0 1 f fd ["_law_steps_here", "_law_base"] (spOf K 2 okLawGainOf) := by
  refine okG F sc_law_gain_of (fun vs H Q E h => ?_) (fun cdv A outer s H vs Q E hcm hr h => ?_)
  · obtain ⟨_, _, _, h, _⟩ := h
    exact h
  · obtain ⟨Hv, ds, d, hl, e, hds, ⟨sts, bs, rfl, hsz, rfl⟩, q⟩ := h
    obtain ⟨v, u, rfl, h1, h2⟩ := dp2 hds
    cases h2
    obtain ⟨a, xs, rfl, s1, s2⟩ := dp_tup h1
    have hlen : xs.length = sts.length := by rw [dpAll_len s2, List.length_map]
    refine ⟨_, (pss_cons (ps_asg (pe_tup (pa_cons pe_int (pa_cons pe_int pa_nil))) (pg_tupK K (n := 2) rfl (pgs_cons (pg_name (i := 2) sc_law_gain_of.nd rfl (Or.inl rfl)) (pgs_cons (pg_name (i := 3) sc_law_gain_of.nd rfl (Or.inl rfl)) pgs_nil))))
      (pss_cons (ps_for PassesOwn.never rfl (pi_seqK K (pe_ifExp (pt_cmpR op_ge (pv 1) pe_int (nomark _)) (pv 0) (pe_lst pa_nil))) (pg_tupK K (n := 2) rfl (pgs_cons (pg_name (i := 4) sc_law_gain_of.nd rfl (Or.inl rfl)) (pgs_cons (pg_name (i := 5) sc_law_gain_of.nd rfl (Or.inl rfl)) pgs_nil))) (pss_cons (ps_if (pt_cmpR op_lt (pe_op op_add (pv 1) (pv 3)) (pv 4) (nomark _)) (pss_one ps_break) pss_nil)
      (pss_cons (ps_set (i := 3) sc_law_gain_of.nd rfl (Or.inl rfl) (pe_op op_add (pv 3) (pv 5)))
      (pss_one (ps_set (i := 2) sc_law_gain_of.nd rfl (Or.inl rfl) (pe_callB (call_max2 rfl) (by rfl) B.max bt_max (pa_cons (pv 2) (pa_cons (pv 3) pa_nil))))))))
      (pss_one (ps_ret (pv 2))))), ?_⟩
    refine ⟨by show 2 ≤ sizeLine; decide, fun p0 hp0 => ?_⟩
    refine ⟨p0, _, rfl, .inl (.inl upd_same), rfl, _, _, rfl, ?_⟩
    refine ⟨_, _, rfl, ?_⟩
    refine ⟨rfl, ?_⟩
    have e0 : Ex H (upd H p0 (.tup [.int 0, .int 0])) := Ex.new hp0
    refine ⟨_, rfl, _, _, rfl, rfl, _, rfl, ?_⟩
    refine ite2 (fun hc => ?_) (fun hc => ?_)
    · have hc : 0 ≤ bs := of_decide_eq_true hc
      refine ⟨_, rfl, a, xs, rfl, .inr ⟨sqT_same (e.trans e0) s1, ?_⟩⟩
      refine for_tup (K := K) (a := a) (xs := xs) (fun i σ H' => ∃ (o1 o2 : Option V) (best gone : Int), σ = [some (.ref a), some (.int bs), some (.int best), some (.int gone), o1, o2] ∧ Ex H H' ∧ gainR bs best gone (sts.drop i) = gainOfM sts bs)
        ⟨none, none, 0, 0, rfl, e0, by rw [List.drop_zero]; exact (if_pos hc).symm⟩ (fun i σ H' _ ⟨_, _, _, _, _, e', _⟩ => sqT_same (e.trans e') s1) ?_ ?_
      · rintro i x σ H' hx ⟨o1, o2, best, gone, rfl, e', hm⟩
        obtain ⟨dx, hdx, hx2⟩ := dpAll_get s2 hx
        rw [List.getElem?_map] at hdx
        obtain ⟨⟨n, g⟩, hst, rfl⟩ := Option.map_eq_some_iff.mp hdx
        obtain ⟨b, ys, rfl, u1, u2⟩ := dp_tup hx2
        obtain ⟨x1, x2, rfl, v1, v2⟩ := dp2 u2
        cases v1
        cases v2
        rw [drop_get hst, gainR_cons] at hm
        refine ⟨b, _, rfl, sqT_same (e.trans e') u1, rfl, _, _, rfl, ?_⟩
        refine ⟨_, _, rfl, ?_⟩
        refine ⟨rfl, ?_⟩
        refine ⟨_, rfl, _, rfl, _, _, rfl, rfl, _, rfl, _, _, rfl, rfl, _, rfl, ?_⟩
        refine ite2 (fun hc => ?_) (fun hc => ?_)
        · have hc : bs + gone < n := of_decide_eq_true hc
          rw [if_pos hc] at hm
          refine ⟨_, rfl, ?_⟩
          rw [hm]
          exact q _ H' e' (.int _)
        · have hc : ¬ bs + gone < n := fun z => hc (decide_eq_true z)
          rw [if_neg hc] at hm
          refine ⟨_, rfl, _, rfl, _, _, rfl, rfl, ?_⟩
          refine ⟨_, rfl, _, rfl, _, _, rfl, ?_⟩
          exact ⟨_, _, _, _, rfl, e', hm⟩
      · rintro σ H' ⟨o1, o2, best, gone, rfl, e', hm⟩
        rw [hlen, List.drop_length] at hm
        have hm : best = gainOfM sts bs := hm
        refine ⟨_, rfl, ?_⟩
        rw [hm]
        exact q _ H' e' (.int _)
    · have hc : ¬ 0 ≤ bs := fun z => hc (decide_eq_true z)
      refine ⟨by show 0 ≤ sizeLine; decide, fun p1 hp1 => ?_⟩
      refine ⟨p1, [], rfl, .inl ⟨SqL.of upd_same, ?_⟩⟩
      refine for_list (K := K) (a := p1) (xs := []) (fun i σ H' => σ = [some (.ref a), some (.int bs), some (.int 0), some (.int 0), none, none] ∧ Ex (upd (upd H p0 (.tup [.int 0, .int 0])) p1 (.lst [])) H')
        ⟨rfl, Ex.refl _⟩ (fun i σ H' _ ⟨_, e'⟩ => SqL.of (e' _ _ upd_same)) (fun i x σ H' hx _ => by simp at hx) ?_
      rintro σ H' ⟨rfl, e'⟩
      refine ⟨_, rfl, ?_⟩
      have hz : gainOfM sts bs = 0 := if_neg hc
      rw [← hz]
      exact q _ H' ((e0.trans (Ex.new hp1)).trans e') (.int _)
end K11

set_option maxHeartbeats 1000000
namespace K11
open PySem PySem.Spec PyProof.Rows L2 Evl VG
variable {P : Program} {w : World} {K : PySem.W.Frag} {mg : Str → Option Value} {base : Heap} {f : Addr} {fd : FuncData}

/-! ### _law_steps -/
abbrev s_law_steps : Stmt := top 49
theorem sc_law_steps : FnScope ["_law_pot_here", "_law_most", "_law_great", "_law_found", "_law_lap", "_law_need"] ["_law_pot_here", "_law_most", "_law_great"] (defScope s_law_steps) := ⟨rfl, rfl, rfl, by decide +kernel, rfl, by decide +kernel, by decide +kernel⟩
/-- a drawn step -/
def drawnSt (s : Stp) : Prop := 0 ≤ s.1 ∧ s.1 ≤ 10000000 ∧ 0 ≤ s.1 + s.2 ∧ s.2 ≤ 10000000
def spLSteps (K : PySem.W.Frag) : Sp := fun vs H Q _ => ∃ (a : Addr) (n : Nat) (M G : Int), vs = [.ref a, .int M, .int G] ∧ Pot a n H ∧ n + 100 ≤ 1000000 ∧ 0 ≤ M ∧ M ≤ 9 ∧ 2 ≤ G ∧ G ≤ 10000000 ∧
  ∀ (v : V) (sts : List Stp) (H' : Hp), (sts.length : Int) ≤ M → (∀ s ∈ sts, drawnSt s) → But a H H' → Pot a (n + 100) H' → Dp K (hid (sans a H) H H') v (stepsT sts) → Q v H'
theorem ok_law_steps (F : Fun K "_law_steps" "_law_steps" s_law_steps f fd) (B : Bltn mg) (D_law_take : Def P w K mg base 1 "_law_take" ["_law_pot_here", "_law_upto"] spTake)
    (D_law_of : Def P w K mg base 2 "_law_of" ["_law_pot_here", "_law_some"] (spOne K)) :
    FnG P w K mg base CX0 3 f fd ["_law_pot_here", "_law_most", "_law_great"] (spLSteps K) := by
  refine okG F sc_law_steps (fun vs H Q E h => ?_) (fun cdv A outer s H vs Q E hcm hr h => ?_)
  · obtain ⟨_, _, _, _, rfl, _⟩ := h
    rfl
  · obtain ⟨a, n, M, G, rfl, hp, hn, m0, m1, g0, g1, q⟩ := h
    refine ⟨_, (pss_cons (ps_set (i := 3) sc_law_steps.nd rfl (Or.inl rfl) (pe_lst pa_nil))
      (pss_cons (ps_for PassesOwn.never rfl (pi_range1 (by rfl) B.range (pa_cons (pe_d D_law_take hcm hr (by decide) (by rfl) (pa_cons (pv 0) (pa_cons (pe_op op_add (pv 1) pe_int) pa_nil))) pa_nil)) (pg_name (i := 4) sc_law_steps.nd rfl (Or.inl rfl)) (pss_cons (ps_set (i := 5) sc_law_steps.nd rfl (Or.inl rfl) (pe_d D_law_of hcm hr (by decide) (by rfl) (pa_cons (pv 0) (pa_cons (pe_lst (pa_cons pe_int (pa_cons pe_int (pa_cons pe_int (pa_cons (pe_d D_law_take hcm hr (by decide) (by rfl) (pa_cons (pv 0) (pa_cons (pe_op op_add (pv 2) pe_int) pa_nil))) pa_nil))))) pa_nil))))
      (pss_one (ps_expr (pe_bm PySem.F.plainAttrs_list PySem.F.slot_list_append PySem.F.type_list_append mt_append (pv 3) (pa_cons (pe_tup (pa_cons (pv 5) (pa_cons (pe_d D_law_of hcm hr (by decide) (by rfl) (pa_cons (pv 0) (pa_cons (pe_lst (pa_cons (pe_un un_neg (pv 5)) (pa_cons pe_int (pa_cons pe_int (pa_cons pe_int (pa_cons (pe_d D_law_take hcm hr (by decide) (by rfl) (pa_cons (pv 0) (pa_cons (pe_op op_add (pv 2) pe_int) pa_nil))) (pa_cons (pe_op op_sub (pe_d D_law_take hcm hr (by decide) (by rfl) (pa_cons (pv 0) (pa_cons (pe_op op_add (pv 5) pe_int) pa_nil))) (pv 5)) pa_nil))))))) pa_nil))) pa_nil))) pa_nil))))))
      (pss_one (ps_ret (pe_callTy call_tuple_of (by rfl) B.tuple bt_tuple (pa_cons (pv 3) pa_nil)))))), ?_⟩
    refine ⟨by show 0 ≤ sizeLine; decide, fun l hl => ?_⟩
    have nal : a ≠ l := fun z => hp.some (by rw [z]; exact hl)
    refine ⟨_, rfl, _, rfl, _, _, rfl, rfl, a, n, M + 1, rfl, hp.ex (Ex.new hl), by omega, by omega, by omega, fun r H1 r0 r1 hb1 hp1 => ?_⟩
    refine ⟨r, rfl, by omega, by omega, ?_⟩
    obtain ⟨m, rfl⟩ : ∃ m : Nat, r = (m : Int) := ⟨r.toNat, by omega⟩
    rw [Int.toNat_natCast]
    have hl1 : H1 l = some (.lst []) := hb1 _ _ nal.symm upd_same
    refine for_range (lo := 0) (n := m) (fun i σ H' => ∃ (o4 o5 : Option V) (ys : List V) (sts : List Stp), σ = [some (.ref a), some (.int M), some (.int G), some (.ref l), o4, o5] ∧ But a H H' ∧ Pot a (n + 1 + 6 * i) H' ∧
        H' l = some (.lst ys) ∧ DpAll K (fun b => if b = l then none else hid (sans a H) H H' b) ys (sts.map stepD) ∧ sts.length = i ∧ ∀ s ∈ sts, drawnSt s)
      ⟨none, none, [], [], rfl, (But.ex (Ex.new hl)).trans hb1, hp1, hl1, .nil, rfl, fun s hs => absurd hs List.not_mem_nil⟩ ?_ ?_
    · rintro i σ H0 hi ⟨o4, o5, ys, sts, rfl, hb0, hp0, hl0, hys, hlen, hok⟩
      have hi9 : i ≤ 9 := by omega
      refine ⟨_, rfl, _, rfl, _, rfl, _, _, rfl, rfl, a, n + 1 + 6 * i, G + 1, rfl, hp0, by omega, by omega, by omega, fun r2 H2 r20 r21 hb2 hp2 => ?_⟩
      refine ⟨by show 4 ≤ sizeLine; decide, fun p3 hp3 => ?_⟩
      refine ⟨a, p3, n + 1 + 6 * i + 1, _, rfl, hp2.ex (Ex.new hp3), by omega, fun z => hp2.some (z ▸ hp3), .inl (.inl upd_same), (by show 0 < 4; decide), (by show 4 ≤ 1000; decide), fun v H4 hv hb4 hp4 => ?_⟩
      obtain ⟨need, rfl, nd0, nd1⟩ : ∃ need : Int, v = .int need ∧ 0 ≤ need ∧ need ≤ 10000000 := by
        simp only [List.mem_cons, List.not_mem_nil, or_false] at hv
        rcases hv with h | h | h | h <;> rw [h] <;> exact ⟨_, rfl, by omega, by omega⟩
      have hb04 : But a H0 H4 := (hb2.trans (But.ex (Ex.new hp3))).trans hb4
      have hl4 := hb04 _ _ nal.symm hl0
      refine ⟨_, rfl, .inl ⟨rfl, _, SqL.of hl4⟩, ?_⟩
      refine ⟨_, rfl, _, rfl, _, rfl, need, rfl, ?_⟩
      refine ⟨_, rfl, _, rfl, _, _, rfl, rfl, a, n + 1 + 6 * i + 2, G + 1, rfl, hp4, by omega, by omega, by omega, fun r5 H5 r50 r51 hb5 hp5 => ?_⟩
      refine ⟨_, rfl, _, rfl, _, _, rfl, rfl, a, n + 1 + 6 * i + 3, need + 1, rfl, hp5, by omega, by omega, by omega, fun r6 H6 r60 r61 hb6 hp6 => ?_⟩
      refine ⟨_, rfl, _, _, rfl, rfl, ?_⟩
      refine ⟨by show 6 ≤ sizeLine; decide, fun p7 hp7 => ?_⟩
      have np7 : p7 ≠ a := fun z => hp6.some (z ▸ hp7)
      refine ⟨a, p7, n + 1 + 6 * i + 4, _, rfl, hp6.ex (Ex.new hp7), by omega, np7, .inl (.inl upd_same), (by show 0 < 6; decide), (by show 6 ≤ 1000; decide), fun v8 H8 hv8 hb8 hp8 => ?_⟩
      obtain ⟨gain, rfl, gn0, gn1⟩ : ∃ gain : Int, v8 = .int gain ∧ 0 ≤ need + gain ∧ gain ≤ 10000000 := by
        simp only [List.mem_cons, List.not_mem_nil, or_false] at hv8
        rcases hv8 with h | h | h | h | h | h <;> rw [h] <;> exact ⟨_, rfl, by omega, by omega⟩
      refine ⟨by show 2 ≤ sizeLine; decide, fun p9 hp9 => ?_⟩
      have hb08 : But a H0 H8 := (((hb04.trans hb5).trans hb6).trans (But.ex (Ex.new hp7))).trans hb8
      have hl8 := hb08 _ _ nal.symm hl0
      have n9l : p9 ≠ l := fun z => by
        rw [z, hl8] at hp9
        cases hp9
      have n9a : p9 ≠ a := fun z => hp8.some (z ▸ hp9)
      have hp9H : H p9 = none := by
        cases z : H p9 with
        | none => rfl
        | some o =>
          have := (hb0.trans hb08) _ _ n9a z
          rw [hp9] at this
          cases this
      refine ⟨l, ys, _, rfl, rfl, (upd_ne n9l.symm).trans hl8, ?_, ?_⟩
      · have := dpAll_len hys
        rw [List.length_map] at this
        exact sz_lt (by omega)
      · refine ⟨_, _, ys ++ [.ref p9], sts ++ [(need, gain)], rfl, ?_, ?_, upd_same, ?_, ?_, ?_⟩
        · intro c o nc hc
          rw [upd_ne (ne_of_none hc hl), upd_ne (ne_of_none hc hp9H)]
          exact (hb0.trans hb08) _ _ nc hc
        · obtain ⟨u, v, c, z, rest⟩ := hp8.le (m := n + 1 + 6 * (i + 1)) (by omega)
          exact ⟨u, v, c, by rw [upd_ne nal, upd_ne n9a.symm]; exact z, rest⟩
        · rw [List.map_append]
          refine dpAll_app (dpAll_same (fun c o hc => ?_) hys) (.cons (.tup (xs := [.int need, .int gain]) (.inl (.inl ?_)) (.cons (.int _) (.cons (.int _) .nil))) .nil)
          · have hc : (if c = l then none else hid (sans a H) H H0 c) = some o := hc
            show (if c = l then none else hid (sans a H) H _ c) = some o
            by_cases z : c = l
            · rw [if_pos z] at hc
              cases hc
            · rw [if_neg z] at hc ⊢
              obtain ⟨k1, k2⟩ := hid_some hc
              have nca : c ≠ a := fun y => by
                rw [y] at k2
                exact hp.some (k2 sans_none)
              refine (hid_see k2).trans ?_
              have k8 := hb08 _ _ nca k1
              rw [upd_ne z, upd_ne (fun y => by rw [y, hp9] at k8; cases k8)]
              exact k8
          · show (if p9 = l then none else hid (sans a H) H _ p9) = _
            rw [if_neg n9l, hid_new hp9H, upd_ne n9l]
            exact upd_same
        · rw [List.length_append, hlen]
          rfl
        · intro s hs
          rcases List.mem_append.mp hs with h | h
          · exact hok s h
          · rw [List.mem_singleton.mp h]
            exact ⟨nd0, nd1, gn0, gn1⟩
    · rintro σ H0 ⟨o4, o5, ys, sts, rfl, hb0, hp0, hl0, hys, hlen, hok⟩
      refine ⟨_, rfl, l, ys, rfl, .inl ⟨SqL.of hl0, fun t ht => ?_⟩⟩
      have nta : t ≠ a := fun z => hp0.some (z ▸ ht)
      have htH : H t = none := by
        cases z : H t with
        | none => rfl
        | some o =>
          have := hb0 _ _ nta z
          rw [ht] at this
          cases this
      refine q _ sts _ (by omega) hok (hb0.trans (But.ex (Ex.new ht))) ((hp0.ex (Ex.new ht)).le (by omega)) (.tup (.inl (.inl ((hid_new htH).trans upd_same))) (dpAll_same (fun c o hc => ?_) hys))
      have hc : (if c = l then none else hid (sans a H) H H0 c) = some o := hc
      by_cases z : c = l
      · rw [if_pos z] at hc
        cases hc
      · rw [if_neg z] at hc
        exact hid_on (Ex.new ht) _ _ hc
end K11

set_option maxHeartbeats 1000000
namespace K11
open PySem PySem.Spec PyProof.Rows L2 Evl VG
variable {P : Program} {w : World} {K : PySem.W.Frag} {mg : Str → Option Value} {base : Heap} {f : Addr} {fd : FuncData}
/-- all but the pot is in sight -/
theorem hid_sans {a : Addr} {H H' : Hp} (h : H a ≠ none) : hid (sans a H) H H' = sans a H' := by
  funext c
  by_cases z : c = a
  · rw [z, hid_no sans_none h, sans_none]
  · rw [sans_at z]
    exact hid_see fun q => (sans_at z).symm.trans q
theorem sans_but {a : Addr} {H H' : Hp} (x : But a H H') : Ex (sans a H) (sans a H') := fun c o h => by
  by_cases z : c = a
  · rw [z, sans_none] at h
    cases h
  · rw [sans_at z] at h ⊢
    exact x _ _ z h

theorem go_if {c : TT} {t u : TS} {D : Ends} {σ : L2.St} {H : Hp} (h : c σ H fun b H1 => if b = true then t D σ H1 else u D σ H1) : tIfS c t u D σ H := h
/-- x > 0 and take(pot, 4) == 0 -/
theorem and_take {σ : L2.St} {H0 : Hp} {i : Nat} {a : Addr} {n : Nat} {tot : Int} {Kc : Bool → Hp → Prop} (hi : σ[i]? = some (some (.int tot))) (h0 : σ[0]? = some (some (.ref a))) (hp : Pot a n H0) (hn : n ≤ 1000000)
    (k : ∀ b H', (b = true → 0 < tot) → But a H0 H' → Pot a (n + 1) H' → Kc b H') :
    tAnd (tTest (tOp (rI0 fun i j => .bl (decide (j < i))) (tVar i) (tC (.int 0)))) (tTest (tOp rEq (tCall spTake [] E0 (tCons (tVar 0) (tCons (tC (.int 4)) tNil))) (tC (.int 0)))) σ H0 Kc := by
  refine ⟨_, hi, _, _, rfl, rfl, _, rfl, ?_⟩
  by_cases h : 0 < tot
  · rw [decide_eq_true h]
    refine iteT ⟨_, h0, a, n, 4, rfl, hp, hn, by decide, by decide, fun r H1 _ _ hb1 hp1 => ⟨rfl, _, rfl, k _ _ (fun _ => h) hb1 hp1⟩⟩
  · rw [decide_eq_false h]
    exact iteF (k false H0 (fun z => nomatch z) (But.refl _ _) (hp.le (Nat.le_succ _)))
theorem dpAll_but {a : Addr} {H H' : Hp} (x : But a H H') {vs : List V} {ds : List PyData} (h : DpAll K (sans a H) vs ds) : DpAll K (sans a H') vs ds := dpAll_same (sans_but x) h

/-! ### _law_climbs -/
abbrev s_law_climbs : Stmt := top 56
theorem sc_law_climbs : FnScope ["_law_pot_here", "_law_most", "_law_great", "_law_lap", "_law_found", "_law_total", "_law_low", "_law_spent", "_law_gain_here"] ["_law_pot_here", "_law_most", "_law_great"] (defScope s_law_climbs) := ⟨rfl, rfl, rfl, by decide +kernel, rfl, by decide +kernel, by decide +kernel⟩
def bigSt (s : Stp) : Prop := stOk s ∧ s.1 ≤ 10 ^ 12 ∧ s.1 + s.2 ≤ 10 ^ 12
theorem drawn_big {s : Stp} (h : drawnSt s) : bigSt s := by
  obtain ⟨h1, h2, h3, h4⟩ := h
  exact ⟨⟨h1, h3⟩, by omega, by omega⟩
theorem back_big {s : Stp} (h : bigSt s) : bigSt (backS s) := by
  obtain ⟨⟨h1, h2⟩, h3, h4⟩ := h
  refine ⟨⟨h2, ?_⟩, h4, ?_⟩
  · show 0 ≤ s.1 + s.2 + -s.2
    omega
  · show s.1 + s.2 + -s.2 ≤ 10 ^ 12
    omega
def spClimbs (K : PySem.W.Frag) : Sp := fun vs H Q _ => ∃ (a : Addr) (n : Nat) (M G : Int), vs = [.ref a, .int M, .int G] ∧ Pot a n H ∧ n + 200 ≤ 1000000 ∧ 0 ≤ M ∧ M ≤ 9 ∧ 2 ≤ G ∧ G ≤ 10000000 ∧
  ∀ (v : V) (sts : List Stp) (H' : Hp), (sts.length : Int) ≤ M → (∀ s ∈ sts, bigSt s) → But a H H' → Pot a (n + 200) H' → Dp K (sans a H') v (stepsT sts) → Q v H'
theorem ok_law_climbs (F : Fun K "_law_climbs" "_law_climbs" s_law_climbs f fd) (B : Bltn mg) (D_law_take : Def P w K mg base 1 "_law_take" ["_law_pot_here", "_law_upto"] spTake)
    (D_law_steps : Def P w K mg base 3 "_law_steps" ["_law_pot_here", "_law_most", "_law_great"] (spLSteps K)) (D_law_back_steps : Def P w K mg base 1 "_law_back_steps" ["_law_steps_here"] (spOf K 1 okLawBackSteps)) :
    FnG P w K mg base CX0 4 f fd ["_law_pot_here", "_law_most", "_law_great"] (spClimbs K) := by
  refine okG F sc_law_climbs (fun vs H Q E h => ?_) (fun cdv A outer s H vs Q E hcm hr h => ?_)
  · obtain ⟨_, _, _, _, rfl, _⟩ := h
    rfl
  · obtain ⟨a, n, M, G, rfl, hp, hn, m0, m1, g0, g1, q⟩ := h
    refine ⟨_, (pss_cons (ps_if (pt_cmpR op_eq (pe_d D_law_take hcm hr (by decide) (by rfl) (pa_cons (pv 0) (pa_cons pe_int pa_nil))) pe_int (nomark _)) (pss_one (ps_ret (pe_d D_law_steps hcm hr (by decide) (by rfl) (pa_cons (pv 0) (pa_cons (pv 1) (pa_cons (pv 2) pa_nil)))))) pss_nil)
      (pss_cons (ps_par3 (i := 4) (j := 5) (l := 6) rfl sc_law_climbs.nd rfl rfl rfl (by decide) (by decide) (by decide) rfl rfl rfl (pa_cons (pe_lst pa_nil) (pa_cons pe_int (pa_cons (pe_d D_law_take hcm hr (by decide) (by rfl) (pa_cons (pv 0) (pa_cons pe_int pa_nil))) pa_nil))) rfl)
      (pss_cons (ps_for PassesOwn.never rfl (pi_range1 (by rfl) B.range (pa_cons (pv 1) pa_nil)) (pg_name (i := 3) sc_law_climbs.nd rfl (Or.inl rfl)) (pss_one (ps_if (PW.pt (pw_and (pt_cmpR op_gt (pv 5) pe_int (nomark _)) (pw_and1 (pt_cmpR op_eq (pe_d D_law_take hcm hr (by decide) (by rfl) (pa_cons (pv 0) (pa_cons pe_int pa_nil))) pe_int (nomark _))))) (pss_cons (ps_set (i := 7) sc_law_climbs.nd rfl (Or.inl rfl) (pe_op op_add pe_int (pe_d D_law_take hcm hr (by decide) (by rfl) (pa_cons (pv 0) (pa_cons (pv 5) pa_nil)))))
      (pss_one (ps_par (i := 4) (j := 5) rfl sc_law_climbs.nd rfl rfl (by decide) rfl rfl (pa_cons (pe_op op_cat (pv 4) (pe_lst (pa_cons (pe_tup (pa_cons (pe_op op_add (pv 7) (pe_d D_law_take hcm hr (by decide) (by rfl) (pa_cons (pv 0) (pa_cons pe_int pa_nil)))) (pa_cons (pe_un un_neg (pv 7)) pa_nil))) pa_nil))) (pa_cons (pe_op op_sub (pv 5) (pv 7)) pa_nil)) rfl))) (pss_cons (ps_set (i := 8) sc_law_climbs.nd rfl (Or.inl rfl) (pe_op op_add pe_int (pe_d D_law_take hcm hr (by decide) (by rfl) (pa_cons (pv 0) (pa_cons (pv 2) pa_nil)))))
      (pss_one (ps_par3 (i := 4) (j := 5) (l := 6) rfl sc_law_climbs.nd rfl rfl rfl (by decide) (by decide) (by decide) rfl rfl rfl (pa_cons (pe_op op_cat (pv 4) (pe_lst (pa_cons (pe_tup (pa_cons (pe_op op_add (pv 6) (pv 5)) (pa_cons (pv 8) pa_nil))) pa_nil))) (pa_cons (pe_op op_add (pv 5) (pv 8)) (pa_cons (pe_op op_add (pe_op op_add (pv 6) pe_int) (pe_d D_law_take hcm hr (by decide) (by rfl) (pa_cons (pv 0) (pa_cons (pv 2) pa_nil)))) pa_nil))) rfl))))))
      (pss_one (ps_ret (pe_ifExp (pt_cmpR op_eq (pe_d D_law_take hcm hr (by decide) (by rfl) (pa_cons (pv 0) (pa_cons pe_int pa_nil))) pe_int (nomark _)) (pe_callTy call_tuple_of (by rfl) B.tuple bt_tuple (pa_cons (pv 4) pa_nil)) (pe_d D_law_back_steps hcm hr (by decide) (by rfl) (pa_cons (pe_callTy call_tuple_of (by rfl) B.tuple bt_tuple (pa_cons (pv 4) pa_nil)) pa_nil)))))))), ?_⟩
    refine ⟨_, rfl, a, n, 3, rfl, hp, by omega, by decide, by decide, fun r H1 r0 r1 hb1 hp1 => ?_⟩
    refine ⟨rfl, _, rfl, ?_⟩
    refine ite2 (fun _ => ?_) (fun _ => ?_)
    · refine ⟨_, rfl, _, rfl, _, rfl, a, n + 1, M, G, rfl, hp1, by omega, m0, m1, g0, g1, fun v sts H2 l1 l2 hb2 hp2 hv => ?_⟩
      rw [hid_sans hp1.some] at hv
      exact q v sts H2 l1 (fun s hs => drawn_big (l2 s hs)) (hb1.trans hb2) (hp2.le (by omega)) hv
    · refine ⟨by show 0 ≤ sizeLine; decide, fun l hl => ?_⟩
      have nal : a ≠ l := fun z => hp1.some (by rw [z]; exact hl)
      refine ⟨_, rfl, a, n + 1, 3, rfl, hp1.ex (Ex.new hl), by omega, by decide, by decide, fun r3 H3 r30 r31 hb3 hp3 => ?_⟩
      refine ⟨_, _, _, rfl, ?_⟩
      have hl3 : H3 l = some (.lst []) := hb3 _ _ nal.symm upd_same
      have hb03 : But a H H3 := (hb1.trans (But.ex (Ex.new hl))).trans hb3
      refine ⟨_, rfl, M, rfl, by omega, by omega, ?_⟩
      obtain ⟨m, rfl⟩ : ∃ m : Nat, M = (m : Int) := ⟨M.toNat, by omega⟩
      rw [Int.toNat_natCast]
      refine for_range (lo := 0) (n := m) (fun i σ H' => ∃ (o3 o7 o8 : Option V) (p : Addr) (ys : List V) (sts : List Stp) (tot low : Int), σ = [some (.ref a), some (.int (m : Int)), some (.int G), o3, some (.ref p), some (.int tot), some (.int low), o7, o8] ∧ But a H H' ∧
          Pot a (n + 2 + 5 * i) H' ∧ H' p = some (.lst ys) ∧ p ≠ a ∧ DpAll K (sans a H') ys (sts.map stepD) ∧ sts.length = i ∧ 0 ≤ tot ∧ tot ≤ 10000001 * (i : Int) ∧ 0 ≤ low ∧ low ≤ 3 + 10000001 * (i : Int) ∧ ∀ s ∈ sts, bigSt s)
        ⟨none, none, none, l, [], [], 0, r3, rfl, hb03, hp3, hl3, nal.symm, .nil, rfl, by omega, by omega, r30, by omega, fun s hs => absurd hs List.not_mem_nil⟩ ?_ ?_
      · rintro i σ H0 hi ⟨o3, o7, o8, p, ys, sts, tot, low, rfl, hb0, hp0, hl0, npa, hys, hlen, t0, t1, w0, w1, hok⟩
        have hyl : ys.length = i := by
          have := dpAll_len hys
          rw [List.length_map] at this
          omega
        refine go_if (and_take rfl rfl hp0 (by omega) fun b Hc hbt hbc hpc => ?_)
        have hlc := hbc _ _ npa hl0
        have hyc := dpAll_but hbc hys
        have hb0c := hb0.trans hbc
        cases b with
        | true =>
          have htp := hbt rfl
          refine iteT ?_
          refine ⟨_, rfl, _, rfl, a, _, tot, rfl, hpc, by omega, htp, by omega, fun r4 H4 r40 r41 hb4 hp4 => ⟨_, _, rfl, rfl, ?_⟩⟩
          refine ⟨_, rfl, _, rfl, _, rfl, a, _, 2, rfl, hp4, by omega, by decide, by decide, fun r5 H5 r50 r51 hb5 hp5 => ⟨_, _, rfl, rfl, _, rfl, _, rfl, by show 2 ≤ sizeLine; decide, fun pt hpt => ⟨by show 1 ≤ sizeLine; decide, fun pl hpl => ?_⟩⟩⟩
          have hl5 := (hb4.trans hb5) _ _ npa hlc
          have e57 : Ex H5 (upd (upd H5 pt (.tup [.int (1 + r4 + r5), .int (-(1 + r4))])) pl (.lst [.ref pt])) := (Ex.new hpt).trans (Ex.new hpl)
          have nta : pt ≠ a := fun z => hp5.some (z ▸ hpt)
          have ntl : pt ≠ pl := fun z => by
            rw [← z, upd_same] at hpl
            cases hpl
          refine ⟨p, pl, _, _, rfl, rfl, e57 _ _ hl5, upd_same, ?_, fun pn hpn => ?_⟩
          · rw [hyl]
            exact sz_of (by show i + 1 ≤ 100000; omega)
          · have npn : pn ≠ a := fun z => (hp5.ex e57).some (z ▸ hpn)
            refine ⟨_, rfl, _, rfl, _, _, rfl, rfl, ?_⟩
            have hb5n : But a H5 (upd (upd (upd H5 pt (.tup [.int (1 + r4 + r5), .int (-(1 + r4))])) pl (.lst [.ref pt])) pn (.lst (ys ++ [.ref pt]))) := But.ex (e57.trans (Ex.new hpn))
            have ntn : pt ≠ pn := fun z => by
              rw [← z, upd_ne ntl, upd_same] at hpn
              cases hpn
            refine ⟨_, _, rfl, _, _, _, pn, ys ++ [.ref pt], sts ++ [(1 + r4 + r5, -(1 + r4))], _, low, rfl, ((hb0c.trans hb4).trans hb5).trans hb5n, (hp5.ex (e57.trans (Ex.new hpn))).le (by omega), upd_same, npn, ?_, ?_, by omega, by omega, w0, by omega, ?_⟩
            · rw [List.map_append]
              refine dpAll_app (dpAll_but hb5n (dpAll_but hb5 (dpAll_but hb4 hyc))) (.cons (.tup (xs := [.int (1 + r4 + r5), .int (-(1 + r4))]) (.inl (.inl ?_)) (.cons (.int _) (.cons (.int _) .nil))) .nil)
              rw [sans_at nta, upd_ne ntn, upd_ne ntl]
              exact upd_same
            · rw [List.length_append, hlen]
              rfl
            · intro s hs
              rcases List.mem_append.mp hs with h | h
              · exact hok s h
              · rw [List.mem_singleton.mp h]
                refine ⟨⟨?_, ?_⟩, ?_, ?_⟩
                · show 0 ≤ 1 + r4 + r5
                  omega
                · show 0 ≤ 1 + r4 + r5 + -(1 + r4)
                  omega
                · show 1 + r4 + r5 ≤ 10 ^ 12
                  omega
                · show 1 + r4 + r5 + -(1 + r4) ≤ 10 ^ 12
                  omega
        | false =>
          refine iteF ?_
          refine ⟨_, rfl, _, rfl, a, _, G, rfl, hpc, by omega, by omega, by omega, fun r4 H4 r40 r41 hb4 hp4 => ⟨_, _, rfl, rfl, ?_⟩⟩
          refine ⟨_, rfl, _, rfl, _, rfl, _, _, rfl, rfl, _, rfl, by show 2 ≤ sizeLine; decide, fun pt hpt => ⟨by show 1 ≤ sizeLine; decide, fun pl hpl => ?_⟩⟩
          have hl4 := hb4 _ _ npa hlc
          have e47 : Ex H4 (upd (upd H4 pt (.tup [.int (low + tot), .int (1 + r4)])) pl (.lst [.ref pt])) := (Ex.new hpt).trans (Ex.new hpl)
          have nta : pt ≠ a := fun z => hp4.some (z ▸ hpt)
          have ntl : pt ≠ pl := fun z => by
            rw [← z, upd_same] at hpl
            cases hpl
          refine ⟨p, pl, _, _, rfl, rfl, e47 _ _ hl4, upd_same, ?_, fun pn hpn => ?_⟩
          · rw [hyl]
            exact sz_of (by show i + 1 ≤ 100000; omega)
          · have npn : pn ≠ a := fun z => (hp4.ex e47).some (z ▸ hpn)
            have ntn : pt ≠ pn := fun z => by
              rw [← z, upd_ne ntl, upd_same] at hpn
              cases hpn
            have hb4n : But a H4 (upd (upd (upd H4 pt (.tup [.int (low + tot), .int (1 + r4)])) pl (.lst [.ref pt])) pn (.lst (ys ++ [.ref pt]))) := But.ex (e47.trans (Ex.new hpn))
            refine ⟨_, rfl, _, rfl, _, _, rfl, rfl, ?_⟩
            refine ⟨_, rfl, _, _, rfl, rfl, _, rfl, _, rfl, a, _, G, rfl, hp4.ex (e47.trans (Ex.new hpn)), by omega, by omega, by omega, fun r5 H5 r50 r51 hb5 hp5 => ⟨_, _, rfl, rfl, ?_⟩⟩
            refine ⟨_, _, _, rfl, _, _, _, pn, ys ++ [.ref pt], sts ++ [(low + tot, 1 + r4)], _, _, rfl, ((hb0c.trans hb4).trans hb4n).trans hb5, hp5.le (by omega), hb5 _ _ npn upd_same, npn, ?_, ?_, by omega, by omega, by omega, by omega, ?_⟩
            · rw [List.map_append]
              refine dpAll_app (dpAll_but hb5 (dpAll_but hb4n (dpAll_but hb4 hyc))) (.cons (.tup (xs := [.int (low + tot), .int (1 + r4)]) (.inl (.inl ?_)) (.cons (.int _) (.cons (.int _) .nil))) .nil)
              rw [sans_at nta]
              refine hb5 _ _ nta ?_
              rw [upd_ne ntn, upd_ne ntl]
              exact upd_same
            · rw [List.length_append, hlen]
              rfl
            · intro s hs
              rcases List.mem_append.mp hs with h | h
              · exact hok s h
              · rw [List.mem_singleton.mp h]
                refine ⟨⟨?_, ?_⟩, ?_, ?_⟩
                · show 0 ≤ low + tot
                  omega
                · show 0 ≤ low + tot + (1 + r4)
                  omega
                · show low + tot ≤ 10 ^ 12
                  omega
                · show low + tot + (1 + r4) ≤ 10 ^ 12
                  omega
      · rintro σ H0 ⟨o3, o7, o8, p, ys, sts, tot, low, rfl, hb0, hp0, hl0, npa, hys, hlen, t0, t1, w0, w1, hok⟩
        refine ⟨_, rfl, a, _, 2, rfl, hp0, by omega, by decide, by decide, fun r6 H6 _ _ hb6 hp6 => ⟨rfl, _, rfl, ?_⟩⟩
        have hl6 := hb6 _ _ npa hl0
        have hy6 := dpAll_but hb6 hys
        have tup : ∀ t, H6 t = none → t ≠ a ∧ Dp K (sans a (upd H6 t (.tup ys))) (.ref t) (stepsT sts) := fun t ht => by
          have nta : t ≠ a := fun z => hp6.some (z ▸ ht)
          exact ⟨nta, .tup (.inl (.inl ((sans_at nta).trans upd_same))) (dpAll_but (But.ex (Ex.new ht)) hy6)⟩
        refine ite2 (fun _ => ?_) (fun _ => ?_)
        · refine ⟨_, rfl, p, ys, rfl, .inl ⟨SqL.of hl6, fun t ht => ?_⟩⟩
          exact q _ sts _ (by omega) hok ((hb0.trans hb6).trans (But.ex (Ex.new ht))) ((hp6.ex (Ex.new ht)).le (by omega)) (tup t ht).2
        · refine ⟨_, rfl, p, ys, rfl, .inl ⟨SqL.of hl6, fun t ht => ?_⟩⟩
          refine ⟨sans a (upd H6 t (.tup ys)), [stepsT sts], stepsT (backSteps sts), rfl, sans_ex, .cons (tup t ht).2 .nil, ⟨sts, rfl, by omega, rfl⟩, fun v H7 e7 hv7 => ?_⟩
          have hp6' := hp6.ex (Ex.new ht (o := .tup ys))
          rw [hid_sans hp6'.some] at hv7
          refine q v (backSteps sts) H7 ?_ (fun s hs => ?_) (((hb0.trans hb6).trans (But.ex (Ex.new ht))).trans (But.ex e7)) ((hp6'.ex e7).le (by omega)) hv7
          · unfold backSteps
            rw [List.length_reverse, List.length_map]
            omega
          · unfold backSteps at hs
            obtain ⟨x, hx, rfl⟩ := List.mem_map.mp (List.mem_reverse.mp hs)
            exact back_big (hok x hx)
end K11

set_option maxHeartbeats 1000000
/-! the stairs of steps tell what may be won -/
namespace K11
open PySem PySem.Spec PyProof.Rows L2 Evl VG
/-- what the last that is not above b tells -/
def gE (fo : List Ent) (b : Int) : Int := (((fo.filter fun e => decide (e.1 ≤ b)).map fun e => e.2.1).getLast?).getD 0
theorem gE_app_gt {fo : List Ent} {e : Ent} {b : Int} (h : b < e.1) : gE (fo ++ [e]) b = gE fo b := by
  unfold gE
  have n : decide (e.1 ≤ b) = false := decide_eq_false (by omega)
  rw [List.filter_append, List.filter_cons, n, if_neg Bool.false_ne_true, List.filter_nil, List.append_nil]
theorem gE_put_gt {fo : List Ent} {e : Ent} {b : Int} (h : b < e.1) : gE (putE fo e) b = gE fo b := by
  unfold putE putV
  by_cases hc : lastB (·.1) fo e.1 = true
  · rw [if_pos hc, gE_app_gt h]
    rcases List.eq_nil_or_concat fo with hn | ⟨f0, l, hn⟩
    · rw [hn]
      rfl
    · rw [List.concat_eq_append] at hn
      subst hn
      unfold lastB at hc
      rw [List.getLast?_concat] at hc
      have hl : l.1 = e.1 := of_decide_eq_true hc
      rw [List.dropLast_concat, gE_app_gt (by rw [hl]; exact h)]
  · rw [if_neg hc, gE_app_gt h]
theorem gE_all {fo : List Ent} {b : Int} (h : ∀ e ∈ fo, e.1 ≤ b) : gE fo b = ((fo.map fun e => e.2.1).getLast?).getD 0 := by
  unfold gE
  rw [List.filter_eq_self.mpr fun e he => decide_eq_true (h e he)]
theorem put_last (fo : List Ent) (e : Ent) : (((putE fo e).map fun e => e.2.1).getLast?).getD 0 = e.2.1 := by
  unfold putE putV
  split <;> rw [List.map_append, List.map_cons, List.map_nil, List.getLast?_concat] <;> rfl
theorem put_mem {fo : List Ent} {e x : Ent} (h : x ∈ putE fo e) : x ∈ fo ∨ x = e := by
  unfold putE putV at h
  split at h
  · rcases List.mem_append.mp h with h | h
    · exact .inl (List.dropLast_subset _ h)
    · exact .inr (List.mem_singleton.mp h)
  · rcases List.mem_append.mp h with h | h
    · exact .inl h
    · exact .inr (List.mem_singleton.mp h)
theorem climbs_gain : ∀ (r : List Stp) (i : Nat) (ba ri mo : Int) (fo : List Ent), (∀ e ∈ fo, e.1 ≤ ba) → ((fo.map fun e => e.2.1).getLast?).getD 0 = mo → ∀ b,
    (ba ≤ b → gE (climbsM i ba ri mo fo r) b = gainR b mo ri r) ∧ (b < ba → gE (climbsM i ba ri mo fo r) b = gE fo b)
  | [], i, ba, ri, mo, fo, h1, h2, b => by
    refine ⟨fun hb => ?_, fun _ => rfl⟩
    show gE fo b = mo
    rw [gE_all fun e he => Int.le_trans (h1 e he) hb, h2]
  | (n, g) :: r, i, ba, ri, mo, fo, h1, h2, b => by
    rw [climbsM_cons, gainR_cons]
    have hba : ba ≤ (if n - ri > ba then n - ri else ba) := by split <;> omega
    have hbb : (if n - ri > ba then n - ri else ba) = ba ∨ (ba < n - ri ∧ (if n - ri > ba then n - ri else ba) = n - ri) := by
      split
      · exact .inr ⟨by omega, rfl⟩
      · exact .inl rfl
    have hnr : n - ri ≤ (if n - ri > ba then n - ri else ba) := by split <;> omega
    generalize (if n - ri > ba then n - ri else ba) = bb at hba hbb hnr
    by_cases hm : ri + g > mo
    · rw [if_pos hm, if_pos hm]
      have ih := climbs_gain r (i + 1) bb (ri + g) (ri + g) (putE fo (bb, ri + g, (i : Int) + 1)) (fun e he => by
        rcases put_mem he with h | h
        · exact Int.le_trans (h1 e h) hba
        · rw [h]
          exact Int.le_refl _) (put_last _ _) b
      refine ⟨fun hb => ?_, fun hb => ?_⟩
      · by_cases hs : b + ri < n
        · rw [if_pos hs, ih.2 (by omega), gE_put_gt (by show b < bb; omega), gE_all fun e he => Int.le_trans (h1 e he) hb, h2]
        · rw [if_neg hs]
          exact ih.1 (by omega)
      · rw [ih.2 (by omega), gE_put_gt (by show b < bb; omega)]
    · rw [if_neg hm, if_neg hm]
      have ih := climbs_gain r (i + 1) bb (ri + g) mo fo (fun e he => Int.le_trans (h1 e he) hba) h2 b
      refine ⟨fun hb => ?_, fun hb => ?_⟩
      · by_cases hs : b + ri < n
        · rw [if_pos hs, ih.2 (by omega), gE_all fun e he => Int.le_trans (h1 e he) hb, h2]
        · rw [if_neg hs]
          exact ih.1 (by omega)
      · exact ih.2 (by omega)
/-- what the stairs give at a base is what the steps give -/
theorem gain_stairs (sts : List Stp) (b : Int) : gainM (stairsM sts) b = gainOfM sts b := by
  have e : gainM (stairsM sts) b = gE (climbsM 0 0 0 0 [] sts) b := by
    unfold gainM stairsM gE
    rw [List.filter_map, List.map_map]
    rfl
  have h := climbs_gain sts 0 0 0 0 [] (fun e he => absurd he List.not_mem_nil) rfl b
  rw [e]
  unfold gainOfM
  by_cases hb : 0 ≤ b
  · rw [if_pos hb, h.1 hb]
  · rw [if_neg hb, h.2 (by omega)]
    rfl
end K11

set_option maxHeartbeats 1000000
/-! the stairs of steps are stairs; how else they are found -/
namespace K11
open PySem PySem.Spec PyProof.Rows L2 Evl VG
/-- climbing in both -/
def Up (s : List Stp) : Prop := s.Pairwise (fun x y => x.1 < y.1 ∧ x.2 < y.2) ∧ ∀ x ∈ s, 0 ≤ x.1 ∧ 0 < x.2
theorem up_ok {s : List Stp} (h : Up s) : stairsOk s := by
  refine ⟨fun x hx => h.2 x (List.mem_of_getElem? hx), fun i a b ha hb => ?_⟩
  have p := List.pairwise_iff_getElem.mp h.1
  obtain ⟨i1, e1⟩ := List.getElem?_eq_some_iff.mp ha
  obtain ⟨i2, e2⟩ := List.getElem?_eq_some_iff.mp hb
  have := p i (i + 1) i1 i2 (Nat.lt_succ_self i)
  rw [e1, e2] at this
  exact this
def UpE (ba mo : Int) (fo : List Ent) : Prop := fo.Pairwise (fun x y => x.1 < y.1 ∧ x.2.1 < y.2.1) ∧ ∀ x ∈ fo, 0 ≤ x.1 ∧ 0 < x.2.1 ∧ x.1 ≤ ba ∧ x.2.1 ≤ mo
theorem upE_put {ba mo bb ri k : Int} {fo : List Ent} (h : UpE ba mo fo) (hb : ba ≤ bb) (h0 : 0 ≤ bb) (hm : mo < ri) (m0 : 0 ≤ mo) : UpE bb ri (putE fo (bb, ri, k)) := by
  have old : ∀ x ∈ fo, 0 ≤ x.1 ∧ 0 < x.2.1 ∧ x.1 ≤ bb ∧ x.2.1 ≤ ri := fun x hx => by
    obtain ⟨a1, a2, a3, a4⟩ := h.2 x hx
    exact ⟨a1, a2, by omega, by omega⟩
  refine ⟨?_, fun x hx => ?_⟩
  · unfold putE putV
    by_cases hc : lastB (·.1) fo bb = true
    · rw [if_pos hc]
      rcases List.eq_nil_or_concat fo with hn | ⟨f0, l, hn⟩
      · rw [hn]
        exact List.pairwise_singleton _ _
      · rw [List.concat_eq_append] at hn
        subst hn
        unfold lastB at hc
        rw [List.getLast?_concat] at hc
        have hl : l.1 = bb := of_decide_eq_true hc
        rw [List.dropLast_concat]
        have hp := List.pairwise_append.mp h.1
        refine List.pairwise_append.mpr ⟨hp.1, List.pairwise_singleton _ _, fun x hx y hy => ?_⟩
        rw [List.mem_singleton.mp hy]
        have h1 := (hp.2.2 x hx l (List.mem_singleton_self _)).1
        have h2 := (h.2 x (List.mem_append_left _ hx)).2.2.2
        exact ⟨by show x.1 < bb; omega, by show x.2.1 < ri; omega⟩
    · rw [if_neg hc]
      refine List.pairwise_append.mpr ⟨h.1, List.pairwise_singleton _ _, fun x hx y hy => ?_⟩
      rw [List.mem_singleton.mp hy]
      have h2 := h.2 x hx
      refine ⟨?_, by show x.2.1 < ri; omega⟩
      show x.1 < bb
      rcases List.eq_nil_or_concat fo with hn | ⟨f0, l, hn⟩
      · rw [hn] at hx
        exact absurd hx List.not_mem_nil
      · rw [List.concat_eq_append] at hn
        subst hn
        unfold lastB at hc
        rw [List.getLast?_concat] at hc
        have hl : ¬ l.1 = bb := fun z => hc (decide_eq_true z)
        have hlb := (h.2 l (List.mem_append_right _ (List.mem_singleton_self _))).2.2.1
        rcases List.mem_append.mp hx with g | g
        · have := ((List.pairwise_append.mp h.1).2.2 x g l (List.mem_singleton_self _)).1
          omega
        · rw [List.mem_singleton.mp g]
          omega
  · rcases put_mem hx with g | g
    · exact old x g
    · rw [g]
      exact ⟨h0, by show 0 < ri; omega, Int.le_refl _, Int.le_refl _⟩
theorem climbs_up : ∀ (r : List Stp) (i : Nat) (ba ri mo : Int) (fo : List Ent), UpE ba mo fo → 0 ≤ ba → 0 ≤ mo → ∃ ba' mo', UpE ba' mo' (climbsM i ba ri mo fo r)
  | [], i, ba, ri, mo, fo, h, _, _ => ⟨ba, mo, h⟩
  | (n, g) :: r, i, ba, ri, mo, fo, h, h0, m0 => by
    rw [climbsM_cons]
    have hba : ba ≤ (if n - ri > ba then n - ri else ba) := by split <;> omega
    generalize (if n - ri > ba then n - ri else ba) = bb at hba
    by_cases hm : ri + g > mo
    · rw [if_pos hm]
      exact climbs_up r _ _ _ _ _ (upE_put h hba (by omega) hm m0) (by omega) (by omega)
    · rw [if_neg hm]
      exact climbs_up r _ _ _ _ _ ⟨h.1, fun x hx => by
        obtain ⟨a1, a2, a3, a4⟩ := h.2 x hx
        exact ⟨a1, a2, by omega, a4⟩⟩ (by omega) m0
theorem stairs_up (sts : List Stp) : Up (stairsM sts) := by
  obtain ⟨ba, mo, h1, h2⟩ := climbs_up sts 0 0 0 0 [] ⟨List.Pairwise.nil, fun x hx => absurd hx List.not_mem_nil⟩ (Int.le_refl _) (Int.le_refl _)
  refine ⟨?_, fun x hx => ?_⟩
  · unfold stairsM
    rw [List.pairwise_map]
    exact h1
  · obtain ⟨e, he, rfl⟩ := List.mem_map.mp hx
    exact ⟨(h2 e he).1, (h2 e he).2.1⟩
theorem climbs_bases : ∀ (r : List Stp) (i : Nat) (ba ri mo : Int) (fo : List Ent), ∀ e ∈ climbsM i ba ri mo fo r, e ∈ fo ∨ e.1 ∈ basesM ba ri r
  | [], i, ba, ri, mo, fo, e, he => .inl he
  | (n, g) :: r, i, ba, ri, mo, fo, e, he => by
    rw [climbsM_cons] at he
    show e ∈ fo ∨ e.1 ∈ (if n - ri > ba then n - ri else ba) :: basesM (if n - ri > ba then n - ri else ba) (ri + g) r
    generalize (if n - ri > ba then n - ri else ba) = bb at he
    split at he
    · rcases climbs_bases r _ _ _ _ _ e he with h | h
      · rcases put_mem h with h | h
        · exact .inl h
        · rw [h]
          exact .inr (List.mem_cons_self ..)
      · exact .inr (List.mem_cons_of_mem _ h)
    · rcases climbs_bases r _ _ _ _ _ e he with h | h
      · exact .inl h
      · exact .inr (List.mem_cons_of_mem _ h)
theorem stairs_bases {sts : List Stp} {x : Stp} (h : x ∈ stairsM sts) : x.1 ∈ basesM 0 0 sts := by
  obtain ⟨e, he, rfl⟩ := List.mem_map.mp h
  rcases climbs_bases sts 0 0 0 0 [] e he with h | h
  · exact absurd h List.not_mem_nil
  · exact h
/-- the law's own look: base by base, what is more than all before -/
def walkM (f : Int → Int) : Int → List Int → List Stp
  | _, [] => []
  | top, b :: bs => if f b > top then (b, f b) :: walkM f (f b) bs else walkM f top bs
theorem gainM_mid {pre suf : List Stp} {b : Int} (h1 : ∀ x ∈ pre, x.1 ≤ b) (h2 : ∀ x ∈ suf, b < x.1) : gainM (pre ++ suf) b = ((pre.map (·.2)).getLast?).getD 0 := by
  unfold gainM
  rw [List.filter_append, List.filter_eq_self.mpr fun x hx => decide_eq_true (h1 x hx), List.filter_eq_nil_iff.mpr fun x hx => by
    rw [decide_eq_true_eq]
    have := h2 x hx
    omega, List.append_nil]
theorem walk_is {s : List Stp} (up : Up s) : ∀ (bs : List Int) (pre suf : List Stp), s = pre ++ suf → bs.Pairwise (· < ·) → (∀ x ∈ suf, x.1 ∈ bs) → (∀ x ∈ pre, ∀ b ∈ bs, x.1 < b) → walkM (gainM s) (((pre.map (·.2)).getLast?).getD 0) bs = suf
  | [], pre, suf, hs, _, h2, _ => by
    cases suf with
    | nil => rfl
    | cons x r => exact absurd (h2 x (List.mem_cons_self ..)) List.not_mem_nil
  | b :: bs, pre, suf, hs, h1, h2, h3 => by
    have h1 := List.pairwise_cons.mp h1
    have hpre : ∀ x ∈ pre, x.1 ≤ b := fun x hx => Int.le_of_lt (h3 x hx b (List.mem_cons_self ..))
    have upp := List.pairwise_append.mp (hs ▸ up.1)
    show (if gainM s b > _ then _ else _) = suf
    by_cases hc : ∃ g r, suf = (b, g) :: r
    · obtain ⟨g, r, rfl⟩ := hc
      have hr := List.pairwise_cons.mp upp.2.1
      have hf : gainM s b = g := by
        have e : s = (pre ++ [(b, g)]) ++ r := by rw [hs, List.append_assoc]; rfl
        rw [e, gainM_mid (fun x hx => ?_) fun x hx => (hr.1 x hx).1]
        · rw [List.map_append, List.map_cons, List.map_nil, List.getLast?_concat]
          rfl
        · rcases List.mem_append.mp hx with h | h
          · exact hpre x h
          · rw [List.mem_singleton.mp h]
            exact Int.le_refl _
      have htop : ((pre.map (·.2)).getLast?).getD 0 < g := by
        rcases List.eq_nil_or_concat pre with hn | ⟨p0, l, hn⟩
        · rw [hn]
          exact (up.2 (b, g) (by rw [hs]; exact List.mem_append_right _ (List.mem_cons_self ..))).2
        · rw [List.concat_eq_append] at hn
          subst hn
          rw [List.map_append, List.map_cons, List.map_nil, List.getLast?_concat]
          exact (upp.2.2 l (List.mem_append_right _ (List.mem_singleton_self _)) (b, g) (List.mem_cons_self ..)).2
      rw [hf, if_pos htop]
      have ih := walk_is up bs (pre ++ [(b, g)]) r (by rw [hs, List.append_assoc]; rfl) h1.2 (fun x hx => ?_) (fun x hx c hc => ?_)
      · rw [List.map_append, List.map_cons, List.map_nil, List.getLast?_concat] at ih
        have ih : walkM (gainM s) g bs = r := ih
        rw [ih]
      · rcases List.mem_cons.mp (h2 x (List.mem_cons_of_mem _ hx)) with h | h
        · have := (hr.1 x hx).1
          exact absurd this (by show ¬ b < x.1; omega)
        · exact h
      · rcases List.mem_append.mp hx with h | h
        · exact h3 x h c (List.mem_cons_of_mem _ hc)
        · rw [List.mem_singleton.mp h]
          exact h1.1 c hc
    · have hsuf : ∀ x ∈ suf, b < x.1 := by
        cases suf with
        | nil => exact fun x hx => absurd hx List.not_mem_nil
        | cons y r =>
          obtain ⟨b1, g1⟩ := y
          have hr := List.pairwise_cons.mp upp.2.1
          have hb1 : b < b1 := by
            rcases List.mem_cons.mp (h2 (b1, g1) (List.mem_cons_self ..)) with h | h
            · exact absurd ⟨g1, r, by rw [show b1 = b from h]⟩ hc
            · exact h1.1 _ h
          intro x hx
          rcases List.mem_cons.mp hx with h | h
          · rw [h]
            exact hb1
          · have h4 : b1 < x.1 := (hr.1 x h).1
            omega
      have hf : gainM s b = ((pre.map (·.2)).getLast?).getD 0 := by
        rw [hs]
        exact gainM_mid hpre hsuf
      rw [hf, if_neg (Int.lt_irrefl _)]
      refine walk_is up bs pre suf hs h1.2 (fun x hx => ?_) fun x hx c hc => h3 x hx c (List.mem_cons_of_mem _ hc)
      rcases List.mem_cons.mp (h2 x hx) with h | h
      · have := hsuf x hx
        omega
      · exact h
/-- the stairs of steps, found base by base -/
theorem stairs_walk {sts : List Stp} {bs : List Int} (h1 : bs.Pairwise (· < ·)) (h2 : ∀ b ∈ basesM 0 0 sts, b ∈ bs) : walkM (gainOfM sts) 0 bs = stairsM sts := by
  have e : gainOfM sts = gainM (stairsM sts) := funext fun b => (gain_stairs sts b).symm
  rw [e]
  exact walk_is (stairs_up sts) bs [] (stairsM sts) rfl h1 (fun x hx => h2 _ (stairs_bases hx)) fun x hx => absurd hx List.not_mem_nil
end K11

set_option maxHeartbeats 1000000
/-! two who go on beside one another: their stairs, and all ways -/
namespace K11
open PySem PySem.Spec PyProof.Rows L2 Evl VG
/-! ### two who go on beside one another -/
def can (b : Int) : Int → List Stp → Nat → Prop
  | _, _, 0 => True
  | _, [], _ + 1 => False
  | ri, (n, g) :: r, i + 1 => n ≤ b + ri ∧ can b (ri + g) r i
def presum : List Stp → Nat → Int
  | _, 0 => 0
  | [], _ + 1 => 0
  | (_, g) :: r, i + 1 => g + presum r i
theorem presum_zero (r : List Stp) : presum r 0 = 0 := by cases r <;> rfl
theorem can_zero (b ri : Int) (r : List Stp) : can b ri r 0 := by cases r <;> trivial
theorem presum_succ : ∀ {r : List Stp} {i : Nat} {s : Stp}, r[i]? = some s → presum r (i + 1) = presum r i + s.2
  | [], i, s, h => by simp at h
  | (n, g) :: r, 0, s, h => by
    simp at h
    subst h
    show g + presum r 0 = 0 + g
    rw [presum_zero]
    omega
  | (n, g) :: r, i + 1, s, h => by
    show g + presum r (i + 1) = g + presum r i + s.2
    rw [presum_succ (r := r) (i := i) (by simpa using h)]
    omega
theorem can_succ : ∀ {b ri : Int} {r : List Stp} {i : Nat} {s : Stp}, r[i]? = some s → can b ri r i → s.1 ≤ b + (ri + presum r i) → can b ri r (i + 1)
  | b, ri, [], i, s, h, _, _ => by simp at h
  | b, ri, (n, g) :: r, 0, s, h, _, h2 => by
    simp at h
    subst h
    refine ⟨?_, can_zero _ _ _⟩
    rw [presum_zero] at h2
    show n ≤ b + ri
    simp at h2
    omega
  | b, ri, (n, g) :: r, i + 1, s, h, h1, h2 => by
    refine ⟨h1.1, can_succ (s := s) (by simpa using h) h1.2 ?_⟩
    have e : presum ((n, g) :: r) (i + 1) = g + presum r i := rfl
    rw [e] at h2
    omega
theorem can_need : ∀ {b ri : Int} {r : List Stp} {i k : Nat} {s : Stp}, can b ri r i → k < i → r[k]? = some s → s.1 ≤ b + (ri + presum r k)
  | b, ri, [], i, k, s, _, _, h => by simp at h
  | b, ri, _ :: _, 0, k, s, _, hk, h => by omega
  | b, ri, (n, g) :: r, i + 1, 0, s, h1, _, h => by
    simp at h
    subst h
    have := h1.1
    rw [presum_zero]
    simpa using this
  | b, ri, (n, g) :: r, i + 1, k + 1, s, h1, hk, h => by
    have ih := can_need (k := k) (s := s) h1.2 (by omega) (by simpa using h)
    have e : presum ((n, g) :: r) (k + 1) = g + presum r k := rfl
    rw [e]
    omega
theorem can_len : ∀ {b ri : Int} {r : List Stp} {i : Nat}, can b ri r i → i ≤ r.length
  | _, _, _, 0, _ => Nat.zero_le _
  | _, _, [], _ + 1, h => h.elim
  | _, _, (_, _) :: r, i + 1, h => Nat.succ_le_succ (can_len h.2)
theorem can_le : ∀ {b ri : Int} {r : List Stp} {i k : Nat}, can b ri r i → k ≤ i → can b ri r k
  | _, _, r, _, 0, _, _ => can_zero _ _ r
  | _, _, _, 0, k + 1, _, hk => by omega
  | _, _, [], _ + 1, _ + 1, h, _ => h.elim
  | _, _, (_, _) :: r, i + 1, k + 1, h, hk => ⟨h.1, can_le h.2 (by omega)⟩
theorem gainR_up {b : Int} : ∀ (r : List Stp) (mo ri : Int), ri ≤ mo → mo ≤ gainR b mo ri r ∧ ∀ i, can b ri r i → ri + presum r i ≤ gainR b mo ri r
  | [], mo, ri, h => by
    refine ⟨Int.le_refl _, fun i hi => ?_⟩
    cases i with
    | zero => show ri + 0 ≤ mo; omega
    | succ i => exact hi.elim
  | (n, g) :: r, mo, ri, h => by
    rw [gainR_cons]
    by_cases hs : b + ri < n
    · rw [if_pos hs]
      refine ⟨Int.le_refl _, fun i hi => ?_⟩
      cases i with
      | zero => show ri + 0 ≤ mo; omega
      | succ i => have := hi.1; omega
    · rw [if_neg hs]
      by_cases hm : ri + g > mo
      · rw [if_pos hm]
        have ih := gainR_up (b := b) r (ri + g) (ri + g) (Int.le_refl _)
        refine ⟨by omega, fun i hi => ?_⟩
        cases i with
        | zero => show ri + 0 ≤ _; omega
        | succ i =>
          have := ih.2 i hi.2
          show ri + (g + presum r i) ≤ _
          omega
      · rw [if_neg hm]
        have ih := gainR_up (b := b) r mo (ri + g) (by omega)
        refine ⟨by omega, fun i hi => ?_⟩
        cases i with
        | zero => show ri + 0 ≤ _; omega
        | succ i =>
          have := ih.2 i hi.2
          show ri + (g + presum r i) ≤ _
          omega
theorem gainR_at {b : Int} : ∀ (r : List Stp) (mo ri : Int), gainR b mo ri r = mo ∨ ∃ i, can b ri r i ∧ ri + presum r i = gainR b mo ri r
  | [], mo, ri => .inl rfl
  | (n, g) :: r, mo, ri => by
    rw [gainR_cons]
    by_cases hs : b + ri < n
    · rw [if_pos hs]
      exact .inl rfl
    · rw [if_neg hs]
      by_cases hm : ri + g > mo
      · rw [if_pos hm]
        rcases gainR_at (b := b) r (ri + g) (ri + g) with e | ⟨i, h1, h2⟩
        · refine .inr ⟨1, ⟨by omega, can_zero _ _ _⟩, ?_⟩
          show ri + (g + presum r 0) = _
          rw [e, presum_zero]
          omega
        · refine .inr ⟨i + 1, ⟨by omega, h1⟩, ?_⟩
          show ri + (g + presum r i) = _
          omega
      · rw [if_neg hm]
        rcases gainR_at (b := b) r mo (ri + g) with e | ⟨i, h1, h2⟩
        · exact .inl e
        · refine .inr ⟨i + 1, ⟨by omega, h1⟩, ?_⟩
          show ri + (g + presum r i) = _
          omega
theorem gainOf_up {ss : List Stp} {b : Int} (hb : 0 ≤ b) {i : Nat} (h : can b 0 ss i) : presum ss i ≤ gainOfM ss b := by
  have := (gainR_up (b := b) ss 0 0 (Int.le_refl _)).2 i h
  unfold gainOfM
  rw [if_pos hb]
  omega
theorem gainOf_at {ss : List Stp} {b : Int} (hb : 0 ≤ b) : ∃ i, can b 0 ss i ∧ presum ss i = gainOfM ss b := by
  unfold gainOfM
  rw [if_pos hb]
  rcases gainR_at (b := b) ss 0 0 with e | ⟨i, h1, h2⟩
  · exact ⟨0, can_zero _ _ _, by rw [e, presum_zero]⟩
  · exact ⟨i, h1, by omega⟩
/-- the k-th of stairs' gains, 0 ahead of all -/
def val (st : List Stp) : Nat → Int
  | 0 => 0
  | k + 1 => ((st[k]?).map (·.2)).getD 0
theorem val_succ {st : List Stp} {k : Nat} {x : Stp} (h : st[k]? = some x) : val st (k + 1) = x.2 := by
  show ((st[k]?).map (·.2)).getD 0 = x.2
  rw [h]
  rfl
theorem val_lt {st : List Stp} (up : Up st) {k : Nat} {x : Stp} (h : st[k]? = some x) : val st k < x.2 := by
  cases k with
  | zero => exact (up.2 x (List.mem_of_getElem? h)).2
  | succ k =>
    have hk : k + 1 < st.length := (List.getElem?_eq_some_iff.mp h).1
    have e : st[k]? = some st[k] := List.getElem?_eq_getElem (by omega)
    rw [val_succ e]
    have e2 : st[k + 1] = x := by
      rw [List.getElem?_eq_getElem hk] at h
      exact Option.some.inj h
    have := (List.pairwise_iff_getElem.mp up.1 k (k + 1) (by omega) hk (by omega)).2
    rw [e2] at this
    exact this
theorem val_le {st : List Stp} (up : Up st) {i : Nat} : ∀ {j : Nat}, i ≤ j → j ≤ st.length → val st i ≤ val st j
  | 0, h, _ => by
    have : i = 0 := by omega
    subst this
    exact Int.le_refl _
  | j + 1, h, hl => by
    by_cases e : i = j + 1
    · subst e
      exact Int.le_refl _
    · have e1 : st[j]? = some st[j] := List.getElem?_eq_getElem (by omega)
      have := val_lt up e1
      have := val_le up (i := i) (j := j) (by omega) (by omega)
      rw [val_succ e1]
      omega
theorem val_nonneg {st : List Stp} (up : Up st) {j : Nat} (h : j ≤ st.length) : 0 ≤ val st j := val_le up (i := 0) (Nat.zero_le _) h
/-- how far both may come on their stairs -/
inductive RT (s t : List Stp) (b : Int) : Nat → Nat → Prop
  | zero : RT s t b 0 0
  | left {i j : Nat} {x : Stp} : RT s t b i j → s[i]? = some x → x.1 ≤ b + val t j → RT s t b (i + 1) j
  | right {i j : Nat} {x : Stp} : RT s t b i j → t[j]? = some x → x.1 ≤ b + val s i → RT s t b i (j + 1)
def Shut (s t : List Stp) (b : Int) (i j : Nat) : Prop := (∀ x, s[i]? = some x → b + val t j < x.1) ∧ ∀ x, t[j]? = some x → b + val s i < x.1
theorem RT.len {s t : List Stp} {b : Int} {i j : Nat} (h : RT s t b i j) : i ≤ s.length ∧ j ≤ t.length := by
  induction h with
  | zero => exact ⟨Nat.zero_le _, Nat.zero_le _⟩
  | left _ h1 _ ih => exact ⟨(List.getElem?_eq_some_iff.mp h1).1, ih.2⟩
  | right _ h1 _ ih => exact ⟨ih.1, (List.getElem?_eq_some_iff.mp h1).1⟩
theorem RT.swap {s t : List Stp} {b : Int} {i j : Nat} (h : RT s t b i j) : RT t s b j i := by
  induction h with
  | zero => exact .zero
  | left _ h1 h2 ih => exact .right ih h1 h2
  | right _ h1 h2 ih => exact .left ih h1 h2
theorem RT.within {s t : List Stp} {b : Int} {i j I J : Nat} (us : Up s) (ut : Up t) (h : RT s t b i j) (g : RT s t b I J) (c : Shut s t b I J) : i ≤ I ∧ j ≤ J := by
  induction h with
  | zero => exact ⟨Nat.zero_le _, Nat.zero_le _⟩
  | @left i j x _ h1 h2 ih =>
    refine ⟨?_, ih.2⟩
    by_cases e : i = I
    · have := val_le ut ih.2 g.len.2
      have := c.1 x (e ▸ h1)
      omega
    · omega
  | @right i j x _ h1 h2 ih =>
    refine ⟨ih.1, ?_⟩
    by_cases e : j = J
    · have := val_le us ih.1 g.len.1
      have := c.2 x (e ▸ h1)
      omega
    · omega
theorem RT.under {s t : List Stp} {b : Int} {i j : Nat} (us : Up s) (ut : Up t) (h : RT s t b i j) : (∀ k x, k < i → s[k]? = some x → x.1 ≤ b + val t j) ∧ ∀ k x, k < j → t[k]? = some x → x.1 ≤ b + val s i := by
  induction h with
  | zero => exact ⟨fun k x hk => by omega, fun k x hk => by omega⟩
  | @left i j x _ h1 h2 ih =>
    refine ⟨fun k y hk hy => ?_, fun k y hk hy => ?_⟩
    · by_cases e : k = i
      · subst e
        rw [h1] at hy
        cases hy
        exact h2
      · exact ih.1 k y (by omega) hy
    · have := ih.2 k y hk hy
      have := val_lt us h1
      rw [val_succ h1]
      omega
  | @right i j x _ h1 h2 ih =>
    refine ⟨fun k y hk hy => ?_, fun k y hk hy => ?_⟩
    · have := ih.1 k y hk hy
      have := val_lt ut h1
      rw [val_succ h1]
      omega
    · by_cases e : k = j
      · subst e
        rw [h1] at hy
        cases hy
        exact h2
      · exact ih.2 k y (by omega) hy
theorem last_take {s : List Stp} : ∀ {i : Nat}, i ≤ s.length → (((s.take i).map (·.2)).getLast?).getD 0 = val s i
  | 0, _ => rfl
  | i + 1, h => by
    have e : s[i]? = some s[i] := List.getElem?_eq_getElem (by omega)
    rw [List.take_add_one, e, val_succ e]
    show (((s.take i ++ [s[i]]).map (·.2)).getLast?).getD 0 = _
    rw [List.map_append, List.map_cons, List.map_nil, List.getLast?_concat]
    rfl
theorem gainM_take {s : List Stp} (us : Up s) {i : Nat} {c : Int} (hi : i ≤ s.length) (h1 : ∀ k x, k < i → s[k]? = some x → x.1 ≤ c) (h2 : ∀ x, s[i]? = some x → c < x.1) : gainM s c = val s i := by
  rw [← last_take hi]
  conv => lhs; rw [← List.take_append_drop i s]
  refine gainM_mid (fun x hx => ?_) fun x hx => ?_
  · obtain ⟨k, hk⟩ := List.mem_iff_getElem?.mp hx
    have hki : k < i := by
      have := (List.getElem?_eq_some_iff.mp hk).1
      rw [List.length_take] at this
      omega
    rw [List.getElem?_take_of_lt hki] at hk
    exact h1 k x hki hk
  · obtain ⟨k, hk⟩ := List.mem_iff_getElem?.mp hx
    rw [List.getElem?_drop] at hk
    have hl : i + k < s.length := (List.getElem?_eq_some_iff.mp hk).1
    have e : s[i]? = some s[i] := List.getElem?_eq_getElem (by omega)
    have := h2 _ e
    by_cases z : k = 0
    · subst z
      rw [Nat.add_zero, e] at hk
      cases hk
      exact this
    · have p := (List.pairwise_iff_getElem.mp us.1 i (i + k) (by omega) hl (by omega)).1
      rw [List.getElem?_eq_getElem hl] at hk
      cases hk
      omega
theorem RT.fix {s t : List Stp} {b : Int} {i j : Nat} (us : Up s) (ut : Up t) (h : RT s t b i j) (c : Shut s t b i j) : gainM s (b + val t j) = val s i ∧ gainM t (b + val s i) = val t j :=
  ⟨gainM_take us h.len.1 (h.under us ut).1 c.1, gainM_take ut h.len.2 (h.under us ut).2 c.2⟩
/-- how far both may come, step by step -/
inductive RS (one other : List Stp) (b : Int) : Nat → Nat → Prop
  | zero : RS one other b 0 0
  | left {i j : Nat} {x : Stp} : RS one other b i j → one[i]? = some x → x.1 ≤ b + (presum one i + presum other j) → RS one other b (i + 1) j
  | right {i j : Nat} {x : Stp} : RS one other b i j → other[j]? = some x → x.1 ≤ b + (presum one i + presum other j) → RS one other b i (j + 1)
theorem RS.len {s t : List Stp} {b : Int} {i j : Nat} (h : RS s t b i j) : i ≤ s.length ∧ j ≤ t.length := by
  induction h with
  | zero => exact ⟨Nat.zero_le _, Nat.zero_le _⟩
  | left _ h1 _ ih => exact ⟨(List.getElem?_eq_some_iff.mp h1).1, ih.2⟩
  | right _ h1 _ ih => exact ⟨ih.1, (List.getElem?_eq_some_iff.mp h1).1⟩
theorem RS.swap {s t : List Stp} {b : Int} {i j : Nat} (h : RS s t b i j) : RS t s b j i := by
  induction h with
  | zero => exact .zero
  | left _ h1 h2 ih => exact .right ih h1 (by omega)
  | right _ h1 h2 ih => exact .left ih h1 (by omega)
theorem RS.cans {one other : List Stp} {b : Int} {i j I J : Nat} (hb : 0 ≤ b) (g : RT (stairsM one) (stairsM other) b I J) (c : Shut (stairsM one) (stairsM other) b I J) (h : RS one other b i j) :
    can (b + val (stairsM other) J) 0 one i ∧ can (b + val (stairsM one) I) 0 other j := by
  obtain ⟨f1, f2⟩ := g.fix (stairs_up one) (stairs_up other) c
  rw [gain_stairs] at f1 f2
  have n1 := val_nonneg (stairs_up one) g.len.1
  have n2 := val_nonneg (stairs_up other) g.len.2
  induction h with
  | zero => exact ⟨can_zero _ _ _, can_zero _ _ _⟩
  | @left i j x _ h1 h2 ih =>
    refine ⟨can_succ h1 ih.1 ?_, ih.2⟩
    have := gainOf_up (by omega) ih.2
    omega
  | @right i j x _ h1 h2 ih =>
    refine ⟨ih.1, can_succ h1 ih.2 ?_⟩
    have := gainOf_up (by omega) ih.1
    omega
theorem RS.most {one other : List Stp} {b : Int} {i j I J : Nat} (hb : 0 ≤ b) (g : RT (stairsM one) (stairsM other) b I J) (c : Shut (stairsM one) (stairsM other) b I J) (h : RS one other b i j) :
    presum one i + presum other j ≤ val (stairsM one) I + val (stairsM other) J := by
  obtain ⟨f1, f2⟩ := g.fix (stairs_up one) (stairs_up other) c
  rw [gain_stairs] at f1 f2
  have n1 := val_nonneg (stairs_up one) g.len.1
  have n2 := val_nonneg (stairs_up other) g.len.2
  obtain ⟨c1, c2⟩ := h.cans hb g c
  have := gainOf_up (by omega) c1
  have := gainOf_up (by omega) c2
  omega
theorem stair_way {one : List Stp} {k : Nat} {x : Stp} (h : (stairsM one)[k]? = some x) : ∃ i, can x.1 0 one i ∧ presum one i = x.2 ∧ ∀ k, k ≤ i → presum one k ≤ presum one i := by
  have up := stairs_up one
  have h0 := (up.2 x (List.mem_of_getElem? h)).1
  obtain ⟨i, h1, h2⟩ := gainOf_at (ss := one) (b := x.1) h0
  have e : gainM (stairsM one) x.1 = x.2 := by
    rw [← val_succ h]
    have hk : k < (stairsM one).length := (List.getElem?_eq_some_iff.mp h).1
    have hx : (stairsM one)[k] = x := by
      rw [List.getElem?_eq_getElem hk] at h
      exact Option.some.inj h
    refine gainM_take up (by omega) (fun m y hm hy => ?_) fun y hy => ?_
    · by_cases e : m = k
      · subst e
        rw [h] at hy
        cases hy
        exact Int.le_refl _
      · have hm2 : m < (stairsM one).length := (List.getElem?_eq_some_iff.mp hy).1
        have p := (List.pairwise_iff_getElem.mp up.1 m k hm2 hk (by omega)).1
        rw [List.getElem?_eq_getElem hm2] at hy
        cases hy
        rw [hx] at p
        omega
    · have hm2 : k + 1 < (stairsM one).length := (List.getElem?_eq_some_iff.mp hy).1
      have p := (List.pairwise_iff_getElem.mp up.1 k (k + 1) hk hm2 (by omega)).1
      rw [List.getElem?_eq_getElem hm2] at hy
      cases hy
      rw [hx] at p
      exact p
  rw [gain_stairs] at e
  refine ⟨i, h1, by omega, fun m hm => ?_⟩
  have := gainOf_up h0 (can_le h1 hm)
  omega
theorem RS.along {one other : List Stp} {b c : Int} {i j i2 : Nat} (h : RS one other b i j) (h1 : can c 0 one i2) (hc : c ≤ b + presum other j) : ∀ {d : Nat}, i + d ≤ i2 → RS one other b (i + d) j
  | 0, _ => h
  | d + 1, hd => by
    have hl := can_len h1
    have e : one[i + d]? = some one[i + d] := List.getElem?_eq_getElem (by omega)
    have := can_need h1 (k := i + d) (by omega) e
    have r := RS.along h h1 hc (d := d) (by omega)
    have z : one[i + d].1 ≤ b + (presum one (i + d) + presum other j) := by omega
    exact RS.left (i := i + d) r e z
theorem RT.way {one other : List Stp} {b : Int} {I J : Nat} (g : RT (stairsM one) (stairsM other) b I J) :
    ∃ i j, RS one other b i j ∧ presum one i = val (stairsM one) I ∧ presum other j = val (stairsM other) J ∧ (∀ k, k ≤ i → presum one k ≤ presum one i) ∧ ∀ k, k ≤ j → presum other k ≤ presum other j := by
  induction g with
  | zero => exact ⟨0, 0, .zero, presum_zero _, presum_zero _, fun k hk => by rw [Nat.le_zero.mp hk]; exact Int.le_refl _, fun k hk => by rw [Nat.le_zero.mp hk]; exact Int.le_refl _⟩
  | @left I J x _ h1 h2 ih =>
    obtain ⟨i, j, r, e1, e2, m1, m2⟩ := ih
    obtain ⟨i2, c1, c2, c3⟩ := stair_way h1
    have lt := val_lt (stairs_up one) h1
    have hi : i < i2 := by
      rcases Nat.lt_or_ge i i2 with z | z
      · exact z
      · have := m1 i2 z
        omega
    have r2 := r.along c1 (by omega) (d := i2 - i) (by omega)
    rw [show i + (i2 - i) = i2 by omega] at r2
    exact ⟨i2, j, r2, by rw [c2, val_succ h1], e2, c3, m2⟩
  | @right I J x _ h1 h2 ih =>
    obtain ⟨i, j, r, e1, e2, m1, m2⟩ := ih
    obtain ⟨j2, c1, c2, c3⟩ := stair_way h1
    have lt := val_lt (stairs_up other) h1
    have hj : j < j2 := by
      rcases Nat.lt_or_ge j j2 with z | z
      · exact z
      · have := m2 j2 z
        omega
    have r2 := r.swap.along c1 (by omega) (d := j2 - j) (by omega)
    rw [show j + (j2 - j) = j2 by omega] at r2
    exact ⟨i, j2, r2.swap, e1, by rw [c2, val_succ h1], m1, c3⟩

/-! ### the stairs of both -/
def putS (xs : List Stp) (e : Stp) : List Stp := putV (lastB (·.1) xs e.1) xs e
def mx (b c : Int) : Int := if c > b then c else b
def mn (b c : Int) : Int := if c < b then c else b
/-- fuel, at, its, base, found -/
def bothL (s t : List Stp) : Nat → Nat → Nat → Int → List Stp → List Stp
  | 0, _, _, _, fo => fo
  | n + 1, i, j, b, fo => match s[i]?, t[j]? with
    | none, none => fo
    | some x, none => bothL s t n (i + 1) j (mx b (x.1 - val t j)) (putS fo (mx b (x.1 - val t j), x.2 + val t j))
    | none, some y => bothL s t n i (j + 1) (mx b (y.1 - val s i)) (putS fo (mx b (y.1 - val s i), val s i + y.2))
    | some x, some y =>
      if x.1 - val t j ≤ mx b (mn (x.1 - val t j) (y.1 - val s i)) then
        bothL s t n (i + 1) j (mx b (mn (x.1 - val t j) (y.1 - val s i))) (putS fo (mx b (mn (x.1 - val t j) (y.1 - val s i)), x.2 + val t j))
      else bothL s t n i (j + 1) (mx b (mn (x.1 - val t j) (y.1 - val s i))) (putS fo (mx b (mn (x.1 - val t j) (y.1 - val s i)), val s i + y.2))
def bothM (s t : List Stp) : List Stp := bothL s t (s.length + t.length) 0 0 0 []
theorem gainM_app_gt {fo : List Stp} {e : Stp} {b : Int} (h : b < e.1) : gainM (fo ++ [e]) b = gainM fo b := by
  unfold gainM
  have n : decide (e.1 ≤ b) = false := decide_eq_false (by omega)
  rw [List.filter_append, List.filter_cons, n, if_neg Bool.false_ne_true, List.filter_nil, List.append_nil]
theorem gainM_put_gt {fo : List Stp} {e : Stp} {b : Int} (h : b < e.1) : gainM (putS fo e) b = gainM fo b := by
  unfold putS putV
  by_cases hc : lastB (·.1) fo e.1 = true
  · rw [if_pos hc, gainM_app_gt h]
    rcases List.eq_nil_or_concat fo with hn | ⟨f0, l, hn⟩
    · rw [hn]
      rfl
    · rw [List.concat_eq_append] at hn
      subst hn
      unfold lastB at hc
      rw [List.getLast?_concat] at hc
      have hl : l.1 = e.1 := of_decide_eq_true hc
      rw [List.dropLast_concat, gainM_app_gt (by rw [hl]; exact h)]
  · rw [if_neg hc, gainM_app_gt h]
theorem gainM_all {fo : List Stp} {b : Int} (h : ∀ e ∈ fo, e.1 ≤ b) : gainM fo b = ((fo.map (·.2)).getLast?).getD 0 := by
  unfold gainM
  rw [List.filter_eq_self.mpr fun e he => decide_eq_true (h e he)]
theorem putS_last (fo : List Stp) (e : Stp) : (((putS fo e).map (·.2)).getLast?).getD 0 = e.2 := by
  unfold putS putV
  split <;> rw [List.map_append, List.map_cons, List.map_nil, List.getLast?_concat] <;> rfl
theorem putS_mem {fo : List Stp} {e x : Stp} (h : x ∈ putS fo e) : x ∈ fo ∨ x = e := by
  unfold putS putV at h
  split at h
  · rcases List.mem_append.mp h with h | h
    · exact .inl (List.dropLast_subset _ h)
    · exact .inr (List.mem_singleton.mp h)
  · rcases List.mem_append.mp h with h | h
    · exact .inl h
    · exact .inr (List.mem_singleton.mp h)
theorem mx_le (b c : Int) : b ≤ mx b c ∧ c ≤ mx b c ∧ (mx b c = b ∨ mx b c = c) := by
  unfold mx
  split <;> omega
theorem mn_le (b c : Int) : mn b c ≤ b ∧ mn b c ≤ c ∧ (mn b c = b ∨ mn b c = c) := by
  unfold mn
  split <;> omega
/-- what both's stairs hold so far -/
def Both (s t : List Stp) (i j : Nat) (b : Int) (fo : List Stp) : Prop := (∀ e ∈ fo, e.1 ≤ b) ∧ ((fo.map (·.2)).getLast?).getD 0 = val s i + val t j
/-- one more -/
theorem both_go {s t : List Stp} {i j i' j' : Nat} {b b' v c : Int} {fo fin : List Stp} (h : Both s t i j b fo) (hb : b ≤ b') (hv : v = val s i' + val t j')
    (ih : ∀ fo', Both s t i' j' b' fo' → fo' = putS fo (b', v) → (b' ≤ c → RT s t c i' j' → ∃ I J, RT s t c I J ∧ Shut s t c I J ∧ gainM fin c = val s I + val t J) ∧ (c < b' → gainM fin c = gainM fo' c))
    (rt : b' ≤ c → RT s t c i j → RT s t c i' j') (sh : b ≤ c → c < b' → RT s t c i j → Shut s t c i j) :
    (b ≤ c → RT s t c i j → ∃ I J, RT s t c I J ∧ Shut s t c I J ∧ gainM fin c = val s I + val t J) ∧ (c < b → gainM fin c = gainM fo c) := by
  have hq := ih (putS fo (b', v)) ⟨fun e he => by
    rcases putS_mem he with z | z
    · exact Int.le_trans (h.1 e z) hb
    · rw [z]
      exact Int.le_refl _, by rw [putS_last]; exact hv⟩ rfl
  refine ⟨fun hc r => ?_, fun hc => ?_⟩
  · by_cases z : b' ≤ c
    · exact hq.1 z (rt z r)
    · refine ⟨i, j, r, sh hc (by omega) r, ?_⟩
      rw [hq.2 (by omega), gainM_put_gt (by show c < b'; omega), gainM_all fun e he => Int.le_trans (h.1 e he) hc, h.2]
  · rw [hq.2 (by omega), gainM_put_gt (by show c < b'; omega)]
theorem bothL_gain {s t : List Stp} {c : Int} : ∀ (n i j : Nat) (b : Int) (fo : List Stp), Both s t i j b fo → s.length - i + (t.length - j) ≤ n →
    (b ≤ c → RT s t c i j → ∃ I J, RT s t c I J ∧ Shut s t c I J ∧ gainM (bothL s t n i j b fo) c = val s I + val t J) ∧ (c < b → gainM (bothL s t n i j b fo) c = gainM fo c)
  | 0, i, j, b, fo, h, hn => by
    refine ⟨fun hc r => ⟨i, j, r, ⟨fun x hx => ?_, fun x hx => ?_⟩, ?_⟩, fun _ => rfl⟩
    · have := (List.getElem?_eq_some_iff.mp hx).1
      omega
    · have := (List.getElem?_eq_some_iff.mp hx).1
      omega
    · show gainM fo c = _
      rw [gainM_all fun e he => Int.le_trans (h.1 e he) hc, h.2]
  | n + 1, i, j, b, fo, h, hn => by
    have e : bothL s t (n + 1) i j b fo = match s[i]?, t[j]? with
      | none, none => fo
      | some x, none => bothL s t n (i + 1) j (mx b (x.1 - val t j)) (putS fo (mx b (x.1 - val t j), x.2 + val t j))
      | none, some y => bothL s t n i (j + 1) (mx b (y.1 - val s i)) (putS fo (mx b (y.1 - val s i), val s i + y.2))
      | some x, some y =>
        if x.1 - val t j ≤ mx b (mn (x.1 - val t j) (y.1 - val s i)) then
          bothL s t n (i + 1) j (mx b (mn (x.1 - val t j) (y.1 - val s i))) (putS fo (mx b (mn (x.1 - val t j) (y.1 - val s i)), x.2 + val t j))
        else bothL s t n i (j + 1) (mx b (mn (x.1 - val t j) (y.1 - val s i))) (putS fo (mx b (mn (x.1 - val t j) (y.1 - val s i)), val s i + y.2)) := rfl
    rw [e]
    clear e
    cases hx : s[i]? with
    | none =>
      cases hy : t[j]? with
      | none =>
        refine ⟨fun hc r => ⟨i, j, r, ⟨fun x hx' => by (rw [hx] at hx'; cases hx'), fun x hx' => by (rw [hy] at hx'; cases hx')⟩, ?_⟩, fun _ => rfl⟩
        show gainM fo c = _
        rw [gainM_all fun e he => Int.le_trans (h.1 e he) hc, h.2]
      | some y =>
        have ly := (List.getElem?_eq_some_iff.mp hy).1
        have m := mx_le b (y.1 - val s i)
        have nx := List.getElem?_eq_none_iff.mp hx
        refine both_go h m.1 (i' := i) (j' := j + 1) (v := val s i + y.2) (by rw [val_succ hy]) (fun fo' hf e => e ▸ bothL_gain n i (j + 1) _ _ (e ▸ hf) (by omega)) (fun z r => .right r hy (by omega)) fun z1 z2 r => ?_
        refine ⟨fun x hx' => by (rw [hx] at hx'; cases hx'), fun x hx' => ?_⟩
        rw [hy] at hx'
        cases hx'
        omega
    | some x =>
      have lx := (List.getElem?_eq_some_iff.mp hx).1
      cases hy : t[j]? with
      | none =>
        have m := mx_le b (x.1 - val t j)
        refine both_go h m.1 (i' := i + 1) (j' := j) (v := x.2 + val t j) (by rw [val_succ hx]) (fun fo' hf e => e ▸ bothL_gain n (i + 1) j _ _ (e ▸ hf) (by omega)) (fun z r => .left r hx (by omega)) fun z1 z2 r => ?_
        refine ⟨fun y hx' => ?_, fun x hx' => by (rw [hy] at hx'; cases hx')⟩
        rw [hx] at hx'
        cases hx'
        omega
      | some y =>
        have ly := (List.getElem?_eq_some_iff.mp hy).1
        have m := mx_le b (mn (x.1 - val t j) (y.1 - val s i))
        have l := mn_le (x.1 - val t j) (y.1 - val s i)
        have shut : b ≤ c → c < mx b (mn (x.1 - val t j) (y.1 - val s i)) → RT s t c i j → Shut s t c i j := fun z1 z2 r => by
          refine ⟨fun y hx' => ?_, fun x hx' => ?_⟩
          · rw [hx] at hx'
            cases hx'
            omega
          · rw [hy] at hx'
            cases hx'
            omega
        dsimp only
        by_cases q : x.1 - val t j ≤ mx b (mn (x.1 - val t j) (y.1 - val s i))
        · rw [if_pos q]
          exact both_go h m.1 (i' := i + 1) (j' := j) (v := x.2 + val t j) (by rw [val_succ hx]) (fun fo' hf e => e ▸ bothL_gain n (i + 1) j _ _ (e ▸ hf) (by omega)) (fun z r => .left r hx (by omega)) shut
        · rw [if_neg q]
          exact both_go h m.1 (i' := i) (j' := j + 1) (v := val s i + y.2) (by rw [val_succ hy]) (fun fo' hf e => e ▸ bothL_gain n i (j + 1) _ _ (e ▸ hf) (by omega)) (fun z r => .right r hy (by omega)) shut
/-- what the stairs of both tell: as far as both may come -/
theorem both_gain (s t : List Stp) {c : Int} (hc : 0 ≤ c) : ∃ I J, RT s t c I J ∧ Shut s t c I J ∧ gainM (bothM s t) c = val s I + val t J :=
  (bothL_gain (s.length + t.length) 0 0 0 [] ⟨fun e he => absurd he List.not_mem_nil, rfl⟩ (by omega)).1 hc .zero
theorem both_gain0 (s t : List Stp) {c : Int} (hc : c < 0) : gainM (bothM s t) c = 0 :=
  (bothL_gain (s.length + t.length) 0 0 0 [] ⟨fun e he => absurd he List.not_mem_nil, rfl⟩ (by omega)).2 hc
/-- they are stairs -/
def UpB (b m : Int) (fo : List Stp) : Prop := fo.Pairwise (fun x y => x.1 < y.1 ∧ x.2 < y.2) ∧ ∀ x ∈ fo, 0 ≤ x.1 ∧ 0 < x.2 ∧ x.1 ≤ b ∧ x.2 ≤ m
theorem upB_put {b m b' m' : Int} {fo : List Stp} (h : UpB b m fo) (hb : b ≤ b') (h0 : 0 ≤ b') (hm : m < m') (m0 : 0 ≤ m) : UpB b' m' (putS fo (b', m')) := by
  have old : ∀ x ∈ fo, 0 ≤ x.1 ∧ 0 < x.2 ∧ x.1 ≤ b' ∧ x.2 ≤ m' := fun x hx => by
    obtain ⟨a1, a2, a3, a4⟩ := h.2 x hx
    exact ⟨a1, a2, by omega, by omega⟩
  have add : ∀ xs : List Stp, xs.Pairwise (fun x y => x.1 < y.1 ∧ x.2 < y.2) → (∀ x ∈ xs, x ∈ fo) → (∀ x ∈ xs, x.1 < b') → UpB b' m' (xs ++ [(b', m')]) := fun xs p s l => by
    refine ⟨List.pairwise_append.mpr ⟨p, List.pairwise_singleton _ _, fun x hx y hy => ?_⟩, fun x hx => ?_⟩
    · rw [List.mem_singleton.mp hy]
      have := h.2 x (s x hx)
      exact ⟨l x hx, by show x.2 < m'; omega⟩
    · rcases List.mem_append.mp hx with hx | hx
      · exact old x (s x hx)
      · rw [List.mem_singleton.mp hx]
        exact ⟨h0, by show 0 < m'; omega, Int.le_refl _, Int.le_refl _⟩
  unfold putS putV
  rcases List.eq_nil_or_concat fo with hn | ⟨f0, l, hn⟩
  · subst hn
    exact add [] List.Pairwise.nil (fun x hx => hx) fun x hx => absurd hx List.not_mem_nil
  · rw [List.concat_eq_append] at hn
    subst hn
    have pp := List.pairwise_append.mp h.1
    have hl := h.2 l (List.mem_append_right _ List.mem_cons_self)
    unfold lastB
    rw [List.getLast?_concat]
    by_cases e : l.1 = b'
    · rw [if_pos (decide_eq_true e), List.dropLast_concat]
      refine add f0 pp.1 (fun x hx => List.mem_append_left _ hx) fun x hx => ?_
      have := (pp.2.2 x hx l List.mem_cons_self).1
      omega
    · rw [if_neg (by rw [decide_eq_true_eq]; exact e)]
      refine add _ h.1 (fun x hx => hx) fun x hx => ?_
      rcases List.mem_append.mp hx with hx | hx
      · have := (pp.2.2 x hx l List.mem_cons_self).1
        omega
      · rw [List.mem_singleton.mp hx]
        omega
theorem bothL_up {s t : List Stp} (us : Up s) (ut : Up t) : ∀ (n i j : Nat) (b : Int) (fo : List Stp), i ≤ s.length → j ≤ t.length → 0 ≤ b → UpB b (val s i + val t j) fo → ∃ b' m, UpB b' m (bothL s t n i j b fo)
  | 0, i, j, b, fo, _, _, _, h => ⟨_, _, h⟩
  | n + 1, i, j, b, fo, hi, hj, h0, h => by
    have v1 := val_nonneg us hi
    have v2 := val_nonneg ut hj
    have left : ∀ (x : Stp) (b' : Int), s[i]? = some x → b ≤ b' → ∃ b'' m, UpB b'' m (bothL s t n (i + 1) j b' (putS fo (b', x.2 + val t j))) := fun x b' hx hb => by
      have lt := val_lt us hx
      refine bothL_up us ut n (i + 1) j b' _ (List.getElem?_eq_some_iff.mp hx).1 hj (by omega) ?_
      rw [val_succ hx]
      exact upB_put h hb (by omega) (by omega) (by omega)
    have right : ∀ (y : Stp) (b' : Int), t[j]? = some y → b ≤ b' → ∃ b'' m, UpB b'' m (bothL s t n i (j + 1) b' (putS fo (b', val s i + y.2))) := fun x b' hx hb => by
      have lt := val_lt ut hx
      refine bothL_up us ut n i (j + 1) b' _ hi (List.getElem?_eq_some_iff.mp hx).1 (by omega) ?_
      rw [val_succ hx]
      exact upB_put h hb (by omega) (by omega) (by omega)
    unfold bothL
    cases hx : s[i]? with
    | none =>
      cases hy : t[j]? with
      | none => exact ⟨_, _, h⟩
      | some y => exact right y _ hy (mx_le _ _).1
    | some x =>
      cases hy : t[j]? with
      | none => exact left x _ hx (mx_le _ _).1
      | some y =>
        dsimp only
        by_cases q : x.1 - val t j ≤ mx b (mn (x.1 - val t j) (y.1 - val s i))
        · rw [if_pos q]
          exact left x _ hx (mx_le _ _).1
        · rw [if_neg q]
          exact right y _ hy (mx_le _ _).1
theorem both_up {s t : List Stp} (us : Up s) (ut : Up t) : Up (bothM s t) := by
  obtain ⟨b, m, h1, h2⟩ := bothL_up us ut (s.length + t.length) 0 0 0 [] (Nat.zero_le _) (Nat.zero_le _) (Int.le_refl _) ⟨List.Pairwise.nil, fun x hx => absurd hx List.not_mem_nil⟩
  exact ⟨h1, fun x hx => ⟨(h2 x hx).1, (h2 x hx).2.1⟩⟩
/-! ### all ways of both, level by level -/
abbrev NN := Nat × Nat
def newL (one other : List Stp) (b : Int) (seen later : List NN) (m i : Nat) : List NN :=
  match one[m]? with
  | some x => if x.1 ≤ b + (presum one m + presum other i) ∧ (m + 1, i) ∉ seen ++ later then later ++ [(m + 1, i)] else later
  | none => later
def newR (one other : List Stp) (b : Int) (seen later : List NN) (m i : Nat) : List NN :=
  match other[i]? with
  | some x => if x.1 ≤ b + (presum one m + presum other i) ∧ (m, i + 1) ∉ seen ++ later then later ++ [(m, i + 1)] else later
  | none => later
def bStep (one other : List Stp) (b : Int) (seen : List NN) (st : List NN × Int) (p : NN) : List NN × Int :=
  (newR one other b seen (newL one other b seen st.1 p.1 p.2) p.1 p.2, mx st.2 (presum one p.1 + presum other p.2))
def bRound (one other : List Stp) (b : Int) (seen front : List NN) (top : Int) : List NN × Int := front.foldl (bStep one other b seen) ([], top)
def bfs (one other : List Stp) (b : Int) : Nat → List NN → List NN → Int → Int
  | 0, _, _, top => top
  | n + 1, seen, front, top => if front = [] then top else bfs one other b n (seen ++ (bRound one other b seen front top).1) (bRound one other b seen front top).1 (bRound one other b seen front top).2
def sumOf (one other : List Stp) (p : NN) : Int := presum one p.1 + presum other p.2
/-- what holds behind L levels -/
structure Lev (one other : List Stp) (b : Int) (L : Nat) (seen front : List NN) (top : Int) : Prop where
  f : ∀ p ∈ front, RS one other b p.1 p.2 ∧ p.1 + p.2 = L
  s : ∀ p ∈ seen, RS one other b p.1 p.2 ∧ p.1 + p.2 ≤ L
  all : ∀ m i, RS one other b m i → m + i = L → (m, i) ∈ front
  most : ∀ m i, RS one other b m i → m + i < L → sumOf one other (m, i) ≤ top
  at' : ∃ m i, RS one other b m i ∧ sumOf one other (m, i) = top
/-- what holds amid a round: done is what was looked at -/
structure Mid (one other : List Stp) (b : Int) (L : Nat) (done later : List NN) (top0 top : Int) : Prop where
  l : ∀ p ∈ later, RS one other b p.1 p.2 ∧ p.1 + p.2 = L + 1
  left : ∀ p ∈ done, ∀ x, one[p.1]? = some x → x.1 ≤ b + sumOf one other p → (p.1 + 1, p.2) ∈ later
  right : ∀ p ∈ done, ∀ x, other[p.2]? = some x → x.1 ≤ b + sumOf one other p → (p.1, p.2 + 1) ∈ later
  most : ∀ p ∈ done, sumOf one other p ≤ top
  ge : top0 ≤ top
  at' : top = top0 ∨ ∃ p ∈ done, sumOf one other p = top
theorem newL_is {one other : List Stp} {b : Int} {L : Nat} {seen later : List NN} {m i : Nat} (hs : ∀ p ∈ seen, p.1 + p.2 ≤ L) (r : RS one other b m i) (e : m + i = L) :
    (∀ p ∈ later, p ∈ newL one other b seen later m i) ∧ (∀ p ∈ newL one other b seen later m i, p ∈ later ∨ (RS one other b p.1 p.2 ∧ p.1 + p.2 = L + 1)) ∧
    ∀ x, one[m]? = some x → x.1 ≤ b + sumOf one other (m, i) → (m + 1, i) ∈ newL one other b seen later m i := by
  unfold newL
  cases hx : one[m]? with
  | none => exact ⟨fun p hp => hp, fun p hp => .inl hp, fun x z => nomatch z⟩
  | some x =>
    dsimp only
    by_cases c : x.1 ≤ b + (presum one m + presum other i) ∧ (m + 1, i) ∉ seen ++ later
    · rw [if_pos c]
      refine ⟨fun p hp => List.mem_append_left _ hp, fun p hp => ?_, fun y _ _ => List.mem_append_right _ List.mem_cons_self⟩
      rcases List.mem_append.mp hp with hp | hp
      · exact .inl hp
      · rw [List.mem_singleton.mp hp]
        exact .inr ⟨.left r hx c.1, by show m + 1 + i = L + 1; omega⟩
    · rw [if_neg c]
      refine ⟨fun p hp => hp, fun p hp => .inl hp, fun y hy hc => ?_⟩
      cases hy
      have : (m + 1, i) ∈ seen ++ later := by
        by_cases z : (m + 1, i) ∈ seen ++ later
        · exact z
        · exact absurd ⟨hc, z⟩ c
      rcases List.mem_append.mp this with z | z
      · have : m + 1 + i ≤ L := hs _ z
        omega
      · exact z
theorem newR_is {one other : List Stp} {b : Int} {L : Nat} {seen later : List NN} {m i : Nat} (hs : ∀ p ∈ seen, p.1 + p.2 ≤ L) (r : RS one other b m i) (e : m + i = L) :
    (∀ p ∈ later, p ∈ newR one other b seen later m i) ∧ (∀ p ∈ newR one other b seen later m i, p ∈ later ∨ (RS one other b p.1 p.2 ∧ p.1 + p.2 = L + 1)) ∧
    ∀ x, other[i]? = some x → x.1 ≤ b + sumOf one other (m, i) → (m, i + 1) ∈ newR one other b seen later m i := by
  unfold newR
  cases hx : other[i]? with
  | none => exact ⟨fun p hp => hp, fun p hp => .inl hp, fun x z => nomatch z⟩
  | some x =>
    dsimp only
    by_cases c : x.1 ≤ b + (presum one m + presum other i) ∧ (m, i + 1) ∉ seen ++ later
    · rw [if_pos c]
      refine ⟨fun p hp => List.mem_append_left _ hp, fun p hp => ?_, fun y _ _ => List.mem_append_right _ List.mem_cons_self⟩
      rcases List.mem_append.mp hp with hp | hp
      · exact .inl hp
      · rw [List.mem_singleton.mp hp]
        exact .inr ⟨.right r hx c.1, by show m + (i + 1) = L + 1; omega⟩
    · rw [if_neg c]
      refine ⟨fun p hp => hp, fun p hp => .inl hp, fun y hy hc => ?_⟩
      cases hy
      have : (m, i + 1) ∈ seen ++ later := by
        by_cases z : (m, i + 1) ∈ seen ++ later
        · exact z
        · exact absurd ⟨hc, z⟩ c
      rcases List.mem_append.mp this with z | z
      · have : m + (i + 1) ≤ L := hs _ z
        omega
      · exact z
theorem mid_step {one other : List Stp} {b : Int} {L : Nat} {seen done later : List NN} {top0 top : Int} {p : NN} (hs : ∀ p ∈ seen, p.1 + p.2 ≤ L) (r : RS one other b p.1 p.2) (e : p.1 + p.2 = L)
    (h : Mid one other b L done later top0 top) : Mid one other b L (done ++ [p]) (bStep one other b seen (later, top) p).1 top0 (bStep one other b seen (later, top) p).2 := by
  obtain ⟨a1, a2, a3⟩ := newL_is (later := later) hs r e
  obtain ⟨b1, b2, b3⟩ := newR_is (later := newL one other b seen later p.1 p.2) hs r e
  have m := mx_le top (sumOf one other p)
  have hm : (bStep one other b seen (later, top) p).2 = mx top (sumOf one other p) := rfl
  have hl : (bStep one other b seen (later, top) p).1 = newR one other b seen (newL one other b seen later p.1 p.2) p.1 p.2 := rfl
  rw [hm, hl]
  refine ⟨fun q hq => ?_, fun q hq x hx hc => ?_, fun q hq x hx hc => ?_, fun q hq => ?_, by have := h.ge; omega, ?_⟩
  · rcases b2 q hq with z | z
    · rcases a2 q z with z | z
      · exact h.l q z
      · exact z
    · exact z
  · rcases List.mem_append.mp hq with z | z
    · exact b1 _ (a1 _ (h.left q z x hx hc))
    · rw [List.mem_singleton.mp z] at hx hc ⊢
      exact b1 _ (a3 x hx hc)
  · rcases List.mem_append.mp hq with z | z
    · exact b1 _ (a1 _ (h.right q z x hx hc))
    · rw [List.mem_singleton.mp z] at hx hc ⊢
      exact b3 x hx hc
  · rcases List.mem_append.mp hq with z | z
    · have := h.most q z
      omega
    · rw [List.mem_singleton.mp z]
      omega
  · rcases m.2.2 with z | z
    · rcases h.at' with y | ⟨q, hq, y⟩
      · exact .inl (by omega)
      · exact .inr ⟨q, List.mem_append_left _ hq, by omega⟩
    · exact .inr ⟨p, List.mem_append_right _ List.mem_cons_self, by omega⟩
theorem mid_all {one other : List Stp} {b : Int} {L : Nat} {seen : List NN} {top0 : Int} (hs : ∀ p ∈ seen, p.1 + p.2 ≤ L) : ∀ (front done later : List NN) (top : Int), (∀ p ∈ front, RS one other b p.1 p.2 ∧ p.1 + p.2 = L) →
    Mid one other b L done later top0 top → Mid one other b L (done ++ front) (front.foldl (bStep one other b seen) (later, top)).1 top0 (front.foldl (bStep one other b seen) (later, top)).2
  | [], done, later, top, _, h => by
    rw [List.append_nil]
    exact h
  | p :: front, done, later, top, hf, h => by
    have ih := mid_all hs front (done ++ [p]) _ _ (fun q hq => hf q (List.mem_cons_of_mem _ hq)) (mid_step hs (hf p List.mem_cons_self).1 (hf p List.mem_cons_self).2 h)
    rw [List.append_assoc] at ih
    exact ih
theorem mid0 (one other : List Stp) (b : Int) (L : Nat) (top : Int) : Mid one other b L [] [] top top :=
  ⟨fun p h => absurd h List.not_mem_nil, fun p h => absurd h List.not_mem_nil, fun p h => absurd h List.not_mem_nil, fun p h => absurd h List.not_mem_nil, Int.le_refl _, .inl rfl⟩
theorem lev_next {one other : List Stp} {b : Int} {L : Nat} {seen front : List NN} {top : Int} (h : Lev one other b L seen front top) :
    Lev one other b (L + 1) (seen ++ (bRound one other b seen front top).1) (bRound one other b seen front top).1 (bRound one other b seen front top).2 := by
  have g := mid_all (seen := seen) (fun p hp => (h.s p hp).2) front [] [] top h.f (mid0 one other b L top)
  rw [List.nil_append] at g
  change Mid one other b L front (bRound one other b seen front top).1 top (bRound one other b seen front top).2 at g
  generalize bRound one other b seen front top = r at g ⊢
  refine ⟨fun p hp => g.l p hp, fun p hp => ?_, fun m i rs e => ?_, fun m i rs e => ?_, ?_⟩
  · rcases List.mem_append.mp hp with hp | hp
    · exact ⟨(h.s p hp).1, by have := (h.s p hp).2; omega⟩
    · exact ⟨(g.l p hp).1, by have := (g.l p hp).2; omega⟩
  · cases rs with
    | zero => omega
    | left r0 h1 h2 => exact g.left _ (h.all _ _ r0 (by omega)) _ h1 h2
    | right r0 h1 h2 => exact g.right _ (h.all _ _ r0 (by omega)) _ h1 h2
  · by_cases z : m + i < L
    · exact Int.le_trans (h.most m i rs z) g.ge
    · exact g.most _ (h.all m i rs (by omega))
  · rcases g.at' with e | ⟨p, hp, e⟩
    · obtain ⟨m, i, r1, r2⟩ := h.at'
      exact ⟨m, i, r1, by rw [r2, e]⟩
    · exact ⟨p.1, p.2, (h.f p hp).1, e⟩
theorem RS.level {one other : List Stp} {b : Int} {m i L : Nat} (h : RS one other b m i) (e : L ≤ m + i) : ∃ m' i', RS one other b m' i' ∧ m' + i' = L := by
  induction h with
  | zero => exact ⟨0, 0, .zero, by omega⟩
  | @left m i x r h1 h2 ih =>
    by_cases z : L ≤ m + i
    · exact ih z
    · exact ⟨m + 1, i, .left r h1 h2, by omega⟩
  | @right m i x r h1 h2 ih =>
    by_cases z : L ≤ m + i
    · exact ih z
    · exact ⟨m, i + 1, .right r h1 h2, by omega⟩
theorem lev_end {one other : List Stp} {b : Int} {L : Nat} {seen : List NN} {top : Int} (h : Lev one other b L seen [] top) : ∀ m i, RS one other b m i → sumOf one other (m, i) ≤ top := fun m i r => by
  by_cases z : m + i < L
  · exact h.most m i r z
  · obtain ⟨m', i', r', e⟩ := r.level (Nat.le_of_not_lt z)
    exact absurd (h.all m' i' r' e) List.not_mem_nil
theorem lev_far {one other : List Stp} {b : Int} {L : Nat} {seen front : List NN} {top : Int} (h : Lev one other b L seen front top) (hl : one.length + other.length < L) : front = [] := by
  cases front with
  | nil => rfl
  | cons p f =>
    obtain ⟨r, e⟩ := h.f p List.mem_cons_self
    have := r.len
    omega
theorem bfs_is {one other : List Stp} {b : Int} : ∀ (n L : Nat) (seen front : List NN) (top : Int), Lev one other b L seen front top → one.length + other.length + 1 - L ≤ n →
    (∀ m i, RS one other b m i → sumOf one other (m, i) ≤ bfs one other b n seen front top) ∧ ∃ m i, RS one other b m i ∧ sumOf one other (m, i) = bfs one other b n seen front top
  | 0, L, seen, front, top, h, hn => by
    have hf := lev_far h (by omega)
    subst hf
    exact ⟨lev_end h, h.at'⟩
  | n + 1, L, seen, front, top, h, hn => by
    have e : bfs one other b (n + 1) seen front top = if front = [] then top else bfs one other b n (seen ++ (bRound one other b seen front top).1) (bRound one other b seen front top).1 (bRound one other b seen front top).2 := rfl
    rw [e]
    by_cases z : front = []
    · rw [if_pos z]
      subst z
      exact ⟨lev_end h, h.at'⟩
    · rw [if_neg z]
      exact bfs_is n (L + 1) _ _ _ (lev_next h) (by omega)
theorem lev0 (one other : List Stp) (b : Int) : Lev one other b 0 [(0, 0)] [(0, 0)] 0 := by
  refine ⟨fun p hp => ?_, fun p hp => ?_, fun m i _ e => ?_, fun m i _ e => by omega, ⟨0, 0, .zero, ?_⟩⟩
  · rw [List.mem_singleton.mp hp]
    exact ⟨.zero, rfl⟩
  · rw [List.mem_singleton.mp hp]
    exact ⟨.zero, Nat.le_refl _⟩
  · have e1 : m = 0 := by omega
    have e2 : i = 0 := by omega
    rw [e1, e2]
    exact List.mem_cons_self
  · unfold sumOf
    rw [presum_zero, presum_zero]
    rfl
def bothAtM (one other : List Stp) (b : Int) : Int := if 0 ≤ b then bfs one other b (one.length + other.length + 1) [(0, 0)] [(0, 0)] 0 else 0
/-- the stairs of both tell what both may win -/
theorem both_at (one other : List Stp) (b : Int) : gainM (bothM (stairsM one) (stairsM other)) b = bothAtM one other b := by
  unfold bothAtM
  by_cases hb : 0 ≤ b
  · rw [if_pos hb]
    obtain ⟨I, J, g, c, e⟩ := both_gain (stairsM one) (stairsM other) hb
    obtain ⟨h1, m, i, h2, h3⟩ := bfs_is (one.length + other.length + 1) 0 _ _ _ (lev0 one other b) (by omega)
    have up := h2.most hb g c
    obtain ⟨m', i', r, e1, e2, _, _⟩ := g.way
    have lo := h1 m' i' r
    unfold sumOf at h3 lo
    rw [e]
    have h3' : presum one m + presum other i = bfs one other b (one.length + other.length + 1) [(0, 0)] [(0, 0)] 0 := h3
    have lo' : presum one m' + presum other i' ≤ bfs one other b (one.length + other.length + 1) [(0, 0)] [(0, 0)] 0 := lo
    omega
  · rw [if_neg hb]
    exact both_gain0 _ _ (by omega)
/-! ### either way the same; no less than each -/
theorem far (s : List Stp) : ∃ n : Nat, ∀ x ∈ s, x.1 < (n : Int)
  := by
  induction s with
  | nil => exact ⟨0, fun x hx => absurd hx List.not_mem_nil⟩
  | cons a s ih =>
    obtain ⟨n, h⟩ := ih
    refine ⟨n + a.1.toNat + 1, fun x hx => ?_⟩
    rcases List.mem_cons.mp hx with e | e
    · rw [e]
      omega
    · have := h x e
      omega
theorem stairs_one {s t : List Stp} (us : Up s) (ut : Up t) (h : ∀ b, gainM s b = gainM t b) : s = t := by
  obtain ⟨n, h1⟩ := far s
  obtain ⟨m, h2⟩ := far t
  have p : ((List.range (n + m)).map fun i : Nat => (i : Int)).Pairwise (· < ·) := List.pairwise_map.mpr (List.pairwise_lt_range.imp fun {x y} l => by omega)
  have inn : ∀ x : Stp, 0 ≤ x.1 → x.1 < (n + m : Nat) → x.1 ∈ (List.range (n + m)).map fun i : Nat => (i : Int) := fun x l1 l2 => by
    refine List.mem_map.mpr ⟨x.1.toNat, List.mem_range.mpr (by omega), by omega⟩
  have e1 := walk_is us ((List.range (n + m)).map fun i : Nat => (i : Int)) [] s rfl p (fun x hx => inn x (us.2 x hx).1 (by have := h1 x hx; omega)) fun x hx => absurd hx List.not_mem_nil
  have e2 := walk_is ut ((List.range (n + m)).map fun i : Nat => (i : Int)) [] t rfl p (fun x hx => inn x (ut.2 x hx).1 (by have := h2 x hx; omega)) fun x hx => absurd hx List.not_mem_nil
  rw [funext h] at e1
  rw [← e1]
  exact e2
theorem Shut.swap {s t : List Stp} {b : Int} {i j : Nat} (h : Shut s t b i j) : Shut t s b j i := ⟨h.2, h.1⟩
theorem both_swap {s t : List Stp} (us : Up s) (ut : Up t) : bothM s t = bothM t s := by
  refine stairs_one (both_up us ut) (both_up ut us) fun b => ?_
  by_cases hb : 0 ≤ b
  · obtain ⟨I, J, g, c, e⟩ := both_gain s t hb
    obtain ⟨I', J', g', c', e'⟩ := both_gain t s hb
    have a1 := g.within us ut g'.swap c'.swap
    have a2 := g'.swap.within us ut g c
    have i1 : I = J' := by omega
    have i2 : J = I' := by omega
    rw [e, e', i1, i2]
    omega
  · rw [both_gain0 _ _ (by omega), both_gain0 _ _ (by omega)]
theorem RT.alone {s t : List Stp} (us : Up s) {c : Int} : ∀ {k : Nat} {x : Stp}, s[k]? = some x → x.1 ≤ c → RT s t c (k + 1) 0
  | 0, x, h, hc => .left .zero h (by show x.1 ≤ c + 0; omega)
  | k + 1, x, h, hc => by
    have hk : k + 1 < s.length := (List.getElem?_eq_some_iff.mp h).1
    have e : s[k]? = some s[k] := List.getElem?_eq_getElem (by omega)
    have p := (List.pairwise_iff_getElem.mp us.1 k (k + 1) (by omega) hk (by omega)).1
    rw [List.getElem?_eq_getElem hk] at h
    cases h
    exact .left (RT.alone us (k := k) e (by omega)) (List.getElem?_eq_getElem hk) (by show s[k + 1].1 ≤ c + 0; omega)
theorem both_more {s t : List Stp} (us : Up s) (ut : Up t) {x : Stp} (h : x ∈ s) : x.2 ≤ gainM (bothM s t) x.1 := by
  obtain ⟨k, hk⟩ := List.mem_iff_getElem?.mp h
  obtain ⟨I, J, g, c, e⟩ := both_gain s t (us.2 x h).1
  have a := (RT.alone (t := t) us hk (Int.le_refl _)).within us ut g c
  have := val_le us a.1 g.len.1
  rw [val_succ hk] at this
  have := val_nonneg ut g.len.2
  omega
/-! ### where one is less first -/
theorem last_most : ∀ {l : List Stp} {y : Stp}, l.Pairwise (fun x y => x.1 < y.1 ∧ x.2 < y.2) → y ∈ l → y.2 ≤ ((l.map (·.2)).getLast?).getD 0
  | l, y, p, h => by
    rcases List.eq_nil_or_concat l with hn | ⟨l0, z, hn⟩
    · subst hn
      exact absurd h List.not_mem_nil
    · rw [List.concat_eq_append] at hn
      subst hn
      rw [List.map_append, List.map_cons, List.map_nil, List.getLast?_concat]
      show y.2 ≤ z.2
      rcases List.mem_append.mp h with m | m
      · have := ((List.pairwise_append.mp p).2.2 y m z List.mem_cons_self).2
        omega
      · rw [List.mem_singleton.mp m]
        exact Int.le_refl _
theorem gain_ge {s : List Stp} (us : Up s) {y : Stp} {c : Int} (h : y ∈ s) (hc : y.1 ≤ c) : y.2 ≤ gainM s c :=
  last_most (us.1.sublist List.filter_sublist) (List.mem_filter.mpr ⟨h, decide_eq_true hc⟩)
theorem gain_last (s : List Stp) (b : Int) : gainM s b = 0 ∨ ∃ y ∈ s, y.1 ≤ b ∧ gainM s b = y.2 := by
  unfold gainM
  rcases List.eq_nil_or_concat (s.filter fun s => decide (s.1 ≤ b)) with hn | ⟨l0, z, hn⟩
  · rw [hn]
    exact .inl rfl
  · rw [List.concat_eq_append] at hn
    have hz : z ∈ s.filter fun s => decide (s.1 ≤ b) := by
      rw [hn]
      exact List.mem_append_right _ List.mem_cons_self
    obtain ⟨z1, z2⟩ := List.mem_filter.mp hz
    refine .inr ⟨z, z1, of_decide_eq_true z2, ?_⟩
    rw [hn, List.map_append, List.map_cons, List.map_nil, List.getLast?_concat]
    rfl
theorem gain_nonneg {s : List Stp} (us : Up s) (b : Int) : 0 ≤ gainM s b := by
  rcases gain_last s b with e | ⟨y, h, _, e⟩
  · omega
  · have := (us.2 y h).2
    omega
theorem gain_mono {s : List Stp} (us : Up s) {b c : Int} (h : b ≤ c) : gainM s b ≤ gainM s c := by
  rcases gain_last s b with e | ⟨y, m, l, e⟩
  · have := gain_nonneg us c
    omega
  · have := gain_ge us m (Int.le_trans l h)
    omega
theorem gain_here {s : List Stp} (us : Up s) {x : Stp} (h : x ∈ s) : gainM s x.1 = x.2 := by
  have h1 := gain_ge us h (Int.le_refl _)
  rcases gain_last s x.1 with e | ⟨y, m, l, e⟩
  · have := (us.2 x h).2
    omega
  · obtain ⟨i, hi⟩ := List.mem_iff_getElem?.mp h
    obtain ⟨j, hj⟩ := List.mem_iff_getElem?.mp m
    have li := (List.getElem?_eq_some_iff.mp hi).1
    have lj := (List.getElem?_eq_some_iff.mp hj).1
    have ei := (List.getElem?_eq_some_iff.mp hi).2
    have ej := (List.getElem?_eq_some_iff.mp hj).2
    rcases Nat.lt_trichotomy i j with z | z | z
    · have := (List.pairwise_iff_getElem.mp us.1 i j li lj z).1
      rw [ei, ej] at this
      omega
    · subst z
      rw [hi] at hj
      cases hj
      exact e
    · have := (List.pairwise_iff_getElem.mp us.1 j i lj li z).2
      rw [ei, ej] at this
      omega
def firstM (f g : Int → Int) : List Int → Option Int
  | [] => none
  | b :: bs => if f b < g b then some b else firstM f g bs
theorem first_none {f g : Int → Int} : ∀ {bs : List Int}, (∀ b ∈ bs, ¬ f b < g b) → firstM f g bs = none
  | [], _ => rfl
  | b :: bs, h => by
    show (if f b < g b then _ else _) = _
    rw [if_neg (h b List.mem_cons_self)]
    exact first_none fun c hc => h c (List.mem_cons_of_mem _ hc)
theorem first_some {f g : Int → Int} {b0 : Int} (h0 : f b0 < g b0) : ∀ {bs : List Int}, bs.Pairwise (· < ·) → b0 ∈ bs → (∀ b ∈ bs, b < b0 → ¬ f b < g b) → firstM f g bs = some b0
  | [], _, m, _ => absurd m List.not_mem_nil
  | b :: bs, p, m, h => by
    show (if f b < g b then _ else _) = _
    by_cases e : b = b0
    · subst e
      rw [if_pos h0]
    · have mb : b0 ∈ bs := by
        rcases List.mem_cons.mp m with z | z
        · exact absurd z.symm e
        · exact z
      have lt := (List.pairwise_cons.mp p).1 b0 mb
      rw [if_neg (h b List.mem_cons_self lt)]
      exact first_some h0 (List.pairwise_cons.mp p).2 mb fun c hc => h c (List.mem_cons_of_mem _ hc)
theorem lower_split (s : List Stp) : ∀ t : List Stp, (lowerM s t = none ∧ ∀ x ∈ t, ¬ gainM s x.1 < x.2) ∨ ∃ pre x suf, t = pre ++ x :: suf ∧ lowerM s t = some x.1 ∧ gainM s x.1 < x.2 ∧ ∀ y ∈ pre, ¬ gainM s y.1 < y.2
  | [] => .inl ⟨rfl, fun x h => absurd h List.not_mem_nil⟩
  | y :: t => by
    by_cases c : gainM s y.1 < y.2
    · refine .inr ⟨[], y, t, rfl, ?_, c, fun x h => absurd h List.not_mem_nil⟩
      unfold lowerM
      rw [List.filter_cons_of_pos (p := fun z : Stp => decide (gainM s z.1 < z.2)) (decide_eq_true c)]
      rfl
    · have e : lowerM s (y :: t) = lowerM s t := by
        unfold lowerM
        rw [List.filter_cons_of_neg (p := fun z : Stp => decide (gainM s z.1 < z.2)) (by rw [decide_eq_true_eq]; exact c)]
      rcases lower_split s t with ⟨h1, h2⟩ | ⟨pre, x, suf, h1, h2, h3, h4⟩
      · refine .inl ⟨e.trans h1, fun x h => ?_⟩
        rcases List.mem_cons.mp h with z | z
        · rw [z]
          exact c
        · exact h2 x z
      · refine .inr ⟨y :: pre, x, suf, by rw [h1]; rfl, e.trans h2, h3, fun z h => ?_⟩
        rcases List.mem_cons.mp h with q | q
        · rw [q]
          exact c
        · exact h4 z q
theorem first_lower {s t : List Stp} (us : Up s) (ut : Up t) {bs : List Int} (p : bs.Pairwise (· < ·)) (ht : ∀ x ∈ t, x.1 ∈ bs) : firstM (gainM s) (gainM t) bs = lowerM s t := by
  have low : ∀ b, (∀ y ∈ t, y.1 ≤ b → ¬ gainM s y.1 < y.2) → ¬ gainM s b < gainM t b := fun b h z => by
    rcases gain_last t b with e | ⟨y, m, l, e⟩
    · have := gain_nonneg us b
      omega
    · have := h y m l
      have := gain_mono us l
      omega
  rcases lower_split s t with ⟨h1, h2⟩ | ⟨pre, x, suf, h1, h2, h3, h4⟩
  · rw [h1]
    exact first_none fun b _ => low b fun y m _ => h2 y m
  · rw [h2]
    have mx : x ∈ t := by
      rw [h1]
      exact List.mem_append_right _ List.mem_cons_self
    refine first_some (by rw [gain_here ut mx]; exact h3) p (ht x mx) fun b _ lt => low b fun y m l => ?_
    rw [h1] at m
    rcases List.mem_append.mp m with z | z
    · exact h4 y z
    · have u := ut.1
      rw [h1] at u
      rcases List.mem_cons.mp z with q | q
      · rw [q] at l
        omega
      · have := ((List.pairwise_cons.mp (List.pairwise_append.mp u).2.1).1 y q).1
        omega
theorem lower_both {s t : List Stp} (us : Up s) (ut : Up t) : lowerM (bothM s t) s = none := by
  rcases lower_split (bothM s t) s with ⟨h1, _⟩ | ⟨pre, x, suf, h1, _, h3, _⟩
  · exact h1
  · have := both_more us ut (x := x) (by rw [h1]; exact List.mem_append_right _ List.mem_cons_self)
    omega
end K11

set_option maxHeartbeats 1000000
namespace K11
open PySem PySem.Spec PyProof.Rows L2 Evl VG
variable {P : Program} {w : World} {K : PySem.W.Frag} {mg : Str → Option Value} {base : Heap} {f : Addr} {fd : FuncData}
theorem cr_maxK {X : Cx} (K : PySem.W.Frag) (hc : X.calm = true) (h : X.K = K := by rfl) : CallR X (.builtin "max") (rMax K) := h ▸ cr_max hc
/-- a + b, lists of any standing -/
def rCatL (K : PySem.W.Frag) : R2 := fun x y H Q => ∃ l b xs zs, x = .ref l ∧ y = .ref b ∧ SqL K H l xs ∧ SqL K H b zs ∧ xs.length + zs.length ≤ sizeLine ∧ ∀ p, H p = none → Q (.ref p) (upd H p (.lst (xs ++ zs)))
theorem op_catLK {X : Cx} (K : PySem.W.Frag) (hK : X.K = K := by rfl) : OpR X (binaryOp .Add) (rCatL K) := by
  subst hK
  intro pins s σ H x y v u Q I rx ry h
  obtain ⟨l, b, xs, zs, rfl, rfl, hx, hz, hs, q⟩ := h
  cases rx
  cases ry
  obtain ⟨its, r, ⟨⟨c1, d1, t1, s1⟩, n1, e1, k1, k2, k3⟩, _⟩ := I.list hx
  obtain ⟨its2, r2, ⟨⟨c2, d2, t2, s2⟩, n2, e2, j1, j2, j3⟩, _⟩ := I.list hz
  have k1 : c1 = _ := k1
  have k2 : d1 = _ := k2
  have k3 : t1 = _ := k3
  have j1 : c2 = _ := j1
  have j2 : d2 = _ := j2
  have j3 : t2 = _ := j3
  subst k1 k2 k3 j1 j2 j3
  have z1 := r.length
  have z2 := r2.length
  refine concat_meets ⟨_, e1, rfl⟩ ⟨_, e2, rfl⟩ noFill_list_add seq_list_add PySem.F.slot_list_add PySem.F.entry_list_add (PySem.F.args_list_add_2 _ _)
    (PyProof.Rows.list_addW l b its.toArray its2.toArray n1 n2 _ _ s1 s2 (by rw [List.size_toArray, List.size_toArray]; omega)) ⟨e1, e2, ?_⟩
  rw [show its.toArray ++ its2.toArray = (its ++ its2).toArray by simp]
  exact ⟨.ref _, _, I.lnew (t' := s.toks) (r.append r2) (by rw [List.length_append]; omega), rfl, q _ I.fresh⟩
/-- the greatest of a and those of the list -/
def maxI : Int → List Int → Int
  | a, [] => a
  | a, b :: r => maxI (if b > a then b else a) r
theorem maxI_mem : ∀ (r : List Int) (a : Int), maxI a r ∈ a :: r
  | [], a => List.mem_cons_self ..
  | b :: r, a => by
    have h := maxI_mem r (if b > a then b else a)
    show maxI (if b > a then b else a) r ∈ _
    rcases List.mem_cons.mp h with h | h
    · rw [h]
      split
      · exact List.mem_cons_of_mem _ (List.mem_cons_self ..)
      · exact List.mem_cons_self ..
    · exact List.mem_cons_of_mem _ (List.mem_cons_of_mem _ h)
theorem maxI_le : ∀ (r : List Int) (a : Int), ∀ y ∈ a :: r, y ≤ maxI a r
  | [], a, y, h => by
    rw [List.mem_singleton.mp h]
    exact Int.le_refl _
  | b :: r, a, y, h => by
    have ih := maxI_le r (if b > a then b else a)
    have h0 := ih _ (List.mem_cons_self ..)
    show y ≤ maxI (if b > a then b else a) r
    rcases List.mem_cons.mp h with h | h
    · rw [h]
      refine Int.le_trans ?_ h0
      split <;> omega
    · rcases List.mem_cons.mp h with h | h
      · rw [h]
        refine Int.le_trans ?_ h0
        split <;> omega
      · exact ih y (List.mem_cons_of_mem _ h)
section
variable {σ : L2.St} {H : Hp} {ta tb : TE}
theorem ed_catL {ds es : List PyData} (ha : EvD K ta σ H (.list ds)) (hb : EvD K tb σ H (.list es)) (hl : ds.length + es.length ≤ 100000) : EvD K (tOp (rCatL K) ta tb) σ H (.list (ds ++ es)) :=
  ed_op ha hb fun x y H' e hx hy => by
    obtain ⟨a, xs, rfl, h1, h2⟩ := dp_lst hx
    obtain ⟨b, ys, rfl, h3, h4⟩ := dp_lst hy
    intro H1 e1 Q q
    have l1 := dpAll_len h2
    have l2 := dpAll_len h4
    refine ⟨a, b, xs, ys, rfl, rfl, ex_l e1 h1, ex_l e1 h3, sz_of (by omega), fun p hp => ?_⟩
    exact q _ _ (Ex.new hp) (.lst (.inl (.inl ((hid_new hp).trans upd_same))) (dpAll_same (hid_base e1 (Ex.new hp)) (dpAll_app h2 h4)))
theorem ed_maxL {z : Int} {ns : List Int} (ha : EvD K ta σ H (.list ((z :: ns).map .int))) : EvD K (tCB (rMax K) (tCons ta tNil)) σ H (.int (maxI z ns)) := fun H1 e Q q =>
  ha H1 e _ fun x H2 e2 hx => by
    obtain ⟨a, xs, rfl, h1, h2⟩ := dp_lst hx
    rw [vals_of_ints h2] at h1
    refine ⟨a, z :: ns, rfl, ex_l hid_ex h1, Nat.succ_pos _, fun m hm hle => ?_⟩
    have : m = maxI z ns := Int.le_antisymm (maxI_le ns z m hm) (hle _ (maxI_mem ns z))
    rw [this]
    exact q _ H2 e2 (.int _)
end

/-! ### _law_gain -/
abbrev s_law_gain : Stmt := top 47
theorem sc_law_gain : FnScope ["_law_stairs", "_law_base", "_law_low_end", "_law_gain_here"] ["_law_stairs", "_law_base"] (defScope s_law_gain) := ⟨rfl, rfl, rfl, by decide +kernel, rfl, by decide +kernel, by decide +kernel⟩
def lawGainM (st : List Stp) (b : Int) : Int := maxI 0 ((st.filter fun s => decide (s.1 ≤ b)).map (·.2))
def okLawGain : List PyData → PyData → Prop := fun ds d => ∃ st b, ds = [stepsT st, .int b] ∧ st.length ≤ 1000 ∧ d = .int (lawGainM st b)
theorem ok_law_gain (F : Fun K "_law_gain" "_law_gain" s_law_gain f fd) (B : Bltn mg) : FnG P w K mg base CX0 1 f fd ["_law_stairs", "_law_base"] (spOf K 2 okLawGain) := by
  refine okG F sc_law_gain (fun vs H Q E h => ?_) (fun cdv A outer s H vs Q E hcm hr h => ?_)
  · obtain ⟨_, _, _, h, _⟩ := h
    exact h
  · obtain ⟨Hv, ds, d, hl, e, hds, ⟨st, b, rfl, hsz, rfl⟩, q⟩ := h
    obtain ⟨v, u, rfl, h1, h2⟩ := dp2 hds
    cases h2
    refine ⟨_, (pss_one (ps_ret (pe_callB (cr_maxK K rfl) (by rfl) B.max bt_max (pa_cons (pe_op (op_catLK K) (pe_lst (pa_cons pe_int pa_nil)) (pe_lc (own := [(("_law_low_end" : Str), 2), (("_law_gain_here" : Str), 3)])  rfl sc_law_gain.nd (pi_tupK K (pv 0)) (blkOk_by (N := ["_law_stairs", "_law_base", "_law_low_end", "_law_gain_here"]) (sc := defScope s_law_gain) (by decide +kernel)) (fun _ _ _ _ _ => (pg_tupK K (n := 2) rfl (pgs_cons (pg_name (i := 2) sc_law_gain.nd rfl (Or.inl rfl)) (pgs_cons (pg_name (i := 3) sc_law_gain.nd rfl (Or.inl rfl)) pgs_nil)))) (fun _ _ _ _ _ => (pts_one (pt_cmpR op_le (pv 2) (pv 1) (nomark _)))) (fun _ _ _ _ _ => (pv 3)))) pa_nil)))), ?_⟩
    refine Runs.go (d := .int (lawGainM st b)) ?_ e q
    refine ru_ret (ed_maxL (ed_catL (ds := [.int 0]) (es := ((st.filter fun s => decide (s.1 ≤ b)).map (·.2)).map .int) (ed_lst (eda_cons ed_int eda_nil) (by show 1 ≤ 100000; decide)) ?_ ?_))
    · rw [List.map_map, ← range_filter_map st (fun s => decide (s.1 ≤ b)) (PyData.int ∘ fun s => s.2) (0, 0)]
      have hl : st.length = (st.map stepD).length := (List.length_map _).symm
      rw [hl]
      refine ed_lcTF _ _ (ed_var rfl h1) (by rw [← hl]; omega) ?_
      intro i x dx H' hdx e1 hx H'' e2 Qg k
      rw [List.getElem?_map] at hdx
      obtain ⟨⟨n, g⟩, hst, rfl⟩ := Option.map_eq_some_iff.mp hdx
      have e3 : st.getD i (0, 0) = (n, g) := by
        rw [List.getD_eq_getElem?_getD, hst]
        rfl
      obtain ⟨a, xs, rfl, s1, s2⟩ := dp_tup hx
      obtain ⟨y1, y2, rfl, v1, v2⟩ := dp2 s2
      cases v1
      cases v2
      refine ⟨a, _, rfl, sqT_same e2 s1, rfl, _, _, rfl, ?_⟩
      refine ⟨_, _, rfl, ?_⟩
      refine ⟨rfl, ?_⟩
      rw [e3] at k
      refine k _ _ ?_ (Ex.refl _) ?_ fun _ => ?_
      · rfl
      · exact et_bool (K := K) (ed_B0 (g := fun i j => decide (i ≤ j)) (ed_var rfl (.int n)) (ed_var rfl (.int b)))
      · exact ed_var rfl (.int g)
    · rw [List.length_map, List.length_map]
      have := List.length_filter_le (fun s => decide (s.1 ≤ b)) st
      show 1 + _ ≤ 100000
      omega
/-- of stairs it is what the program tells -/
theorem lawGain_is {st : List Stp} (h : Up st) (b : Int) : lawGainM st b = gainM st b := by
  unfold lawGainM gainM
  have hp : ((st.filter fun s => decide (s.1 ≤ b)).map (·.2)).Pairwise (· < ·) := by
    rw [List.pairwise_map]
    exact (h.1.filter _).imp fun h => h.2
  have h0 : ∀ x ∈ (st.filter fun s => decide (s.1 ≤ b)).map (·.2), 0 < x := fun x hx => by
    obtain ⟨s, hs, rfl⟩ := List.mem_map.mp hx
    exact (h.2 s (List.mem_filter.mp hs).1).2
  generalize (st.filter fun s => decide (s.1 ≤ b)).map (·.2) = ns at hp h0
  rcases List.eq_nil_or_concat ns with hn | ⟨n0, l, hn⟩
  · rw [hn]
    rfl
  · rw [List.concat_eq_append] at hn
    subst hn
    rw [List.getLast?_concat]
    show maxI 0 (n0 ++ [l]) = l
    refine Int.le_antisymm ?_ (maxI_le _ 0 l (List.mem_cons_of_mem _ (List.mem_append_right _ (List.mem_singleton_self _))))
    have hl := h0 l (List.mem_append_right _ (List.mem_singleton_self _))
    rcases List.mem_cons.mp (maxI_mem (n0 ++ [l]) 0) with g | g
    · rw [g]
      omega
    · rcases List.mem_append.mp g with g | g
      · exact Int.le_of_lt ((List.pairwise_append.mp hp).2.2 _ g l (List.mem_singleton_self _))
      · rw [List.mem_singleton.mp g]
        exact Int.le_refl _
end K11

set_option maxHeartbeats 1000000
namespace K11
open PySem PySem.Spec PyProof.Rows L2 Evl VG
variable {P : Program} {w : World} {K : PySem.W.Frag} {mg : Str → Option Value} {base : Heap} {f : Addr} {fd : FuncData}

/-! ### check_stairs -/
abbrev s_check_stairs : Stmt := top 26
theorem sc_check_stairs : FnScope ["stairs"] ["stairs"] (defScope s_check_stairs) := ⟨rfl, rfl, rfl, by decide +kernel, rfl, by decide +kernel, by decide +kernel⟩
def okIsStairs : List PyData → PyData → Prop := fun ds d => ∃ st, ds = [stepsT st] ∧ st.length ≤ 900 ∧ stairsOk st ∧ d = .bool true
theorem ok_check_stairs (F : Fun K "check_stairs" "check_stairs" s_check_stairs f fd) (D_is_stairs : Def P w K mg base 3 "is_stairs" ["value"] (spOf K 1 okIsStairs)) :
    FnG P w K mg base CX0 4 f fd ["stairs"] (spOf K 1 okCheckStairs) := by
  refine okG F sc_check_stairs (fun vs H Q E h => ?_) (fun cdv A outer s H vs Q E hcm hr h => ?_)
  · obtain ⟨_, _, _, h, _⟩ := h
    exact h
  · obtain ⟨Hv, ds, d, hl, e, hds, ⟨st, rfl, hsz, hok, rfl⟩, q⟩ := h
    obtain ⟨v, rfl, h1⟩ := dp1 hds
    refine ⟨_, (pss_one (ps_if (pt_not (pt_val (pe_d D_is_stairs hcm hr (by decide) (by rfl) (pa_cons (pv 0) pa_nil)))) (pss_one ps_never) pss_nil)), ?_⟩
    exact (et_not (a := true) (etB_bool (ed_call (eda_cons (ed_var rfl h1) eda_nil) (spD_of (n := 1) (ok := okIsStairs) ⟨st, rfl, hsz, hok, rfl⟩)))) H e _ fun H2 e2 => iteF (q _ H2 e2 .non)

/-! ### both_stairs, both -/
/-- the promise that both is to keep; what both_stairs makes is told by m -/
def okBothBy (m : List Stp → List Stp → List Stp) : List PyData → PyData → Prop := fun ds d => ∃ one other, ds = [stepsT one, stepsT other] ∧ one.length ≤ 400 ∧ other.length ≤ 400 ∧ stairsOk one ∧ stairsOk other ∧ d = stepsT (m one other)
abbrev s_both : Stmt := top 39
theorem sc_both : FnScope ["one", "other"] ["one", "other"] (defScope s_both) := ⟨rfl, rfl, rfl, by decide +kernel, rfl, by decide +kernel, by decide +kernel⟩
theorem ok_both {m : List Stp → List Stp → List Stp} (F : Fun K "both" "both" s_both f fd) (D_check_stairs : Def P w K mg base 4 "check_stairs" ["stairs"] (spOf K 1 okCheckStairs)) (D_both_stairs : Def P w K mg base 2 "both_stairs" ["one", "other"] (spOf K 2 (okBothBy m))) :
    FnG P w K mg base CX0 5 f fd ["one", "other"] (spOf K 2 (okBothBy m)) := by
  refine okG F sc_both (fun vs H Q E h => ?_) (fun cdv A outer s H vs Q E hcm hr h => ?_)
  · obtain ⟨_, _, _, h, _⟩ := h
    exact h
  · obtain ⟨Hv, ds, d, hl, e, hds, ⟨one, other, rfl, z1, z2, o1, o2, rfl⟩, q⟩ := h
    obtain ⟨v, u, rfl, h1, h2⟩ := dp2 hds
    refine ⟨_, (pss_cons (ps_expr (pe_d D_check_stairs hcm hr (by decide) (by rfl) (pa_cons (pv 0) pa_nil)))
      (pss_cons (ps_expr (pe_d D_check_stairs hcm hr (by decide) (by rfl) (pa_cons (pv 1) pa_nil)))
      (pss_one (ps_ret (pe_d D_both_stairs hcm hr (by decide) (by rfl) (pa_cons (pv 0) (pa_cons (pv 1) pa_nil))))))), ?_⟩
    refine Runs.go (d := stepsT (m one other)) ?_ e q
    refine ru_drop (ed_call (eda_cons (ed_var rfl h1) eda_nil) (spD_of (n := 1) (ok := okCheckStairs) ⟨one, rfl, by omega, o1, rfl⟩)) ?_
    refine ru_drop (ed_call (eda_cons (ed_var rfl h2) eda_nil) (spD_of (n := 1) (ok := okCheckStairs) ⟨other, rfl, by omega, o2, rfl⟩)) ?_
    exact ru_ret (ed_call (eda_cons (ed_var rfl h1) (eda_cons (ed_var rfl h2) eda_nil)) (spD_of (n := 2) (ok := okBothBy m) ⟨one, other, rfl, z1, z2, o1, o2, rfl⟩))
end K11

set_option maxHeartbeats 1000000
namespace K11
open PySem PySem.Spec PyProof.Rows L2 Evl VG
variable {P : Program} {w : World} {K : PySem.W.Frag} {mg : Str → Option Value} {base : Heap} {f : Addr} {fd : FuncData}

/-! ### is_stairs -/
abbrev s_is_stairs : Stmt := top 25
theorem sc_is_stairs : FnScope ["value", "pairs", "low", "high", "pair"] ["value"] (defScope s_is_stairs) := ⟨rfl, rfl, rfl, by decide +kernel, rfl, by decide +kernel, by decide +kernel⟩
theorem ok_is_stairs (F : Fun K "is_stairs" "is_stairs" s_is_stairs f fd) (B : Bltn mg) (B2 : Bltn2 mg) (D_is_integers : Def P w K mg base 2 "is_integers" ["value"] (spOf K 1 okIntegers)) :
    FnG P w K mg base CX0 3 f fd ["value"] (spOf K 1 okIsStairs) := by
  refine okG F sc_is_stairs (fun vs H Q E h => ?_) (fun cdv A outer s H vs Q E hcm hr h => ?_)
  · obtain ⟨_, _, _, h, _⟩ := h
    exact h
  · obtain ⟨Hv, ds, d, hl, e, hds, ⟨st, rfl, hsz, ⟨hok0, hok1⟩, rfl⟩, q⟩ := h
    obtain ⟨v, rfl, h1⟩ := dp1 hds
    refine ⟨_, (pss_cons (ps_if (PW.pt (pw_or (pt_not (pt_val (pe_callB (call_isBK K) (by rfl) B.isinstance bt_isinstance (pa_cons (pv 0) (pa_cons (pe_bltn (v := .ty "tuple") (by rfl) B.tuple bt_tuple rfl) pa_nil))))) (pw_or1 (pt_not (pt_val (pe_callB (cr_allK K rfl) (by rfl) B.all bt_all (pa_cons (pe_lc (own := [(("pair" : Str), 4)])  rfl sc_is_stairs.nd (pi_tup (pv 0)) (blkOk_by (N := ["value", "pairs", "low", "high", "pair"]) (sc := defScope s_is_stairs) (by decide +kernel)) (fun _ _ _ _ _ => (pg_name (i := 4) sc_is_stairs.nd rfl (Or.inl rfl))) (fun _ _ _ _ _ => pts_nil) (fun _ _ _ _ _ => (pe_d D_is_integers hcm hr (by decide) (by rfl) (pa_cons (pv 4) pa_nil)))) pa_nil))))))) (pss_one (ps_ret pe_bl)) pss_nil)
      (pss_cons (ps_if (PW.pt (pw_and (pt_cmpR op_gt (pe_callB (call_lenK K) (by rfl) B.len bt_len (pa_cons (pv 0) pa_nil)) pe_int (nomark _)) (pw_and1 (PW.pt (pw_or (pt_cmpR op_lt (pe_ix (ix_tupK K) (pe_ix (ix_tupK K) (pv 0) pe_int (fun _ _ => rfl)) pe_int (fun _ _ => rfl)) pe_int (nomark _)) (pw_or1 (pt_cmpR op_le (pe_ix (ix_tupK K) (pe_ix (ix_tupK K) (pv 0) pe_int (fun _ _ => rfl)) pe_int (fun _ _ => rfl)) pe_int (nomark _)))))))) (pss_one (ps_ret pe_bl)) pss_nil)
      (pss_cons (ps_set (i := 1) sc_is_stairs.nd rfl (Or.inl rfl) (pe_listZipK K rfl (pa_cons (pv 0) (pa_cons (pe_slice (sl_tupAK K) (pv 0) (po_some pe_int) po_none) pa_nil)) (by rfl) B.list bt_list (by rfl) B2.zip))
      (pss_one (ps_ret (pe_callB (cr_allK K rfl) (by rfl) B.all bt_all (pa_cons (pe_lc (own := [(("low" : Str), 2), (("high" : Str), 3)])  rfl sc_is_stairs.nd (pi_list (pv 1)) (blkOk_by (N := ["value", "pairs", "low", "high", "pair"]) (sc := defScope s_is_stairs) (by decide +kernel)) (fun _ _ _ _ _ => (pg_tupK K (n := 2) rfl (pgs_cons (pg_name (i := 2) sc_is_stairs.nd rfl (Or.inl rfl)) (pgs_cons (pg_name (i := 3) sc_is_stairs.nd rfl (Or.inl rfl)) pgs_nil)))) (fun _ _ _ _ _ => pts_nil) (fun _ _ _ _ _ => (pe_and (pe_cmpR op_lt (pe_ix (ix_tupK K) (pv 2) pe_int (fun _ _ => rfl)) (pe_ix (ix_tupK K) (pv 3) pe_int (fun _ _ => rfl)) (nomark _)) (pe_one (pe_cmpR op_lt (pe_ix (ix_tupK K) (pv 2) pe_int (fun _ _ => rfl)) (pe_ix (ix_tupK K) (pv 3) pe_int (fun _ _ => rfl)) (nomark _)))))) pa_nil))))))), ?_⟩
    refine Runs.go (d := .bool true) ?_ e q
    have hv : EvD K (tVar 0) [some v, none, none, none, none] Hv (.tuple (st.map stepD)) := ed_var rfl h1
    refine ru_when (b := false) (et_or (a := false) (b := false) (et_not (a := true) (etB_bool (ed_isB hv kb_tt))) fun _ => et_not (a := true) (etB_bool (ed_isb (b := (st.map fun _ => true).all id) ?_ (ed_all ?_)))) (fun z => nomatch z) fun _ => ?_
    · simp
    · rw [List.map_map]
      rw [← range_map_get st (PyData.bool ∘ fun _ => true) (0, 0)]
      have hl : st.length = (st.map stepD).length := (List.length_map _).symm
      rw [hl]
      refine ed_lcT _ hv (by rw [List.length_map]; omega) ?_
      intro i x dx H' hdx e1 hx H'' e2 Qg k
      rw [List.getElem?_map] at hdx
      obtain ⟨s1, hst, rfl⟩ := Option.map_eq_some_iff.mp hdx
      refine g_name rfl ?_ k
      exact ed_call (eda_cons (ed_var rfl hx) eda_nil) (spD_of ⟨s1, rfl, rfl⟩)
    refine ru_when (b := false) ?_ (fun z => nomatch z) fun _ => ?_
    · cases st with
      | nil => exact et_and (a := false) (b := false) (et_is (etI_gt (ed_lenT hv) ed_int) (by rfl)) fun z => nomatch z
      | cons s1 st =>
        obtain ⟨p1, p2⟩ := hok0 s1 rfl
        refine et_and (a := true) (b := false) (et_is (etI_gt (ed_lenT hv) ed_int) (decide_eq_true (by rw [List.length_map, List.length_cons]; omega))) fun _ => ?_
        refine et_or (a := false) (b := false) (et_is (etI_lt (ed_ixT (k := 0) (ed_ixT (k := 0) hv ed_int rfl) ed_int rfl) ed_int) (decide_eq_false (by omega))) fun _ => ?_
        exact et_bool (ed_isb (decide_eq_false (by omega)) (ed_B0 (g := fun i j => decide (i ≤ j)) (ed_ixT (k := 1) (ed_ixT (k := 0) hv ed_int rfl) ed_int rfl) ed_int))
    refine ru_set (ed_listZip (eda_cons hv (eda_cons (ed_slT hv (eo_int (K := K) ed_int) eo_none) eda_nil))) fun v' H' e' hv' => ?_
    rw [cut_tail] at hv'
    refine ru_ret (ed_isb (b := ((List.range ((((st.map stepD).zip ((st.map stepD).drop 1)).map fun p : PyData × PyData => PyData.tuple [p.1, p.2]).length)).map fun _ => true).all id) (by simp) (ed_all ?_))
    rw [List.map_map]
    refine ed_lcL _ (ed_var rfl hv') (by rw [List.length_map, List.length_zip, List.length_map]; omega) ?_
    intro i x dx H2 hdx e1 hx H3 e2 Qg k
    rw [List.getElem?_map] at hdx
    obtain ⟨⟨d1, d2⟩, hz, rfl⟩ := Option.map_eq_some_iff.mp hdx
    obtain ⟨z1, z2⟩ := List.getElem?_zip_eq_some.mp hz
    rw [List.getElem?_drop, Nat.add_comm] at z2
    rw [List.getElem?_map] at z1 z2
    obtain ⟨⟨n1, g1⟩, y1, y1'⟩ := Option.map_eq_some_iff.mp z1
    obtain ⟨⟨n2, g2⟩, y2, y2'⟩ := Option.map_eq_some_iff.mp z2
    have hok := hok1 i _ _ y1 y2
    have y1' : d1 = .tuple [.int n1, .int g1] := y1'.symm
    have y2' : d2 = .tuple [.int n2, .int g2] := y2'.symm
    subst y1'
    subst y2'
    obtain ⟨a, xs, rfl, s1, s2⟩ := dp_tup hx
    obtain ⟨u1, u2, rfl, v1, v2⟩ := dp2 s2
    refine ⟨a, _, rfl, sqT_same e2 s1, rfl, _, _, rfl, ?_⟩
    refine ⟨_, _, rfl, ?_⟩
    refine ⟨rfl, ?_⟩
    refine k _ _ rfl (Ex.refl _) ?_
    have w1 : EvD K (tVar 2) [some v, some v', some u1, some u2, none] H2 (.tuple [.int n1, .int g1]) := ed_var rfl v1
    have w2 : EvD K (tVar 3) [some v, some v', some u1, some u2, none] H2 (.tuple [.int n2, .int g2]) := ed_var rfl v2
    exact ed_and (b := true) (c := true) (ed_isb (decide_eq_true hok.1) (ed_B0 (g := fun i j => decide (i < j)) (ed_ixT (k := 0) w1 ed_int rfl) (ed_ixT (k := 0) w2 ed_int rfl))) fun _ =>
      ed_isb (decide_eq_true hok.2) (ed_B0 (g := fun i j => decide (i < j)) (ed_ixT (k := 1) w1 ed_int rfl) (ed_ixT (k := 1) w2 ed_int rfl))
end K11

set_option maxHeartbeats 2000000
namespace K11
open PySem PySem.Spec PyProof.Rows L2 Evl VG
variable {P : Program} {w : World} {K : PySem.W.Frag} {mg : Str → Option Value} {base : Heap} {f : Addr} {fd : FuncData}
/-- a = b = c = d = e = one value -/
def tAsg5 (te : TE) (g1 g2 g3 g4 g5 : TG) : TS := fun D σ H => te σ H fun x H1 => g1 x σ H1 fun σ1 H2 => g2 x σ1 H2 fun σ2 H3 => g3 x σ2 H3 fun σ3 H4 => g4 x σ3 H4 fun σ4 H5 => g5 x σ4 H5 D.nx
theorem ps_asg5 {X : Cx} {e t1 t2 t3 t4 t5 : Expr} {te : TE} {pos : Pos} {g1 g2 g3 g4 g5 : TG} (he : PE X e te) (h1 : PG X t1 g1) (h2 : PG X t2 g2) (h3 : PG X t3 g3) (h4 : PG X t4 g4) (h5 : PG X t5 g5)
    (ha : (assignEach [t1, t2, t3, t4, t5] X.env).map (·.2) = [assign t1 X.env, assign t2 X.env, assign t3 X.env, assign t4 X.env, assign t5 X.env] := by rfl)
    (hw : swappedStores [t1, t2, t3, t4, t5] e X.env = pure none := by rfl) : PS X (.Assign [t1, t2, t3, t4, t5] e pos) (tAsg5 te g1 g2 g3 g4 g5) := by
  refine ⟨fun pins s σ H D I h => ?_⟩
  refine wpAny_Assign_stores (thn (he.run pins s σ H _ I h) fun v s1 ⟨x, H1, I1, r1, q1⟩ => ?_) rfl hw
  rw [ha]
  refine wpAny_bind (wpAny_holding (thn (h1.run pins s1 σ H1 x v _ I1 r1 q1) fun _ s2 ⟨σ2, H2, I2, q2⟩ => ?_))
  refine wpAny_bind (wpAny_holding (thn (h2.run pins s2 σ2 H2 x v _ I2 r1 q2) fun _ s3 ⟨σ3, H3, I3, q3⟩ => ?_))
  refine wpAny_bind (wpAny_holding (thn (h3.run pins s3 σ3 H3 x v _ I3 r1 q3) fun _ s4 ⟨σ4, H4, I4, q4⟩ => ?_))
  refine wpAny_bind (wpAny_holding (thn (h4.run pins s4 σ4 H4 x v _ I4 r1 q4) fun _ s5 ⟨σ5, H5, I5, q5⟩ => ?_))
  exact thn (h5.run pins s5 σ5 H5 x v _ I5 r1 q5) fun _ s6 q => q
theorem cr_minLK {X : Cx} (K : PySem.W.Frag) (hc : X.calm = true) (h : X.K = K := by rfl) : CallR X (.builtin "min") (rMin K) := h ▸ cr_min hc

theorem etI_le {σ : L2.St} {H : Hp} {ta tb : TE} {i j : Int} (ha : EvD K ta σ H (.int i)) (hb : EvD K tb σ H (.int j)) : EvT (tTest (tOp (rI0 fun i j => .bl (decide (i ≤ j))) ta tb)) σ H (decide (i ≤ j)) := et_bool (ed_B0 (g := fun i j => decide (i ≤ j)) ha hb)
theorem ed_minL {σ : L2.St} {H : Hp} {ta : TE} {ns : List Int} {m : Int} (ha : EvD K ta σ H (.list (ns.map PyData.int))) (hm : m ∈ ns) (hl : ∀ y ∈ ns, m ≤ y) : EvD K (tCB (rMin K) (tCons ta tNil)) σ H (.int m) := fun H1 e Q q =>
  ha H1 e _ fun x H2 e2 hx => by
    obtain ⟨a, xs, rfl, h1, h2⟩ := dp_lst hx
    rw [vals_of_ints h2] at h1
    refine ⟨a, ns, rfl, ex_l hid_ex h1, List.length_pos_of_mem hm, fun z z1 z2 => ?_⟩
    have e : z = m := by
      have := z2 m hm
      have := hl z z1
      omega
    rw [e]
    exact q _ H2 e2 (.int _)
/-- what both may do next, the lesser of it -/
def minO (s t : List Stp) (i j : Nat) : Int := match s[i]?, t[j]? with
  | none, none => 0
  | some x, none => x.1 - val t j
  | none, some y => y.1 - val s i
  | some x, some y => mn (x.1 - val t j) (y.1 - val s i)
def wantsL (s t : List Stp) (i j : Nat) : List Int := ((s[i]?).toList).map fun x => x.1 - val t j
theorem minO_mem {s t : List Stp} {i j : Nat} (h : i < s.length ∨ j < t.length) : minO s t i j ∈ wantsL s t i j ++ wantsL t s j i ∧ ∀ y ∈ wantsL s t i j ++ wantsL t s j i, minO s t i j ≤ y := by
  unfold minO wantsL
  cases hx : s[i]? with
  | none =>
    have := List.getElem?_eq_none_iff.mp hx
    cases hy : t[j]? with
    | none =>
      have := List.getElem?_eq_none_iff.mp hy
      omega
    | some y => exact ⟨List.mem_cons_self, fun z hz => by
        rw [List.mem_singleton.mp hz]
        exact Int.le_refl _⟩
  | some x =>
    cases hy : t[j]? with
    | none => exact ⟨List.mem_cons_self, fun z hz => by
        rw [List.mem_singleton.mp hz]
        exact Int.le_refl _⟩
    | some y =>
      have l := mn_le (x.1 - val t j) (y.1 - val s i)
      show mn _ _ ∈ [_, _] ∧ _
      refine ⟨?_, fun z hz => ?_⟩
      · rcases l.2.2 with e | e
        · rw [e]
          exact List.mem_cons_self
        · rw [e]
          exact List.mem_cons_of_mem _ List.mem_cons_self
      · have hz : z ∈ [x.1 - val t j, y.1 - val s i] := hz
        show mn _ _ ≤ z
        rcases List.mem_cons.mp hz with e | e
        · rw [e]
          exact l.1
        · rw [List.mem_singleton.mp e]
          exact l.2.1
theorem bothL_left {s t : List Stp} {n i j : Nat} {b : Int} {fo : List Stp} {x : Stp} (hx : s[i]? = some x) (h : x.1 - val t j ≤ mx b (minO s t i j)) :
    bothL s t (n + 1) i j b fo = bothL s t n (i + 1) j (mx b (minO s t i j)) (putS fo (mx b (minO s t i j), x.2 + val t j)) := by
  unfold minO at h ⊢
  conv => lhs; unfold bothL
  rw [hx] at h ⊢
  cases hy : t[j]? with
  | none => rfl
  | some y =>
    rw [hy] at h
    exact if_pos h
theorem bothL_right {s t : List Stp} {n i j : Nat} {b : Int} {fo : List Stp} {y : Stp} (hy : t[j]? = some y) (h : ∀ x, s[i]? = some x → ¬ x.1 - val t j ≤ mx b (minO s t i j)) :
    bothL s t (n + 1) i j b fo = bothL s t n i (j + 1) (mx b (minO s t i j)) (putS fo (mx b (minO s t i j), val s i + y.2)) := by
  unfold minO at h ⊢
  conv => lhs; unfold bothL
  rw [hy] at h ⊢
  cases hx : s[i]? with
  | none => rfl
  | some x =>
    rw [hx] at h
    exact if_neg (h x rfl)
/-- what stands when a turn begins -/
def bothW (K : PySem.W.Frag) (Hv H : Hp) (l : Addr) (s t : List Stp) (va vb : V) (m : Nat) (σ : L2.St) (H' : Hp) : Prop :=
  ∃ (i j : Nat) (b : Int) (fo : List Stp) (ys : List V) (o8 o9 : Option V), m = s.length - i + (t.length - j) ∧ i ≤ s.length ∧ j ≤ t.length ∧
    σ = [some va, some vb, some (.ref l), some (.int (i : Nat)), some (.int (j : Nat)), some (.int b), some (.int (val s i)), some (.int (val t j)), o8, o9, none] ∧ Ex H H' ∧
    H' l = some (.lst ys) ∧ DpAll K (fun c => if c = l then none else hid Hv H H' c) ys (fo.map stepD) ∧ fo.length ≤ i + j ∧ bothL s t m i j b fo = bothM s t

/-! ### both_stairs -/
abbrev s_both_stairs : Stmt := top 38
theorem sc_both_stairs : FnScope ["one", "other", "found", "at", "its", "base", "mine", "yours", "wanted", "others", "pair"] ["one", "other"] (defScope s_both_stairs) := ⟨rfl, rfl, rfl, by decide +kernel, rfl, by decide +kernel, by decide +kernel⟩
theorem ok_both_stairs (F : Fun K "both_stairs" "both_stairs" s_both_stairs f fd) (B : Bltn mg) (D_put_pair : Def P w K mg base 1 "put_pair" ["found", "pair"] (spPut K)) :
    FnG P w K mg base CX0 2 f fd ["one", "other"] (spOf K 2 (okBothBy bothM)) := by
  refine okG F sc_both_stairs (fun vs H Q E h => ?_) (fun cdv A outer s H vs Q E hcm hr h => ?_)
  · obtain ⟨_, _, _, h, _⟩ := h
    exact h
  · obtain ⟨Hv, ds, d, hl, e, hds, ⟨one, other, rfl, z1, z2, o1, o2, rfl⟩, q⟩ := h
    obtain ⟨va, vb, rfl, h1, h2⟩ := dp2 hds
    refine ⟨_, (pss_cons (ps_set (i := 2) sc_both_stairs.nd rfl (Or.inl rfl) (pe_lst pa_nil))
      (pss_cons (ps_asg5 pe_int (pg_name (i := 3) sc_both_stairs.nd rfl (Or.inl rfl)) (pg_name (i := 4) sc_both_stairs.nd rfl (Or.inl rfl)) (pg_name (i := 5) sc_both_stairs.nd rfl (Or.inl rfl)) (pg_name (i := 6) sc_both_stairs.nd rfl (Or.inr rfl)) (pg_name (i := 7) sc_both_stairs.nd rfl (Or.inr rfl)))
      (pss_cons (ps_while PassesOwn.never (PW.pt (pw_or (pt_cmpR op_lt (pv 3) (pe_callB (call_lenK K) (by rfl) B.len bt_len (pa_cons (pv 0) pa_nil)) (nomark _)) (pw_or1 (pt_cmpR op_lt (pv 4) (pe_callB (call_lenK K) (by rfl) B.len bt_len (pa_cons (pv 1) pa_nil)) (nomark _))))) (pss_cons (ps_setLc (i := 8) (own := [(("pair" : Str), 10)])  rfl sc_both_stairs.nd rfl rfl (sw_true rfl rfl rfl (by decide +kernel)) (pi_tup (pe_slice (sl_tupAK K) (pv 0) (po_some (pv 3)) (po_some (pe_op op_add (pv 3) pe_int)))) (blkOk_by (N := ["one", "other", "found", "at", "its", "base", "mine", "yours", "wanted", "others", "pair"]) (sc := defScope s_both_stairs) (by decide +kernel)) (fun _ _ _ _ _ => (pg_name (i := 10) sc_both_stairs.nd rfl (Or.inl rfl))) (fun _ _ _ _ _ => pts_nil) (fun _ _ _ _ _ => (pe_op op_sub (pe_ix (ix_tupK K) (pv 10) pe_int (fun _ _ => rfl)) (pv 7))))
      (pss_cons (ps_setLc (i := 9) (own := [(("pair" : Str), 10)])  rfl sc_both_stairs.nd rfl rfl (sw_true rfl rfl rfl (by decide +kernel)) (pi_tup (pe_slice (sl_tupAK K) (pv 1) (po_some (pv 4)) (po_some (pe_op op_add (pv 4) pe_int)))) (blkOk_by (N := ["one", "other", "found", "at", "its", "base", "mine", "yours", "wanted", "others", "pair"]) (sc := defScope s_both_stairs) (by decide +kernel)) (fun _ _ _ _ _ => (pg_name (i := 10) sc_both_stairs.nd rfl (Or.inl rfl))) (fun _ _ _ _ _ => pts_nil) (fun _ _ _ _ _ => (pe_op op_sub (pe_ix (ix_tupK K) (pv 10) pe_int (fun _ _ => rfl)) (pv 6))))
      (pss_cons (ps_set (i := 5) sc_both_stairs.nd rfl (Or.inl rfl) (pe_callB (call_max2 rfl) (by rfl) B.max bt_max (pa_cons (pv 5) (pa_cons (pe_callB (cr_minLK K rfl) (by rfl) B.min bt_min (pa_cons (pe_op (op_catLK K) (pv 8) (pv 9)) pa_nil)) pa_nil))))
      (pss_cons (ps_if (PW.pt (pw_and (pt_truth (pv 8) (by intro _; rfl)) (pw_and1 (pt_cmpR op_le (pe_ix (ix_listK K) (pv 8) pe_int (fun _ _ => rfl)) (pv 5) (nomark _))))) (pss_cons (ps_set (i := 6) sc_both_stairs.nd rfl (Or.inr rfl) (pe_ix (ix_tupK K) (pe_ix (ix_tupK K) (pv 0) (pv 3) (fun _ _ => rfl)) pe_int (fun _ _ => rfl)))
      (pss_one (ps_aug (i := 3) sc_both_stairs.nd rfl (Or.inl rfl) pe_int ip_add))) (pss_cons (ps_set (i := 7) sc_both_stairs.nd rfl (Or.inr rfl) (pe_ix (ix_tupK K) (pe_ix (ix_tupK K) (pv 1) (pv 4) (fun _ _ => rfl)) pe_int (fun _ _ => rfl)))
      (pss_one (ps_aug (i := 4) sc_both_stairs.nd rfl (Or.inl rfl) pe_int ip_add))))
      (pss_one (ps_expr (pe_d D_put_pair hcm hr (by decide) (by rfl) (pa_cons (pv 2) (pa_cons (pe_tup (pa_cons (pv 5) (pa_cons (pe_op op_add (pv 6) (pv 7)) pa_nil))) pa_nil))))))))))
      (pss_one (ps_ret (pe_callTy call_tuple_of (by rfl) B.tuple bt_tuple (pa_cons (pv 2) pa_nil))))))), ?_⟩
    refine ⟨by show 0 ≤ sizeLine; decide, fun l hl => ?_⟩
    refine ⟨bothW K Hv H l one other va vb, ⟨_, 0, 0, 0, [], [], none, none, rfl, Nat.zero_le _, Nat.zero_le _, rfl, Ex.new hl, upd_same, .nil, Nat.le_refl _, rfl⟩, ?_⟩
    rintro m σ H0 ⟨i, j, b, fo, ys, o8, o9, hm, hi, hj, rfl, e0, hl0, hys, hfo, hb⟩
    have ev0 : Ex Hv H0 := e.trans e0
    have hva : ∀ {σ' : L2.St} {Hx : Hp}, σ'[0]? = some (some va) → Ex Hv Hx → EvD K (tVar 0) σ' Hx (.tuple (one.map stepD)) := fun h5 e5 => ed_var h5 (dp_same e5 h1)
    have hvb : ∀ {σ' : L2.St} {Hx : Hp}, σ'[1]? = some (some vb) → Ex Hv Hx → EvD K (tVar 1) σ' Hx (.tuple (other.map stepD)) := fun h5 e5 => ed_var h5 (dp_same e5 h2)
    refine (et_is (b := decide (i < one.length ∨ j < other.length)) (et_or (etI_lt (ed_var (K := K) rfl (.int _)) (ed_lenT (hva rfl (Ex.refl _)))) fun _ => etI_lt (ed_var (K := K) rfl (.int _)) (ed_lenT (hvb rfl (Ex.refl _)))) ?_) H0 ev0 _ fun H1 e1 => ?_
    · rw [List.length_map, List.length_map]
      by_cases c1 : i < one.length
      · have : ((i : Nat) : Int) < (one.length : Int) := by omega
        simp [c1, this]
      · have : ¬ ((i : Nat) : Int) < (one.length : Int) := by omega
        by_cases c2 : j < other.length
        · have c3 : ((j : Nat) : Int) < (other.length : Int) := by omega
          simp [c1, c2, this, c3]
        · have c3 : ¬ ((j : Nat) : Int) < (other.length : Int) := by omega
          simp [c1, c2, this, c3]
    by_cases hij : i < one.length ∨ j < other.length
    case neg =>
      rw [decide_eq_false hij]
      refine iteF ?_
      have hm0 : m = 0 := by omega
      subst hm0
      have hfo2 : fo = bothM one other := hb
      have hl1 := e1 _ _ hl0
      refine ⟨_, rfl, l, ys, rfl, .inl ⟨SqL.of hl1, fun p hp => ?_⟩⟩
      refine q _ _ ((e0.trans e1).trans (Ex.new hp)) ?_
      rw [← hfo2]
      refine .tup (.inl (.inl ((hid_new (ex_none (e0.trans e1) hp)).trans upd_same))) (dpAll_same (fun c o hc => ?_) hys)
      have hc : (if c = l then none else hid Hv H H0 c) = some o := hc
      by_cases z : c = l
      · rw [if_pos z] at hc
        cases hc
      · rw [if_neg z] at hc
        exact hid_on (e1.trans (Ex.new hp)) _ _ hc
    rw [decide_eq_true hij]
    refine iteT ?_
    obtain ⟨m, rfl⟩ : ∃ m', m = m' + 1 := ⟨m - 1, by omega⟩
    refine ⟨fun σ' H' => ∃ m', m' < m + 1 ∧ bothW K Hv H l one other va vb m' σ' H', fun σ' H' n => n, ?_⟩
    have wants : ∀ (s t : List Stp) (k k' : Nat), (wantsL s t k k').map PyData.int = ((s[k]?).toList).map fun x => PyData.int (x.1 - val t k') := fun s t k k' => by
      unfold wantsL
      rw [List.map_map]
      rfl
    refine qs_set (K := K) (H0 := Hv) (d := .list ((wantsL one other i j).map .int)) ?_ (ev0.trans e1) fun v8 H2 e2 hv8 => ?_
    · rw [wants]
      have hd := ed_slT (hva rfl (Ex.refl Hv)) (eo_int (K := K) (H := Hv) (σ := [some va, some vb, some (.ref l), some (.int (i : Nat)), some (.int (j : Nat)), some (.int b), some (.int (val one i)), some (.int (val other j)), o8, o9, none]) (ed_var (i := 3) rfl (.int _))) (eo_int (K := K) (ed_I0 (g := fun i j => i + j) (ed_var (K := K) (i := 3) rfl (.int _)) (ed_int (i := 1))))
      rw [cut_one, List.getElem?_map] at hd
      cases hs : one[i]? with
      | none =>
        rw [hs] at hd
        exact ed_lcT (fun _ => .none) hd (Nat.zero_le _) fun k x dx H' hdx => by simp at hdx
      | some x0 =>
        rw [hs] at hd
        refine ed_lcT (fun _ => PyData.int (x0.1 - val other j)) hd (by show 1 ≤ _; omega) ?_
        intro k x dx H' hdx e5 hx H'' e6 Qg kk
        have hdx : [stepD x0][k]? = some dx := hdx
        have hk : k = 0 := by
          have := (List.getElem?_eq_some_iff.mp hdx).1
          rw [List.length_singleton] at this
          omega
        subst hk
        cases hdx
        refine g_name rfl ?_ kk
        exact ed_I0 (g := fun i j => i - j) (ed_ixT (k := 0) (ed_var rfl hx) ed_int rfl) (ed_var rfl (.int _))
    refine qs_set (K := K) (H0 := Hv) (d := .list ((wantsL other one j i).map .int)) ?_ ((ev0.trans e1).trans e2) fun v9 H3 e3 hv9 => ?_
    · rw [wants]
      have hd := ed_slT (hvb rfl (Ex.refl Hv)) (eo_int (K := K) (H := Hv) (σ := [some va, some vb, some (.ref l), some (.int (i : Nat)), some (.int (j : Nat)), some (.int b), some (.int (val one i)), some (.int (val other j)), some v8, o9, none]) (ed_var (i := 4) rfl (.int _))) (eo_int (K := K) (ed_I0 (g := fun i j => i + j) (ed_var (K := K) (i := 4) rfl (.int _)) (ed_int (i := 1))))
      rw [cut_one, List.getElem?_map] at hd
      cases hs : other[j]? with
      | none =>
        rw [hs] at hd
        exact ed_lcT (fun _ => .none) hd (Nat.zero_le _) fun k x dx H' hdx => by simp at hdx
      | some x0 =>
        rw [hs] at hd
        refine ed_lcT (fun _ => PyData.int (x0.1 - val one i)) hd (by show 1 ≤ _; omega) ?_
        intro k x dx H' hdx e5 hx H'' e6 Qg kk
        have hdx : [stepD x0][k]? = some dx := hdx
        have hk : k = 0 := by
          have := (List.getElem?_eq_some_iff.mp hdx).1
          rw [List.length_singleton] at this
          omega
        subst hk
        cases hdx
        refine g_name rfl ?_ kk
        exact ed_I0 (g := fun i j => i - j) (ed_ixT (k := 0) (ed_var rfl hx) ed_int rfl) (ed_var rfl (.int _))
    have b8 : Dp K (hid Hv H1 H3) v8 (.list ((wantsL one other i j).map .int)) := dp_same (hid_on e3) hv8
    have b9 : Dp K (hid Hv H1 H3) v9 (.list ((wantsL other one j i).map .int)) := dp_same (hid_late e2) hv9
    have bv : Ex Hv (hid Hv H1 H3) := hid_base (ev0.trans e1) (e2.trans e3)
    obtain ⟨mo1, mo2⟩ := minO_mem (s := one) (t := other) (i := i) (j := j) hij
    refine qs_setI (K := K) (z := mx b (minO one other i j)) (H0 := hid Hv H1 H3) (ed_max2 (ed_var rfl (.int _)) (ed_minL (by rw [List.map_append]; exact ed_catL (ed_var rfl b8) (ed_var rfl b9) (by
      unfold wantsL
      rw [List.length_map, List.length_map, List.length_map, List.length_map]
      cases one[i]? <;> cases other[j]? <;> simp)) mo1 mo2)) hid_ex fun H4 e4 => ?_
    have e14 : Ex H0 H4 := ((e1.trans e2).trans e3).trans e4
    by_cases hc : ∃ x, one[i]? = some x ∧ x.1 - val other j ≤ mx b (minO one other i j)
    · obtain ⟨x, hx, hxc⟩ := hc
      have hw : wantsL one other i j = [x.1 - val other j] := by
        unfold wantsL
        rw [hx]
        rfl
      rw [hw] at b8
      have hfin := bothL_left (n := m) (fo := fo) hx hxc
      rw [hb] at hfin
      have hfin := hfin.symm
      have hil : i < one.length := (List.getElem?_eq_some_iff.mp hx).1
      have hxd : (one.map stepD)[i]? = some (stepD x) := by
        rw [List.getElem?_map, hx]
        rfl
      refine qs_if (b := true) (H0 := hid Hv H1 H3) (et_and (a := true) (b := true) (et_truthL (ed_var rfl b8)) fun _ => et_is (etI_le (ed_ixL (k := 0) (ed_var rfl b8) ed_int rfl) (ed_var rfl (.int _))) (decide_eq_true hxc)) (hid_ex.trans e4) (fun _ H5 e5 => ?_) fun z => nomatch z
      have e15 : Ex H0 H5 := e14.trans e5
      have hl5 := e15 _ _ hl0
      refine qs_setI (K := K) (z := x.2) (H0 := Hv) (ed_ixT (k := 1) (ds := [.int x.1, .int x.2]) (ed_ixT (k := i) (hva rfl (Ex.refl _)) (ed_var rfl (.int _)) hxd) ed_int rfl) (ev0.trans e15) fun H6 e6 => ?_
      have e15 : Ex H0 H6 := e15.trans e6
      have hl5 := e15 _ _ hl0
      clear e6
      refine ⟨_, rfl, _, _, rfl, rfl, ?_⟩
      rw [show x.2 = val one (i + 1) from (val_succ hx).symm] at hfin ⊢
      generalize H6 = H5 at e15 hl5 ⊢
      refine ⟨_, rfl, _, rfl, _, rfl, _, rfl, _, _, rfl, rfl, (by show 2 ≤ sizeLine; decide), fun p hp => ?_⟩
      have npl : p ≠ l := fun z => by
        rw [z, hl5] at hp
        cases hp
      have e05 : Ex H0 (upd H5 p (.tup [.int (mx b (minO one other i j)), .int (val one (i + 1) + val other j)])) := e15.trans (Ex.new hp)
      have hpH : H p = none := ex_none (e0.trans e15) hp
      refine ⟨sans l _, l, .ref p, ys, fo.map fun e => (e.1, [.int e.2]), (mx b (minO one other i j)), [.int (val one (i + 1) + val other j)], rfl, (upd_ne npl.symm).trans hl5, sans_ex, ?_, ?_, ?_, fun H3 h3 hl3 => ?_⟩
      · rw [List.map_map]
        refine dpAll_same (fun c o hc => ?_) hys
        have hc : (if c = l then none else hid Hv H H0 c) = some o := hc
        by_cases z : c = l
        · rw [if_pos z] at hc
          cases hc
        · rw [if_neg z] at hc
          exact (sans_at z).trans (e05 _ _ (hid_some hc).1)
      · exact .tup (.inl (.inl ((sans_at npl).trans upd_same))) (.cons (.int _) (.cons (.int _) .nil))
      · have := dpAll_len hys
        rw [List.length_map] at this
        omega
      · rw [lastIs_map] at hl3
        refine ⟨m, Nat.lt_succ_self _, (i + 1), j, (mx b (minO one other i j)), putS fo ((mx b (minO one other i j)), val one (i + 1) + val other j), _, _, _, by omega, by omega, by omega, rfl, fun c o hc => ?_, hl3, ?_, ?_, hfin⟩
        · exact h3 c o (ne_of_none hc hl) (e05 _ _ (e0 _ _ hc))
        · unfold putS
          rw [putV_map]
          refine dpAll_put _ (dpAll_same (fun c o hc => ?_) hys) ?_
          · have hc : (if c = l then none else hid Hv H H0 c) = some o := hc
            show (if c = l then none else hid Hv H H3 c) = some o
            by_cases z : c = l
            · rw [if_pos z] at hc
              cases hc
            · rw [if_neg z] at hc ⊢
              obtain ⟨g1, g2⟩ := hid_some hc
              exact (hid_see g2).trans (h3 c o z (e05 _ _ g1))
          · refine .tup (.inl (.inl ?_)) (.cons (.int _) (.cons (.int _) .nil))
            show (if p = l then none else hid Hv H H3 p) = _
            rw [if_neg npl, hid_new hpH]
            exact h3 p _ npl upd_same
        · exact Nat.le_trans (putV_len _ _ _) (by omega)
    · have hno : ∀ x, one[i]? = some x → ¬ x.1 - val other j ≤ mx b (minO one other i j) := fun x hx hxc => hc ⟨x, hx, hxc⟩
      have hjl : j < other.length := by
        by_cases hjl : j < other.length
        · exact hjl
        · have hil : i < one.length := by omega
          have hx := List.getElem?_eq_getElem hil
          have hy : other[j]? = none := List.getElem?_eq_none (by omega)
          have := hno _ hx
          have h7 : minO one other i j = one[i].1 - val other j := by
            unfold minO
            rw [hx, hy]
          have := mx_le b (minO one other i j)
          omega
      obtain ⟨y, hy⟩ : ∃ y, other[j]? = some y := ⟨_, List.getElem?_eq_getElem hjl⟩
      have hfin := bothL_right (n := m) (fo := fo) hy hno
      rw [hb] at hfin
      have hfin := hfin.symm
      have hyd : (other.map stepD)[j]? = some (stepD y) := by
        rw [List.getElem?_map, hy]
        rfl
      refine qs_if (b := false) (H0 := hid Hv H1 H3) ?_ (hid_ex.trans e4) (fun z => nomatch z) fun _ H5 e5 => ?_
      · cases hx : one[i]? with
        | none =>
          have hw : wantsL one other i j = [] := by
            unfold wantsL
            rw [hx]
            rfl
          rw [hw] at b8
          exact et_and (a := false) (b := false) (et_truthL (ed_var rfl b8)) fun z => nomatch z
        | some x =>
          have hw : wantsL one other i j = [x.1 - val other j] := by
            unfold wantsL
            rw [hx]
            rfl
          rw [hw] at b8
          exact et_and (a := true) (b := false) (et_truthL (ed_var rfl b8)) fun _ => et_is (etI_le (ed_ixL (k := 0) (ed_var rfl b8) ed_int rfl) (ed_var rfl (.int _))) (decide_eq_false (hno x hx))
      have e15 : Ex H0 H5 := e14.trans e5
      refine qs_setI (K := K) (z := y.2) (H0 := Hv) (ed_ixT (k := 1) (ds := [.int y.1, .int y.2]) (ed_ixT (k := j) (hvb rfl (Ex.refl _)) (ed_var rfl (.int _)) hyd) ed_int rfl) (ev0.trans e15) fun H6 e6 => ?_
      have e15 : Ex H0 H6 := e15.trans e6
      have hl5 := e15 _ _ hl0
      clear e6
      refine ⟨_, rfl, _, _, rfl, rfl, ?_⟩
      rw [show y.2 = val other (j + 1) from (val_succ hy).symm] at hfin ⊢
      generalize H6 = H5 at e15 hl5 ⊢
      refine ⟨_, rfl, _, rfl, _, rfl, _, rfl, _, _, rfl, rfl, (by show 2 ≤ sizeLine; decide), fun p hp => ?_⟩
      have npl : p ≠ l := fun z => by
        rw [z, hl5] at hp
        cases hp
      have e05 : Ex H0 (upd H5 p (.tup [.int (mx b (minO one other i j)), .int (val one i + val other (j + 1))])) := e15.trans (Ex.new hp)
      have hpH : H p = none := ex_none (e0.trans e15) hp
      refine ⟨sans l _, l, .ref p, ys, fo.map fun e => (e.1, [.int e.2]), (mx b (minO one other i j)), [.int (val one i + val other (j + 1))], rfl, (upd_ne npl.symm).trans hl5, sans_ex, ?_, ?_, ?_, fun H3 h3 hl3 => ?_⟩
      · rw [List.map_map]
        refine dpAll_same (fun c o hc => ?_) hys
        have hc : (if c = l then none else hid Hv H H0 c) = some o := hc
        by_cases z : c = l
        · rw [if_pos z] at hc
          cases hc
        · rw [if_neg z] at hc
          exact (sans_at z).trans (e05 _ _ (hid_some hc).1)
      · exact .tup (.inl (.inl ((sans_at npl).trans upd_same))) (.cons (.int _) (.cons (.int _) .nil))
      · have := dpAll_len hys
        rw [List.length_map] at this
        omega
      · rw [lastIs_map] at hl3
        refine ⟨m, Nat.lt_succ_self _, i, (j + 1), (mx b (minO one other i j)), putS fo ((mx b (minO one other i j)), val one i + val other (j + 1)), _, _, _, by omega, by omega, by omega, rfl, fun c o hc => ?_, hl3, ?_, ?_, hfin⟩
        · exact h3 c o (ne_of_none hc hl) (e05 _ _ (e0 _ _ hc))
        · unfold putS
          rw [putV_map]
          refine dpAll_put _ (dpAll_same (fun c o hc => ?_) hys) ?_
          · have hc : (if c = l then none else hid Hv H H0 c) = some o := hc
            show (if c = l then none else hid Hv H H3 c) = some o
            by_cases z : c = l
            · rw [if_pos z] at hc
              cases hc
            · rw [if_neg z] at hc ⊢
              obtain ⟨g1, g2⟩ := hid_some hc
              exact (hid_see g2).trans (h3 c o z (e05 _ _ g1))
          · refine .tup (.inl (.inl ?_)) (.cons (.int _) (.cons (.int _) .nil))
            show (if p = l then none else hid Hv H H3 p) = _
            rw [if_neg npl, hid_new hpH]
            exact h3 p _ npl upd_same
        · exact Nat.le_trans (putV_len _ _ _) (by omega)
end K11

set_option maxHeartbeats 2000000
namespace K11
open PySem PySem.Spec PyProof.Rows L2 Evl VG
variable {P : Program} {w : World} {K : PySem.W.Frag} {mg : Str → Option Value} {base : Heap} {f : Addr} {fd : FuncData}

/-! ### _law_stairs_by -/
abbrev s_law_stairs_by : Stmt := top 50
theorem sc_law_stairs_by : FnScope ["_law_steps_here", "_law_most", "_law_base", "_law_found", "_law_top", "_law_gain_here"] ["_law_steps_here", "_law_most"] (defScope s_law_stairs_by) := ⟨rfl, rfl, rfl, by decide +kernel, rfl, by decide +kernel, by decide +kernel⟩
def okLawStairsBy : List PyData → PyData → Prop := fun ds d => ∃ sts m, ds = [stepsT sts, .int m] ∧ sts.length ≤ 50 ∧ (∀ b ∈ basesM 0 0 sts, b ≤ m) ∧ 0 ≤ m ∧ d = stepsT (stairsM sts)
theorem insU_len (x : Int) : ∀ l : List Int, (insU x l).length ≤ l.length + 1
  | [] => Nat.le_refl _
  | y :: r => by
    show (if _ then _ else _ : List Int).length ≤ _
    split
    · exact Nat.le_refl _
    · split
      · exact Nat.le_succ _
      · exact Nat.succ_le_succ (insU_len x r)
theorem sset_len : ∀ l : List Int, (ssetM l).length ≤ l.length
  | [] => Nat.le_refl _
  | x :: r => Nat.le_trans (insU_len x _) (Nat.succ_le_succ (sset_len r))
theorem bases_len : ∀ (r : List Stp) (lo ri : Int), (basesM lo ri r).length = r.length
  | [], _, _ => rfl
  | (n, g) :: r, lo, ri => by
    show (basesM _ _ r).length + 1 = r.length + 1
    rw [bases_len]
theorem ok_law_stairs_by (F : Fun K "_law_stairs_by" "_law_stairs_by" s_law_stairs_by f fd) (B : Bltn mg) (D_law_bases : Def P w K mg base 1 "_law_bases" ["_law_steps_here"] (spOf K 1 okLawBases))
    (D_law_gain_of : Def P w K mg base 1 "_law_gain_of" ["_law_steps_here", "_law_base"] (spOf K 2 okLawGainOf)) : FnG P w K mg base CX0 2 f fd ["_law_steps_here", "_law_most"] (spOf K 2 okLawStairsBy) := by
  refine okG F sc_law_stairs_by (fun vs H Q E h => ?_) (fun cdv A outer s H vs Q E hcm hr h => ?_)
  · obtain ⟨_, _, _, h, _⟩ := h
    exact h
  · obtain ⟨Hv, ds, d, hl, e, hds, ⟨sts, mo, rfl, hsz, hmo, hmo0, rfl⟩, q⟩ := h
    obtain ⟨v, u, rfl, h1, h2⟩ := dp2 hds
    cases h2
    refine ⟨_, (pss_cons (ps_par (i := 3) (j := 4) rfl sc_law_stairs_by.nd rfl rfl (by decide) rfl rfl (pa_cons (pe_lst pa_nil) (pa_cons pe_int pa_nil)) rfl)
      (pss_cons (ps_for PassesOwn.never rfl (pi_list (pe_callB (cr_sortedSetW w rfl) (by rfl) B.sorted bt_sorted (pa_cons (pe_callTy (cr_setL K w rfl) (by rfl) B.set bt_set (pa_cons (pe_op (op_catLK K) (pe_lst (pa_cons pe_int pa_nil)) (pe_d D_law_bases hcm hr (by decide) (by rfl) (pa_cons (pv 0) pa_nil))) pa_nil)) pa_nil))) (pg_name (i := 2) sc_law_stairs_by.nd rfl (Or.inl rfl)) (pss_cons (ps_set (i := 5) sc_law_stairs_by.nd rfl (Or.inl rfl) (pe_ifExp (pt_cmpR op_le (pv 2) (pv 1) (nomark _)) (pe_d D_law_gain_of hcm hr (by decide) (by rfl) (pa_cons (pv 0) (pa_cons (pv 2) pa_nil))) pe_int))
      (pss_one (ps_if (pt_cmpR op_gt (pv 5) (pv 4) (nomark _)) (pss_cons (ps_expr (pe_bm PySem.F.plainAttrs_list PySem.F.slot_list_append PySem.F.type_list_append mt_append (pv 3) (pa_cons (pe_tup (pa_cons (pv 2) (pa_cons (pv 5) pa_nil))) pa_nil)))
      (pss_one (ps_set (i := 4) sc_law_stairs_by.nd rfl (Or.inl rfl) (pv 5)))) pss_nil))))
      (pss_one (ps_ret (pe_callTy call_tuple_of (by rfl) B.tuple bt_tuple (pa_cons (pv 3) pa_nil)))))), ?_⟩
    refine ⟨by show 0 ≤ sizeLine; decide, fun l hl => ?_⟩
    refine ⟨_, _, rfl, ?_⟩
    have hbs := ed_sortedSet (K := K) (w := w) (σ := [some v, some (.int mo), none, some (.ref l), some (.int 0), none]) (H := Hv) (ta := tOp (rCatL K) (tLst (tCons (tC (.int 0)) tNil)) (tCall (spOf K 1 okLawBases) [] E0 (tCons (tVar 0) tNil))) (ns := 0 :: basesM 0 0 sts)
      (ed_catL (ds := [.int 0]) (ed_lst (eda_cons ed_int eda_nil) (by show 1 ≤ 100000; decide)) (ed_call (eda_cons (ed_var rfl h1) eda_nil) (spD_of (n := 1) (ok := okLawBases) ⟨sts, rfl, by omega, rfl⟩)) (by
        rw [List.length_map, bases_len]
        show 1 + _ ≤ _
        omega)) (by
        rw [List.length_cons, bases_len]
        omega)
    refine hbs _ (e.trans (Ex.new hl)) _ fun x2 H2 e2 hx2 => ?_
    clear hbs
    have hwalk : walkM (gainOfM sts) 0 (ssetM (0 :: basesM 0 0 sts)) = stairsM sts := stairs_walk (sset_asc _) fun b hb => sset_mem.mpr (List.mem_cons_of_mem _ hb)
    have hin : ∀ b ∈ ssetM (0 :: basesM 0 0 sts), b ≤ mo := fun b hb => by
      rcases List.mem_cons.mp (sset_mem.mp hb) with z | z
      · rw [z]
        exact hmo0
      · exact hmo b z
    have hbl : (ssetM (0 :: basesM 0 0 sts)).length ≤ 1000 := Nat.le_trans (sset_len _) (by rw [List.length_cons, bases_len]; omega)
    generalize ssetM (0 :: basesM 0 0 sts) = bs at hx2 hwalk hin hbl
    obtain ⟨a, xs, rfl, s1, s2⟩ := dp_lst hx2
    have hxs := vals_of_ints s2
    subst hxs
    refine ⟨a, rfl, ⟨_, ex_l hid_ex s1⟩, ?_⟩
    have nl : hid Hv (upd H l (.lst [])) H2 l = none := hid_no (fresh_back e hl) (by rw [upd_same]; exact fun z => nomatch z)
    refine for_list (K := K) (a := a) (xs := bs.map V.int) (fun i σ H' => ∃ (o4 o5 : Option V) (top : Int) (pre : List Stp) (ys : List V), σ = [some v, some (.int mo), o4, some (.ref l), some (.int top), o5] ∧ Ex H H' ∧ Ex (hid Hv (upd H l (.lst [])) H2) H' ∧
        H' l = some (.lst ys) ∧ DpAll K (fun c => if c = l then none else hid Hv H H' c) ys (pre.map stepD) ∧ pre.length ≤ i ∧ pre ++ walkM (gainOfM sts) top (bs.drop i) = stairsM sts)
      ⟨none, none, 0, [], [], rfl, (Ex.new hl).trans e2, hid_ex, e2 _ _ upd_same, .nil, Nat.le_refl _, by rw [List.drop_zero]; exact hwalk⟩ (fun i σ H' _ ⟨_, _, _, _, _, _, _, e', _⟩ => ex_l e' s1) ?_ ?_
    · rintro i x σ H' hx ⟨o4, o5, top, pre, ys, rfl, e', e3, hl', hys, hpl, hm⟩
      rw [List.getElem?_map] at hx
      obtain ⟨b, hb, rfl⟩ := Option.map_eq_some_iff.mp hx
      have hi := (List.getElem?_eq_some_iff.mp hb).1
      rw [drop_get hb] at hm
      refine qs_setI (K := K) (H0 := Hv) (z := gainOfM sts b) (ed_ifE (b := true) (et_is (etI_le (K := K) (ed_var rfl (.int _)) (ed_var rfl (.int _))) (decide_eq_true (hin b (List.mem_of_getElem? hb)))) (fun _ => ed_call (eda_cons (ed_var rfl h1) (eda_cons (ed_var rfl (.int _)) eda_nil)) (spD_of (n := 2) (ok := okLawGainOf) ⟨sts, b, rfl, by omega, rfl⟩)) fun z => nomatch z) (e.trans e') fun H3 e4 => ?_
      refine ⟨_, rfl, _, rfl, _, _, rfl, rfl, _, rfl, ?_⟩
      have e03 : Ex H H3 := e'.trans e4
      have hl3 := e4 _ _ hl'
      have keep : ∀ H4 : Hp, (∀ c o, c ≠ l → H3 c = some o → H4 c = some o) → Ex (hid Hv (upd H l (.lst [])) H2) H4 := fun H4 h4 c o hc => h4 c o (ne_of_none hc nl) (e4 _ _ (e3 _ _ hc))
      have old : ∀ H4 : Hp, (∀ c o, c ≠ l → H3 c = some o → H4 c = some o) → ∀ c o, (if c = l then none else hid Hv H H' c) = some o → (if c = l then none else hid Hv H H4 c) = some o := fun H4 h4 c o hc => by
        by_cases z : c = l
        · rw [if_pos z] at hc
          cases hc
        · rw [if_neg z] at hc ⊢
          obtain ⟨g1, g2⟩ := hid_some hc
          exact (hid_see g2).trans (h4 c o z (e4 _ _ g1))
      have hw : walkM (gainOfM sts) top (b :: bs.drop (i + 1)) = if gainOfM sts b > top then (b, gainOfM sts b) :: walkM (gainOfM sts) (gainOfM sts b) (bs.drop (i + 1)) else walkM (gainOfM sts) top (bs.drop (i + 1)) := rfl
      rw [hw] at hm
      refine ite2 (fun hc => ?_) (fun hc => ?_)
      · have hc : top < gainOfM sts b := of_decide_eq_true hc
        rw [if_pos hc] at hm
        refine ⟨_, rfl, .inl ⟨rfl, _, SqL.of hl3⟩, _, rfl, _, rfl, (by show 2 ≤ sizeLine; decide), fun p hp => ?_⟩
        have npl : p ≠ l := fun z => by
          rw [z, hl3] at hp
          cases hp
        have hpH : H p = none := ex_none e03 hp
        refine ⟨l, _, _, rfl, rfl, (upd_ne npl.symm).trans hl3, ?_, ?_⟩
        · have := dpAll_len hys
          rw [List.length_map] at this
          exact sz_lt (by omega)
        · refine ⟨_, rfl, ?_⟩
          have h34 : ∀ c o, c ≠ l → H3 c = some o → (upd (upd H3 p (.tup [.int b, .int (gainOfM sts b)])) l (.lst (ys ++ [.ref p]))) c = some o := fun c o n hc => (upd_ne n).trans ((Ex.new hp) _ _ hc)
          refine ⟨_, _, _, pre ++ [(b, gainOfM sts b)], _, rfl, fun c o hc => h34 c o (ne_of_none hc hl) (e03 _ _ hc), keep _ h34, upd_same, ?_, ?_, ?_⟩
          · rw [List.map_append]
            refine dpAll_app (dpAll_same (old _ h34) hys) (.cons (.tup (.inl (.inl ?_)) (.cons (.int _) (.cons (.int _) .nil))) .nil)
            show (if p = l then none else hid Hv H _ p) = _
            rw [if_neg npl, hid_new hpH, upd_ne npl, upd_same]
          · rw [List.length_append]
            exact Nat.succ_le_succ hpl
          · rw [List.append_assoc]
            exact hm
      · have hc : ¬ gainOfM sts b > top := fun z => hc (decide_eq_true z)
        rw [if_neg hc] at hm
        exact ⟨_, _, _, pre, ys, rfl, e03, keep _ fun c o _ hc => hc, hl3, dpAll_same (old _ fun c o _ hc => hc) hys, Nat.le_succ_of_le hpl, hm⟩
    · rintro σ H' ⟨o4, o5, top, pre, ys, rfl, e', e3, hl', hys, hpl, hm⟩
      rw [List.length_map, List.drop_length] at hm
      have hm : pre = stairsM sts := by
        rw [← hm]
        exact (List.append_nil _).symm
      refine ⟨_, rfl, l, ys, rfl, .inl ⟨SqL.of hl', fun p hp => ?_⟩⟩
      refine q _ _ (e'.trans (Ex.new hp)) ?_
      rw [← hm]
      refine .tup (.inl (.inl ((hid_new (ex_none e' hp)).trans upd_same))) (dpAll_same (fun c o hc => ?_) hys)
      have hc : (if c = l then none else hid Hv H H' c) = some o := hc
      by_cases z : c = l
      · rw [if_pos z] at hc
        cases hc
      · rw [if_neg z] at hc
        exact hid_on (Ex.new hp) _ _ hc

/-! ### _law_first_less -/
abbrev s_law_first_less : Stmt := top 55
theorem sc_law_first_less : FnScope ["_law_one", "_law_other", "_law_base", "_law_gain_here"] ["_law_one", "_law_other"] (defScope s_law_first_less) := ⟨rfl, rfl, rfl, by decide +kernel, rfl, by decide +kernel, by decide +kernel⟩
def okFirstLess : List PyData → PyData → Prop := fun ds d => ∃ s t, ds = [stepsT s, stepsT t] ∧ s.length ≤ 30 ∧ t.length ≤ 30 ∧ Up s ∧ Up t ∧ d = optD (lowerM s t)
theorem ok_law_first_less (F : Fun K "_law_first_less" "_law_first_less" s_law_first_less f fd) (B : Bltn mg) (D_law_gain : Def P w K mg base 1 "_law_gain" ["_law_stairs", "_law_base"] (spOf K 2 okLawGain)) :
    FnG P w K mg base CX0 2 f fd ["_law_one", "_law_other"] (spOf K 2 okFirstLess) := by
  refine okG F sc_law_first_less (fun vs H Q E h => ?_) (fun cdv A outer s H vs Q E hcm hr h => ?_)
  · obtain ⟨_, _, _, h, _⟩ := h
    exact h
  · obtain ⟨Hv, ds, d, hl, e, hds, ⟨s, t, rfl, z1, z2, us, ut, rfl⟩, q⟩ := h
    obtain ⟨v, u, rfl, h1, h2⟩ := dp2 hds
    refine ⟨_, (pss_cons (ps_for PassesOwn.never rfl (pi_list (pe_callB (cr_sortedSetW w rfl) (by rfl) B.sorted bt_sorted (pa_cons (pe_callTy (cr_setL K w rfl) (by rfl) B.set bt_set (pa_cons (pe_lc (own := [(("_law_base" : Str), 2), (("_law_gain_here" : Str), 3)])  rfl sc_law_first_less.nd (pi_tupK K (pe_op (op_catAK K) (pv 0) (pv 1))) (blkOk_by (N := ["_law_one", "_law_other", "_law_base", "_law_gain_here"]) (sc := defScope s_law_first_less) (by decide +kernel)) (fun _ _ _ _ _ => (pg_tupK K (n := 2) rfl (pgs_cons (pg_name (i := 2) sc_law_first_less.nd rfl (Or.inl rfl)) (pgs_cons (pg_name (i := 3) sc_law_first_less.nd rfl (Or.inl rfl)) pgs_nil)))) (fun _ _ _ _ _ => pts_nil) (fun _ _ _ _ _ => (pv 2))) pa_nil)) pa_nil))) (pg_name (i := 2) sc_law_first_less.nd rfl (Or.inl rfl)) (pss_one (ps_if (pt_cmpR op_lt (pe_d D_law_gain hcm hr (by decide) (by rfl) (pa_cons (pv 0) (pa_cons (pv 2) pa_nil))) (pe_d D_law_gain hcm hr (by decide) (by rfl) (pa_cons (pv 1) (pa_cons (pv 2) pa_nil))) (nomark _)) (pss_one (ps_ret (pv 2))) pss_nil)))
      (pss_one (ps_ret pe_non))), ?_⟩
    have hcat : EvD K (tOp (rCatA K) (tVar 0) (tVar 1)) [some v, some u, none, none] Hv (.tuple ((s ++ t).map stepD)) := by
      rw [List.map_append]
      exact ed_catA (ed_var rfl h1) (ed_var rfl h2) (by rw [List.length_map, List.length_map]; omega)
    have hlc : EvD K (tLc (iTup K (tOp (rCatA K) (tVar 0) (tVar 1))) (gTup K 2 (gCons (gName 2) (gCons (gName 3) gNil))) tYes (tVar 2) [2, 3]) [some v, some u, none, none] Hv (.list (((s ++ t).map (·.1)).map PyData.int)) := by
      rw [List.map_map, ← range_map_get (s ++ t) (PyData.int ∘ fun x => x.1) (0, 0)]
      have hl : (s ++ t).length = ((s ++ t).map stepD).length := (List.length_map _).symm
      rw [hl]
      refine ed_lcT _ hcat (by rw [List.length_map, List.length_append]; omega) ?_
      intro i x dx H' hdx e1 hx H'' e2 Qg k
      rw [List.getElem?_map] at hdx
      obtain ⟨⟨n, g⟩, hst, rfl⟩ := Option.map_eq_some_iff.mp hdx
      refine g_tup2 hx e2 (fun _ _ => rfl) (fun a b ha hb => ?_) k
      have e3 : (s ++ t).getD i (0, 0) = (n, g) := by
        rw [List.getD_eq_getElem?_getD, hst]
        rfl
      rw [e3]
      exact ed_var rfl ha
    have hbs := ed_sortedSet (w := w) hlc (by rw [List.length_map, List.length_append]; omega)
    refine hbs _ e _ fun x2 H2 e2 hx2 => ?_
    clear hbs hlc hcat
    have hlow : firstM (gainM s) (gainM t) (ssetM ((s ++ t).map (·.1))) = lowerM s t := first_lower us ut (sset_asc _) fun x hx => sset_mem.mpr (List.mem_map.mpr ⟨x, List.mem_append_right _ hx, rfl⟩)
    have hbl : (ssetM ((s ++ t).map (·.1))).length ≤ 1000 := Nat.le_trans (sset_len _) (by rw [List.length_map, List.length_append]; omega)
    generalize ssetM ((s ++ t).map (·.1)) = bs at hx2 hlow hbl
    obtain ⟨a, xs, rfl, s1, s2⟩ := dp_lst hx2
    have hxs := vals_of_ints s2
    subst hxs
    refine ⟨a, rfl, ⟨_, ex_l hid_ex s1⟩, ?_⟩
    refine for_list (K := K) (a := a) (xs := bs.map V.int) (fun i σ H' => ∃ (o2 : Option V), σ = [some v, some u, o2, none] ∧ Ex H2 H' ∧ firstM (gainM s) (gainM t) (bs.drop i) = lowerM s t)
      ⟨none, rfl, Ex.refl _, by rw [List.drop_zero]; exact hlow⟩ (fun i σ H' _ ⟨_, _, e', _⟩ => ex_l (hid_ex.trans e') s1) ?_ ?_
    · rintro i x σ H' hx ⟨o2, rfl, e', hm⟩
      rw [List.getElem?_map] at hx
      obtain ⟨b, hb, rfl⟩ := Option.map_eq_some_iff.mp hx
      rw [drop_get hb] at hm
      have hfm : firstM (gainM s) (gainM t) (b :: bs.drop (i + 1)) = if gainM s b < gainM t b then some b else firstM (gainM s) (gainM t) (bs.drop (i + 1)) := rfl
      rw [hfm] at hm
      have hcnd : EvT (tTest (tOp (rI0 fun i j => V.bl (decide (i < j))) (tCall (spOf K 2 okLawGain) [] E0 (tCons (tVar 0) (tCons (tVar 2) tNil))) (tCall (spOf K 2 okLawGain) [] E0 (tCons (tVar 1) (tCons (tVar 2) tNil))))) [some v, some u, some (.int b), none] Hv (decide (gainM s b < gainM t b)) := by
        rw [← lawGain_is us, ← lawGain_is ut]
        exact etI_lt (ed_call (eda_cons (ed_var rfl h1) (eda_cons (ed_var rfl (.int _)) eda_nil)) (spD_of (n := 2) (ok := okLawGain) ⟨s, b, rfl, by omega, rfl⟩)) (ed_call (eda_cons (ed_var rfl h2) (eda_cons (ed_var rfl (.int _)) eda_nil)) (spD_of (n := 2) (ok := okLawGain) ⟨t, b, rfl, by omega, rfl⟩))
      refine hcnd _ ((e.trans e2).trans e') _ fun H3 e3 => ?_
      by_cases hc : gainM s b < gainM t b
      · rw [decide_eq_true hc]
        rw [if_pos hc] at hm
        refine iteT ⟨_, rfl, ?_⟩
        rw [← hm] at q
        exact q _ H3 ((e2.trans e').trans e3) (.int _)
      · rw [decide_eq_false hc]
        rw [if_neg hc] at hm
        exact iteF ⟨_, rfl, e'.trans e3, hm⟩
    · rintro σ H' ⟨o2, rfl, e', hm⟩
      rw [List.length_map, List.drop_length] at hm
      have hm : none = lowerM s t := hm
      rw [← hm] at q
      exact q _ H' (e2.trans e') .non
end K11

set_option maxHeartbeats 2000000
namespace K11
open PySem PySem.Spec PyProof.Rows L2 Evl VG
variable {P : Program} {w : World} {K : PySem.W.Frag} {mg : Str → Option Value} {base : Heap} {f : Addr} {fd : FuncData}

/-! ### bounds -/
theorem pig : ∀ (n : Nat) (l : List Nat), l.Nodup → (∀ x ∈ l, x < n) → l.length ≤ n
  | 0, [], _, _ => Nat.le_refl _
  | 0, x :: l, _, h => absurd (h x List.mem_cons_self) (Nat.not_lt_zero _)
  | n + 1, l, nd, h => by
    have h1 := pig n (l.filter fun x => decide (x ≠ n)) (nd.filter _) fun x hx => by
      obtain ⟨m, d⟩ := List.mem_filter.mp hx
      have := h x m
      have := of_decide_eq_true d
      omega
    have h2 : (l.filter fun x => decide (x = n)).length ≤ 1 := by
      have nd2 : (l.filter fun x => decide (x = n)).Nodup := nd.filter _
      have all : ∀ x ∈ l.filter fun x => decide (x = n), x = n := fun x hx => of_decide_eq_true (List.mem_filter.mp hx).2
      revert nd2 all
      cases l.filter fun x => decide (x = n) with
      | nil => exact fun _ _ => Nat.zero_le _
      | cons a r =>
        intro nd2 all
        cases r with
        | nil => exact Nat.le_refl _
        | cons b r =>
          have e1 := all a List.mem_cons_self
          have e2 := all b (List.mem_cons_of_mem _ List.mem_cons_self)
          have := (List.nodup_cons.mp nd2).1
          rw [e1, e2] at this
          exact absurd List.mem_cons_self this
    have h3 : l.length = (l.filter fun x => decide (x ≠ n)).length + (l.filter fun x => decide (x = n)).length := by
      clear h1 h2 h nd
      induction l with
      | nil => rfl
      | cons a r ih =>
        by_cases e : a = n
        · rw [List.filter_cons_of_neg (by simp [e]), List.filter_cons_of_pos (by simp [e]), List.length_cons, List.length_cons, ih]
          omega
        · rw [List.filter_cons_of_pos (by simp [e]), List.filter_cons_of_neg (by simp [e]), List.length_cons, List.length_cons, ih]
          omega
    omega
def Grid (ps : List NN) : Prop := ∀ p ∈ ps, p.1 ≤ 20 ∧ p.2 ≤ 20
theorem grid_len {ps : List NN} (nd : ps.Nodup) (g : Grid ps) : ps.length ≤ 441 := by
  have h := pig 441 (ps.map fun p => p.1 * 21 + p.2) ?_ fun x hx => ?_
  · rw [List.length_map] at h
    exact h
  · refine List.pairwise_map.mpr (List.Pairwise.imp_of_mem (fun {a b} ha hb hne e => hne ?_) nd)
    have h1 := g a ha
    have h2 := g b hb
    obtain ⟨a1, a2⟩ := a
    obtain ⟨b1, b2⟩ := b
    simp at h1 h2 e ⊢
    omega
  · obtain ⟨p, hp, rfl⟩ := List.mem_map.mp hx
    have := g p hp
    show p.1 * 21 + p.2 < 441
    omega
theorem nodup_snoc {ps : List NN} {p : NN} (nd : ps.Nodup) (h : p ∉ ps) : (ps ++ [p]).Nodup := by
  refine List.pairwise_append.mpr ⟨nd, List.pairwise_singleton _ _, fun a ha b hb e => ?_⟩
  rw [List.mem_singleton.mp hb] at e
  exact h (e ▸ ha)
def condL (one other : List Stp) (b : Int) (seen later : List NN) (m i : Nat) : Bool :=
  match one[m]? with
  | some x => decide (x.1 ≤ b + (presum one m + presum other i)) && decide ((m + 1, i) ∉ seen ++ later)
  | none => false
def condR (one other : List Stp) (b : Int) (seen later : List NN) (m i : Nat) : Bool :=
  match other[i]? with
  | some x => decide (x.1 ≤ b + (presum one m + presum other i)) && decide ((m, i + 1) ∉ seen ++ later)
  | none => false
theorem newL_if (one other : List Stp) (b : Int) (seen later : List NN) (m i : Nat) : newL one other b seen later m i = if condL one other b seen later m i = true then later ++ [(m + 1, i)] else later := by
  unfold newL condL
  cases one[m]? with
  | none => rfl
  | some x =>
    dsimp only
    by_cases c : x.1 ≤ b + (presum one m + presum other i) ∧ (m + 1, i) ∉ seen ++ later
    · rw [if_pos c, if_pos (by rw [decide_eq_true c.1, decide_eq_true c.2]; rfl)]
    · rw [if_neg c, if_neg fun h => c ?_]
      rw [Bool.and_eq_true, decide_eq_true_eq, decide_eq_true_eq] at h
      exact h
theorem newR_if (one other : List Stp) (b : Int) (seen later : List NN) (m i : Nat) : newR one other b seen later m i = if condR one other b seen later m i = true then later ++ [(m, i + 1)] else later := by
  unfold newR condR
  cases other[i]? with
  | none => rfl
  | some x =>
    dsimp only
    by_cases c : x.1 ≤ b + (presum one m + presum other i) ∧ (m, i + 1) ∉ seen ++ later
    · rw [if_pos c, if_pos (by rw [decide_eq_true c.1, decide_eq_true c.2]; rfl)]
    · rw [if_neg c, if_neg fun h => c ?_]
      rw [Bool.and_eq_true, decide_eq_true_eq, decide_eq_true_eq] at h
      exact h
theorem condL_true {one other : List Stp} {b : Int} {seen later : List NN} {m i : Nat} (h : condL one other b seen later m i = true) : m < one.length ∧ (m + 1, i) ∉ seen ++ later := by
  unfold condL at h
  cases hx : one[m]? with
  | none =>
    rw [hx] at h
    cases h
  | some x =>
    rw [hx] at h
    rw [Bool.and_eq_true, decide_eq_true_eq, decide_eq_true_eq] at h
    exact ⟨(List.getElem?_eq_some_iff.mp hx).1, h.2⟩
theorem condR_true {one other : List Stp} {b : Int} {seen later : List NN} {m i : Nat} (h : condR one other b seen later m i = true) : i < other.length ∧ (m, i + 1) ∉ seen ++ later := by
  unfold condR at h
  cases hx : other[i]? with
  | none =>
    rw [hx] at h
    cases h
  | some x =>
    rw [hx] at h
    rw [Bool.and_eq_true, decide_eq_true_eq, decide_eq_true_eq] at h
    exact ⟨(List.getElem?_eq_some_iff.mp hx).1, h.2⟩
theorem presum_sum : ∀ (r : List Stp) (m : Nat), ((r.take m).map (·.2)).sum = presum r m
  | _, 0 => by
    rw [presum_zero]
    rfl
  | [], _ + 1 => rfl
  | (n, g) :: r, m + 1 => by
    show (((n, g) :: r.take m).map (·.2)).sum = g + presum r m
    rw [List.map_cons, List.sum_cons, presum_sum r m]
/-- the list at l holds ps, all of it new -/
structure Holds (K : PySem.W.Frag) (Hv H H0 : Hp) (l : Addr) (ps : List NN) (H' : Hp) : Prop where
  ex : Ex H0 H'
  at' : ∃ ys, H' l = some (.lst ys) ∧ DpAll K (fun c => if c = l then none else hid Hv H H' c) ys (ps.map nnD)
theorem Holds.on {Hv H H0 H' H2 : Hp} {l : Addr} {ps : List NN} (h : Holds K Hv H H0 l ps H') (e : Ex H' H2) : Holds K Hv H H0 l ps H2 := by
  obtain ⟨ys, h1, h2⟩ := h.at'
  refine ⟨h.ex.trans e, ys, e _ _ h1, dpAll_same (fun c o hc => ?_) h2⟩
  have hc : (if c = l then none else hid Hv H H' c) = some o := hc
  show (if c = l then none else hid Hv H H2 c) = some o
  by_cases z : c = l
  · rw [if_pos z] at hc
    cases hc
  · rw [if_neg z] at hc ⊢
    exact hid_on e _ _ hc
theorem Holds.dp {Hv H H0 H' : Hp} {l : Addr} {ps : List NN} (h : Holds K Hv H H0 l ps H') (hl : H l = none) : Dp K (hid Hv H H') (.ref l) (.list (ps.map nnD)) := by
  obtain ⟨ys, h1, h2⟩ := h.at'
  refine .lst (.inl (.inl ((hid_new hl).trans h1))) (dpAll_same (fun c o hc => ?_) h2)
  have hc : (if c = l then none else hid Hv H H' c) = some o := hc
  by_cases z : c = l
  · rw [if_pos z] at hc
    cases hc
  · rw [if_neg z] at hc
    exact hc
theorem Holds.app {Hv H H0 H' : Hp} {l p : Addr} {ps : List NN} {ys : List V} {q : NN} (h : Holds K Hv H H0 l ps H') (hy : H' l = some (.lst ys)) (hl : H0 l = none) (h0 : Ex H H0) (hp : H' p = none) :
    Holds K Hv H H0 l (ps ++ [q]) (upd (upd H' p (.tup [.int (q.1 : Nat), .int (q.2 : Nat)])) l (.lst (ys ++ [.ref p]))) := by
  obtain ⟨ys', h1, h2⟩ := h.at'
  rw [hy] at h1
  cases h1
  have npl : p ≠ l := fun z => by
    rw [z, hy] at hp
    cases hp
  have hpH : H p = none := ex_none (h0.trans h.ex) hp
  have h34 : ∀ c o, c ≠ l → H' c = some o → (upd (upd H' p (.tup [.int (q.1 : Nat), .int (q.2 : Nat)])) l (.lst (ys ++ [.ref p]))) c = some o := fun c o n hc => (upd_ne n).trans ((Ex.new hp) _ _ hc)
  refine ⟨fun c o hc => h34 c o (ne_of_none hc hl) (h.ex _ _ hc), _, upd_same, ?_⟩
  rw [List.map_append]
  refine dpAll_app (dpAll_same (fun c o hc => ?_) h2) (.cons (.tup (.inl (.inl ?_)) (.cons (.int _) (.cons (.int _) .nil))) .nil)
  · have hc : (if c = l then none else hid Hv H H' c) = some o := hc
    show (if c = l then none else hid Hv H _ c) = some o
    by_cases z : c = l
    · rw [if_pos z] at hc
      cases hc
    · rw [if_neg z] at hc ⊢
      obtain ⟨g1, g2⟩ := hid_some hc
      exact (hid_see g2).trans (h34 c o z g1)
  · show (if p = l then none else hid Hv H _ p) = _
    rw [if_neg npl, hid_new hpH, upd_ne npl, upd_same]

theorem et_go {c : TT} {σ : L2.St} {H0 H : Hp} {b : Bool} {Q : Bool → Hp → Prop} (h : EvT c σ H0 b) (e : Ex H0 H) (q : ∀ H2, Ex H H2 → Q b H2) : c σ H Q := h H e Q q
theorem nn_depth : ∀ ps : List NN, PyData.depthAll (ps.map nnD) ≤ 1
  | [] => Nat.zero_le _
  | p :: ps => by
    rw [List.map_cons, PyData.depthAll]
    exact Nat.max_le.mpr ⟨Nat.le_refl _, nn_depth ps⟩
theorem go_ifB {c : TT} {t u : TS} {D : Ends} {σ : L2.St} {H0 H : Hp} {b : Bool} (h : EvT c σ H0 b) (e : Ex H0 H) (h1 : b = true → ∀ H2, Ex H H2 → t D σ H2) (h2 : b = false → ∀ H2, Ex H H2 → u D σ H2) : tIfS c t u D σ H := h H e _ fun H2 e2 => by
  cases b with
  | true => exact iteT (h1 rfl H2 e2)
  | false => exact iteF (h2 rfl H2 e2)
theorem go_next {D : Ends} {σ : L2.St} {H : Hp} (h : D.nx σ H) : tNext D σ H := h
theorem go_par3 {i j k : Nat} {ta : TA} {u : TS} {D : Ends} {σ : L2.St} {H : Hp} (h : ta σ H fun vs H1 => ∃ x y z, vs = [x, y, z] ∧ u D (((σ.set i (some x)).set j (some y)).set k (some z)) H1) : tSeq (tPar3 i j k ta) u D σ H := h
theorem go_par2 {i j : Nat} {ta : TA} {D : Ends} {σ : L2.St} {H : Hp} (h : ta σ H fun vs H1 => ∃ x y, vs = [x, y] ∧ D.nx ((σ.set i (some x)).set j (some y)) H1) : tPar i j ta D σ H := h
/-! ### _law_both_at -/
abbrev s_law_both_at : Stmt := top 54
theorem sc_law_both_at : FnScope ["_law_one", "_law_other", "_law_base", "_law_seen", "_law_front", "_law_top", "_law_later", "_law_mine", "_law_its", "_law_gone", "_law_need", "_law_more"] ["_law_one", "_law_other", "_law_base"] (defScope s_law_both_at) := ⟨rfl, rfl, rfl, by decide +kernel, rfl, by decide +kernel, by decide +kernel⟩
def okBothAt : List PyData → PyData → Prop := fun ds d => ∃ one other b, ds = [stepsT one, stepsT other, .int b] ∧ one.length ≤ 20 ∧ other.length ≤ 20 ∧ d = .int (bothAtM one other b)
/-- what stands when a level begins -/
def atW (K : PySem.W.Frag) (Hv H : Hp) (one other : List Stp) (b : Int) (va vb : V) (m : Nat) (σ : L2.St) (H' : Hp) : Prop :=
  ∃ (L : Nat) (seen front : List NN) (top : Int) (v3 v4 : V) (o6 o7 o8 o9 : Option V), m = one.length + other.length + 1 - L ∧ Lev one other b L seen front top ∧ seen.Nodup ∧ front.length ≤ 441 ∧
    σ = [some va, some vb, some (.int b), some v3, some v4, some (.int top), o6, o7, o8, o9, none, none] ∧ Ex H H' ∧ Dp K (hid Hv H H') v3 (.list (seen.map nnD)) ∧ Dp K (hid Hv H H') v4 (.list (front.map nnD)) ∧
    (0 ≤ b → bfs one other b m seen front top = bothAtM one other b) ∧ (b < 0 → top = 0)
theorem ok_law_both_at (F : Fun K "_law_both_at" "_law_both_at" s_law_both_at f fd) (B : Bltn mg) : FnG P w K mg base CX0 1 f fd ["_law_one", "_law_other", "_law_base"] (spOf K 3 okBothAt) := by
  refine okG F sc_law_both_at (fun vs H Q E h => ?_) (fun cdv A outer s H vs Q E hcm hr h => ?_)
  · obtain ⟨_, _, _, h, _⟩ := h
    exact h
  · obtain ⟨Hv, ds, d, hl, e, hds, ⟨one, other, b, rfl, z1, z2, rfl⟩, q⟩ := h
    obtain ⟨va, vb, v3, rfl, h1, h2, h3⟩ := dp3 hds
    cases h3
    have hu := room_depth hr
    refine ⟨_, (pss_cons (ps_par3 (i := 3) (j := 4) (l := 5) rfl sc_law_both_at.nd rfl rfl rfl (by decide) (by decide) (by decide) rfl rfl rfl (pa_cons (pe_lst (pa_cons (pe_tup (pa_cons pe_int (pa_cons pe_int pa_nil))) pa_nil)) (pa_cons (pe_lst (pa_cons (pe_tup (pa_cons pe_int (pa_cons pe_int pa_nil))) pa_nil)) (pa_cons pe_int pa_nil))) rfl)
      (pss_cons (ps_while PassesOwn.never (PW.pt (pw_and (pt_cmpR (op_neP K hu) (pv 4) (pe_lst pa_nil) (nomark _)) (pw_and1 (pt_cmpR op_ge (pv 2) pe_int (nomark _))))) (pss_cons (ps_set (i := 6) sc_law_both_at.nd rfl (Or.inl rfl) (pe_lst pa_nil))
      (pss_cons (ps_for PassesOwn.never rfl (pi_list (pv 4)) (pg_tupK K (n := 2) rfl (pgs_cons (pg_name (i := 7) sc_law_both_at.nd rfl (Or.inl rfl)) (pgs_cons (pg_name (i := 8) sc_law_both_at.nd rfl (Or.inl rfl)) pgs_nil))) (pss_cons (ps_set (i := 9) sc_law_both_at.nd rfl (Or.inl rfl) (pe_op op_add (pe_callB (cr_sumK K rfl) (by rfl) B.sum bt_sum (pa_cons (pe_lc (own := [(("_law_need" : Str), 10), (("_law_more" : Str), 11)])  rfl sc_law_both_at.nd (pi_tup (pe_slice (sl_tupAK K) (pv 0) po_none (po_some (pv 7)))) (blkOk_by (N := ["_law_one", "_law_other", "_law_base", "_law_seen", "_law_front", "_law_top", "_law_later", "_law_mine", "_law_its", "_law_gone", "_law_need", "_law_more"]) (sc := defScope s_law_both_at) (by decide +kernel)) (fun _ _ _ _ _ => (pg_tupK K (n := 2) rfl (pgs_cons (pg_name (i := 10) sc_law_both_at.nd rfl (Or.inl rfl)) (pgs_cons (pg_name (i := 11) sc_law_both_at.nd rfl (Or.inl rfl)) pgs_nil)))) (fun _ _ _ _ _ => pts_nil) (fun _ _ _ _ _ => (pv 11))) pa_nil)) (pe_callB (cr_sumK K rfl) (by rfl) B.sum bt_sum (pa_cons (pe_lc (own := [(("_law_need" : Str), 10), (("_law_more" : Str), 11)])  rfl sc_law_both_at.nd (pi_tup (pe_slice (sl_tupAK K) (pv 1) po_none (po_some (pv 8)))) (blkOk_by (N := ["_law_one", "_law_other", "_law_base", "_law_seen", "_law_front", "_law_top", "_law_later", "_law_mine", "_law_its", "_law_gone", "_law_need", "_law_more"]) (sc := defScope s_law_both_at) (by decide +kernel)) (fun _ _ _ _ _ => (pg_tupK K (n := 2) rfl (pgs_cons (pg_name (i := 10) sc_law_both_at.nd rfl (Or.inl rfl)) (pgs_cons (pg_name (i := 11) sc_law_both_at.nd rfl (Or.inl rfl)) pgs_nil)))) (fun _ _ _ _ _ => pts_nil) (fun _ _ _ _ _ => (pv 11))) pa_nil))))
      (pss_cons (ps_set (i := 5) sc_law_both_at.nd rfl (Or.inl rfl) (pe_callB (call_max2 rfl) (by rfl) B.max bt_max (pa_cons (pv 5) (pa_cons (pv 9) pa_nil))))
      (pss_cons (ps_if (PW.pt (pw_and (pt_cmpR op_lt (pv 7) (pe_callB (call_lenK K) (by rfl) B.len bt_len (pa_cons (pv 0) pa_nil)) (nomark _)) (pw_and (pt_cmpR op_le (pe_ix (ix_tupK K) (pe_ix (ix_tupK K) (pv 0) (pv 7) (fun _ _ => rfl)) pe_int (fun _ _ => rfl)) (pe_op op_add (pv 2) (pv 9)) (nomark _)) (pw_and1 (pt_cmpR (op_notInP K hu) (pe_tup (pa_cons (pe_op op_add (pv 7) pe_int) (pa_cons (pv 8) pa_nil))) (pe_op (op_catLK K) (pv 3) (pv 6)) (by rfl)))))) (pss_one (ps_expr (pe_bm PySem.F.plainAttrs_list PySem.F.slot_list_append PySem.F.type_list_append mt_append (pv 6) (pa_cons (pe_tup (pa_cons (pe_op op_add (pv 7) pe_int) (pa_cons (pv 8) pa_nil))) pa_nil)))) pss_nil)
      (pss_one (ps_if (PW.pt (pw_and (pt_cmpR op_lt (pv 8) (pe_callB (call_lenK K) (by rfl) B.len bt_len (pa_cons (pv 1) pa_nil)) (nomark _)) (pw_and (pt_cmpR op_le (pe_ix (ix_tupK K) (pe_ix (ix_tupK K) (pv 1) (pv 8) (fun _ _ => rfl)) pe_int (fun _ _ => rfl)) (pe_op op_add (pv 2) (pv 9)) (nomark _)) (pw_and1 (pt_cmpR (op_notInP K hu) (pe_tup (pa_cons (pv 7) (pa_cons (pe_op op_add (pv 8) pe_int) pa_nil))) (pe_op (op_catLK K) (pv 3) (pv 6)) (by rfl)))))) (pss_one (ps_expr (pe_bm PySem.F.plainAttrs_list PySem.F.slot_list_append PySem.F.type_list_append mt_append (pv 6) (pa_cons (pe_tup (pa_cons (pv 7) (pa_cons (pe_op op_add (pv 8) pe_int) pa_nil))) pa_nil)))) pss_nil))))))
      (pss_one (ps_par (i := 3) (j := 4) rfl sc_law_both_at.nd rfl rfl (by decide) rfl rfl (pa_cons (pe_op (op_catLK K) (pv 3) (pv 6)) (pa_cons (pv 6) pa_nil)) rfl)))))
      (pss_one (ps_ret (pv 5))))), ?_⟩
    have one0 : EvD K (tLst (tCons (tTup (tCons (tC (V.int 0)) (tCons (tC (V.int 0)) tNil))) tNil)) (start ["_law_one", "_law_other", "_law_base", "_law_seen", "_law_front", "_law_top", "_law_later", "_law_mine", "_law_its", "_law_gone", "_law_need", "_law_more"] [va, vb, .int b]) Hv (.list ([((0, 0) : NN)].map nnD)) :=
      ed_lst (eda_cons (ed_tup (eda_cons ed_int (eda_cons ed_int eda_nil)) (by show 2 ≤ 100000; decide)) eda_nil) (by show 1 ≤ 100000; decide)
    refine go_par3 ?_
    refine (eda_cons one0 (eda_cons one0 (eda_cons (ed_int (i := 0)) eda_nil))) H e _ fun vs H1 e1 hvs => ?_
    obtain ⟨v3, v4, v5, rfl, hv3, hv4, hv5⟩ := dp3 hvs
    cases hv5
    refine ⟨_, _, _, rfl, ?_⟩
    clear one0 hvs
    have hfin : 0 ≤ b → bfs one other b (one.length + other.length + 1 - 0) [(0, 0)] [(0, 0)] 0 = bothAtM one other b := fun hb => by
      unfold bothAtM
      rw [if_pos hb]
      rfl
    refine ⟨atW K Hv H one other b va vb, ⟨_, 0, [(0, 0)], [(0, 0)], 0, v3, v4, none, none, none, none, rfl, lev0 one other b, List.pairwise_singleton _ _, (by show 1 ≤ 441; decide), rfl, e1, hv3, hv4, hfin, fun _ => rfl⟩, ?_⟩
    clear hfin
    rintro m σ H0 ⟨L, seen, front, top, v3', v4', o6, o7, o8, o9, hm, lev, nds, hfl, rfl, e0, hs, hf, hres, hneg⟩
    have ev0 : Ex Hv (hid Hv H H0) := hid_base e e0
    have ebase : Ex (hid Hv H H0) H0 := hid_ex
    refine et_go (b := decide (front ≠ []) && decide (0 ≤ b)) (et_and (et_is (et_bool (K := K) (ed_neP (ed_var rfl hf) (ed_lst eda_nil (Nat.zero_le _)) (nnD_all front) rfl ?_)) ?_) fun _ => et_bool (K := K) (etI_ge (ed_var rfl (.int _)) ed_int)) ebase fun H1 e1 => ?_
    · have := nn_depth front
      show PyData.depthAll (front.map nnD) + 1 ≤ 60
      omega
    · cases front with
      | nil => rfl
      | cons p f => rfl
    by_cases hgo : front ≠ [] ∧ 0 ≤ b
    case neg =>
      rw [show (decide (front ≠ []) && decide (0 ≤ b)) = false by
        by_cases z : front ≠ []
        · rw [decide_eq_true z, decide_eq_false fun y => hgo ⟨z, y⟩]
          rfl
        · rw [decide_eq_false z]
          rfl]
      refine iteF ⟨_, rfl, ?_⟩
      have ht : top = bothAtM one other b := by
        by_cases hb : 0 ≤ b
        · have hz : front = [] := by
            cases front with
            | nil => rfl
            | cons p f => exact absurd ⟨(fun z => nomatch z), hb⟩ hgo
          rw [← hres hb, hz]
          cases m with
          | zero => rfl
          | succ n => exact (if_pos rfl).symm
        · unfold bothAtM
          rw [if_neg hb, hneg (by omega)]
      rw [ht]
      exact q _ H1 (e0.trans e1) (.int _)
    obtain ⟨hne, hb0⟩ := hgo
    rw [show (decide (front ≠ []) && decide (0 ≤ b)) = true by rw [decide_eq_true hne, decide_eq_true hb0]; rfl]
    have hm0 : 0 < m := by
      rcases Nat.eq_zero_or_pos m with z | z
      · exact absurd (lev_far lev (by omega)) hne
      · exact z
    obtain ⟨m', rfl⟩ : ∃ m', m = m' + 1 := ⟨m - 1, by omega⟩
    have hstep : bfs one other b (m' + 1) seen front top = bfs one other b m' (seen ++ (bRound one other b seen front top).1) (bRound one other b seen front top).1 (bRound one other b seen front top).2 := if_neg hne
    have hres := hres hb0
    rw [hstep] at hres
    clear hstep hm0
    refine iteT ⟨fun σ' H' => ∃ m2, m2 < m' + 1 ∧ atW K Hv H one other b va vb m2 σ' H', fun σ' H' n => n, ?_⟩
    refine ⟨by show 0 ≤ sizeLine; decide, fun l hl => ?_⟩
    have hlH : H l = none := ex_none (e0.trans e1) hl
    obtain ⟨af, xf, rfl, f1, f2⟩ := dp_lst hf
    have hxf : xf.length = front.length := by rw [dpAll_len f2, List.length_map]
    refine ⟨_, rfl, af, rfl, ⟨xf, ex_l ((hid_ex.trans e1).trans (Ex.new hl)) f1⟩, ?_⟩
    refine for_list (K := K) (a := af) (xs := xf) (fun k σ H' => ∃ (later : List NN) (tp : Int) (o7 o8 o9 : Option V), σ = [some va, some vb, some (.int b), some v3', some (.ref af), some (.int tp), some (.ref l), o7, o8, o9, none, none] ∧
        Holds K Hv H H1 l later H' ∧ (seen ++ later).Nodup ∧ Grid later ∧ (front.drop k).foldl (bStep one other b seen) (later, tp) = bRound one other b seen front top)
      ⟨[], top, _, _, _, rfl, ⟨Ex.new hl, [], upd_same, .nil⟩, by rw [List.append_nil]; exact nds, fun p hp => absurd hp List.not_mem_nil, by rw [List.drop_zero]; rfl⟩ (fun k σ H' _ ⟨_, _, _, _, _, _, hH, _⟩ => ex_l ((hid_ex.trans e1).trans hH.ex) f1) ?_ ?_
    · rintro k x σ H3 hx ⟨later, tp, o7', o8', o9', rfl, hH, nd, gr, hfold⟩
      obtain ⟨dx, hdx, hx2⟩ := dpAll_get f2 hx
      rw [List.getElem?_map] at hdx
      obtain ⟨⟨m, i⟩, hmi, rfl⟩ := Option.map_eq_some_iff.mp hdx
      rw [drop_get hmi, List.foldl_cons] at hfold
      obtain ⟨T, ts, rfl, u1, u2⟩ := dp_tup hx2
      obtain ⟨x1, x2, rfl, w1, w2⟩ := dp2 u2
      cases w1
      cases w2
      have hml := (lev.f _ (List.mem_of_getElem? hmi)).1.len
      have hml : m ≤ one.length ∧ i ≤ other.length := hml
      refine ⟨T, _, rfl, sqT_same ((hid_ex.trans e1).trans hH.ex) u1, rfl, _, _, rfl, ?_⟩
      refine ⟨_, _, rfl, ?_⟩
      refine ⟨rfl, ?_⟩
      have evH3 : Ex Hv H3 := e.trans ((e0.trans e1).trans hH.ex)
      refine qs_setI (K := K) (H0 := Hv) (z := presum one m + presum other i) ?_ evH3 fun H4 e4 => ?_
      · refine ed_I0 (g := fun i j => i + j) (ed_val (presum_sum one m) (ed_sum ?_)) (ed_val (presum_sum other i) (ed_sum ?_))
        · have hd := ed_slT (ed_var (K := K) (σ := [some va, some vb, some (.int b), some v3', some (.ref af), some (.int tp), some (.ref l), some (.int (m : Nat)), some (.int (i : Nat)), o9', none, none]) (i := 0) rfl h1) (eo_none (H := Hv)) (eo_int (K := K) (ed_var (i := 7) rfl (.int (m : Nat))))
          rw [cut_head, ← List.map_take] at hd
          rw [List.map_map, ← range_map_get (one.take m) (PyData.int ∘ fun x => x.2) (0, 0)]
          have hl2 : (one.take m).length = ((one.take m).map stepD).length := (List.length_map _).symm
          rw [hl2]
          refine ed_lcT _ hd (by rw [List.length_map, List.length_take]; omega) ?_
          intro j x dx H' hdx e5 hx H'' e6 Qg kk
          rw [List.getElem?_map] at hdx
          obtain ⟨⟨n, g⟩, hst, rfl⟩ := Option.map_eq_some_iff.mp hdx
          refine g_tup2 hx e6 (fun _ _ => rfl) (fun a b ha hb => ?_) kk
          rw [show (one.take m).getD j (0, 0) = (n, g) by rw [List.getD_eq_getElem?_getD, hst]; rfl]
          exact ed_var rfl hb
        · have hd := ed_slT (ed_var (K := K) (σ := [some va, some vb, some (.int b), some v3', some (.ref af), some (.int tp), some (.ref l), some (.int (m : Nat)), some (.int (i : Nat)), o9', none, none]) (i := 1) rfl h2) (eo_none (H := Hv)) (eo_int (K := K) (ed_var (i := 8) rfl (.int (i : Nat))))
          rw [cut_head, ← List.map_take] at hd
          rw [List.map_map, ← range_map_get (other.take i) (PyData.int ∘ fun x => x.2) (0, 0)]
          have hl2 : (other.take i).length = ((other.take i).map stepD).length := (List.length_map _).symm
          rw [hl2]
          refine ed_lcT _ hd (by rw [List.length_map, List.length_take]; omega) ?_
          intro j x dx H' hdx e5 hx H'' e6 Qg kk
          rw [List.getElem?_map] at hdx
          obtain ⟨⟨n, g⟩, hst, rfl⟩ := Option.map_eq_some_iff.mp hdx
          refine g_tup2 hx e6 (fun _ _ => rfl) (fun a b ha hb => ?_) kk
          rw [show (other.take i).getD j (0, 0) = (n, g) by rw [List.getD_eq_getElem?_getD, hst]; rfl]
          exact ed_var rfl hb
      refine qs_setI (K := K) (H0 := Hv) (z := mx tp (presum one m + presum other i)) (ed_max2 (ed_var rfl (.int _)) (ed_var rfl (.int _))) (evH3.trans e4) fun H5 e5 => ?_
      have hH5 := (hH.on e4).on e5
      clear hH evH3
      have e15 : Ex H1 H5 := hH5.ex
      have hva : EvD K (tVar 0) [some va, some vb, some (.int b), some v3', some (.ref af), some (.int (mx tp (presum one m + presum other i))), some (.ref l), some (.int (m : Nat)), some (.int (i : Nat)), some (.int (presum one m + presum other i)), none, none] (hid Hv H H5) (.tuple (one.map stepD)) := ed_var rfl (dp_same (hid_base e ((e0.trans e1).trans e15)) h1)
      have hvb : EvD K (tVar 1) [some va, some vb, some (.int b), some v3', some (.ref af), some (.int (mx tp (presum one m + presum other i))), some (.ref l), some (.int (m : Nat)), some (.int (i : Nat)), some (.int (presum one m + presum other i)), none, none] (hid Hv H H5) (.tuple (other.map stepD)) := ed_var rfl (dp_same (hid_base e ((e0.trans e1).trans e15)) h2)
      have kseen : Dp K (hid Hv H H5) v3' (.list (seen.map nnD)) := dp_same (hid_on (e1.trans e15)) hs
      have klater : Dp K (hid Hv H H5) (.ref l) (.list (later.map nnD)) := hH5.dp hlH
      have gr1 : Grid (seen ++ later) := fun p hp => (List.mem_append.mp hp).elim (fun z => by have := (lev.s p z).1.len; omega) (gr p)
      have nd1 := nd
      refine qs_if (b := condL one other b seen later m i) (H0 := hid Hv H H5) ?_ hid_ex (fun hc H6 e6 => ?_) (fun hc H6 e6 => ?_)
      · unfold condL
        cases hx1 : one[m]? with
        | none =>
          have nl1 := List.getElem?_eq_none_iff.mp hx1
          exact et_is (et_and (a := false) (b := false) (et_is (etI_lt (ed_var (K := K) rfl (.int _)) (ed_lenT hva)) (decide_eq_false (by rw [List.length_map]; omega))) fun z => nomatch z) rfl
        | some x1 =>
          have nl1 := (List.getElem?_eq_some_iff.mp hx1).1
          have hxd : (one.map stepD)[m]? = some (.tuple [.int x1.1, .int x1.2]) := by
            rw [List.getElem?_map, hx1]
            rfl
          refine et_is (et_and (a := true) (b := decide (x1.1 ≤ b + (presum one m + presum other i)) && decide ((m + 1, i) ∉ seen ++ later)) (et_is (etI_lt (ed_var (K := K) rfl (.int _)) (ed_lenT hva)) (decide_eq_true (by rw [List.length_map]; omega))) fun _ => ?_) rfl
          refine et_and (etI_le (K := K) (ed_ixT (k := 0) (ed_ixT (k := m) hva (ed_var rfl (.int _)) hxd) ed_int rfl) (ed_I0 (g := fun i j => i + j) (ed_var (K := K) rfl (.int _)) (ed_var (K := K) rfl (.int _)))) fun _ => ?_
          refine et_bool (K := K) (ed_isb ?_ (ed_notInP (d := nnD (m + 1, i)) (ed_is (d := .tuple [.int ((m : Nat) + 1), .int (i : Nat)]) rfl (ed_tup (eda_cons (ed_I0 (g := fun i j => i + j) (ed_var rfl (.int _)) (ed_int (i := 1))) (eda_cons (ed_var rfl (.int _)) eda_nil)) (by show 2 ≤ 100000; decide))) (ed_catL (ed_var rfl kseen) (ed_var rfl klater) ?_) rfl (by rw [← List.map_append]; exact nnD_all _) (by show 1 ≤ 60; decide)))
          · rw [← List.map_append, nnD_any, decide_not]
          · have := grid_len nd1 gr1
            rw [List.length_append] at this
            rw [List.length_map, List.length_map]
            omega
      · have hH6 := hH5.on e6
        obtain ⟨ys, hy, hyd⟩ := hH6.at'
        refine ⟨_, rfl, .inl ⟨rfl, _, SqL.of hy⟩, _, rfl, _, _, rfl, rfl, _, rfl, (by show 2 ≤ sizeLine; decide), fun p hp => ?_⟩
        have npl : p ≠ l := fun z => by
          rw [z, hy] at hp
          cases hp
        refine ⟨l, _, _, rfl, rfl, (upd_ne npl.symm).trans hy, ?_, ?_⟩
        · have hlen := dpAll_len hyd
          rw [List.length_map] at hlen
          have := grid_len nd1 gr1
          rw [List.length_append] at this
          exact sz_lt (by omega)
        have hH7 : Holds K Hv H H1 l (later ++ [(m + 1, i)]) _ := hH6.app hy hl (e0.trans e1) hp
        have nd2 : (seen ++ (later ++ [(m + 1, i)])).Nodup := by rw [← List.append_assoc]; exact nodup_snoc nd1 (condL_true hc).2
        have gr2 : Grid (later ++ [(m + 1, i)]) := fun p hp => (List.mem_append.mp hp).elim (gr p) fun z => by rw [List.mem_singleton.mp z]; have := (condL_true hc).1; exact ⟨by show m + 1 ≤ 20; omega, by show i ≤ 20; omega⟩
        have eL : newL one other b seen later m i = later ++ [(m + 1, i)] := by rw [newL_if, if_pos hc]
        have hH7' : Holds K Hv H H1 l (later ++ [(m + 1, i)]) (upd (upd H6 p (.tup [.int ((m : Nat) + 1), .int (i : Nat)])) l (.lst (ys ++ [.ref p]))) := hH7
        clear hH7
        revert hH7'
        generalize upd (upd H6 p (.tup [.int ((m : Nat) + 1), .int (i : Nat)])) l (.lst (ys ++ [.ref p])) = H7
        intro hH7
        dsimp only
        clear hva hvb kseen klater gr1 nd1 e15
        have e15 : Ex H1 H7 := hH7.ex
        have hva : EvD K (tVar 0) [some va, some vb, some (.int b), some v3', some (.ref af), some (.int (mx tp (presum one m + presum other i))), some (.ref l), some (.int (m : Nat)), some (.int (i : Nat)), some (.int (presum one m + presum other i)), none, none] (hid Hv H H7) (.tuple (one.map stepD)) := ed_var rfl (dp_same (hid_base e ((e0.trans e1).trans e15)) h1)
        have hvb : EvD K (tVar 1) [some va, some vb, some (.int b), some v3', some (.ref af), some (.int (mx tp (presum one m + presum other i))), some (.ref l), some (.int (m : Nat)), some (.int (i : Nat)), some (.int (presum one m + presum other i)), none, none] (hid Hv H H7) (.tuple (other.map stepD)) := ed_var rfl (dp_same (hid_base e ((e0.trans e1).trans e15)) h2)
        have kseen : Dp K (hid Hv H H7) v3' (.list (seen.map nnD)) := dp_same (hid_on (e1.trans e15)) hs
        have klater : Dp K (hid Hv H H7) (.ref l) (.list ((later ++ [(m + 1, i)]).map nnD)) := hH7.dp hlH
        have gr1 : Grid (seen ++ (later ++ [(m + 1, i)])) := fun p hp => (List.mem_append.mp hp).elim (fun z => by have := (lev.s p z).1.len; omega) (gr2 p)
        have nd1 := nd2
        refine go_ifB (b := condR one other b seen (later ++ [(m + 1, i)]) m i) (H0 := hid Hv H H7) ?_ hid_ex (fun hc2 H8 e8 => ?_) fun hc2 H8 e8 => ?_
        · unfold condR
          cases hx1 : other[i]? with
          | none =>
            have nl1 := List.getElem?_eq_none_iff.mp hx1
            exact et_is (et_and (a := false) (b := false) (et_is (etI_lt (ed_var (K := K) rfl (.int _)) (ed_lenT hvb)) (decide_eq_false (by rw [List.length_map]; omega))) fun z => nomatch z) rfl
          | some x1 =>
            have nl1 := (List.getElem?_eq_some_iff.mp hx1).1
            have hxd : (other.map stepD)[i]? = some (.tuple [.int x1.1, .int x1.2]) := by
              rw [List.getElem?_map, hx1]
              rfl
            refine et_is (et_and (a := true) (b := decide (x1.1 ≤ b + (presum one m + presum other i)) && decide ((m, i + 1) ∉ seen ++ (later ++ [(m + 1, i)]))) (et_is (etI_lt (ed_var (K := K) rfl (.int _)) (ed_lenT hvb)) (decide_eq_true (by rw [List.length_map]; omega))) fun _ => ?_) rfl
            refine et_and (etI_le (K := K) (ed_ixT (k := 0) (ed_ixT (k := i) hvb (ed_var rfl (.int _)) hxd) ed_int rfl) (ed_I0 (g := fun i j => i + j) (ed_var (K := K) rfl (.int _)) (ed_var (K := K) rfl (.int _)))) fun _ => ?_
            refine et_bool (K := K) (ed_isb ?_ (ed_notInP (d := nnD (m, i + 1)) (ed_is (d := .tuple [.int (m : Nat), .int ((i : Nat) + 1)]) rfl (ed_tup (eda_cons (ed_var rfl (.int _)) (eda_cons (ed_I0 (g := fun i j => i + j) (ed_var rfl (.int _)) (ed_int (i := 1))) eda_nil)) (by show 2 ≤ 100000; decide))) (ed_catL (ed_var rfl kseen) (ed_var rfl klater) ?_) rfl (by rw [← List.map_append]; exact nnD_all _) (by show 1 ≤ 60; decide)))
            · rw [← List.map_append, nnD_any, decide_not]
            · have := grid_len nd1 gr1
              rw [List.length_append] at this
              rw [List.length_map, List.length_map]
              omega
        · have hH8 := hH7.on e8
          obtain ⟨ys, hy, hyd⟩ := hH8.at'
          refine ⟨_, rfl, .inl ⟨rfl, _, SqL.of hy⟩, _, rfl, _, rfl, _, _, rfl, rfl, (by show 2 ≤ sizeLine; decide), fun p hp => ?_⟩
          have npl : p ≠ l := fun z => by
            rw [z, hy] at hp
            cases hp
          refine ⟨l, _, _, rfl, rfl, (upd_ne npl.symm).trans hy, ?_, ?_⟩
          · have hlen := dpAll_len hyd
            rw [List.length_map] at hlen
            have := grid_len nd1 gr1
            rw [List.length_append] at this
            exact sz_lt (by omega)
          have hH9 : Holds K Hv H H1 l ((later ++ [(m + 1, i)]) ++ [(m, i + 1)]) _ := hH8.app hy hl (e0.trans e1) hp
          refine ⟨((later ++ [(m + 1, i)]) ++ [(m, i + 1)]), _, _, _, _, rfl, hH9, (by rw [← List.append_assoc]; exact nodup_snoc nd1 (condR_true hc2).2), (fun p hp => (List.mem_append.mp hp).elim (gr2 p) fun z => by rw [List.mem_singleton.mp z]; have := (condR_true hc2).1; exact ⟨by show m ≤ 20; omega, by show i + 1 ≤ 20; omega⟩), ?_⟩
          rw [← hfold]
          show List.foldl _ (_, _) _ = List.foldl _ (newR one other b seen (newL one other b seen later m i) m i, mx tp (presum one m + presum other i)) _
          rw [eL, newR_if, if_pos hc2]
        · refine go_next ?_
          dsimp only
          refine ⟨(later ++ [(m + 1, i)]), _, _, _, _, rfl, (hH7.on e8), nd2, gr2, ?_⟩
          rw [← hfold]
          show List.foldl _ (_, _) _ = List.foldl _ (newR one other b seen (newL one other b seen later m i) m i, mx tp (presum one m + presum other i)) _
          rw [eL, newR_if, if_neg (by rw [hc2]; exact Bool.false_ne_true)]
      · refine go_next ?_
        dsimp only
        have hH6 := hH5.on e6
        have eL : newL one other b seen later m i = later := by rw [newL_if, if_neg (by rw [hc]; exact Bool.false_ne_true)]
        clear hva hvb kseen klater gr1 nd1 e15
        have e15 : Ex H1 H6 := hH6.ex
        have hva : EvD K (tVar 0) [some va, some vb, some (.int b), some v3', some (.ref af), some (.int (mx tp (presum one m + presum other i))), some (.ref l), some (.int (m : Nat)), some (.int (i : Nat)), some (.int (presum one m + presum other i)), none, none] (hid Hv H H6) (.tuple (one.map stepD)) := ed_var rfl (dp_same (hid_base e ((e0.trans e1).trans e15)) h1)
        have hvb : EvD K (tVar 1) [some va, some vb, some (.int b), some v3', some (.ref af), some (.int (mx tp (presum one m + presum other i))), some (.ref l), some (.int (m : Nat)), some (.int (i : Nat)), some (.int (presum one m + presum other i)), none, none] (hid Hv H H6) (.tuple (other.map stepD)) := ed_var rfl (dp_same (hid_base e ((e0.trans e1).trans e15)) h2)
        have kseen : Dp K (hid Hv H H6) v3' (.list (seen.map nnD)) := dp_same (hid_on (e1.trans e15)) hs
        have klater : Dp K (hid Hv H H6) (.ref l) (.list (later.map nnD)) := hH6.dp hlH
        have gr1 : Grid (seen ++ later) := fun p hp => (List.mem_append.mp hp).elim (fun z => by have := (lev.s p z).1.len; omega) (gr p)
        have nd1 := nd
        refine go_ifB (b := condR one other b seen later m i) (H0 := hid Hv H H6) ?_ hid_ex (fun hc2 H8 e8 => ?_) fun hc2 H8 e8 => ?_
        · unfold condR
          cases hx1 : other[i]? with
          | none =>
            have nl1 := List.getElem?_eq_none_iff.mp hx1
            exact et_is (et_and (a := false) (b := false) (et_is (etI_lt (ed_var (K := K) rfl (.int _)) (ed_lenT hvb)) (decide_eq_false (by rw [List.length_map]; omega))) fun z => nomatch z) rfl
          | some x1 =>
            have nl1 := (List.getElem?_eq_some_iff.mp hx1).1
            have hxd : (other.map stepD)[i]? = some (.tuple [.int x1.1, .int x1.2]) := by
              rw [List.getElem?_map, hx1]
              rfl
            refine et_is (et_and (a := true) (b := decide (x1.1 ≤ b + (presum one m + presum other i)) && decide ((m, i + 1) ∉ seen ++ later)) (et_is (etI_lt (ed_var (K := K) rfl (.int _)) (ed_lenT hvb)) (decide_eq_true (by rw [List.length_map]; omega))) fun _ => ?_) rfl
            refine et_and (etI_le (K := K) (ed_ixT (k := 0) (ed_ixT (k := i) hvb (ed_var rfl (.int _)) hxd) ed_int rfl) (ed_I0 (g := fun i j => i + j) (ed_var (K := K) rfl (.int _)) (ed_var (K := K) rfl (.int _)))) fun _ => ?_
            refine et_bool (K := K) (ed_isb ?_ (ed_notInP (d := nnD (m, i + 1)) (ed_is (d := .tuple [.int (m : Nat), .int ((i : Nat) + 1)]) rfl (ed_tup (eda_cons (ed_var rfl (.int _)) (eda_cons (ed_I0 (g := fun i j => i + j) (ed_var rfl (.int _)) (ed_int (i := 1))) eda_nil)) (by show 2 ≤ 100000; decide))) (ed_catL (ed_var rfl kseen) (ed_var rfl klater) ?_) rfl (by rw [← List.map_append]; exact nnD_all _) (by show 1 ≤ 60; decide)))
            · rw [← List.map_append, nnD_any, decide_not]
            · have := grid_len nd1 gr1
              rw [List.length_append] at this
              rw [List.length_map, List.length_map]
              omega
        · have hH8 := hH6.on e8
          obtain ⟨ys, hy, hyd⟩ := hH8.at'
          refine ⟨_, rfl, .inl ⟨rfl, _, SqL.of hy⟩, _, rfl, _, rfl, _, _, rfl, rfl, (by show 2 ≤ sizeLine; decide), fun p hp => ?_⟩
          have npl : p ≠ l := fun z => by
            rw [z, hy] at hp
            cases hp
          refine ⟨l, _, _, rfl, rfl, (upd_ne npl.symm).trans hy, ?_, ?_⟩
          · have hlen := dpAll_len hyd
            rw [List.length_map] at hlen
            have := grid_len nd1 gr1
            rw [List.length_append] at this
            exact sz_lt (by omega)
          have hH9 : Holds K Hv H H1 l (later ++ [(m, i + 1)]) _ := hH8.app hy hl (e0.trans e1) hp
          refine ⟨(later ++ [(m, i + 1)]), _, _, _, _, rfl, hH9, (by rw [← List.append_assoc]; exact nodup_snoc nd1 (condR_true hc2).2), (fun p hp => (List.mem_append.mp hp).elim (gr p) fun z => by rw [List.mem_singleton.mp z]; have := (condR_true hc2).1; exact ⟨by show m ≤ 20; omega, by show i + 1 ≤ 20; omega⟩), ?_⟩
          rw [← hfold]
          show List.foldl _ (_, _) _ = List.foldl _ (newR one other b seen (newL one other b seen later m i) m i, mx tp (presum one m + presum other i)) _
          rw [eL, newR_if, if_pos hc2]
        · refine go_next ?_
          dsimp only
          refine ⟨later, _, _, _, _, rfl, (hH6.on e8), nd, gr, ?_⟩
          rw [← hfold]
          show List.foldl _ (_, _) _ = List.foldl _ (newR one other b seen (newL one other b seen later m i) m i, mx tp (presum one m + presum other i)) _
          rw [eL, newR_if, if_neg (by rw [hc2]; exact Bool.false_ne_true)]
    · rintro σ H3 ⟨later, tp, o7', o8', o9', rfl, hH, nd, gr, hfold⟩
      rw [hxf, List.drop_length] at hfold
      have hfold : (later, tp) = bRound one other b seen front top := hfold
      have lev2 := lev_next lev
      rw [← hfold] at lev2 hres
      have gr1 : Grid (seen ++ later) := fun p hp => (List.mem_append.mp hp).elim (fun z => by have := (lev.s p z).1.len; omega) (gr p)
      have len1 := grid_len nd gr1
      rw [List.length_append] at len1
      have kseen : Dp K (hid Hv H H3) v3' (.list (seen.map nnD)) := dp_same (hid_on (e1.trans hH.ex)) hs
      have klater : Dp K (hid Hv H H3) (.ref l) (.list (later.map nnD)) := hH.dp hlH
      dsimp only
      refine go_par2 ?_
      refine (eda_cons (ed_catL (ed_var (i := 3) rfl kseen) (ed_var (i := 6) rfl klater) (by rw [List.length_map, List.length_map]; omega)) (eda_cons (ed_var (i := 6) rfl klater) eda_nil)) H3 hid_ex _ fun vs H4 e4 hvs => ?_
      obtain ⟨y3, y4, rfl, d3, d4⟩ := dp2 hvs
      refine ⟨_, _, rfl, ?_⟩
      rw [← List.map_append] at d3
      exact ⟨m', Nat.lt_succ_self _, L + 1, seen ++ later, later, tp, y3, y4, _, _, _, _, by omega, lev2, nd, by omega, rfl, ((e0.trans e1).trans hH.ex).trans e4, dp_same (hid_two ((e0.trans e1).trans hH.ex)) d3, dp_same (hid_two ((e0.trans e1).trans hH.ex)) d4, fun _ => hres, fun z => by omega⟩
end K11

set_option maxHeartbeats 1000000
/-! how great all of it may be -/
namespace K11
open PySem PySem.Spec PyProof.Rows L2 Evl VG
theorem stairs_len (sts : List Stp) : (stairsM sts).length ≤ sts.length := by
  unfold stairsM
  rw [List.length_map]
  have := climbsM_len sts 0 0 0 0 []
  rw [List.length_nil] at this
  omega
theorem bothL_len {s t : List Stp} : ∀ (n i j : Nat) (b : Int) (fo : List Stp), (bothL s t n i j b fo).length ≤ fo.length + n
  | 0, _, _, _, _ => Nat.le_refl _
  | n + 1, i, j, b, fo => by
    have step : ∀ (i' j' : Nat) (b' : Int) (e : Stp), (bothL s t n i' j' b' (putS fo e)).length ≤ fo.length + (n + 1) := fun i' j' b' e => by
      have h1 := bothL_len (s := s) (t := t) n i' j' b' (putS fo e)
      have : (putS fo e).length ≤ fo.length + 1 := putV_len _ _ _
      omega
    unfold bothL
    cases s[i]? with
    | none =>
      cases t[j]? with
      | none => exact Nat.le_add_right _ _
      | some y => exact step _ _ _ _
    | some x =>
      cases t[j]? with
      | none => exact step _ _ _ _
      | some y =>
        dsimp only
        split
        · exact step _ _ _ _
        · exact step _ _ _ _
theorem both_len (s t : List Stp) : (bothM s t).length ≤ s.length + t.length := by
  have := bothL_len (s := s) (t := t) (s.length + t.length) 0 0 0 []
  rw [List.length_nil] at this
  unfold bothM
  omega
def stBig (s : Stp) : Prop := 0 ≤ s.1 ∧ s.1 ≤ 10 ^ 12 ∧ -10 ^ 12 ≤ s.2 ∧ s.2 ≤ 10 ^ 12
theorem big_st {s : Stp} (h : bigSt s) : stBig s := by
  obtain ⟨⟨h1, h2⟩, h3, h4⟩ := h
  exact ⟨h1, h3, by omega, by omega⟩
theorem presum_big : ∀ (r : List Stp), (∀ s ∈ r, stBig s) → ∀ i : Nat, -(10 ^ 12 * (r.length : Int)) ≤ presum r i ∧ presum r i ≤ 10 ^ 12 * (r.length : Int)
  | r, _, 0 => by
    rw [presum_zero]
    omega
  | [], _, _ + 1 => by
    show -(10 ^ 12 * ((0 : Nat) : Int)) ≤ 0 ∧ (0 : Int) ≤ 10 ^ 12 * ((0 : Nat) : Int)
    omega
  | (n, g) :: r, h, i + 1 => by
    have ih := presum_big r (fun s hs => h s (List.mem_cons_of_mem _ hs)) i
    have h1 := h (n, g) List.mem_cons_self
    have h1 : 0 ≤ n ∧ n ≤ 10 ^ 12 ∧ -10 ^ 12 ≤ g ∧ g ≤ 10 ^ 12 := h1
    show _ ≤ g + presum r i ∧ g + presum r i ≤ _
    rw [List.length_cons]
    omega
theorem bases_big : ∀ (r : List Stp) (lo ri R : Int), (∀ s ∈ r, stBig s) → 0 ≤ lo → lo ≤ R + 10 ^ 12 * (r.length + 1 : Nat) → -R ≤ ri → ri ≤ R → ∀ b ∈ basesM lo ri r, 0 ≤ b ∧ b ≤ R + 10 ^ 12 * (r.length + 1 : Nat)
  | [], _, _, _, _, _, _, _, _, b, hb => absurd hb List.not_mem_nil
  | (n, g) :: r, lo, ri, R, h, h0, h1, h2, h3, b, hb => by
    have hg := h (n, g) List.mem_cons_self
    have hg : 0 ≤ n ∧ n ≤ 10 ^ 12 ∧ -10 ^ 12 ≤ g ∧ g ≤ 10 ^ 12 := hg
    have e : basesM lo ri ((n, g) :: r) = (if n - ri > lo then n - ri else lo) :: basesM (if n - ri > lo then n - ri else lo) (ri + g) r := rfl
    rw [e] at hb
    have hlo : 0 ≤ (if n - ri > lo then n - ri else lo) ∧ (if n - ri > lo then n - ri else lo) ≤ R + 10 ^ 12 * (((n, g) :: r).length + 1 : Nat) := by
      rw [List.length_cons] at h1 ⊢
      split <;> omega
    generalize (if n - ri > lo then n - ri else lo) = lo' at hb hlo
    rcases List.mem_cons.mp hb with z | z
    · rw [z]
      exact hlo
    · have ih := bases_big r lo' (ri + g) (R + 10 ^ 12) (fun s hs => h s (List.mem_cons_of_mem _ hs)) hlo.1 (by
        rw [List.length_cons] at hlo
        omega) (by omega) (by omega) b z
      rw [List.length_cons]
      omega
/-- no base, no gain is greater -/
def top14 : Int := 10 ^ 14
theorem base_le {sts : List Stp} (h : ∀ s ∈ sts, bigSt s) (hl : sts.length ≤ 5) {b : Int} (hb : b ∈ basesM 0 0 sts) : 0 ≤ b ∧ b ≤ 10 ^ 14 := by
  have := bases_big sts 0 0 0 (fun s hs => big_st (h s hs)) (Int.le_refl _) (by omega) (by omega) (by omega) b hb
  omega
theorem stair_le {sts : List Stp} (h : ∀ s ∈ sts, bigSt s) (hl : sts.length ≤ 5) {x : Stp} (hx : x ∈ stairsM sts) : 0 ≤ x.1 ∧ x.1 ≤ 10 ^ 14 ∧ 0 < x.2 ∧ x.2 ≤ 10 ^ 14 := by
  have h1 := base_le h hl (stairs_bases hx)
  have h2 := (stairs_up sts).2 x hx
  obtain ⟨k, hk⟩ := List.mem_iff_getElem?.mp hx
  obtain ⟨i, _, e, _⟩ := stair_way hk
  have := presum_big sts (fun s hs => big_st (h s hs)) i
  omega
theorem val_le14 {s : List Stp} (h : ∀ x ∈ s, x.2 ≤ 10 ^ 14) (k : Nat) : val s k ≤ 10 ^ 14 := by
  cases k with
  | zero => show (0 : Int) ≤ _; omega
  | succ k =>
    show ((s[k]?).map (·.2)).getD 0 ≤ _
    cases hx : s[k]? with
    | none => show (0 : Int) ≤ _; omega
    | some x => exact h x (List.mem_of_getElem? hx)
theorem gain_le14 {s : List Stp} (up : Up s) (h : ∀ x ∈ s, x.2 ≤ 10 ^ 14) (b : Int) : 0 ≤ gainM s b ∧ gainM s b ≤ 10 ^ 14 := by
  refine ⟨gain_nonneg up b, ?_⟩
  rcases gain_last s b with e | ⟨y, hy, _, e⟩
  · omega
  · have := h y hy
    omega
theorem both_le14 {s t : List Stp} (us : Up s) (ut : Up t) (h1 : ∀ x ∈ s, x.2 ≤ 10 ^ 14) (h2 : ∀ x ∈ t, x.2 ≤ 10 ^ 14) (b : Int) : 0 ≤ gainM (bothM s t) b ∧ gainM (bothM s t) b ≤ 2 * 10 ^ 14 := by
  refine ⟨gain_nonneg (both_up us ut) b, ?_⟩
  by_cases hb : 0 ≤ b
  · obtain ⟨I, J, _, _, e⟩ := both_gain s t hb
    have := val_le14 h1 I
    have := val_le14 h2 J
    omega
  · rw [both_gain0 s t (by omega)]
    omega
theorem log_ok {z : Int} (h0 : 0 ≤ z) (h : z ≤ 2 * 10 ^ 14) : z.natAbs.log2 < 1920 := by
  have h1 : z.natAbs < 2 ^ 64 := by omega
  have : z.natAbs.log2 < 64 := by
    by_cases e : z.natAbs = 0
    · rw [e]
      decide
    · exact (Nat.log2_lt e).mpr h1
  omega
theorem lower_le {s t : List Stp} (h : ∀ x ∈ t, 0 ≤ x.1 ∧ x.1 ≤ 10 ^ 14) {i : Int} (e : lowerM s t = some i) : 0 ≤ i ∧ i ≤ 10 ^ 14 := by
  rcases lower_split s t with ⟨h1, _⟩ | ⟨pre, x, suf, h1, h2, _, _⟩
  · rw [h1] at e
    cases e
  · rw [h2] at e
    cases e
    exact h x (by rw [h1]; exact List.mem_append_right _ List.mem_cons_self)
theorem back_twice (sts : List Stp) : backSteps (backSteps sts) = sts := by
  unfold backSteps
  rw [List.map_reverse, List.reverse_reverse, List.map_map]
  conv => rhs; rw [← List.map_id sts]
  refine List.map_congr_left fun s _ => ?_
  show backS (backS s) = s
  obtain ⟨n, g⟩ := s
  show (n + g + -g, - -g) = (n, g)
  rw [Int.neg_neg, Int.add_neg_cancel_right]
theorem mild_stepD {s : Stp} (h1 : s.1.natAbs < 10 ^ 30) (h2 : s.2.natAbs < 10 ^ 30) : mild (stepD s) = true := by
  have := mild_ints (ns := [s.1, s.2]) fun z hz => by
    rcases List.mem_cons.mp hz with h | h
    · rw [h]; exact h1
    · rw [List.mem_singleton.mp h]; exact h2
  exact this
theorem mild_steps : ∀ {sts : List Stp}, (∀ s ∈ sts, s.1.natAbs < 10 ^ 30 ∧ s.2.natAbs < 10 ^ 30) → mildAll (sts.map stepD) = true
  | [], _ => rfl
  | s :: r, h => by
    have h1 := h s List.mem_cons_self
    rw [List.map_cons]
    show (mild (stepD s) && mildAll (r.map stepD)) = true
    rw [mild_stepD h1.1 h1.2, mild_steps fun s hs => h s (List.mem_cons_of_mem _ hs)]
    rfl
theorem nodes_steps : ∀ sts : List Stp, nodesAll (sts.map stepD) = 3 * sts.length
  | [] => rfl
  | s :: r => by
    rw [List.map_cons, List.length_cons]
    show nodes (stepD s) + nodesAll (r.map stepD) = _
    rw [nodes_steps r]
    show 3 + _ = _
    omega
theorem plain_steps : ∀ sts : List Stp, PyData.plainAll (sts.map stepD) = true
  | [] => rfl
  | s :: r => by
    rw [List.map_cons, PyData.plainAll, plain_steps r]
    rfl
theorem depth_steps : ∀ sts : List Stp, PyData.depthAll (sts.map stepD) ≤ 1
  | [] => Nat.zero_le _
  | s :: r => by
    rw [List.map_cons, PyData.depthAll]
    exact Nat.max_le.mpr ⟨Nat.le_refl _, depth_steps r⟩
theorem plainT (sts : List Stp) : (stepsT sts).plain = true := plain_steps sts
theorem depthT (sts : List Stp) : (stepsT sts).depth ≤ 60 := by
  have := depth_steps sts
  show PyData.depthAll (sts.map stepD) + 1 ≤ 60
  omega
end K11

set_option maxHeartbeats 2000000
namespace K11
open PySem PySem.Spec PyProof.Rows L2 Evl VG
variable {P : Program} {w : World} {K : PySem.W.Frag} {mg : Str → Option Value} {base : Heap} {f : Addr} {fd : FuncData}
section
variable {σ : L2.St} {H : Hp} {ta tb : TE}
/-- repr of a whole number, or of None -/
def rRepr0 : List V → Hp → VK → Prop := fun xs H Q => (∃ i, xs = [.int i] ∧ i.natAbs.log2 < 1920 ∧ Q (.str (toString i)) H) ∨ (xs = [.non] ∧ Q (.str "None") H)
theorem call_repr0 {X : Cx} : CallR X (.builtin "repr") rRepr0 := by
  intro pins s σ H xs us Q I r h
  rcases h with ⟨i, rfl, hz, q⟩ | ⟨rfl, q⟩
  · obtain ⟨u, rfl, t, rfl⟩ := vals1 r
    exact PySem.P.repr_of_int hz ⟨.str _, H, I.tok _, ⟨_, rfl⟩, q⟩
  · obtain ⟨u, rfl, r1⟩ := vals1 r
    obtain rfl : u = Value.none := r1
    exact PySem.P.repr_of_none ⟨.str _, H, I.tok _, ⟨_, rfl⟩, q⟩
def shown0 : Option Int → Str
  | some i => (toString i : String)
  | none => "None"
theorem ed_repr0 {o : Option Int} (ha : EvD K ta σ H (optD o)) (hb : ∀ i, o = some i → i.natAbs.log2 < 1920) : EvD K (tCB rRepr0 (tCons ta tNil)) σ H (.str (shown0 o)) := fun H1 e Q q =>
  ha H1 e _ fun v H2 e2 hv => by
    cases o with
    | none =>
      cases hv
      exact .inr ⟨rfl, q _ H2 e2 (.str _)⟩
    | some i =>
      cases hv
      exact .inl ⟨i, rfl, hb i rfl, q _ H2 e2 (.str _)⟩
end
/-- the same text twice -/
theorem et_neSame {σ : L2.St} {H : Hp} {ta tb : TE} {x : Str} (ha : EvD K ta σ H (.str x)) (hb : EvD K tb σ H (.str x)) : EvT (tTest (tOp rNe ta tb)) σ H false :=
  et_is (et_bool (ed_neS ha hb)) (by rw [decide_eq_true rfl]; rfl)
theorem reprT_facts {ds : List PyData} (hm : mildAll ds = true) (hn : nodesAll ds ≤ 90) : (PyData.tuple ds).showable = true ∧ (PyData.tuple ds).hasDict = false ∧ (PyData.tuple ds).depth ≤ 100 ∧ (PyData.tuple ds).shown.length ≤ sizeLine := by
  obtain ⟨a, b, c, d, e, f⟩ := facts_of (.tuple ds) (by simpa [mild] using hm)
  have hN : nodes (.tuple ds) = nodesAll ds + 1 := by simp only [nodes]
  have h1 := PyData.shown_le 40 (by decide) (.tuple ds) c
  refine ⟨a, b, by omega, ?_⟩
  rw [sizeLine_eq]
  omega
theorem go_nm {i : Nat} {v : V} {σ : L2.St} {H : Hp} {Q : L2.St → Hp → Prop} (h : Q (σ.set i (some v)) H) : gName i v σ H Q := h
theorem go_parS {i j : Nat} {ta : TA} {u : TS} {D : Ends} {σ : L2.St} {H : Hp} (h : ta σ H fun vs H1 => ∃ x y, vs = [x, y] ∧ u D ((σ.set i (some x)).set j (some y)) H1) : tSeq (tPar i j ta) u D σ H := h
section
variable {σ : L2.St} {H : Hp} {ta tb : TE}
theorem ed_sortedAsc {st : List Stp} (ha : EvD K ta σ H (stepsT st)) (up : st.Pairwise fun x y => x.1 < y.1) : EvD K (tCB (rSortedAsc K) (tCons ta tNil)) σ H (.list (st.map stepD)) := fun H1 e Q q =>
  ha H1 e _ fun v H2 e2 hv => by
    obtain ⟨a, xs, rfl, s1, s2⟩ := dp_tup hv
    have hl := dpAll_len s2
    rw [List.length_map] at hl
    refine ⟨a, xs, st, rfl, sqT_same hid_ex s1, hl, fun i x p e3 e4 => ?_, up, fun p hp => ?_⟩
    · have hd := dpAll_at s2 e3 (d := stepD p) (by rw [List.getElem?_map, e4]; rfl)
      obtain ⟨t, ys, rfl, t1, t2⟩ := dp_tup hd
      obtain ⟨u1, u2, rfl, w1, w2⟩ := dp2 t2
      cases w1
      cases w2
      exact ⟨t, rfl, sqT_same hid_ex t1⟩
    · exact q _ _ (e2.trans (Ex.new hp)) (.lst (.inl (.inl ((hid_new (ex_none e2 hp)).trans upd_same))) (dpAll_same (hid_on (Ex.new hp)) s2))
theorem ed_notNone (ha : EvD K ta σ H .none) : EvD K (tOp (fun x y H Q => y = V.non ∧ Q (V.bl !decide (x = V.non)) H) ta (tC V.non)) σ H (.bool false) := fun H1 e Q q =>
  ha H1 e _ fun v H2 e2 hv => by
    cases hv
    exact ⟨rfl, q _ H2 e2 (.bl _)⟩
theorem ed_pow {i j : Int} (h0 : 0 ≤ j) (h1 : j ≤ 1000000) (h2 : i.natAbs < 2 ^ 64) : EvD K (tOp (rI CPow fun i j => V.int (i ^ j.toNat)) (tC (.int i)) (tC (.int j))) σ H (.int (i ^ j.toNat)) := ed_I (C := CPow) (g := fun i j => i ^ j.toNat) ed_int ed_int ⟨h0, h1, h2⟩
end
def ca : List Str := ["c", "a"]
/-! ### _law_right -/
abbrev s_law_right : Stmt := top 57
theorem sc_law_right : FnScope ["_law_pot_here", "_law_great", "_law_joined", "_law_ends", "_law_base", "_law_trade_here", "_law_one", "_law_other", "_law_mine", "_law_its", "_law_gain_here", "_law_end"] ["_law_pot_here"] (defScope s_law_right) := ⟨rfl, rfl, rfl, by decide +kernel, rfl, by decide +kernel, by decide +kernel⟩
def spRight : Sp := fun vs H Q _ => ∃ (a : Addr) (n : Nat), vs = [.ref a] ∧ Pot a n H ∧ n + 900 ≤ 1000000 ∧ ∀ H', But a H H' → Pot a (n + 900) H' → Q (.bl true) H'
theorem ok_right (F : Fun K "_law_right" "_law_right" s_law_right f fd) (B : Bltn mg) (D_law_of : Def P w K mg base 2 "_law_of" ["_law_pot_here", "_law_some"] (spOne K))
    (D_law_climbs : Def P w K mg base 4 "_law_climbs" ["_law_pot_here", "_law_most", "_law_great"] (spClimbs K)) (D_stairs_of : Def P w K mg base 5 "stairs_of" ["steps"] (spOf K 1 okStairsOf))
    (D_law_stairs_by : Def P w K mg base 2 "_law_stairs_by" ["_law_steps_here", "_law_most"] (spOf K 2 okLawStairsBy)) (D_steps_back : Def P w K mg base 5 "steps_back" ["steps"] (spOf K 1 okStepsBack))
    (D_law_back_steps : Def P w K mg base 1 "_law_back_steps" ["_law_steps_here"] (spOf K 1 okLawBackSteps)) (D_no_less : Def P w K mg base 5 "no_less" ["one", "other"] (spOf K 2 okNoLess))
    (D_law_first_less : Def P w K mg base 2 "_law_first_less" ["_law_one", "_law_other"] (spOf K 2 okFirstLess)) (D_both : Def P w K mg base 5 "both" ["one", "other"] (spOf K 2 (okBothBy bothM)))
    (D_gain_at : Def P w K mg base 5 "gain_at" ["stairs", "base"] (spOf K 2 okGainAt)) (D_law_gain_of : Def P w K mg base 1 "_law_gain_of" ["_law_steps_here", "_law_base"] (spOf K 2 okLawGainOf))
    (D_law_both_at : Def P w K mg base 1 "_law_both_at" ["_law_one", "_law_other", "_law_base"] (spOf K 3 okBothAt)) (D_law_trade : Def P w K mg base 3 "_law_trade" ["_law_pot_here", "_law_tasks", "_law_great"] (spTrade K))
    (D_steps_by : Def P w K mg base 6 "steps_by" ["trade", "tasks"] (spOf K 2 okStepsBy)) (D_law_trade_told : Def P w K mg base 1 "_law_trade_told" ["_law_trade_here"] (spTold K)) :
    FnG P w K mg base CX0 7 f fd ["_law_pot_here"] spRight := by
  refine okG F sc_law_right (fun vs H Q E h => ?_) (fun cdv A outer s H vs Q E hcm hr h => ?_)
  · obtain ⟨_, _, rfl, _⟩ := h
    rfl
  · obtain ⟨a, n, rfl, hp, hn, q⟩ := h
    have hu1 := hu_of hr
    have hu := room_depth hr
    refine ⟨_, (pss_cons (ps_set (i := 1) sc_law_right.nd rfl (Or.inl rfl) (pe_d D_law_of hcm hr (by decide) (by rfl) (pa_cons (pv 0) (pa_cons (pe_lst (pa_cons pe_int (pa_cons pe_int (pa_cons pe_int (pa_cons (pe_op op_pow pe_int pe_int) pa_nil))))) pa_nil))))
      (pss_cons (ps_par (i := 6) (j := 7) rfl sc_law_right.nd rfl rfl (by decide) rfl rfl (pa_cons (pe_d D_law_climbs hcm hr (by decide) (by rfl) (pa_cons (pv 0) (pa_cons pe_int (pa_cons (pv 1) pa_nil)))) (pa_cons (pe_d D_law_climbs hcm hr (by decide) (by rfl) (pa_cons (pv 0) (pa_cons pe_int (pa_cons (pv 1) pa_nil)))) pa_nil)) rfl)
      (pss_cons (ps_par (i := 8) (j := 9) rfl sc_law_right.nd rfl rfl (by decide) rfl rfl (pa_cons (pe_d D_stairs_of hcm hr (by decide) (by rfl) (pa_cons (pv 6) pa_nil)) (pa_cons (pe_d D_stairs_of hcm hr (by decide) (by rfl) (pa_cons (pv 7) pa_nil)) pa_nil)) rfl)
      (pss_cons (ps_if (PW.pt (pw_or (pt_cmpR op_ne (pe_callB (call_reprD hcm hu) (by rfl) B.repr bt_repr (pa_cons (pv 8) pa_nil)) (pe_callB (call_reprD hcm hu) (by rfl) B.repr bt_repr (pa_cons (pe_d D_law_stairs_by hcm hr (by decide) (by rfl) (pa_cons (pv 6) (pa_cons (pe_op op_pow pe_int pe_int) pa_nil))) pa_nil)) (nomark _)) (pw_or1 (pt_cmpR op_ne (pe_callB (call_reprD hcm hu) (by rfl) B.repr bt_repr (pa_cons (pe_d D_steps_back hcm hr (by decide) (by rfl) (pa_cons (pv 6) pa_nil)) pa_nil)) (pe_callB (call_reprD hcm hu) (by rfl) B.repr bt_repr (pa_cons (pe_d D_law_back_steps hcm hr (by decide) (by rfl) (pa_cons (pv 6) pa_nil)) pa_nil)) (nomark _))))) (pss_one (ps_ret pe_bl)) pss_nil)
      (pss_cons (ps_if (PW.pt (pw_or (pt_cmpR (op_neP K hu) (pe_d D_steps_back hcm hr (by decide) (by rfl) (pa_cons (pe_d D_steps_back hcm hr (by decide) (by rfl) (pa_cons (pv 6) pa_nil)) pa_nil)) (pv 6) (nomark _)) (pw_or1 (pt_cmpR op_ne (pe_callB call_repr0 (by rfl) B.repr bt_repr (pa_cons (pe_d D_no_less hcm hr (by decide) (by rfl) (pa_cons (pv 8) (pa_cons (pv 9) pa_nil))) pa_nil)) (pe_callB call_repr0 (by rfl) B.repr bt_repr (pa_cons (pe_d D_law_first_less hcm hr (by decide) (by rfl) (pa_cons (pv 8) (pa_cons (pv 9) pa_nil))) pa_nil)) (nomark _))))) (pss_one (ps_ret pe_bl)) pss_nil)
      (pss_cons (ps_set (i := 2) sc_law_right.nd rfl (Or.inl rfl) (pe_d D_both hcm hr (by decide) (by rfl) (pa_cons (pv 8) (pa_cons (pv 9) pa_nil))))
      (pss_cons (ps_if (PW.pt (pw_or (pt_cmpR (op_neP K hu) (pv 2) (pe_d D_both hcm hr (by decide) (by rfl) (pa_cons (pv 9) (pa_cons (pv 8) pa_nil))) (nomark _)) (pw_or (pt_cmpR (op_neP K hu) (pv 2) (pe_callTy call_tuple_of (by rfl) B.tuple bt_tuple (pa_cons (pe_callB (cr_sortedAsc K) (by rfl) B.sorted bt_sorted (pa_cons (pv 2) pa_nil)) pa_nil)) (nomark _)) (pw_or1 (pt_cmpR op_notN (pe_d D_no_less hcm hr (by decide) (by rfl) (pa_cons (pv 2) (pa_cons (pv 8) pa_nil))) pe_non (nomark _)))))) (pss_one (ps_ret pe_bl)) pss_nil)
      (pss_cons (ps_setLc (i := 3) (own := [(("_law_base" : Str), 4), (("_law_gain_here" : Str), 10)])  rfl sc_law_right.nd rfl rfl (sw_true rfl rfl rfl (by decide +kernel)) (pi_tupK K (pe_op (op_catAK K) (pe_op (op_catAK K) (pv 8) (pv 9)) (pv 2))) (blkOk_by (N := ["_law_pot_here", "_law_great", "_law_joined", "_law_ends", "_law_base", "_law_trade_here", "_law_one", "_law_other", "_law_mine", "_law_its", "_law_gain_here", "_law_end"]) (sc := defScope s_law_right) (by decide +kernel)) (fun _ _ _ _ _ => (pg_tupK K (n := 2) rfl (pgs_cons (pg_name (i := 4) sc_law_right.nd rfl (Or.inl rfl)) (pgs_cons (pg_name (i := 10) sc_law_right.nd rfl (Or.inl rfl)) pgs_nil)))) (fun _ _ _ _ _ => pts_nil) (fun _ _ _ _ _ => (pv 4)))
      (pss_cons (ps_for PassesOwn.never rfl (pi_list (pe_callB (cr_sortedSetW w rfl) (by rfl) B.sorted bt_sorted (pa_cons (pe_callTy (cr_setL K w rfl) (by rfl) B.set bt_set (pa_cons (pe_op (op_catLK K) (pe_op (op_catLK K) (pe_lst (pa_cons (pe_un un_neg pe_int) (pa_cons (pe_un un_neg pe_int) (pa_cons pe_int (pa_cons pe_int (pa_cons pe_int (pa_cons pe_int pa_nil))))))) (pv 3)) (pe_lc (own := [(("_law_end" : Str), 11)])  rfl sc_law_right.nd (pi_list (pv 3)) (blkOk_by (N := ["_law_pot_here", "_law_great", "_law_joined", "_law_ends", "_law_base", "_law_trade_here", "_law_one", "_law_other", "_law_mine", "_law_its", "_law_gain_here", "_law_end"]) (sc := defScope s_law_right) (by decide +kernel)) (fun _ _ _ _ _ => (pg_name (i := 11) sc_law_right.nd rfl (Or.inl rfl))) (fun _ _ _ _ _ => pts_nil) (fun _ _ _ _ _ => (pe_op op_sub (pv 11) pe_int)))) pa_nil)) pa_nil))) (pg_name (i := 4) sc_law_right.nd rfl (Or.inl rfl)) (pss_cons (ps_if (pt_cmpR op_ne (pe_callB call_repr0 (by rfl) B.repr bt_repr (pa_cons (pe_d D_gain_at hcm hr (by decide) (by rfl) (pa_cons (pv 8) (pa_cons (pv 4) pa_nil))) pa_nil)) (pe_callB call_repr0 (by rfl) B.repr bt_repr (pa_cons (pe_d D_law_gain_of hcm hr (by decide) (by rfl) (pa_cons (pv 6) (pa_cons (pv 4) pa_nil))) pa_nil)) (nomark _)) (pss_one (ps_ret pe_bl)) pss_nil)
      (pss_one (ps_if (pt_cmpR op_ne (pe_callB call_repr0 (by rfl) B.repr bt_repr (pa_cons (pe_d D_gain_at hcm hr (by decide) (by rfl) (pa_cons (pv 2) (pa_cons (pv 4) pa_nil))) pa_nil)) (pe_callB call_repr0 (by rfl) B.repr bt_repr (pa_cons (pe_d D_law_both_at hcm hr (by decide) (by rfl) (pa_cons (pv 6) (pa_cons (pv 7) (pa_cons (pv 4) pa_nil)))) pa_nil)) (nomark _)) (pss_one (ps_ret pe_bl)) pss_nil))))
      (pss_cons (ps_set (i := 5) sc_law_right.nd rfl (Or.inl rfl) (pe_d D_law_trade hcm hr (by decide) (by rfl) (pa_cons (pv 0) (pa_cons (pe_lst (pa_cons pe_str (pa_cons pe_str (pa_cons pe_str pa_nil)))) (pa_cons pe_int pa_nil)))))
      (pss_one (ps_ret (pe_cmpR op_eq (pe_callB (call_reprD hcm hu) (by rfl) B.repr bt_repr (pa_cons (pe_d D_steps_by hcm hr (by decide) (by rfl) (pa_cons (pe_d D_law_trade_told hcm hr (by decide) (by rfl) (pa_cons (pv 5) pa_nil)) (pa_cons (pe_tup (pa_cons pe_str (pa_cons pe_str pa_nil))) pa_nil))) pa_nil)) (pe_callB (call_reprD hcm hu) (by rfl) B.repr bt_repr (pa_cons (pe_tup (pa_cons (pe_dget2 hu1 (pv 5) pe_str (pe_tup (pa_cons pe_int (pa_cons pe_int pa_nil))) ⟨rfl, rfl, rfl, rfl⟩) (pa_cons (pe_dget2 hu1 (pv 5) pe_str (pe_tup (pa_cons pe_int (pa_cons pe_int pa_nil))) ⟨rfl, rfl, rfl, rfl⟩) pa_nil))) pa_nil)) (nomark _)))))))))))))), ?_⟩
    -- how great
    refine ⟨_, rfl, _, _, rfl, rfl, ⟨by decide, by decide, by decide⟩, ?_⟩
    refine ⟨by show 4 ≤ sizeLine; decide, fun p1 hp1 => ?_⟩
    refine ⟨a, p1, n, _, rfl, hp.ex (Ex.new hp1), by omega, fun z => hp.some (z ▸ hp1), .inl (.inl upd_same), (by show 0 < 4; decide), (by show 4 ≤ 1000; decide), fun v H1 hv hb1 hq1 => ?_⟩
    obtain ⟨G, rfl, g1, g2⟩ : ∃ G : Int, v = .int G ∧ 2 ≤ G ∧ G ≤ 10000000 := by
      simp only [List.mem_cons, List.not_mem_nil, or_false] at hv
      rcases hv with h | h | h | h <;> rw [h] <;> exact ⟨_, rfl, by decide, by decide⟩
    have hbH1 : But a H H1 := (But.ex (Ex.new hp1)).trans hb1
    -- one, other
    refine go_nm ?_
    dsimp only
    refine go_parS ?_
    refine ⟨_, rfl, _, rfl, a, n + 1, 5, G, rfl, hq1, by omega, by decide, by decide, g1, g2, fun v6 one H2 len1 big1 hb2 hq2 dp6 => ?_⟩
    refine ⟨_, rfl, _, rfl, a, n + 1 + 200, 5, G, rfl, hq2, by omega, by decide, by decide, g1, g2, fun v7 other H3 len2 big2 hb3 hq3 dp7 => ?_⟩
    refine ⟨_, _, rfl, ?_⟩
    have hbH3 : But a H H3 := (hbH1.trans hb2).trans hb3
    have dp6 := dp_same (sans_but hb3) dp6
    have len1 : one.length ≤ 5 := by omega
    have len2 : other.length ≤ 5 := by omega
    have ex3 : Ex (sans a H3) H3 := sans_ex
    have na3 : sans a H3 a = none := sans_none
    obtain ⟨B, hB⟩ : ∃ B, B = sans a H3 := ⟨_, rfl⟩
    rw [← hB] at dp6 dp7 ex3 na3
    clear hb2 hq2 hq1 hb1 hp hbH1 hB
    have st1 : ∀ s ∈ one, stOk s := fun s hs => (big1 s hs).1
    have st2 : ∀ s ∈ other, stOk s := fun s hs => (big2 s hs).1
    have us := stairs_up one
    have ut := stairs_up other
    have le1 : ∀ x ∈ stairsM one, 0 ≤ x.1 ∧ x.1 ≤ 10 ^ 14 ∧ 0 < x.2 ∧ x.2 ≤ 10 ^ 14 := fun x hx => stair_le big1 len1 hx
    have le2 : ∀ x ∈ stairsM other, 0 ≤ x.1 ∧ x.1 ≤ 10 ^ 14 ∧ 0 < x.2 ∧ x.2 ≤ 10 ^ 14 := fun x hx => stair_le big2 len2 hx
    have ls1 : (stairsM one).length ≤ 5 := Nat.le_trans (stairs_len one) len1
    have ls2 : (stairsM other).length ≤ 5 := Nat.le_trans (stairs_len other) len2
    have lj := both_len (stairsM one) (stairsM other)
    have uj := both_up us ut
    -- mine, its
    refine go_parS ?_
    refine (eda_cons (ed_call (eda_cons (ed_var (i := 6) rfl dp6) eda_nil) (spD_of (n := 1) (ok := okStairsOf) ⟨one, rfl, by omega, st1, rfl⟩)) (eda_cons (ed_call (eda_cons (ed_var (i := 7) rfl dp7) eda_nil) (spD_of (n := 1) (ok := okStairsOf) ⟨other, rfl, by omega, st2, rfl⟩)) eda_nil)) H3 ex3 _ fun vs H4 e4 hvs => ?_
    obtain ⟨v8, v9, rfl, dp8, dp9⟩ := dp2 hvs
    refine ⟨_, _, rfl, ?_⟩
    have ex4 : Ex (hid B H3 H4) H4 := hid_ex
    have eB4 : Ex B (hid B H3 H4) := hid_base ex3 e4
    have na4 : hid B H3 H4 a = none := hid_no na3 hq3.some
    have dp6 := dp_same eB4 dp6
    have dp7 := dp_same eB4 dp7
    obtain ⟨B1, hB1⟩ : ∃ B1, B1 = hid B H3 H4 := ⟨_, rfl⟩
    rw [← hB1] at dp6 dp7 dp8 dp9 ex4 na4
    clear hB1 eB4 hvs na3 ex3
    have m1 : mildAll ((stairsM one).map stepD) = true := mild_steps fun s hs => by
      have := le1 s hs
      omega
    have m2 : mildAll ((backSteps one).map stepD) = true := mild_steps fun s hs => by
      unfold backSteps at hs
      obtain ⟨z, hz, rfl⟩ := List.mem_map.mp (List.mem_reverse.mp hs)
      have h := big_st (big1 z hz)
      have h : 0 ≤ z.1 ∧ z.1 ≤ 10 ^ 12 ∧ -10 ^ 12 ≤ z.2 ∧ z.2 ≤ 10 ^ 12 := h
      show (z.1 + z.2).natAbs < _ ∧ (-z.2).natAbs < _
      omega
    have n1 : nodesAll ((stairsM one).map stepD) ≤ 90 := by
      rw [nodes_steps]
      omega
    have lb : (backSteps one).length = one.length := by
      unfold backSteps
      rw [List.length_reverse, List.length_map]
    have n2 : nodesAll ((backSteps one).map stepD) ≤ 90 := by
      rw [nodes_steps]
      omega
    -- stairs and steps back
    refine q_not (K := K) (Hv := B1) (et_or (a := false) (b := false) (et_neSame (ed_reprT (ed_var rfl dp8) m1 n1) (ed_reprT (ed_call (eda_cons (ed_var rfl dp6) (eda_cons (ed_pow (by decide) (by decide) (by decide)) eda_nil)) (spD_of (n := 2) (ok := okLawStairsBy) ⟨one, _, rfl, by omega, ?_, by decide, rfl⟩)) m1 n1)) fun _ =>
      et_neSame (ed_reprT (ed_call (eda_cons (ed_var rfl dp6) eda_nil) (spD_of (n := 1) (ok := okStepsBack) ⟨one, rfl, by omega, st1, rfl⟩)) m2 n2) (ed_reprT (ed_call (eda_cons (ed_var rfl dp6) eda_nil) (spD_of (n := 1) (ok := okLawBackSteps) ⟨one, rfl, by omega, rfl⟩)) m2 n2)) ex4 fun H5 e5 => ?_
    · intro b hb
      have := base_le big1 len1 hb
      show b ≤ 10 ^ 40
      omega
    -- back twice; where one is less first
    have lowb : ∀ i, lowerM (stairsM one) (stairsM other) = some i → i.natAbs.log2 < 1920 := fun i hi => by
      have := lower_le (fun x hx => ⟨(le2 x hx).1, (le2 x hx).2.1⟩) hi
      exact log_ok this.1 (by omega)
    refine q_not (K := K) (Hv := B1) (et_or (a := false) (b := false) (et_bool (ed_neSameP (ed_call (eda_cons (ed_call (eda_cons (ed_var rfl dp6) eda_nil) (spD_of (n := 1) (ok := okStepsBack) ⟨one, rfl, by omega, st1, rfl⟩)) eda_nil) (spD_of (n := 1) (ok := okStepsBack) ⟨backSteps one, rfl, by omega, ?_, by rw [back_twice]⟩)) (ed_var rfl dp6) (plainT one) (depthT one))) fun _ =>
      et_neSame (ed_repr0 (ed_call (eda_cons (ed_var rfl dp8) (eda_cons (ed_var rfl dp9) eda_nil)) (spD_of (n := 2) (ok := okNoLess) ⟨_, _, rfl, by omega, by omega, up_ok us, up_ok ut, rfl⟩)) lowb) (ed_repr0 (ed_call (eda_cons (ed_var rfl dp8) (eda_cons (ed_var rfl dp9) eda_nil)) (spD_of (n := 2) (ok := okFirstLess) ⟨_, _, rfl, by omega, by omega, us, ut, rfl⟩)) lowb)) (ex4.trans e5) fun H6 e6 => ?_
    · intro s hs
      unfold backSteps at hs
      obtain ⟨z, hz, rfl⟩ := List.mem_map.mp (List.mem_reverse.mp hs)
      exact (back_big (big1 z hz)).1
    -- both
    refine qs_set (K := K) (H0 := B1) (d := stepsT (bothM (stairsM one) (stairsM other))) (ed_call (eda_cons (ed_var rfl dp8) (eda_cons (ed_var rfl dp9) eda_nil)) (spD_of (n := 2) (ok := okBothBy bothM) ⟨_, _, rfl, by omega, by omega, up_ok us, up_ok ut, rfl⟩)) ((ex4.trans e5).trans e6) fun v2 H7 e7 dp2 => ?_
    have ex6 : Ex B1 H6 := (ex4.trans e5).trans e6
    have eB7 : Ex B1 (hid B1 H6 H7) := hid_base ex6 e7
    have hq6 : H6 a ≠ none := ((((hq3.ex e4).ex e5).ex e6)).some
    have na7 : hid B1 H6 H7 a = none := hid_no na4 hq6
    have ex7 : Ex (hid B1 H6 H7) H7 := hid_ex
    have dp6 := dp_same eB7 dp6
    have dp7 := dp_same eB7 dp7
    have dp8 := dp_same eB7 dp8
    have dp9 := dp_same eB7 dp9
    obtain ⟨B2, hB2⟩ : ∃ B2, B2 = hid B1 H6 H7 := ⟨_, rfl⟩
    rw [← hB2] at dp2 dp6 dp7 dp8 dp9 na7 ex7
    clear hB2 eB7 na4 ex6 hq6
    refine q_not (K := K) (Hv := B2) (et_or (a := false) (b := false) (et_bool (ed_neSameP (ed_var rfl dp2) (ed_call (eda_cons (ed_var rfl dp9) (eda_cons (ed_var rfl dp8) eda_nil)) (spD_of (n := 2) (ok := okBothBy bothM) ⟨_, _, rfl, by omega, by omega, up_ok ut, up_ok us, by rw [both_swap us ut]⟩)) (plainT _) (depthT _))) fun _ =>
      et_or (a := false) (b := false) (et_bool (ed_neSameP (ed_var rfl dp2) (ed_tupleOf (ed_sortedAsc (ed_var rfl dp2) (uj.1.imp fun h => h.1))) (plainT _) (depthT _))) fun _ => et_bool (ed_notNone (ed_call (eda_cons (ed_var rfl dp2) (eda_cons (ed_var rfl dp8) eda_nil)) (spD_of (n := 2) (ok := okNoLess) ⟨_, _, rfl, by omega, by omega, up_ok uj, up_ok us, by rw [lower_both us ut]; rfl⟩)))) ex7 fun H8 e8 => ?_
    -- the ends
    refine qs_set (K := K) (H0 := B2) (d := .list (((stairsM one ++ stairsM other ++ bothM (stairsM one) (stairsM other)).map (·.1)).map PyData.int)) ?_ (ex7.trans e8) fun v3 H9 e9 dp3 => ?_
    · have hcat : EvD K (tOp (rCatA K) (tOp (rCatA K) (tVar 8) (tVar 9)) (tVar 2)) [some (.ref a), some (.int G), some v2, none, none, none, some v6, some v7, some v8, some v9, none, none] B2 (.tuple ((stairsM one ++ stairsM other ++ bothM (stairsM one) (stairsM other)).map stepD)) := by
        rw [List.map_append, List.map_append]
        exact ed_catA (ed_catA (ed_var rfl dp8) (ed_var rfl dp9) (by rw [List.length_map, List.length_map]; omega)) (ed_var rfl dp2) (by rw [List.length_append, List.length_map, List.length_map, List.length_map]; omega)
      rw [List.map_map, ← range_map_get (stairsM one ++ stairsM other ++ bothM (stairsM one) (stairsM other)) (PyData.int ∘ fun x => x.1) (0, 0)]
      have hl : (stairsM one ++ stairsM other ++ bothM (stairsM one) (stairsM other)).length = ((stairsM one ++ stairsM other ++ bothM (stairsM one) (stairsM other)).map stepD).length := (List.length_map _).symm
      rw [hl]
      refine ed_lcT _ hcat (by rw [List.length_map, List.length_append, List.length_append]; omega) ?_
      intro i x dx H' hdx e1 hx H'' e2 Qg k
      rw [List.getElem?_map] at hdx
      obtain ⟨⟨n, g⟩, hst, rfl⟩ := Option.map_eq_some_iff.mp hdx
      refine g_tup2 hx e2 (fun _ _ => rfl) (fun a b ha hb => ?_) k
      rw [show (stairsM one ++ stairsM other ++ bothM (stairsM one) (stairsM other)).getD i (0, 0) = (n, g) by rw [List.getD_eq_getElem?_getD, hst]; rfl]
      exact ed_var rfl ha
    have hel : ((stairsM one ++ stairsM other ++ bothM (stairsM one) (stairsM other)).map (·.1)).length ≤ 20 := by
      rw [List.length_map, List.length_append, List.length_append]
      omega
    generalize (stairsM one ++ stairsM other ++ bothM (stairsM one) (stairsM other)).map (·.1) = ends at dp3 hel
    have ex8 : Ex B2 H8 := ex7.trans e8
    have eB9 : Ex B2 (hid B2 H8 H9) := hid_base ex8 e9
    have hq9 : Pot a (n + 1 + 200 + 200) H9 := (((((hq3.ex e4).ex e5).ex e6).ex e7).ex e8).ex e9
    have na9 : hid B2 H8 H9 a = none := hid_no na7 ((((((hq3.ex e4).ex e5).ex e6).ex e7).ex e8)).some
    have ex9 : Ex (hid B2 H8 H9) H9 := hid_ex
    have dp2 := dp_same eB9 dp2
    have dp6 := dp_same eB9 dp6
    have dp7 := dp_same eB9 dp7
    have dp8 := dp_same eB9 dp8
    have dp9 := dp_same eB9 dp9
    have bh9 : But a H H9 := hbH3.trans (But.ex (((((e4.trans e5).trans e6).trans e7).trans e8).trans e9))
    obtain ⟨B3, hB3⟩ : ∃ B3, B3 = hid B2 H8 H9 := ⟨_, rfl⟩
    rw [← hB3] at dp2 dp3 dp6 dp7 dp8 dp9 na9 ex9
    clear hB3 eB9 na7 ex8 ex7 ex4 hbH3 hq3
    -- base by base
    have hns : EvD K (tOp (rCatL K) (tOp (rCatL K) (tLst (tCons (tUn (rU fun i => V.int (-i)) (tC (.int 3))) (tCons (tUn (rU fun i => V.int (-i)) (tC (.int 1))) (tCons (tC (.int 0)) (tCons (tC (.int 1)) (tCons (tC (.int 2)) (tCons (tC (.int 5)) tNil))))))) (tVar 3)) (tLc (iList K (tVar 3)) (gName 11) tYes (tOp (rI0 fun i j => V.int (i - j)) (tVar 11) (tC (.int 1))) [11]))
        [some (.ref a), some (.int G), some v2, some v3, none, none, some v6, some v7, some v8, some v9, none, none] B3 (.list ((([-3, -1, 0, 1, 2, 5] ++ ends) ++ ends.map (· - 1)).map PyData.int)) := by
      rw [List.map_append, List.map_append]
      refine ed_catL (ed_catL (ed_lst (eda_cons (ed_neg ed_int) (eda_cons (ed_neg ed_int) (eda_cons ed_int (eda_cons ed_int (eda_cons ed_int (eda_cons ed_int eda_nil)))))) (by show 6 ≤ 100000; decide)) (ed_var rfl dp3) (by rw [List.length_map, List.length_map]; show 6 + _ ≤ _; omega)) ?_ (by rw [List.length_append, List.length_map, List.length_map, List.length_map, List.length_map]; show 6 + _ + _ ≤ _; omega)
      rw [List.map_map, ← range_map_get ends (PyData.int ∘ fun x => x - 1) 0]
      have hl : ends.length = (ends.map PyData.int).length := (List.length_map _).symm
      rw [hl]
      refine ed_lcL _ (ed_var rfl dp3) (by rw [← hl]; omega) ?_
      intro i x dx H' hdx e1 hx H'' e2 Qg k
      rw [List.getElem?_map] at hdx
      obtain ⟨z, hz, rfl⟩ := Option.map_eq_some_iff.mp hdx
      refine g_name rfl ?_ k
      rw [show ends.getD i 0 = z by rw [List.getD_eq_getElem?_getD, hz]; rfl]
      exact ed_I0 (g := fun i j => i - j) (ed_var rfl hx) (ed_int (i := 1))
    have hbs := ed_sortedSet (w := w) hns (by
      rw [List.length_append, List.length_append, List.length_map]
      show 6 + _ + _ < 64
      omega)
    refine hbs _ ex9 _ fun x2 H10 e10 hx2 => ?_
    clear hbs hns
    generalize ssetM (([-3, -1, 0, 1, 2, 5] ++ ends) ++ ends.map (· - 1)) = bs at hx2
    obtain ⟨a4, xs4, rfl, s1, s2⟩ := dp_lst hx2
    have hxs := vals_of_ints s2
    subst hxs
    refine ⟨a4, rfl, ⟨_, ex_l hid_ex s1⟩, ?_⟩
    refine for_list (K := K) (a := a4) (xs := bs.map V.int) (fun i σ H' => ∃ (o4 : Option V), σ = [some (.ref a), some (.int G), some v2, some v3, o4, none, some v6, some v7, some v8, some v9, none, none] ∧ Ex H10 H')
      ⟨none, rfl, Ex.refl _⟩ (fun i σ H' _ ⟨_, _, e'⟩ => ex_l (hid_ex.trans e') s1) ?_ ?_
    · rintro i x σ H' hx ⟨o4, rfl, e'⟩
      rw [List.getElem?_map] at hx
      obtain ⟨b, hb, rfl⟩ := Option.map_eq_some_iff.mp hx
      have g1 := gain_le14 us (fun x hx => (le1 x hx).2.2.2) b
      have g2 := both_le14 us ut (fun x hx => (le1 x hx).2.2.2) (fun x hx => (le2 x hx).2.2.2) b
      have e11 : Ex B3 H' := (ex9.trans e10).trans e'
      refine go_nm ?_
      refine q_not (K := K) (Hv := B3) (et_neSame (ed_repr0 (o := some (gainM (stairsM one) b)) (ed_call (eda_cons (ed_var rfl dp8) (eda_cons (ed_var rfl (.int b)) eda_nil)) (spD_of (n := 2) (ok := okGainAt) ⟨_, b, rfl, by omega, up_ok us, rfl⟩)) fun i hi => by cases hi; exact log_ok g1.1 (by omega))
        (ed_repr0 (o := some (gainM (stairsM one) b)) (ed_call (eda_cons (ed_var rfl dp6) (eda_cons (ed_var rfl (.int b)) eda_nil)) (spD_of (n := 2) (ok := okLawGainOf) ⟨one, b, rfl, by omega, by rw [gain_stairs]; rfl⟩)) fun i hi => by cases hi; exact log_ok g1.1 (by omega))) e11 fun H11 e12 => ?_
      refine go_ifB (b := false) (H0 := B3) (et_neSame (ed_repr0 (o := some (gainM (bothM (stairsM one) (stairsM other)) b)) (ed_call (eda_cons (ed_var rfl dp2) (eda_cons (ed_var rfl (.int b)) eda_nil)) (spD_of (n := 2) (ok := okGainAt) ⟨_, b, rfl, by omega, up_ok uj, rfl⟩)) fun i hi => by cases hi; exact log_ok g2.1 g2.2)
        (ed_repr0 (o := some (gainM (bothM (stairsM one) (stairsM other)) b)) (ed_call (eda_cons (ed_var rfl dp6) (eda_cons (ed_var rfl dp7) (eda_cons (ed_var rfl (.int b)) eda_nil))) (spD_of (n := 3) (ok := okBothAt) ⟨one, other, b, rfl, by omega, by omega, by rw [both_at]; rfl⟩)) fun i hi => by cases hi; exact log_ok g2.1 g2.2)) (e11.trans e12) (fun z => nomatch z) fun _ H12 e13 => ?_
      refine go_next ?_
      exact ⟨_, rfl, (e'.trans e12).trans e13⟩
    · rintro σ H' ⟨o4, rfl, e'⟩
      -- the trade
      have h10 : Ex H9 H' := e10.trans e'
      have hq10 := hq9.ex h10
      have bh10 : But a H H' := bh9.trans (But.ex h10)
      have ex10 : Ex B3 H' := ex9.trans h10
      clear hq9 bh9 ex9 h10 e10 e' s1 s2 hx2
      refine ⟨_, rfl, by show 3 ≤ sizeLine; decide, fun pl hpl => ?_⟩
      have npl : pl ≠ a := fun z => hq10.some (z ▸ hpl)
      refine ⟨a, pl, n + 1 + 200 + 200, 9, ([("a" : Str), "b", "c"] : List Str), rfl, hq10.ex (Ex.new hpl), by omega, npl, .inl (.inl upd_same), by decide +kernel, by decide, by decide, by decide, fun q5 es kvs H11 nd5 hes hel5 hq5 hb11 hp11 hd11 tab11 => ?_⟩
      have n5a : q5 ≠ a := fun z => (hq10.ex (Ex.new hpl)).some (z ▸ hq5)
      have bh11 : But a H H11 := (bh10.trans (But.ex (Ex.new hpl))).trans hb11
      have hnm : ∀ z ∈ ([("a" : Str), "b", "c"] : List Str), nameOk z := fun z hz => nameOk_of (by
        have h : ([("a" : Str), "b", "c"] : List Str).all goodB = true := by decide +kernel
        exact List.all_eq_true.mp h z hz)
      have hok5 : ∀ l ∈ es, lineOk l := fun l hl => by
        obtain ⟨h1, h2, h3, h4, h5⟩ := hes l hl
        exact ⟨hnm _ h1, h2, by omega, h4, by omega⟩
      obtain ⟨HN, hHN⟩ : ∃ HN, HN = newIn (upd H' pl (.lst (([("a" : Str), "b", "c"] : List Str).map V.str))) H11 q5 := ⟨_, rfl⟩
      have hnq : HN q5 = none := by
        rw [hHN]
        exact if_neg fun z => z.2 rfl
      let Hw : Hp := upd HN q5 (.dK kvs)
      have evH : Ex Hw H11 := fun b o hb => by
        have hb : upd HN q5 (.dK kvs) b = some o := hb
        by_cases z : b = q5
        · rw [z, upd_same] at hb
          rw [z, hd11]
          exact hb
        · rw [upd_ne z, hHN] at hb
          exact (newIn_some hb).2.2
      have tabv : Tab K Hw kvs (tabOf es) := tab_same (Ex.new hnq) (hHN ▸ tab11)
      have hvq : Hw q5 = some (.dK kvs) := upd_same
      clear_value Hw
      clear tab11 hHN hnq
      refine go_nm ?_
      dsimp only
      refine ⟨_, rfl, Hw, q5, es, rfl, evH, ⟨⟨kvs, hvq, tabv⟩, nd5, hel5⟩, fun tr vt H12 pm asc e12 hvt => ?_⟩
      refine ⟨by show 2 ≤ sizeLine; decide, fun p8 hp8 => ?_⟩
      have tok : tradeOk tr := ⟨by rw [pm.length_eq]; exact hel5, fun l hl => hok5 l (pm.mem_iff.mp hl), asc⟩
      have tsk : tasksOk ca := ⟨fun t ht => nameOk_of (by
        have h : ca.all goodB = true := by decide +kernel
        exact List.all_eq_true.mp h t ht), by decide +kernel, by decide⟩
      have e13 : Ex H11 (upd H12 p8 (.tup [.str "c", .str "a"])) := e12.trans (Ex.new hp8)
      have n8 : H11 p8 = none := ex_none e12 hp8
      refine ⟨hid Hw H11 (upd H12 p8 (.tup [.str "c", .str "a"])), [tradeD tr, .tuple (ca.map .str)], stepsT (stepsOf tr ca), rfl, hid_ex, .cons (dp_same (hid_on (Ex.new hp8)) hvt) (.cons (.tup (.inl (.inl ((hid_new n8).trans upd_same))) (.cons (.str _) (.cons (.str _) .nil))) .nil), ⟨tr, ca, rfl, tok, tsk, rfl⟩, fun v9' H13 e14 hv13 => ?_⟩
      have hst : stepsOf tr ca = stepsOf es ca := steps_perm pm nd5 _
      rw [hst] at hv13
      have mst : mildAll ((stepsOf es ca).map stepD) = true := mild_steps fun s hs => by
        rw [← hst] at hs
        have := steps_ok tok _ s hs
        obtain ⟨h1, h2, h3, h4⟩ := this
        omega
      have nst : nodesAll ((stepsOf es ca).map stepD) ≤ 90 := by
        rw [nodes_steps, stepsOf_len]
        decide
      obtain ⟨f1, f2, f3, f4⟩ := reprT_facts mst nst
      obtain ⟨a9, xs9, rfl, t1, t2⟩ := dp_tup hv13
      refine ⟨_, stepsT (stepsOf es ca), rfl, dp_same hid_ex hv13, f1, f2, f3, f4, ⟨_, rfl⟩, ?_⟩
      have hR : ∀ σ' : L2.St, σ'[5]? = some (some (.ref q5)) → EvD K (tCB (fun xs H Q => ∃ v d, xs = [v] ∧ Dp K H v d ∧ d.showable = true ∧ d.hasDict = false ∧ d.depth ≤ 100 ∧ d.shown.length ≤ sizeLine ∧ (∃ a, v = V.ref a) ∧ Q (V.str d.shown) H)
          (tCons (tTup (tCons (tDGet2 (tVar 5) (tC (.str "c")) (tTup (tCons (tC (.int 0)) (tCons (tC (.int 0)) tNil)))) (tCons (tDGet2 (tVar 5) (tC (.str "a")) (tTup (tCons (tC (.int 0)) (tCons (tC (.int 0)) tNil)))) tNil))) tNil)) σ' Hw (.str (PyData.shown (stepsT (stepsOf es ca)))) := fun σ' h5 => by
        have get : ∀ x : Str, EvD K (tDGet2 (tVar 5) (tC (.str x)) (tTup (tCons (tC (.int 0)) (tCons (tC (.int 0)) tNil)))) σ' Hw (stepD (look es x)) := fun x => by
          have h := ed_dget (K := K) (t := x) h5 hvq tabv ed_str (ed_tup (eda_cons (ed_int (i := 0)) (eda_cons (ed_int (i := 0)) eda_nil)) (by show 2 ≤ 100000; decide))
          exact ed_is (tab_look es x) h
        exact ed_reprT (ed_tup (eda_cons (get "c") (eda_cons (get "a") eda_nil)) (by show 2 ≤ 100000; decide)) mst nst
      refine hR _ rfl _ ((evH.trans e13).trans e14) _ fun y H14 e15 hy => ?_
      cases hy
      refine ⟨rfl, ?_⟩
      rw [decide_eq_true rfl]
      exact q _ (bh11.trans (But.ex ((e13.trans e14).trans e15))) ((hp11.ex ((e13.trans e14).trans e15)).le (by omega))
end K11

set_option maxHeartbeats 1000000
namespace K11
open PySem PySem.Spec PyProof.Rows L2 Evl VG
variable {P : Program} {w : World} {K : PySem.W.Frag} {mg : Str → Option Value} {base : Heap} {f : Addr} {fd : FuncData}
/-! ### law -/
abbrev s_law : Stmt := top 58
theorem sc_law : FnScope ["_law_script", "_law_place", "_law_pot_here", "_law_lap"] ["_law_script"] (defScope s_law) := ⟨rfl, rfl, rfl, by decide +kernel, rfl, by decide +kernel, by decide +kernel⟩
def spLaw (K : PySem.W.Frag) : Sp := fun vs H Q _ => ∃ (a : Addr) (ns : List Int), vs = [.ref a] ∧ SqL K H a (ns.map V.int) ∧ ns.length ≤ 63 ∧ ∀ H', Ex H H' → Q (.bl true) H'
theorem ok_law (F : Fun K "law" "law" s_law f fd) (B : Bltn mg) (D_law_cells : Def P w K mg base 1 "_law_cells" ["_law_script", "_law_limit"] (spCells K))
    (D_law_pot : Def P w K mg base 1 "_law_pot" ["_law_script", "_law_place"] (spPot K)) (D_law_right : Def P w K mg base 7 "_law_right" ["_law_pot_here"] spRight) :
    FnG P w K mg base CX0 8 f fd ["_law_script"] (spLaw K) := by
  refine okG F sc_law (fun vs H Q E h => ?_) (fun cdv A outer s H vs Q E hcm hr h => ?_)
  · obtain ⟨_, _, rfl, _⟩ := h
    rfl
  · obtain ⟨a, ns, rfl, hS, hl, q⟩ := h
    refine ⟨_, (pss_cons (ps_for PassesOwn.never rfl (pi_list (pe_d D_law_cells hcm hr (by decide) (by rfl) (pa_cons (pv 0) (pa_cons pe_int pa_nil)))) (pg_name (i := 1) sc_law.nd rfl (Or.inl rfl)) (pss_cons (ps_set (i := 2) sc_law.nd rfl (Or.inr rfl) (pe_d D_law_pot hcm hr (by decide) (by rfl) (pa_cons (pv 0) (pa_cons (pv 1) pa_nil))))
      (pss_one (ps_if (pt_not (pt_val (pe_callB (cr_allK K rfl) (by rfl) B.all bt_all (pa_cons (pe_lc (own := [(("_law_lap" : Str), 3)])  rfl sc_law.nd (pi_range1 (by rfl) B.range (pa_cons pe_int pa_nil)) (blkOk_by (N := ["_law_script", "_law_place", "_law_pot_here", "_law_lap"]) (sc := defScope s_law) (by decide +kernel)) (fun _ _ _ _ _ => (pg_name (i := 3) sc_law.nd rfl (Or.inl rfl))) (fun _ _ _ _ _ => pts_nil) (fun _ _ _ _ _ => (pe_d D_law_right hcm hr (by decide) (by rfl) (pa_cons (pv 2) pa_nil)))) pa_nil)))) (pss_one (ps_ret pe_bl)) pss_nil))))
      (pss_one (ps_ret pe_bl))), ?_⟩
    refine ⟨_, rfl, a, ns, 4, rfl, hS, hl, by decide, by decide, fun c m H1 hm hc e1 hc1 => ?_⟩
    refine ⟨c, rfl, ⟨_, SqL.of hc1⟩, ?_⟩
    refine for_list (K := K) (a := c) (xs := (List.range m).map fun i => V.int ((i : Nat) : Int)) (fun i σ H' => ∃ (o1 o2 : Option V), σ = [some (.ref a), o1, o2, none] ∧ Ex H1 H')
      ⟨none, none, rfl, Ex.refl _⟩ (fun i σ H' _ ⟨_, _, _, e'⟩ => SqL.of (e' _ _ hc1)) ?_ ?_
    · rintro i x σ H' hx ⟨o1, o2, rfl, e'⟩
      rw [List.getElem?_map] at hx
      obtain ⟨j, hj, rfl⟩ := Option.map_eq_some_iff.mp hx
      have hjm : j < m := List.mem_range.mp (List.mem_of_getElem? hj)
      have e0 : Ex H H' := e1.trans e'
      refine ⟨_, rfl, _, rfl, a, ns, j, rfl, ex_l e0 hS, hl, by omega, fun p H2 hp e2 hp2 => ?_⟩
      have hpn : H p = none := ex_none e0 hp
      refine ⟨(4 : Int), rfl, by decide, by decide, fun D hD => ?_⟩
      have nDp : D ≠ p := fun z => hp2.some (z ▸ hD)
      refine lc_it (walk_range (lo := 0) (n := 4)) (D := D) (fun i H3 => Ex H' H3 ∧ Pot p (900 * i) H3 ∧ H3 D = some (.lst (List.replicate i (V.bl true)))) ⟨e2.trans (Ex.new hD), hp2.ex (Ex.new hD), upd_same⟩ (fun _ _ _ _ => trivial) ?_ ?_
      · rintro i x H3 H3' hi ⟨e3, p3, d3⟩ ⟨rfl, rfl⟩
        refine ⟨rfl, yes_go ?_⟩
        refine ⟨_, rfl, p, 900 * i, rfl, p3, by omega, fun H4 hb4 hp4 => ?_⟩
        have d4 := hb4 _ _ nDp d3
        refine ⟨_, d4, ?_, ?_, ?_, ?_⟩
        · rw [List.length_replicate]
          exact sz_lt (by omega)
        · exact (hb4.base e3 hp).mut (ex_none e2 hD)
        · obtain ⟨u, v, c', z, rest⟩ := hp4.le (m := 900 * (i + 1)) (by omega)
          exact ⟨u, v, c', (upd_ne nDp.symm).trans z, rest⟩
        · rw [upd_same, List.replicate_succ']
      · rintro H3 ⟨e3, p3, d3⟩
        refine ⟨D, List.replicate 4 true, rfl, SqL.of ?_, _, rfl, ?_⟩
        · rw [List.map_replicate]
          exact d3
        · exact iteF ⟨_, _, rfl, e'.trans e3⟩
    · rintro σ H' ⟨o1, o2, rfl, e'⟩
      exact q H' (e1.trans e')
end K11

set_option maxHeartbeats 1000000
namespace K11
open PySem PySem.Spec PyProof.Rows L2 Evl VG
/-! ### what the top has written -/
/-- a def of the text, where it stands -/
structure Fk (K : PySem.W.Frag) (x : Str) (st : Stmt) : Prop where
  ex : ∃ (f : Addr) (fd : FuncData), Fun K x x st f fd ∧ PySem.W.nsIn K mainGlobals x = some (some (.ref f)) ∧ PySem.W.keepIn K (.ref f) = true
theorem fk {K : PySem.W.Frag} {x : Str} {st : Stmt} {f : Addr} {oc : Value} {od an : Option Addr} {osl : Array (Option Value)} {kV doc pm cdv ct : Value} (a : PySem.W.nsIn K mainGlobals x = some (some (.ref f)))
    (l : K.lookup f = some ⟨oc, od, .func (PySem.W.fnOf x x (defArgs st) (defBody st) (defScope st) .none kV doc pm an cdv ct), osl⟩) (c : PySem.W.codeIn K cdv x = true) (k : PySem.W.keepIn K (.ref f) = true) : Fk K x st :=
  ⟨f, _, fun_mk l c k, a, k⟩
theorem all_mk {l : PySem.W.OpenLaw} {w : World} {K : PySem.W.Frag} {h : Heap} {mg : Str → Option Value} {fa : Addr} (X : K.In h) (G : h.Ns mainGlobals mg) (hfa : mg "law" = some (.ref fa))
    (h_is_integer : Fk K "is_integer" s_is_integer)
    (h_is_name : Fk K "is_name" s_is_name)
    (h_is_row_of : Fk K "is_row_of" s_is_row_of)
    (h_ascends : Fk K "ascends" s_ascends)
    (h_are_names : Fk K "are_names" s_are_names)
    (h_is_line : Fk K "is_line" s_is_line)
    (h_is_trade : Fk K "is_trade" s_is_trade)
    (h_trade_table : Fk K "trade_table" s_trade_table)
    (h_steps_for : Fk K "steps_for" s_steps_for)
    (h_checked_steps : Fk K "checked_steps" s_checked_steps)
    (h_law_pot : Fk K "_law_pot" s_law_pot)
    (h_law_take : Fk K "_law_take" s_law_take)
    (h_law_of : Fk K "_law_of" s_law_of)
    (h_law_cells : Fk K "_law_cells" s_law_cells)
    (h_law_trade : Fk K "_law_trade" s_law_trade)
    (h_law_trade_told : Fk K "_law_trade_told" s_law_trade_told)
    (h_is_integers : Fk K "is_integers" s_is_integers)
    (h_is_step : Fk K "is_step" s_is_step)
    (h_check_steps : Fk K "check_steps" s_check_steps)
    (h_put_pair : Fk K "put_pair" s_put_pair)
    (h_climbs : Fk K "climbs" s_climbs)
    (h_stairs_for : Fk K "stairs_for" s_stairs_for)
    (h_back_steps : Fk K "back_steps" s_back_steps)
    (h_stairs_of : Fk K "stairs_of" s_stairs_of)
    (h_steps_by : Fk K "steps_by" s_steps_by)
    (h_steps_back : Fk K "steps_back" s_steps_back)
    (h_gain_for : Fk K "gain_for" s_gain_for)
    (h_lower_base : Fk K "lower_base" s_lower_base)
    (h_is_stairs : Fk K "is_stairs" s_is_stairs)
    (h_check_stairs : Fk K "check_stairs" s_check_stairs)
    (h_gain_at : Fk K "gain_at" s_gain_at)
    (h_no_less : Fk K "no_less" s_no_less)
    (h_law_back_steps : Fk K "_law_back_steps" s_law_back_steps)
    (h_law_bases : Fk K "_law_bases" s_law_bases)
    (h_law_gain_of : Fk K "_law_gain_of" s_law_gain_of)
    (h_law_steps : Fk K "_law_steps" s_law_steps)
    (h_law_climbs : Fk K "_law_climbs" s_law_climbs)
    (h_law_gain : Fk K "_law_gain" s_law_gain)
    (h_both_stairs : Fk K "both_stairs" s_both_stairs)
    (h_both : Fk K "both" s_both)
    (h_law_stairs_by : Fk K "_law_stairs_by" s_law_stairs_by)
    (h_law_first_less : Fk K "_law_first_less" s_law_first_less)
    (h_law_both_at : Fk K "_law_both_at" s_law_both_at)
    (h_law_right : Fk K "_law_right" s_law_right)
    (h_law : Fk K "law" s_law)
    {t_MOST_NEED : Tok} (c_MOST_NEED : PySem.W.nsIn K mainGlobals "MOST_NEED" = some (some (.int 9999 t_MOST_NEED))) {t_MOST_LINES : Tok} (c_MOST_LINES : PySem.W.nsIn K mainGlobals "MOST_LINES" = some (some (.int 16 t_MOST_LINES)))
    (z_abs : PySem.W.nsIn K mainGlobals "abs" = some none)
    (z_all : PySem.W.nsIn K mainGlobals "all" = some none)
    (z_dict : PySem.W.nsIn K mainGlobals "dict" = some none)
    (z_int : PySem.W.nsIn K mainGlobals "int" = some none)
    (z_bool : PySem.W.nsIn K mainGlobals "bool" = some none)
    (z_str : PySem.W.nsIn K mainGlobals "str" = some none)
    (z_isinstance : PySem.W.nsIn K mainGlobals "isinstance" = some none)
    (z_len : PySem.W.nsIn K mainGlobals "len" = some none)
    (z_list : PySem.W.nsIn K mainGlobals "list" = some none)
    (z_max : PySem.W.nsIn K mainGlobals "max" = some none)
    (z_min : PySem.W.nsIn K mainGlobals "min" = some none)
    (z_range : PySem.W.nsIn K mainGlobals "range" = some none)
    (z_repr : PySem.W.nsIn K mainGlobals "repr" = some none)
    (z_set : PySem.W.nsIn K mainGlobals "set" = some none)
    (z_sorted : PySem.W.nsIn K mainGlobals "sorted" = some none)
    (z_sum : PySem.W.nsIn K mainGlobals "sum" = some none)
    (z_tuple : PySem.W.nsIn K mainGlobals "tuple" = some none)
    (z_enumerate : PySem.W.nsIn K mainGlobals "enumerate" = some none)
    (z_reversed : PySem.W.nsIn K mainGlobals "reversed" = some none)
    (z_zip : PySem.W.nsIn K mainGlobals "zip" = some none) :
    ∃ fd : FuncData, (∀ (s : Shared) (v : Value), BindsTo s fd ⟨[v], []⟩ [("_law_script", v)]) ∧ ∀ base : Heap, K.In base → base.Ns mainGlobals mg → FnG l.prog w K mg base CX0 8 fa fd ["_law_script"] (spLaw K) := by
  have B : Bltn mg := ⟨PySem.W.mg_none_of X G z_abs, PySem.W.mg_none_of X G z_all, PySem.W.mg_none_of X G z_dict, PySem.W.mg_none_of X G z_int, PySem.W.mg_none_of X G z_bool, PySem.W.mg_none_of X G z_str, PySem.W.mg_none_of X G z_isinstance, PySem.W.mg_none_of X G z_len, PySem.W.mg_none_of X G z_list, PySem.W.mg_none_of X G z_max, PySem.W.mg_none_of X G z_min, PySem.W.mg_none_of X G z_range, PySem.W.mg_none_of X G z_repr, PySem.W.mg_none_of X G z_set, PySem.W.mg_none_of X G z_sorted, PySem.W.mg_none_of X G z_sum, PySem.W.mg_none_of X G z_tuple⟩
  have B2 : Bltn2 mg := ⟨PySem.W.mg_none_of X G z_enumerate, PySem.W.mg_none_of X G z_reversed, PySem.W.mg_none_of X G z_zip⟩
  have C_MOST_NEED := PySem.W.mg_of X G c_MOST_NEED
  have C_MOST_LINES := PySem.W.mg_of X G c_MOST_LINES
  obtain ⟨f0, fd0, F0, a0, k0⟩ := h_law.ex
  have e := hfa.symm.trans (PySem.W.mg_of X G a0)
  cases e
  refine ⟨fd0, ?_, fun base _ _ => ?_⟩
  · obtain ⟨oc, od, kV, doc, pm, an, cdv, ct, osl, rfl, lk, hcd⟩ := F0.ex
    exact fun s v => .of_eq rfl
  · obtain ⟨f, fd, F, a, k⟩ := h_is_integer.ex
    have D_is_integer : Def l.prog w K mg base 1 "is_integer" ["value"] (spOf K 1 okInteger) := ⟨f, fd, ok_is_integer F B, PySem.W.mg_of X G a, k, F.binds (ps := ["value"]) fun _ _ _ _ _ _ us hl => match us, hl with | [_], _ => rfl⟩
    clear F a k
    obtain ⟨f, fd, F, a, k⟩ := h_is_name.ex
    have D_is_name : Def l.prog w K mg base 1 "is_name" ["value"] (spOf K 1 okName) := ⟨f, fd, ok_is_name F B, PySem.W.mg_of X G a, k, F.binds (ps := ["value"]) fun _ _ _ _ _ _ us hl => match us, hl with | [_], _ => rfl⟩
    clear F a k
    obtain ⟨f, fd, F, a, k⟩ := h_is_row_of.ex
    have D_is_row_of : Def l.prog w K mg base 1 "is_row_of" ["value", "size"] (spOf K 2 okRowOf) := ⟨f, fd, ok_is_row_of F B, PySem.W.mg_of X G a, k, F.binds (ps := ["value", "size"]) fun _ _ _ _ _ _ us hl => match us, hl with | [_, _], _ => rfl⟩
    clear F a k
    obtain ⟨f, fd, F, a, k⟩ := h_ascends.ex
    have D_ascends : Def l.prog w K mg base 1 "ascends" ["rows"] (spOf K 1 okAsc) := ⟨f, fd, ok_ascends F B, PySem.W.mg_of X G a, k, F.binds (ps := ["rows"]) fun _ _ _ _ _ _ us hl => match us, hl with | [_], _ => rfl⟩
    clear F a k
    obtain ⟨f, fd, F, a, k⟩ := h_are_names.ex
    have D_are_names : Def l.prog w K mg base 2 "are_names" ["value"] (spOf K 1 okNames) := ⟨f, fd, ok_are_names F B D_is_name, PySem.W.mg_of X G a, k, F.binds (ps := ["value"]) fun _ _ _ _ _ _ us hl => match us, hl with | [_], _ => rfl⟩
    clear F a k
    obtain ⟨f, fd, F, a, k⟩ := h_is_line.ex
    have D_is_line : Def l.prog w K mg base 2 "is_line" ["value"] (spOf K 1 okLine) := ⟨f, fd, ok_is_line F B C_MOST_NEED D_is_row_of D_is_name D_is_integer, PySem.W.mg_of X G a, k, F.binds (ps := ["value"]) fun _ _ _ _ _ _ us hl => match us, hl with | [_], _ => rfl⟩
    clear F a k
    obtain ⟨f, fd, F, a, k⟩ := h_is_trade.ex
    have D_is_trade : Def l.prog w K mg base 3 "is_trade" ["value"] (spOf K 1 okTrade) := ⟨f, fd, ok_is_trade F B C_MOST_LINES D_is_line D_ascends, PySem.W.mg_of X G a, k, F.binds (ps := ["value"]) fun _ _ _ _ _ _ us hl => match us, hl with | [_], _ => rfl⟩
    clear F a k
    obtain ⟨f, fd, F, a, k⟩ := h_trade_table.ex
    have D_trade_table : Def l.prog w K mg base 4 "trade_table" ["trade"] (spTable K) := ⟨f, fd, ok_trade_table F D_is_trade, PySem.W.mg_of X G a, k, F.binds (ps := ["trade"]) fun _ _ _ _ _ _ us hl => match us, hl with | [_], _ => rfl⟩
    clear F a k
    obtain ⟨f, fd, F, a, k⟩ := h_steps_for.ex
    have D_steps_for : Def l.prog w K mg base 1 "steps_for" ["table", "tasks"] (spSteps K) := ⟨f, fd, ok_steps_for F , PySem.W.mg_of X G a, k, F.binds (ps := ["table", "tasks"]) fun _ _ _ _ _ _ us hl => match us, hl with | [_, _], _ => rfl⟩
    clear F a k
    obtain ⟨f, fd, F, a, k⟩ := h_checked_steps.ex
    have D_checked_steps : Def l.prog w K mg base 5 "checked_steps" ["trade", "tasks"] (spOf K 2 okChecked) := ⟨f, fd, ok_checked_steps F B D_trade_table D_are_names D_steps_for, PySem.W.mg_of X G a, k, F.binds (ps := ["trade", "tasks"]) fun _ _ _ _ _ _ us hl => match us, hl with | [_, _], _ => rfl⟩
    clear F a k
    obtain ⟨f, fd, F, a, k⟩ := h_law_pot.ex
    have D_law_pot : Def l.prog w K mg base 1 "_law_pot" ["_law_script", "_law_place"] (spPot K) := ⟨f, fd, ok_pot F B, PySem.W.mg_of X G a, k, F.binds (ps := ["_law_script", "_law_place"]) fun _ _ _ _ _ _ us hl => match us, hl with | [_, _], _ => rfl⟩
    clear F a k
    obtain ⟨f, fd, F, a, k⟩ := h_law_take.ex
    have D_law_take : Def l.prog w K mg base 1 "_law_take" ["_law_pot_here", "_law_upto"] spTake := ⟨f, fd, ok_take F B, PySem.W.mg_of X G a, k, F.binds (ps := ["_law_pot_here", "_law_upto"]) fun _ _ _ _ _ _ us hl => match us, hl with | [_, _], _ => rfl⟩
    clear F a k
    obtain ⟨f, fd, F, a, k⟩ := h_law_of.ex
    have D_law_of : Def l.prog w K mg base 2 "_law_of" ["_law_pot_here", "_law_some"] (spOne K) := ⟨f, fd, ok_of F B D_law_take, PySem.W.mg_of X G a, k, F.binds (ps := ["_law_pot_here", "_law_some"]) fun _ _ _ _ _ _ us hl => match us, hl with | [_, _], _ => rfl⟩
    clear F a k
    obtain ⟨f, fd, F, a, k⟩ := h_law_cells.ex
    have D_law_cells : Def l.prog w K mg base 1 "_law_cells" ["_law_script", "_law_limit"] (spCells K) := ⟨f, fd, ok_cells F B, PySem.W.mg_of X G a, k, F.binds (ps := ["_law_script", "_law_limit"]) fun _ _ _ _ _ _ us hl => match us, hl with | [_, _], _ => rfl⟩
    clear F a k
    obtain ⟨f, fd, F, a, k⟩ := h_law_trade.ex
    have D_law_trade : Def l.prog w K mg base 3 "_law_trade" ["_law_pot_here", "_law_tasks", "_law_great"] (spTrade K) := ⟨f, fd, ok_trade F D_law_take D_law_of, PySem.W.mg_of X G a, k, F.binds (ps := ["_law_pot_here", "_law_tasks", "_law_great"]) fun _ _ _ _ _ _ us hl => match us, hl with | [_, _, _], _ => rfl⟩
    clear F a k
    obtain ⟨f, fd, F, a, k⟩ := h_law_trade_told.ex
    have D_law_trade_told : Def l.prog w K mg base 1 "_law_trade_told" ["_law_trade_here"] (spTold K) := ⟨f, fd, ok_trade_told F B, PySem.W.mg_of X G a, k, F.binds (ps := ["_law_trade_here"]) fun _ _ _ _ _ _ us hl => match us, hl with | [_], _ => rfl⟩
    clear F a k
    obtain ⟨f, fd, F, a, k⟩ := h_is_integers.ex
    have D_is_integers : Def l.prog w K mg base 2 "is_integers" ["value"] (spOf K 1 okIntegers) := ⟨f, fd, ok_is_integers F B D_is_row_of D_is_integer, PySem.W.mg_of X G a, k, F.binds (ps := ["value"]) fun _ _ _ _ _ _ us hl => match us, hl with | [_], _ => rfl⟩
    clear F a k
    obtain ⟨f, fd, F, a, k⟩ := h_is_step.ex
    have D_is_step : Def l.prog w K mg base 3 "is_step" ["value"] (spOf K 1 okStep) := ⟨f, fd, ok_is_step F D_is_integers, PySem.W.mg_of X G a, k, F.binds (ps := ["value"]) fun _ _ _ _ _ _ us hl => match us, hl with | [_], _ => rfl⟩
    clear F a k
    obtain ⟨f, fd, F, a, k⟩ := h_check_steps.ex
    have D_check_steps : Def l.prog w K mg base 4 "check_steps" ["steps"] (spOf K 1 okCheckSteps) := ⟨f, fd, ok_check_steps F B D_is_step, PySem.W.mg_of X G a, k, F.binds (ps := ["steps"]) fun _ _ _ _ _ _ us hl => match us, hl with | [_], _ => rfl⟩
    clear F a k
    obtain ⟨f, fd, F, a, k⟩ := h_put_pair.ex
    have D_put_pair : Def l.prog w K mg base 1 "put_pair" ["found", "pair"] (spPut K) := ⟨f, fd, ok_put_pair F , PySem.W.mg_of X G a, k, F.binds (ps := ["found", "pair"]) fun _ _ _ _ _ _ us hl => match us, hl with | [_, _], _ => rfl⟩
    clear F a k
    obtain ⟨f, fd, F, a, k⟩ := h_climbs.ex
    have D_climbs : Def l.prog w K mg base 2 "climbs" ["steps"] (spOf K 1 okClimbs) := ⟨f, fd, ok_climbs F B B2 D_put_pair, PySem.W.mg_of X G a, k, F.binds (ps := ["steps"]) fun _ _ _ _ _ _ us hl => match us, hl with | [_], _ => rfl⟩
    clear F a k
    obtain ⟨f, fd, F, a, k⟩ := h_stairs_for.ex
    have D_stairs_for : Def l.prog w K mg base 3 "stairs_for" ["steps"] (spOf K 1 okStairsFor) := ⟨f, fd, ok_stairs_for F B D_climbs, PySem.W.mg_of X G a, k, F.binds (ps := ["steps"]) fun _ _ _ _ _ _ us hl => match us, hl with | [_], _ => rfl⟩
    clear F a k
    obtain ⟨f, fd, F, a, k⟩ := h_back_steps.ex
    have D_back_steps : Def l.prog w K mg base 1 "back_steps" ["steps"] (spOf K 1 okBackSteps) := ⟨f, fd, ok_back_steps F B2, PySem.W.mg_of X G a, k, F.binds (ps := ["steps"]) fun _ _ _ _ _ _ us hl => match us, hl with | [_], _ => rfl⟩
    clear F a k
    obtain ⟨f, fd, F, a, k⟩ := h_stairs_of.ex
    have D_stairs_of : Def l.prog w K mg base 5 "stairs_of" ["steps"] (spOf K 1 okStairsOf) := ⟨f, fd, ok_stairs_of F D_check_steps D_stairs_for, PySem.W.mg_of X G a, k, F.binds (ps := ["steps"]) fun _ _ _ _ _ _ us hl => match us, hl with | [_], _ => rfl⟩
    clear F a k
    obtain ⟨f, fd, F, a, k⟩ := h_steps_by.ex
    have D_steps_by : Def l.prog w K mg base 6 "steps_by" ["trade", "tasks"] (spOf K 2 okStepsBy) := ⟨f, fd, ok_steps_by F B D_checked_steps, PySem.W.mg_of X G a, k, F.binds (ps := ["trade", "tasks"]) fun _ _ _ _ _ _ us hl => match us, hl with | [_, _], _ => rfl⟩
    clear F a k
    obtain ⟨f, fd, F, a, k⟩ := h_steps_back.ex
    have D_steps_back : Def l.prog w K mg base 5 "steps_back" ["steps"] (spOf K 1 okStepsBack) := ⟨f, fd, ok_steps_back F B D_check_steps D_back_steps, PySem.W.mg_of X G a, k, F.binds (ps := ["steps"]) fun _ _ _ _ _ _ us hl => match us, hl with | [_], _ => rfl⟩
    clear F a k
    obtain ⟨f, fd, F, a, k⟩ := h_gain_for.ex
    have D_gain_for : Def l.prog w K mg base 1 "gain_for" ["stairs", "base"] (spOf K 2 okGainFor) := ⟨f, fd, ok_gain_for F , PySem.W.mg_of X G a, k, F.binds (ps := ["stairs", "base"]) fun _ _ _ _ _ _ us hl => match us, hl with | [_, _], _ => rfl⟩
    clear F a k
    obtain ⟨f, fd, F, a, k⟩ := h_lower_base.ex
    have D_lower_base : Def l.prog w K mg base 2 "lower_base" ["one", "other"] (spOf K 2 okLowerBase) := ⟨f, fd, ok_lower_base F D_gain_for, PySem.W.mg_of X G a, k, F.binds (ps := ["one", "other"]) fun _ _ _ _ _ _ us hl => match us, hl with | [_, _], _ => rfl⟩
    clear F a k
    obtain ⟨f, fd, F, a, k⟩ := h_is_stairs.ex
    have D_is_stairs : Def l.prog w K mg base 3 "is_stairs" ["value"] (spOf K 1 okIsStairs) := ⟨f, fd, ok_is_stairs F B B2 D_is_integers, PySem.W.mg_of X G a, k, F.binds (ps := ["value"]) fun _ _ _ _ _ _ us hl => match us, hl with | [_], _ => rfl⟩
    clear F a k
    obtain ⟨f, fd, F, a, k⟩ := h_check_stairs.ex
    have D_check_stairs : Def l.prog w K mg base 4 "check_stairs" ["stairs"] (spOf K 1 okCheckStairs) := ⟨f, fd, ok_check_stairs F D_is_stairs, PySem.W.mg_of X G a, k, F.binds (ps := ["stairs"]) fun _ _ _ _ _ _ us hl => match us, hl with | [_], _ => rfl⟩
    clear F a k
    obtain ⟨f, fd, F, a, k⟩ := h_gain_at.ex
    have D_gain_at : Def l.prog w K mg base 5 "gain_at" ["stairs", "base"] (spOf K 2 okGainAt) := ⟨f, fd, ok_gain_at F D_check_stairs D_is_integer D_gain_for, PySem.W.mg_of X G a, k, F.binds (ps := ["stairs", "base"]) fun _ _ _ _ _ _ us hl => match us, hl with | [_, _], _ => rfl⟩
    clear F a k
    obtain ⟨f, fd, F, a, k⟩ := h_no_less.ex
    have D_no_less : Def l.prog w K mg base 5 "no_less" ["one", "other"] (spOf K 2 okNoLess) := ⟨f, fd, ok_no_less F D_check_stairs D_lower_base, PySem.W.mg_of X G a, k, F.binds (ps := ["one", "other"]) fun _ _ _ _ _ _ us hl => match us, hl with | [_, _], _ => rfl⟩
    clear F a k
    obtain ⟨f, fd, F, a, k⟩ := h_law_back_steps.ex
    have D_law_back_steps : Def l.prog w K mg base 1 "_law_back_steps" ["_law_steps_here"] (spOf K 1 okLawBackSteps) := ⟨f, fd, ok_law_back_steps F B, PySem.W.mg_of X G a, k, F.binds (ps := ["_law_steps_here"]) fun _ _ _ _ _ _ us hl => match us, hl with | [_], _ => rfl⟩
    clear F a k
    obtain ⟨f, fd, F, a, k⟩ := h_law_bases.ex
    have D_law_bases : Def l.prog w K mg base 1 "_law_bases" ["_law_steps_here"] (spOf K 1 okLawBases) := ⟨f, fd, ok_law_bases F B, PySem.W.mg_of X G a, k, F.binds (ps := ["_law_steps_here"]) fun _ _ _ _ _ _ us hl => match us, hl with | [_], _ => rfl⟩
    clear F a k
    obtain ⟨f, fd, F, a, k⟩ := h_law_gain_of.ex
    have D_law_gain_of : Def l.prog w K mg base 1 "_law_gain_of" ["_law_steps_here", "_law_base"] (spOf K 2 okLawGainOf) := ⟨f, fd, ok_law_gain_of F B, PySem.W.mg_of X G a, k, F.binds (ps := ["_law_steps_here", "_law_base"]) fun _ _ _ _ _ _ us hl => match us, hl with | [_, _], _ => rfl⟩
    clear F a k
    obtain ⟨f, fd, F, a, k⟩ := h_law_steps.ex
    have D_law_steps : Def l.prog w K mg base 3 "_law_steps" ["_law_pot_here", "_law_most", "_law_great"] (spLSteps K) := ⟨f, fd, ok_law_steps F B D_law_take D_law_of, PySem.W.mg_of X G a, k, F.binds (ps := ["_law_pot_here", "_law_most", "_law_great"]) fun _ _ _ _ _ _ us hl => match us, hl with | [_, _, _], _ => rfl⟩
    clear F a k
    obtain ⟨f, fd, F, a, k⟩ := h_law_climbs.ex
    have D_law_climbs : Def l.prog w K mg base 4 "_law_climbs" ["_law_pot_here", "_law_most", "_law_great"] (spClimbs K) := ⟨f, fd, ok_law_climbs F B D_law_take D_law_steps D_law_back_steps, PySem.W.mg_of X G a, k, F.binds (ps := ["_law_pot_here", "_law_most", "_law_great"]) fun _ _ _ _ _ _ us hl => match us, hl with | [_, _, _], _ => rfl⟩
    clear F a k
    obtain ⟨f, fd, F, a, k⟩ := h_law_gain.ex
    have D_law_gain : Def l.prog w K mg base 1 "_law_gain" ["_law_stairs", "_law_base"] (spOf K 2 okLawGain) := ⟨f, fd, ok_law_gain F B, PySem.W.mg_of X G a, k, F.binds (ps := ["_law_stairs", "_law_base"]) fun _ _ _ _ _ _ us hl => match us, hl with | [_, _], _ => rfl⟩
    clear F a k
    obtain ⟨f, fd, F, a, k⟩ := h_both_stairs.ex
    have D_both_stairs : Def l.prog w K mg base 2 "both_stairs" ["one", "other"] (spOf K 2 (okBothBy bothM)) := ⟨f, fd, ok_both_stairs F B D_put_pair, PySem.W.mg_of X G a, k, F.binds (ps := ["one", "other"]) fun _ _ _ _ _ _ us hl => match us, hl with | [_, _], _ => rfl⟩
    clear F a k
    obtain ⟨f, fd, F, a, k⟩ := h_both.ex
    have D_both : Def l.prog w K mg base 5 "both" ["one", "other"] (spOf K 2 (okBothBy bothM)) := ⟨f, fd, ok_both F D_check_stairs D_both_stairs, PySem.W.mg_of X G a, k, F.binds (ps := ["one", "other"]) fun _ _ _ _ _ _ us hl => match us, hl with | [_, _], _ => rfl⟩
    clear F a k
    obtain ⟨f, fd, F, a, k⟩ := h_law_stairs_by.ex
    have D_law_stairs_by : Def l.prog w K mg base 2 "_law_stairs_by" ["_law_steps_here", "_law_most"] (spOf K 2 okLawStairsBy) := ⟨f, fd, ok_law_stairs_by F B D_law_bases D_law_gain_of, PySem.W.mg_of X G a, k, F.binds (ps := ["_law_steps_here", "_law_most"]) fun _ _ _ _ _ _ us hl => match us, hl with | [_, _], _ => rfl⟩
    clear F a k
    obtain ⟨f, fd, F, a, k⟩ := h_law_first_less.ex
    have D_law_first_less : Def l.prog w K mg base 2 "_law_first_less" ["_law_one", "_law_other"] (spOf K 2 okFirstLess) := ⟨f, fd, ok_law_first_less F B D_law_gain, PySem.W.mg_of X G a, k, F.binds (ps := ["_law_one", "_law_other"]) fun _ _ _ _ _ _ us hl => match us, hl with | [_, _], _ => rfl⟩
    clear F a k
    obtain ⟨f, fd, F, a, k⟩ := h_law_both_at.ex
    have D_law_both_at : Def l.prog w K mg base 1 "_law_both_at" ["_law_one", "_law_other", "_law_base"] (spOf K 3 okBothAt) := ⟨f, fd, ok_law_both_at F B, PySem.W.mg_of X G a, k, F.binds (ps := ["_law_one", "_law_other", "_law_base"]) fun _ _ _ _ _ _ us hl => match us, hl with | [_, _, _], _ => rfl⟩
    clear F a k
    obtain ⟨f, fd, F, a, k⟩ := h_law_right.ex
    have D_law_right : Def l.prog w K mg base 7 "_law_right" ["_law_pot_here"] spRight := ⟨f, fd, ok_right F B D_law_of D_law_climbs D_stairs_of D_law_stairs_by D_steps_back D_law_back_steps D_no_less D_law_first_less D_both D_gain_at D_law_gain_of D_law_both_at D_law_trade D_steps_by D_law_trade_told, PySem.W.mg_of X G a, k, F.binds (ps := ["_law_pot_here"]) fun _ _ _ _ _ _ us hl => match us, hl with | [_], _ => rfl⟩
    clear F a k
    exact ok_law F0 B D_law_cells D_law_pot D_law_right
end K11

open PySem PySem.W PyProof.Rows in
set_option maxRecDepth 100000 in
set_option maxHeartbeats 0 in
theorem PySem.Challenge.cw_enoughhands_k11_whole_stairs_of_steps_holds : PySem.Challenge.rw_enoughhands_k11_whole_stairs_of_steps.Holds := by
  w_on; o_law; k_head; (case hw => w_witness2)
  k_fill
  refine VG.walkG (l := PySem.Challenge.rw_enoughhands_k11_whole_stairs_of_steps) (n := 63) (k := 8) (x := "_law_script") (sp := fun K => K11.spLaw K) rfl (by decide) rfl ?R (fun w h Y => PySem.W.kIn_of Y) ?F (fun K H a ns hl _ hS => ⟨a, ns, rfl, hS, hl, fun _ _ => rfl⟩)
  case R => exact ⟨rfl, by decide, by decide⟩
  case F =>
    intro w mg fa h KX G hmg
    refine' K11.all_mk KX G hmg (K11.fk ?a_is_integer ?l_is_integer ?c_is_integer ?k_is_integer) (K11.fk ?a_is_name ?l_is_name ?c_is_name ?k_is_name) (K11.fk ?a_is_row_of ?l_is_row_of ?c_is_row_of ?k_is_row_of) (K11.fk ?a_ascends ?l_ascends ?c_ascends ?k_ascends) (K11.fk ?a_are_names ?l_are_names ?c_are_names ?k_are_names) (K11.fk ?a_is_line ?l_is_line ?c_is_line ?k_is_line) (K11.fk ?a_is_trade ?l_is_trade ?c_is_trade ?k_is_trade) (K11.fk ?a_trade_table ?l_trade_table ?c_trade_table ?k_trade_table) (K11.fk ?a_steps_for ?l_steps_for ?c_steps_for ?k_steps_for) (K11.fk ?a_checked_steps ?l_checked_steps ?c_checked_steps ?k_checked_steps) (K11.fk ?a_law_pot ?l_law_pot ?c_law_pot ?k_law_pot) (K11.fk ?a_law_take ?l_law_take ?c_law_take ?k_law_take) (K11.fk ?a_law_of ?l_law_of ?c_law_of ?k_law_of) (K11.fk ?a_law_cells ?l_law_cells ?c_law_cells ?k_law_cells) (K11.fk ?a_law_trade ?l_law_trade ?c_law_trade ?k_law_trade) (K11.fk ?a_law_trade_told ?l_law_trade_told ?c_law_trade_told ?k_law_trade_told) (K11.fk ?a_is_integers ?l_is_integers ?c_is_integers ?k_is_integers) (K11.fk ?a_is_step ?l_is_step ?c_is_step ?k_is_step) (K11.fk ?a_check_steps ?l_check_steps ?c_check_steps ?k_check_steps) (K11.fk ?a_put_pair ?l_put_pair ?c_put_pair ?k_put_pair) (K11.fk ?a_climbs ?l_climbs ?c_climbs ?k_climbs) (K11.fk ?a_stairs_for ?l_stairs_for ?c_stairs_for ?k_stairs_for) (K11.fk ?a_back_steps ?l_back_steps ?c_back_steps ?k_back_steps) (K11.fk ?a_stairs_of ?l_stairs_of ?c_stairs_of ?k_stairs_of) (K11.fk ?a_steps_by ?l_steps_by ?c_steps_by ?k_steps_by) (K11.fk ?a_steps_back ?l_steps_back ?c_steps_back ?k_steps_back) (K11.fk ?a_gain_for ?l_gain_for ?c_gain_for ?k_gain_for) (K11.fk ?a_lower_base ?l_lower_base ?c_lower_base ?k_lower_base) (K11.fk ?a_is_stairs ?l_is_stairs ?c_is_stairs ?k_is_stairs) (K11.fk ?a_check_stairs ?l_check_stairs ?c_check_stairs ?k_check_stairs) (K11.fk ?a_gain_at ?l_gain_at ?c_gain_at ?k_gain_at) (K11.fk ?a_no_less ?l_no_less ?c_no_less ?k_no_less) (K11.fk ?a_law_back_steps ?l_law_back_steps ?c_law_back_steps ?k_law_back_steps) (K11.fk ?a_law_bases ?l_law_bases ?c_law_bases ?k_law_bases) (K11.fk ?a_law_gain_of ?l_law_gain_of ?c_law_gain_of ?k_law_gain_of) (K11.fk ?a_law_steps ?l_law_steps ?c_law_steps ?k_law_steps) (K11.fk ?a_law_climbs ?l_law_climbs ?c_law_climbs ?k_law_climbs) (K11.fk ?a_law_gain ?l_law_gain ?c_law_gain ?k_law_gain) (K11.fk ?a_both_stairs ?l_both_stairs ?c_both_stairs ?k_both_stairs) (K11.fk ?a_both ?l_both ?c_both ?k_both) (K11.fk ?a_law_stairs_by ?l_law_stairs_by ?c_law_stairs_by ?k_law_stairs_by) (K11.fk ?a_law_first_less ?l_law_first_less ?c_law_first_less ?k_law_first_less) (K11.fk ?a_law_both_at ?l_law_both_at ?c_law_both_at ?k_law_both_at) (K11.fk ?a_law_right ?l_law_right ?c_law_right ?k_law_right) (K11.fk ?a_law ?l_law ?c_law ?k_law) ?m_MOST_NEED ?m_MOST_LINES ?z_abs ?z_all ?z_dict ?z_int ?z_bool ?z_str ?z_isinstance ?z_len ?z_list ?z_max ?z_min ?z_range ?z_repr ?z_set ?z_sorted ?z_sum ?z_tuple ?z_enumerate ?z_reversed ?z_zip
    (case a_is_integer => k_is)
    (case l_is_integer => k_is)
    (case c_is_integer => k_is)
    (case k_is_integer => k_is)
    (case a_is_name => k_is)
    (case l_is_name => k_is)
    (case c_is_name => k_is)
    (case k_is_name => k_is)
    (case a_is_row_of => k_is)
    (case l_is_row_of => k_is)
    (case c_is_row_of => k_is)
    (case k_is_row_of => k_is)
    (case a_ascends => k_is)
    (case l_ascends => k_is)
    (case c_ascends => k_is)
    (case k_ascends => k_is)
    (case a_are_names => k_is)
    (case l_are_names => k_is)
    (case c_are_names => k_is)
    (case k_are_names => k_is)
    (case a_is_line => k_is)
    (case l_is_line => k_is)
    (case c_is_line => k_is)
    (case k_is_line => k_is)
    (case a_is_trade => k_is)
    (case l_is_trade => k_is)
    (case c_is_trade => k_is)
    (case k_is_trade => k_is)
    (case a_trade_table => k_is)
    (case l_trade_table => k_is)
    (case c_trade_table => k_is)
    (case k_trade_table => k_is)
    (case a_steps_for => k_is)
    (case l_steps_for => k_is)
    (case c_steps_for => k_is)
    (case k_steps_for => k_is)
    (case a_checked_steps => k_is)
    (case l_checked_steps => k_is)
    (case c_checked_steps => k_is)
    (case k_checked_steps => k_is)
    (case a_law_pot => k_is)
    (case l_law_pot => k_is)
    (case c_law_pot => k_is)
    (case k_law_pot => k_is)
    (case a_law_take => k_is)
    (case l_law_take => k_is)
    (case c_law_take => k_is)
    (case k_law_take => k_is)
    (case a_law_of => k_is)
    (case l_law_of => k_is)
    (case c_law_of => k_is)
    (case k_law_of => k_is)
    (case a_law_cells => k_is)
    (case l_law_cells => k_is)
    (case c_law_cells => k_is)
    (case k_law_cells => k_is)
    (case a_law_trade => k_is)
    (case l_law_trade => k_is)
    (case c_law_trade => k_is)
    (case k_law_trade => k_is)
    (case a_law_trade_told => k_is)
    (case l_law_trade_told => k_is)
    (case c_law_trade_told => k_is)
    (case k_law_trade_told => k_is)
    (case a_is_integers => k_is)
    (case l_is_integers => k_is)
    (case c_is_integers => k_is)
    (case k_is_integers => k_is)
    (case a_is_step => k_is)
    (case l_is_step => k_is)
    (case c_is_step => k_is)
    (case k_is_step => k_is)
    (case a_check_steps => k_is)
    (case l_check_steps => k_is)
    (case c_check_steps => k_is)
    (case k_check_steps => k_is)
    (case a_put_pair => k_is)
    (case l_put_pair => k_is)
    (case c_put_pair => k_is)
    (case k_put_pair => k_is)
    (case a_climbs => k_is)
    (case l_climbs => k_is)
    (case c_climbs => k_is)
    (case k_climbs => k_is)
    (case a_stairs_for => k_is)
    (case l_stairs_for => k_is)
    (case c_stairs_for => k_is)
    (case k_stairs_for => k_is)
    (case a_back_steps => k_is)
    (case l_back_steps => k_is)
    (case c_back_steps => k_is)
    (case k_back_steps => k_is)
    (case a_stairs_of => k_is)
    (case l_stairs_of => k_is)
    (case c_stairs_of => k_is)
    (case k_stairs_of => k_is)
    (case a_steps_by => k_is)
    (case l_steps_by => k_is)
    (case c_steps_by => k_is)
    (case k_steps_by => k_is)
    (case a_steps_back => k_is)
    (case l_steps_back => k_is)
    (case c_steps_back => k_is)
    (case k_steps_back => k_is)
    (case a_gain_for => k_is)
    (case l_gain_for => k_is)
    (case c_gain_for => k_is)
    (case k_gain_for => k_is)
    (case a_lower_base => k_is)
    (case l_lower_base => k_is)
    (case c_lower_base => k_is)
    (case k_lower_base => k_is)
    (case a_is_stairs => k_is)
    (case l_is_stairs => k_is)
    (case c_is_stairs => k_is)
    (case k_is_stairs => k_is)
    (case a_check_stairs => k_is)
    (case l_check_stairs => k_is)
    (case c_check_stairs => k_is)
    (case k_check_stairs => k_is)
    (case a_gain_at => k_is)
    (case l_gain_at => k_is)
    (case c_gain_at => k_is)
    (case k_gain_at => k_is)
    (case a_no_less => k_is)
    (case l_no_less => k_is)
    (case c_no_less => k_is)
    (case k_no_less => k_is)
    (case a_law_back_steps => k_is)
    (case l_law_back_steps => k_is)
    (case c_law_back_steps => k_is)
    (case k_law_back_steps => k_is)
    (case a_law_bases => k_is)
    (case l_law_bases => k_is)
    (case c_law_bases => k_is)
    (case k_law_bases => k_is)
    (case a_law_gain_of => k_is)
    (case l_law_gain_of => k_is)
    (case c_law_gain_of => k_is)
    (case k_law_gain_of => k_is)
    (case a_law_steps => k_is)
    (case l_law_steps => k_is)
    (case c_law_steps => k_is)
    (case k_law_steps => k_is)
    (case a_law_climbs => k_is)
    (case l_law_climbs => k_is)
    (case c_law_climbs => k_is)
    (case k_law_climbs => k_is)
    (case a_law_gain => k_is)
    (case l_law_gain => k_is)
    (case c_law_gain => k_is)
    (case k_law_gain => k_is)
    (case a_both_stairs => k_is)
    (case l_both_stairs => k_is)
    (case c_both_stairs => k_is)
    (case k_both_stairs => k_is)
    (case a_both => k_is)
    (case l_both => k_is)
    (case c_both => k_is)
    (case k_both => k_is)
    (case a_law_stairs_by => k_is)
    (case l_law_stairs_by => k_is)
    (case c_law_stairs_by => k_is)
    (case k_law_stairs_by => k_is)
    (case a_law_first_less => k_is)
    (case l_law_first_less => k_is)
    (case c_law_first_less => k_is)
    (case k_law_first_less => k_is)
    (case a_law_both_at => k_is)
    (case l_law_both_at => k_is)
    (case c_law_both_at => k_is)
    (case k_law_both_at => k_is)
    (case a_law_right => k_is)
    (case l_law_right => k_is)
    (case c_law_right => k_is)
    (case k_law_right => k_is)
    (case a_law => k_is)
    (case l_law => k_is)
    (case c_law => k_is)
    (case k_law => k_is)
    (case m_MOST_NEED => k_is)
    (case m_MOST_LINES => k_is)
    (case z_abs => k_is)
    (case z_all => k_is)
    (case z_dict => k_is)
    (case z_int => k_is)
    (case z_bool => k_is)
    (case z_str => k_is)
    (case z_isinstance => k_is)
    (case z_len => k_is)
    (case z_list => k_is)
    (case z_max => k_is)
    (case z_min => k_is)
    (case z_range => k_is)
    (case z_repr => k_is)
    (case z_set => k_is)
    (case z_sorted => k_is)
    (case z_sum => k_is)
    (case z_tuple => k_is)
    (case z_enumerate => k_is)
    (case z_reversed => k_is)
    (case z_zip => k_is)
