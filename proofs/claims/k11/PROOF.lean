import PyProof.Rows.All
import Wide.All
import OpenK.AllK
import Wide.FinOn
import HandS.ForMost
import HandS.Exc
import HandS.Wide
import HandS.Style
import HandS.Evl
import HandS.IsInst
import KE.IntBitsLaws
import KE.GoesEnum
import KE.KRevSl
import PyProof.ReprRoads
import PyProof.StrBlock2
import HandS.TupSets
import HandS.SetKeys
import HandS.Rev
import HandS.Strs
import HandS.SetFor
import HandS.Walk
import PySem.Challenge.RW_pickdepths_k11_questions_recognized
section
set_option Elab.async false
set_option linter.all false
set_option maxRecDepth 100000
/-! my own base: rules that the hand layer lacks, and the words of my specs -/
namespace M
open PySem L2 Evl
open PyProof.Rows hiding St

/-! ### operators -/
def CPowW (i j : Int) : Prop := 0 ≤ j ∧ (Builtin.Int.intBits i : Int) * j ≤ 2 ^ 27
theorem op_powW {X : Cx} : OpR X (binaryOp .Pow) (rI CPowW fun i j => .int (i ^ j.toNat)) := opI fun _ _ _ _ _ _ _ hc q => pow_int hc.1 hc.2 q
theorem bits_le {i : Int} {n : Nat} (h : i.natAbs < 2 ^ n) : Builtin.Int.intBits i ≤ n := by
  unfold Builtin.Int.intBits
  by_cases e : i = 0
  · simp [e]
  · rw [if_neg (by simpa using e)]
    have h2 : i.natAbs.log2 < n := (Nat.log2_lt (by omega)).mpr h
    omega
theorem pow_w {i : Int} {j : Int} (n : Nat) (h : i.natAbs < 2 ^ n) (h0 : 0 ≤ j) (hj : j ≤ 100) (hn : n ≤ 1000) : CPowW i j := by
  refine ⟨h0, ?_⟩
  have e := bits_le h
  have h1 : ((Builtin.Int.intBits i : Nat) : Int) ≤ 1000 := by omega
  have h27 : (2 : Int) ^ 27 = 134217728 := by decide
  rw [h27]
  have h2 : ((Builtin.Int.intBits i : Nat) : Int) * j ≤ 1000 * 100 := Int.mul_le_mul h1 hj h0 (by decide)
  omega
theorem op_mul_str {X : Cx} : OpR X (binaryOp .Mult) (fun x y H Q => ∃ z i, x = .str z ∧ y = .int i ∧ MulOk z i ∧ Q (.str (Txt.mul z i)) H) := by
  intro pins s σ H x y v u Q I rx ry h
  obtain ⟨z, i, rfl, rfl, hc, q⟩ := h
  obtain ⟨t, rfl⟩ := rx
  obtain ⟨t', rfl⟩ := ry
  exact SB.mul hc fun t2 k => ⟨.str _, H, I.tok _, ⟨_, rfl⟩, q⟩

/-! ### repr of data, where no repr is running -/
def rRepr (K : PySem.W.Frag) : List V → Hp → VK → Prop := fun xs H Q => ∃ x d, xs = [x] ∧ Dp K H x d ∧ d.showable = true ∧ d.hasDict = false ∧ d.depth ≤ 50 ∧ d.shown.length ≤ sizeLine ∧ Q (.str d.shown) H
theorem call_repr {X : Cx} (hg : X.A.guards = some []) (hu : X.A.units + 64 < cLine) : CallR X (.builtin "repr") (rRepr X.K) := by
  intro pins s σ H vs us Q I r h
  obtain ⟨x, d, rfl, hd, hs, hn, hp, hz, q⟩ := h
  obtain ⟨u, rfl, ru⟩ := vals1 r
  obtain ⟨as, rd⟩ := Dp.reads I d x u hd ru
  have fin : ∀ t, EP X pins σ Q (.str d.shown t) { s with toks := s.toks + 1 } := fun t => ⟨.str _, H, I.tok _, ⟨_, rfl⟩, q⟩
  cases rd with
  | none => exact P.repr_of_none (fin _)
  | bool b => exact P.repr_of_bool (fin _)
  | int i t => exact P.repr_of_int (by simpa [PyData.showable] using hs) (fin _)
  | str z t => exact P.repr_of_str (fin _) hz
  | list h1 h2 h3 h4 =>
    refine repr_of_reads' (.list h1 h2 h3 h4) hs (PyData.noDict_hsm hn) hg (by omega) (fun _ _ e => e) (fun h' t tk k => ?_) hz
    exact ⟨.str _, H, I.kept (t' := tk) k, ⟨_, rfl⟩, q⟩
  | tuple h1 h2 h3 h4 =>
    refine repr_of_reads' (.tuple h1 h2 h3 h4) hs (PyData.noDict_hsm hn) hg (by omega) (fun _ _ e => e) (fun h' t tk k => ?_) hz
    exact ⟨.str _, H, I.kept (t' := tk) k, ⟨_, rfl⟩, q⟩
  | dict => cases hn

/-! ### a def whose body asks that no repr is running -/
structure FnG (P : Program) (w : World) (K : PySem.W.Frag) (mg : Str → Option Value) (base : Heap) (CX : CXT) (k : Nat) (f : Addr) (fd : FuncData) (ps : List Str) (sp : Sp) : Prop where
  len : ∀ vs H Q E, sp vs H Q E → vs.length = ps.length
  run : ∀ (A : Around), A.guards = some [] → ∀ (outer : List Env) (s : Shared) (H : Hp) (args : Args) (us : List Value) (vs : List V) (Q : VK) (E : XK), Room k A → Env0 P w K mg base A outer s H →
    BindsTo s fd args (ps.zip us) → Vals vs us → sp vs H Q E → codeAny (model P w) A (.call (.ref f) args) (CR CX outer P w H s Q E) s
section
variable {P : Program} {w : World} {K : PySem.W.Frag} {mg : Str → Option Value} {base : Heap} {CX : CXT} {k : Nat} {f : Addr} {fd : FuncData} {ps : List Str} {sp : Sp}
theorem FnG.of (F : FnOk P w K mg base CX k f fd ps sp) : FnG P w K mg base CX k f fd ps sp := ⟨F.len, fun A _ => F.run A⟩
theorem FnG.mono {j : Nat} (F : FnG P w K mg base CX j f fd ps sp) (h : j ≤ k) : FnG P w K mg base CX k f fd ps sp := ⟨F.len, fun A hg o s H ar us vs Q E hr => F.run A hg o s H ar us vs Q E (hr.mono h)⟩
theorem fnG_of {name qual : Str} {params : Arguments} {body : List Stmt} {scope : Scope} {dV kV doc pm cdv ct oc : Value} {an od : Option Addr} {osl : Array (Option Value)} {N : List Str}
    (lk : K.lookup f = some ⟨oc, od, .func (PySem.W.fnOf name qual params body scope dV kV doc pm an cdv ct), osl⟩) (hcd : PySem.W.codeIn K cdv qual = true) (S : FnScope N ps scope) (len : ∀ vs H Q E, sp vs H Q E → vs.length = ps.length)
    (hb : ∀ (A : Around), A.guards = some [] → ∀ (outer : List Env) (s : Shared) (H : Hp) (vs : List V) (Q : VK) (E : XK), Room k (A.deeper (envOfC qual scope s.heap.objs.size f cdv)) → sp vs H Q E →
      ∃ t, PSs (cxOf CX P w K mg base N qual scope f cdv A outer s H E) body t ∧ t { nx := fun _ H' => Q .non H', rt := Q } (start N vs) H) :
    FnG P w K mg base CX (k + 1) f (PySem.W.fnOf name qual params body scope dV kV doc pm an cdv ct) ps sp where
  len := len
  run := by
    intro A hgA outer s H args us vs Q E room env bind rel want
    have inK : K.In s.heap := env.mod.kin.keeps fun b o q => (env.bs b o q).1
    have free : s.heap.NoLimit := env.mod.nolimit.keeps fun b o q => (env.bs b o q).1
    have kinds : ∀ y ∈ ps.zip us, scope.names.lookup y.1 = some .local ∨ (scope.names.lookup y.1 = some .cell ∧ ((cellsFrom (s.heap.objs.size + 1) scope.names []).lookup y.1).isSome = true) := by
      rintro ⟨n, v⟩ hy
      exact (S.par n (List.of_mem_zip hy).1).imp id fun q => ⟨q, PySem.W.cellsFrom_some _ _ _ (.inl q)⟩
    refine codeAny_call_function room.depth (inK _ _ lk) rfl S.co S.gen rfl (PySem.W.codeRec_of inK hcd) (bind _ _ _ _ ?_)
    refine wpAny_newFunctionEnv_cells S.kind kinds fun env' he s1 x => ?_
    subst he
    refine ⟨free.keeps x.toInCall.keep, codeAny_func ?_⟩
    obtain ⟨t, ht, hq⟩ := hb A hgA outer s H vs Q E (room.deeper _) want
    have I := inv_start (CX := CX) (E := E) S room.hd env (len _ _ _ _ want) rel x
    refine wpAny_mono (ht.run [] s1 (start N vs) H _ I hq) (fun fl s' hs => ?_) fun e s' hs => hs
    cases fl with
    | ret u =>
      obtain ⟨v, τ, G, J, rv, q⟩ := hs
      exact ⟨v, G, J.os, J.bare, J.base, J.hok, rv, q⟩
    | next =>
      obtain ⟨τ, G, J, q⟩ := hs
      exact ⟨V.non, G, J.os, J.bare, J.base, J.hok, rfl, q⟩
    | brk => exact hs.elim fun _ z => z.elim fun _ z => z.2.elim
    | cont => exact hs.elim fun _ z => z.elim fun _ z => z.2.elim
theorem Fun.okG {x qual : Str} {st : Stmt} {N : List Str} (F : Fun K x qual st f fd) (S : FnScope N ps (defScope st)) (len : ∀ vs H Q E, sp vs H Q E → vs.length = ps.length)
    (hb : ∀ (cdv : Value) (A : Around), A.guards = some [] → ∀ (outer : List Env) (s : Shared) (H : Hp) (vs : List V) (Q : VK) (E : XK), Room k (A.deeper (envOfC qual (defScope st) s.heap.objs.size f cdv)) → sp vs H Q E →
      ∃ t, PSs (cxOf CX0 P w K mg base N qual (defScope st) f cdv A outer s H E).nox (defBody st) t ∧ t { nx := fun _ H' => Q .non H', rt := Q } (start N vs) H) : FnG P w K mg base CX0 (k + 1) f fd ps sp := by
  obtain ⟨oc, od, kV, doc, pm, an, cdv, ct, osl, rfl, lk, hcd⟩ := F.ex
  refine fnG_of lk hcd S len fun A hg outer s H vs Q E hr want => ?_
  obtain ⟨t, p, q⟩ := hb cdv A hg outer s H vs Q E hr want
  exact ⟨t, p.nox, q⟩
end
section
variable {X : Cx} {CX : CXT} {k : Nat} {f : Addr} {fd : FuncData} {ps ks : List Str} {sp : Sp} {dvs : List V} {ds : List Value} {E : XK} {x : Str} {p pos : Pos} {e : Expr} {es : List Expr} {t tk : TA} {kws : List Keyword}
  {g : List Value → List Value → List Value} {gV : List V → List V → List V}
theorem ended {pins : List (Addr × Obj)} {σ : St} {H : Hp} {s s' : Shared} {Q : VK} {r : Result} (hx : Passes CX X E) (I : Inv X pins σ H s) (hq : CR CX X.stack X.prog X.w H s Q E r s') :
    (match r with | .ok (.ret u) => EP X pins σ Q u s' | .ok _ => False | .error e => X.xe e s') := by
  rcases r with e | fl
  · exact hx pins σ H s e s' I hq
  · cases fl with
    | ret u => exact I.after hq
    | next => exact hq.elim
    | brk => exact hq.elim
    | cont => exact hq.elim
theorem pe_callG (F : FnG X.prog X.w X.K X.mg X.base CX k f fd ps sp) (hga : X.A.guards = some []) (hr : Room k X.A) (hg : Gl X x) (hm : X.mg x = some (.ref f)) (hk : PySem.W.keepIn X.K (.ref f) = true) (hb : Binds X.K fd ps ds)
    (hd : Vals dvs ds) (hx : Passes CX X E) (ha : PA X (e :: es) t) (hdb : (x == ("__debug__" : Str)) = false := by decide) (he : starEach (e :: es) X.env = (false, eval e X.env) :: starEach es X.env := by rfl)
    (hpl : (backTo pos (starEach es X.env)).any (·.1) = false := by rfl) : PE X (.Call (.Name x p) (e :: es) [] pos) (tCall sp dvs E t) := by
  constructor
  intro pins s σ H Q I h
  refine wpAny_Call_Name_kw (ld_glob I hg hm (PySem.W.callWith_K (h₀ := X.base) I.ok.mod.kin hk (thn (ha.run pos pins s σ H _ I h) ?_) he hpl) hdb)
  rintro us s1 ⟨vs, H1, I1, r, q⟩
  refine ⟨I1.kIn, ?_⟩
  have both : Vals (vs ++ dvs) (us ++ ds) := r.append hd
  refine wpAny_call (codeAny_mono (F.run X.A hga X.stack s1 H1 ⟨us, []⟩ (us ++ ds) (vs ++ dvs) Q E hr I1.env0 (hb s1 us I1.kIn (by rw [← both.length]; exact F.len _ _ _ _ q)) both q) fun r s' hq => ?_)
  have z := ended hx I1 hq
  cases r with
  | error _ => exact z
  | ok fl => cases fl <;> exact z
theorem keysRun {pins : List (Addr × Obj)} {σ : St} {H : Hp} {s : Shared} {Q : VK} {us ws : List Value} {vs zs : List V} (F : FnG X.prog X.w X.K X.mg X.base CX k f fd ps sp) (hga : X.A.guards = some []) (hr : Room k X.A)
    (hb : KBinds X.K fd ps ks g gV) (hx : Passes CX X E) (I : Inv X pins σ H s) (r : Vals vs us) (rz : Vals zs ws) (h : sp (gV vs zs) H Q E) : wpAny (model X.prog X.w) X.A (call (.ref f) us (ks.zip ws)) (EP X pins σ Q) X.xe s := by
  have both := hb.rel r rz
  refine wpAny_call (codeAny_mono (F.run X.A hga X.stack s H ⟨us, ks.zip ws⟩ (g us ws) (gV vs zs) Q E hr I.env0 (hb.to s us ws I.kIn (by rw [← both.length]; exact F.len _ _ _ _ h)) both h) fun r s' hq => ?_)
  have z := ended hx I hq
  cases r with
  | error _ => exact z
  | ok fl => cases fl <;> exact z
/-- f(k = v, ..): every argument by its name -/
theorem pe_callK0 (F : FnOk X.prog X.w X.K X.mg X.base CX k f fd ps sp) (hr : Room k X.A) (hg : Gl X x) (hm : X.mg x = some (.ref f)) (hk : PySem.W.keepIn X.K (.ref f) = true) (hb : KBinds X.K fd ps ks g gV) (hx : Passes CX X E)
    (hkw : PK X kws tk) (hall : (backToKw pos (keywordEach kws X.env)).all (·.1.isSome) = true := by rfl) (hks : (backToKw pos (keywordEach kws X.env)).filterMap (·.1) = ks := by rfl)
    (hdb : (x == ("__debug__" : Str)) = false := by decide) (hpl : ((backTo pos (starEach [] X.env)).any (·.1) || (backToKw pos (keywordEach kws X.env)).any (·.1.isNone)) = false := by rfl) :
    PE X (.Call (.Name x p) [] kws pos) (tCallK sp gV E tNil tk) := by
  constructor
  intro pins s σ H Q I h
  refine wpAny_Call_Name_kw (ld_glob I hg hm (PySem.W.callWith_KW0 (h₀ := X.base) I.ok.mod.kin hk hall (thn (hkw.run pos pins s σ H _ I h) ?_) hpl) hdb)
  rintro ws s2 ⟨zs, H2, I2, rz, q2⟩
  refine ⟨I2.kIn, ?_⟩
  rw [hks]
  exact run_fnk F hr hb hx I2 .nil rz q2
end

/-! ### the end of a law, where the law's def asks that no repr is running -/
theorem law_callG {P : Program} {w : World} {K : PySem.W.Frag} {mg mb : Str → Option Value} {CX : CXT} {k : Nat} {fa a : Addr} {fd : FuncData} {x : Str} {sp : Sp} {s1 : Shared} {vs : List Value} {ns : List Int}
    (KX : K.In s1.heap) (hns : s1.heap.Ns mainGlobals mg) (hb : s1.heap.Ns builtinsNs mb) (hbb : ∀ y : Str, y ≠ "__name__" → mb y = bootBuiltins y) (lim : s1.heap.NoLimit) (hg : s1.gens = #[])
    (ha : s1.heap.get? a = some { cls := .type "list", data := .seq vs.toArray }) (hi : IntsAre vs ns) (hl : ns.length ≤ sizeLine) (hr : Room k callerA)
    (F : ∀ base : Heap, K.In base → base.Ns mainGlobals mg → FnG P w K mg base CX k fa fd [x] sp) (hbind : ∀ (s : Shared) (u : Value), BindsTo s fd ⟨[u], []⟩ [(x, u)])
    (hsp : ∀ H : Hp, Only H → SqL K H a (ns.map V.int) → sp [.ref a] H (fun v _ => v = .bl true) fun _ _ _ => False)
    (hCX : ∀ H e s', CX [] H s1 (fun _ _ _ => False) e s' → False) :
    codeAny (model P w) callerA (.call (.ref fa) ⟨[.ref a], []⟩) (fun r s' => r = .ok (.ret (.bool true)) ∧ OldK s1.heap s'.heap ∧ s'.os = s1.os ∧ AllBare s'.gens) s1 := by
  have rel := vals_ints hi
  have len := hi.length
  have go : ∀ H : Hp, Only H → SqL K H a (ns.map V.int) → HOk P w H s1.heap → (∀ b, H b ≠ none → b = a ∧ K.lookup a = none) →
      codeAny (model P w) callerA (.call (.ref fa) ⟨[.ref a], []⟩) (fun r s' => r = .ok (.ret (.bool true)) ∧ OldK s1.heap s'.heap ∧ s'.os = s1.os ∧ AllBare s'.gens) s1 := by
    intro H only script held here
    have plain : ∀ {b : Addr} {m : Str → Option Value}, s1.heap.Ns b m → (hidT s1.heap H).Ns b m := by
      rintro b m ⟨o, es, ep, q, d, z⟩
      refine ⟨o, es, ep, hidT_get q ?_, d, z⟩
      rcases hH : H b with _ | u
      · rfl
      · obtain ⟨rfl, _⟩ := here b (by rw [hH]; simp)
        rw [ha] at q
        cases q
        exact nomatch (show Data.seq vs.toArray _ = Data.dict es ep from d)
    have inK : K.In (hidT s1.heap H) := by
      intro b o q
      refine hidT_get (KX b o q) ?_
      rcases hH : H b with _ | u
      · rfl
      · obtain ⟨rfl, z⟩ := here b (by rw [hH]; simp)
        rw [z] at q
        cases q
    obtain ⟨mc, l1, l2⟩ := lim
    have env : Env0 P w K mg (hidT s1.heap H) callerA [] s1 H :=
      ⟨rfl, ⟨inK, plain hns, ⟨mb, plain hb, hbb⟩, ⟨mc, plain l1, l2⟩⟩, fun b o q => of_hidT q, Nat.le_of_eq (hidT_size _ _), trivial, fun b z => absurd (show b ∈ ([] : List Addr) from z) (by simp), held, .of_eq hg⟩
    refine codeAny_mono ((F _ inK (plain hns)).run callerA rfl [] s1 H ⟨[.ref a], []⟩ [.ref a] [.ref a] _ _ hr env (hbind s1 (.ref a)) (.cons rfl .nil) (hsp H only script)) ?_
    rintro (e | fl) s' z
    · exact (hCX H e s' z).elim
    · cases fl with
      | ret u =>
        obtain ⟨v, G, os, bare, un, held', rv, ev⟩ := z
        subst ev
        cases (show u = Value.bool true from rv)
        refine ⟨rfl, OldK.of_keep fun b o q => ?_, os, bare⟩
        rcases only b with n | ⟨ob, xs, n⟩
        · exact un.keep b o q n (fun z => absurd (show b ∈ ([] : List Addr) from z) (by simp)) (by simp)
        · obtain ⟨e1, _⟩ := held b _ n
          obtain ⟨e2, _⟩ := held' b _ (un.frzs b ob _ n)
          rw [q] at e1
          cases e1
          exact e2
      | next => exact z.elim
      | brk => exact z.elim
      | cont => exact z.elim
  rcases hk : K.lookup a with _ | o
  · refine go (fun b => if b = a then some (.frz { cls := .type "list", data := .seq vs.toArray } (.lst (ns.map V.int))) else none) ?_ (.inl (.inr ⟨_, if_pos rfl⟩)) ?_ ?_
    · intro b
      by_cases q : b = a
      · exact .inr ⟨_, _, if_pos q⟩
      · exact .inl (if_neg q)
    · intro b u z
      by_cases q : b = a
      · subst q
        have z' := (if_pos (c := b = b) rfl).symm.trans z
        cases z'
        exact ⟨ha, by rw [List.length_map]; exact hl, vs, _, rel, ha⟩
      · exact nomatch (if_neg q).symm.trans z
    · intro b z
      by_cases q : b = a
      · exact ⟨q, hk⟩
      · exact absurd (if_neg q) z
  · have q := KX a o hk
    rw [ha] at q
    cases q
    exact go (fun _ => none) (fun _ => .inl rfl) (.inr ⟨_, vs.toArray, _, hk, rfl, rfl, rfl, by rw [List.size_toArray, len]; exact hl, by simpa using rel⟩) (fun b u z => nomatch (show (none : Option HO) = some u from z)) fun b z => absurd rfl z
theorem walk_ofG {l : PySem.W.OpenLaw} {n k : Nat} {q : Program} {loose : List Str} {XP : (Str → Option Value) → Heap → Prop} {YP : World → Heap → Prop} {d : DefRec} {K : Params → PySem.W.Frag} {sp : PySem.W.Frag → Sp} {x : Str}
    (hn : l.most = some n) (hn2 : n ≤ sizeLine) (hdf : d.params.defaults = []) (hr : Room k callerA) (hY : ∀ (w : World) (h : Heap), YP w h → (K w.params).In h)
    (F : ∀ (w : World) (mg : Str → Option Value) (fa : Addr) (h : Heap), (K w.params).In h → h.Ns mainGlobals mg → mg d.name = some (.ref fa) →
      ∃ fd : FuncData, (∀ (s : Shared) (u : Value), BindsTo s fd ⟨[u], []⟩ [(x, u)]) ∧ ∀ base : Heap, (K w.params).In base → base.Ns mainGlobals mg → FnG l.prog w (K w.params) mg base CX0 k fa fd [x] (sp (K w.params)))
    (hsp : ∀ (K : PySem.W.Frag) (H : Hp) (a : Addr) (ns : List Int), ns.length ≤ n → Only H → SqL K H a (ns.map V.int) → sp K [.ref a] H (fun v _ => v = .bl true) fun _ _ _ => False) :
    PySem.W.WalkO q loose XP YP l.row.toRowW d [] (fun f vs => PySem.call f vs) := by
  refine Att.attach_call hn hdf fun w s0 s1 mg mb fa o pm cd doc a vs ns G Y ho hd hcd hmg hobj hints hlen hg => ?_
  obtain ⟨fd, hb, hF⟩ := F w mg fa _ (hY w _ Y) G.T.g hmg
  exact law_callG (hY w _ Y) G.T.g G.T.b G.T.builtins G.T.nolimit hg hobj hints (Nat.le_trans hlen hn2) hr hF hb (fun H hO hS => hsp _ H a ns hlen hO hS) fun H e s' z => z.elim

/-! ### s[::-1] -/
theorem back_idx (n : Nat) : Builtin.Str.strSliceIndices none none (-1) n = (List.range n).reverse := by
  unfold Builtin.Str.strSliceIndices
  simp only [show ¬ ((-1 : Int) > 0) by decide, if_false]
  rw [PySem.W.krv_sliceRange, PySem.W.krv_range]
def revS (z : Str) : Str := ⟨z.cps.toList.reverse.toArray⟩
def tRevS (te : TE) : TE := fun σ H Q => te σ H fun x H1 => ∃ z, x = .str z ∧ z.length ≤ sizeLine ∧ Q (.str (revS z)) H1
theorem pe_revS {X : Cx} {e : Expr} {te : TE} {k : Nat} {p1 p2 p3 pos : Pos} (he : PE X e te) : PE X (.Subscript e (.Slice none none (some (.UnaryOp .USub (.Constant (.int 1) k p1) p2)) p3) pos) (tRevS te) := by
  constructor
  intro pins s σ H Q I h
  refine Subscript_ (thn (he.run pins s σ H _ I h) ?_)
  rintro v s1 ⟨x, H1, I1, r1, z, rfl, hz, q⟩
  obtain ⟨t, rfl⟩ := r1
  have one : PO X (some (.UnaryOp .USub (.Constant (.int 1) k p1) p2)) (tPart (tUn (rU fun i => .int (-i)) (tC (.int 1)))) := po_some (pe_un un_neg pe_int)
  refine wpAny_Slice (thn (po_none.run pins s1 σ H1 (fun o G => o = none ∧ G = H1) I1 ⟨rfl, rfl⟩) ?_)
  rintro vl s2 ⟨_, _, I2, pl, rfl, rfl⟩
  refine thn (po_none.run pins s2 σ _ (fun o G => o = none ∧ G = _) I2 ⟨rfl, rfl⟩) ?_
  rintro vu s3 ⟨_, _, I3, pu, rfl, rfl⟩
  refine thn (one.run pins s3 σ _ (fun o G => o = some (-1) ∧ G = _) I3 ⟨1, rfl, -1, rfl, rfl, rfl⟩) ?_
  rintro vs s4 ⟨_, _, I4, ps, rfl, rfl⟩
  obtain ⟨l, rfl, el⟩ := IsPart.raw pl
  obtain ⟨u, rfl, eu⟩ := IsPart.raw pu
  obtain ⟨st, rfl, es⟩ := IsPart.raw ps
  obtain rfl : l = none := by cases l <;> first | rfl | cases el
  obtain rfl : u = none := by cases u <;> first | rfl | cases eu
  obtain ⟨tm, rfl⟩ : ∃ tm, st = some (-1, tm) := by
    cases st with
    | none => cases es
    | some q => exact ⟨q.2, by cases q; cases es; rfl⟩
  have I5 : Inv X pins σ _ { s4 with heap := s4.heap.push { cls := .type "slice", data := .fields #[partValue none, partValue none, partValue (some (-1, tm))] } } := I4.kept (t' := s4.toks) fun b ob q => Heap.get?_push_of_some _ q
  show wpAny (model X.prog X.w) X.A (subscriptTail e (.Slice none none (some (.UnaryOp .USub (.Constant (.int 1) k p1) p2)) p3) (.str z t) (.ref s4.heap.objs.size)) (EP X pins σ Q) X.xe { s4 with heap := s4.heap.push { cls := .type "slice", data := .fields #[partValue none, partValue none, partValue (some (-1, tm))] } }
  refine tail_any (ops := [.str z t, .ref s4.heap.objs.size]) (typeIs_str _ z t) PySem.F.slot_str_getitem.lookup ?_ (by with_unfolding_all rfl)
  refine wpAny_getItem_str_slice (l := none) (u := none) (st := some (-1, tm)) ⟨_, Heap.get?_push_size _ rfl, rfl, rfl⟩ rfl ?_
  have e2 : sliceMade z t none none (some (-1, tm)) = Made.str (revS z) := by
    unfold sliceMade slicePicked
    rw [if_neg (by simp)]
    show Made.str ⟨((Builtin.Str.strSliceIndices none none (-1) z.length).filterMap (z.cps[·]?)).toArray⟩ = _
    rw [back_idx, List.filterMap_reverse, show z.length = z.cps.size from rfl, PySem.W.krv_all]
    rfl
  rw [e2]
  refine ⟨?_, .str _, _, I5.tok _, ⟨_, rfl⟩, q⟩
  show (z.cps.toList.reverse.toArray).size ≤ _
  rw [List.size_toArray, List.length_reverse, Array.length_toList]
  exact hz

/-! ### for i, c in enumerate(s), s a text -/
def Ites (x : Str) : It :=
  ⟨fun i _ => i < x.cps.size, fun i H v H' => ∃ T c, v = .ref T ∧ H T = none ∧ H' = upd H T (.tup [.int (i : Nat), .str ⟨#[c]⟩]) ∧ x.cps[i]? = some c, fun i _ => x.cps.size ≤ i⟩
theorem turn_enumS {P : Program} {w : World} {K : PySem.W.Frag} {elts : List Expr} {kk : Nat} {tpos : Pos} (x : Str) (t : Tok) (e it : Addr) :
    Turn P w K (.Tuple elts kk tpos) (Ites x) [e, it] e (fun i h => (∃ old, IsEnum h e it ((i : Nat) : Int) old) ∧ h.IsStrIter it (strIterType x) x t i ∧ e ≠ it ∧ i ≤ x.cps.size) where
  mem := List.mem_cons_self
  obj := by
    rintro i h ⟨⟨old, he⟩, ⟨o, ho, hc, hd⟩, _⟩ b hb
    rcases List.mem_cons.mp hb with rfl | hb
    · exact ⟨_, he, fun v q => nomatch q⟩
    · obtain rfl := List.mem_singleton.mp hb
      exact ⟨o, ho, fun v q => by rw [hd] at q; cases q⟩
  keep := by
    rintro i h h' ⟨⟨old, he⟩, ⟨o, ho, r⟩, ne, le⟩ k
    exact ⟨⟨old, k e (by simp) _ he⟩, ⟨o, k it (by simp) o ho, r⟩, ne, le⟩
  item := by
    intro X hP hw hK hc i pins s σ H E I hf st go
    subst hP hw hK
    obtain ⟨⟨old, he⟩, hit, ne, le⟩ := st
    have lte : e < s.heap.objs.size := Heap.lt_size he
    have lti : it < s.heap.objs.size := by obtain ⟨_, q, _⟩ := hit; exact Heap.lt_size q
    refine wpAny_pyNext_enum_itemC (Draws.text (A := X.A.in1) (I.ok.hd hc) it x t) he hit go ne (by simpa using ne) fun v h' tk hv ho hit' hT hsz hk => ?_
    obtain ⟨c, tc, hcx, rfl⟩ := hv
    refine ⟨_, rfl, wpAny_letOwnedTupleGo_enum (s := { s with heap := h', toks := tk + 1 }) ho fun h2 he2 sb => ?_⟩
    have hT2 : h2.get? s.heap.objs.size = some { cls := .type "tuple", data := .seq #[.int i tk, .str ⟨#[c]⟩ tc] } := (sb.2 _ (Nat.ne_of_gt lte)).trans hT
    have new : ObjOk X.prog X.w (upd H s.heap.objs.size (.tup [.int (i : Nat), .str ⟨#[c]⟩])) h2 s.heap.objs.size (.tup [.int (i : Nat), .str ⟨#[c]⟩]) :=
      ⟨by show 2 ≤ sizeLine; decide, [.int i tk, .str ⟨#[c]⟩ tc], .cons ⟨_, rfl⟩ (.cons ⟨_, rfl⟩ .nil), ⟨_, hT2, rfl, _, rfl⟩⟩
    have I1 := I.turnedNew (t' := tk + 1) (ch := [e, it]) (fun b ob hb q => (sb.2 b (fun z => hb (by simp [z]))).trans (hk b ob (fun z => hb (by simp [z])) (fun z => hb (by simp [z])) q)) hf (Nat.le_refl _) new
    refine ⟨.ref s.heap.objs.size, _, I1, rfl, ⟨_, c, rfl, I.hok.fresh (Nat.le_refl _), rfl, hcx⟩, ⟨⟨_, by simpa using he2⟩, ?_, ne, go⟩, ?_⟩
    · obtain ⟨o, ho, r⟩ := hit'
      exact ⟨o, (sb.2 it (Ne.symm ne)).trans ho, r⟩
    · intro b hb
      have small : b < s.heap.objs.size := by
        rcases List.mem_cons.mp hb with rfl | q
        · exact lte
        · rw [List.mem_singleton.mp q]; exact lti
      rw [upd_ne (Nat.ne_of_lt small)]
      exact (hf b hb).1
  done := by
    intro X hP hw hK hc i pins s σ H E I hf st stop
    subst hP hw hK
    obtain ⟨⟨old, he⟩, hit, ne, le⟩ := st
    obtain ⟨f0, f1, f2, f3, f4, f5⟩ := hf it (by simp)
    obtain rfl : i = x.cps.size := Nat.le_antisymm le stop
    refine wpAny_pyNext_enum_endD (Draws.text (A := X.A.in1) (I.ok.hd hc) it x t) he hit fun h' eb => ⟨rfl, I.turned (t' := s.toks) (fun b o hb q => eb b o hb q) f0 f1 f3 f4 f5⟩
  self := by
    rintro A i s Q E ⟨⟨_, he⟩, _⟩ h
    exact wpAny_pyIter_enum he h
def iEnumS (ta : TA) : TI := fun σ H R => ta σ H fun vs H1 => ∃ x, vs = [.str x] ∧ R (Ites x) H1
theorem pi_enumS {X : Cx} {e : Expr} {ta : TA} {p pos tpos : Pos} {elts : List Expr} {kk : Nat} (hg : Gl X "enumerate") (hm : X.mg "enumerate" = none) (ha : PA X [e] ta) (hs : starEach [e] X.env = [(false, eval e X.env)] := by rfl) :
    PI X (.Tuple elts kk tpos) (.Call (.Name "enumerate" p) [e] [] pos) (iEnumS ta) := by
  constructor
  intro pins s σ H R I h
  refine Call_ (ld_blt I hg hm boot_enumerate (PyProof.Rows.callWith_type1 (thn (ha.run pos pins s σ H _ I h) ?_) hs rfl))
  rintro us s1 ⟨vs, H1, I1, r1, x, rfl, q⟩
  obtain ⟨u, rfl, ru⟩ := vals1 r1
  obtain ⟨t, rfl⟩ := ru
  refine call_enumerate_str fun h' he hit hsz hk => wpAny_pyIter_enum he ?_
  refine ⟨s1.heap.objs.size + 1, [s1.heap.objs.size + 1, s1.heap.objs.size], _, _, H1, rfl, I1.kept (t' := s1.toks) hk, turn_enumS x t (s1.heap.objs.size + 1) s1.heap.objs.size, ⟨⟨.none, he⟩, hit, Nat.succ_ne_self _, Nat.zero_le _⟩, ?_, q⟩
  intro b hb
  have big : s1.heap.objs.size ≤ b := by
    rcases List.mem_cons.mp hb with rfl | z
    · exact Nat.le_add_right _ _
    · rw [List.mem_singleton.mp z]; exact Nat.le_refl _
  exact I1.fpOk big (I1.hok.fresh big)
/-- the loop over such: the invariant by the turn -/
theorem for_enumS {x : Str} {g : TG} {tb : TS} {D : Ends} {σ : St} {H : Hp} (Pv : Nat → St → Hp → Prop) (h0 : Pv 0 σ H)
    (hs : ∀ i c T σ H, x.cps[i]? = some c → H T = none → Pv i σ H → g (.ref T) σ (upd H T (.tup [.int (i : Nat), .str ⟨#[c]⟩])) fun σ2 H2 => tb { D with nx := Pv (i + 1), ct := Pv (i + 1), bk := D.nx } σ2 H2)
    (hd : ∀ σ H, Pv x.cps.size σ H → D.nx σ H) :
    ∃ W : Nat → Nat → St → Hp → Prop, (∃ m, W 0 m σ H) ∧ ∀ i m σ H, W i m σ H →
      ((Ites x).stop i H ∧ D.nx σ H) ∨ ((Ites x).go i H ∧ ∃ N : St → Hp → Prop, (∀ σ' H', N σ' H' → ∃ m', m' < m ∧ W (i + 1) m' σ' H') ∧ ∀ v H', (Ites x).yld i H v H' → g v σ H' fun σ2 H2 => tb { D with nx := N, ct := N, bk := D.nx } σ2 H2) := by
  refine ⟨fun i m σ H => m = x.cps.size - i ∧ i ≤ x.cps.size ∧ Pv i σ H, ⟨_, rfl, Nat.zero_le _, h0⟩, ?_⟩
  rintro i _ σ H ⟨rfl, le, p⟩
  rcases Nat.lt_or_ge i x.cps.size with lt | ge
  · right
    refine ⟨lt, Pv (i + 1), fun σ' H' q => ⟨_, by omega, rfl, lt, q⟩, ?_⟩
    rintro v H' ⟨T, c, rfl, free, rfl, hc⟩
    exact hs i c T σ H hc free p
  · obtain rfl : i = x.cps.size := Nat.le_antisymm le ge
    exact .inl ⟨Nat.le_refl _, hd _ _ p⟩
end M
end

section
set_option Elab.async false
set_option linter.all false
set_option maxRecDepth 100000
/-! the words of my specs: what stands, pools, questions as data -/
namespace M
open PySem L2 Evl
open PyProof.Rows hiding St

/-! ### data over a part of the heap -/
mutual
theorem dp_mono {K : PySem.W.Frag} {H H' : Hp} (x : Ex H H') : ∀ (d : PyData) (v : V), Dp K H v d → Dp K H' v d
  | .none, _, h => by cases h; exact .non
  | .bool b, _, h => by cases h; exact .bl b
  | .int i, _, h => by cases h; exact .int i
  | .str z, _, h => by cases h; exact .str z
  | .list ds, _, h => by
    cases h with
    | lst hs ha => exact .lst (ex_l x hs) (dpa_mono x ds _ ha)
  | .tuple ds, _, h => by
    cases h with
    | tup hs ha => exact .tup (ex_t x hs) (dpa_mono x ds _ ha)
  | .dict _, _, h => by cases h
theorem dpa_mono {K : PySem.W.Frag} {H H' : Hp} (x : Ex H H') : ∀ (ds : List PyData) (vs : List V), DpAll K H vs ds → DpAll K H' vs ds
  | [], _, h => by cases h; exact .nil
  | d :: ds, _, h => by
    cases h with
    | cons h1 h2 => exact .cons (dp_mono x d _ h1) (dpa_mono x ds _ h2)
end
theorem _root_.L2.Dp.up {K : PySem.W.Frag} {H H' : Hp} {v : V} {d : PyData} (h : Dp K H v d) (x : Ex H H') : Dp K H' v d := dp_mono x d v h

/-! ### the pool of draws: three ints at p, apart from what H0 knows; m bounds how many were mixed -/
structure Pl (H0 H : Hp) (p : Addr) (m : Nat) : Prop where
  ex : Ex H0 H
  out : H0 p = none
  at_ : ∃ a b c : Int, H p = some (.lst [.int a, .int b, .int c]) ∧ 0 ≤ a ∧ 0 ≤ b ∧ b < 2 ^ 62 ∧ 0 ≤ c ∧ c ≤ m
theorem Pl.mono {H0 H : Hp} {p : Addr} {m n : Nat} (h : Pl H0 H p m) (le : m ≤ n) : Pl H0 H p n := by
  obtain ⟨a, b, c, h1, h2, h3, h4, h5, h6⟩ := h.at_
  exact ⟨h.ex, h.out, a, b, c, h1, h2, h3, h4, h5, by omega⟩
/-- a new object that the data may know -/
theorem Pl.new {H0 H : Hp} {p q : Addr} {m : Nat} {o : HO} (h : Pl H0 H p m) (hq : H q = none) : Pl (upd H0 q o) (upd H q o) p m ∧ Ex H0 (upd H0 q o) ∧ (upd H0 q o) q = some o := by
  have q0 : H0 q = none := fresh_back h.ex hq
  obtain ⟨a, b, c, h1, r⟩ := h.at_
  have np : p ≠ q := ne_of_none h1 hq
  refine ⟨⟨fun b' u e => ?_, by rw [upd_ne np]; exact h.out, a, b, c, by rw [upd_ne np]; exact h1, r⟩, Ex.new q0, upd_same⟩
  by_cases e' : b' = q
  · subst e'
    rw [upd_same] at e ⊢
    exact e
  · rw [upd_ne e'] at e ⊢
    exact h.ex _ _ e
/-- a new object that stays ours -/
theorem Pl.mine {H0 H : Hp} {p q : Addr} {m : Nat} {o : HO} (h : Pl H0 H p m) (hq : H q = none) : Pl H0 (upd H q o) p m := by
  obtain ⟨a, b, c, h1, r⟩ := h.at_
  have np : p ≠ q := ne_of_none h1 hq
  exact ⟨h.ex.trans (Ex.new hq), h.out, a, b, c, by rw [upd_ne np]; exact h1, r⟩
theorem Pl.keep {H0 H H' : Hp} {p : Addr} {m : Nat} (h : Pl H0 H p m) (x : Ex H H') : Pl H0 H' p m := by
  obtain ⟨a, b, c, h1, r⟩ := h.at_
  exact ⟨h.ex.trans x, h.out, a, b, c, x _ _ h1, r⟩
/-- an object apart from the data and the pool changes -/
theorem Pl.touch {H0 H : Hp} {p q : Addr} {m : Nat} {o : HO} (h : Pl H0 H p m) (hq : H0 q = none) (np : q ≠ p) : Pl H0 (upd H q o) p m := by
  obtain ⟨a, b, c, h1, r⟩ := h.at_
  exact ⟨h.ex.mut hq, h.out, a, b, c, by rw [upd_ne (Ne.symm np)]; exact h1, r⟩

def sp_draw : Sp := fun vs H Q _ => ∃ (H0 : Hp) (p : Addr) (m : Nat) (n : Int), vs = [.ref p, .int n] ∧ Pl H0 H p m ∧ m ≤ 2 ^ 30 ∧ 0 < n ∧ n.natAbs < 2 ^ 200 ∧
  ∀ (k : Int) (H' : Hp), 0 ≤ k → k < n → Pl H0 H' p (m + 1) → (∀ b, b ≠ p → H' b = H b) → Q (.int k) H'
def sp_pool (K : PySem.W.Frag) : Sp := fun vs H Q _ => ∃ (a : Addr) (ns : List Int) (i : Int), vs = [.ref a, .int i] ∧ SqL K H a (ns.map V.int) ∧ 0 ≤ i ∧ i ≤ 100 ∧
  ∀ (p : Addr) (H' : Hp), Pl H H' p 0 → Q (.ref p) H'

/-! ### letters, questions -/
def Abc (z : Str) : Prop := ∀ c ∈ z.cps.toList, 97 ≤ c ∧ c ≤ 122
inductive Qn where
  | any
  | no (q : Qn)
  | both (a b : Qn)
  | some (a : Qn) (c : Nat) (b : Qn)
namespace Qn
def d : Qn → PyData
  | any => .tuple [.str "any"]
  | no q => .tuple [.str "not", q.d]
  | both a b => .tuple [.str "both", a.d, b.d]
  | some a c b => .tuple [.str "some", a.d, .str ⟨#[c]⟩, b.d]
/-- how far it nests -/
def hi : Qn → Nat
  | any => 1
  | no q => q.hi + 1
  | both a b => max a.hi b.hi + 1
  | some a _ b => max a.hi b.hi + 1
/-- its parts -/
def parts : Qn → Nat
  | any => 1
  | no q => q.parts + 1
  | both a b => a.parts + b.parts + 1
  | some a _ b => a.parts + b.parts + 1
def deep : Qn → Nat
  | any => 0
  | no q => q.deep
  | both a b => max a.deep b.deep
  | some a _ b => max a.deep b.deep + 1
/-- its letters lie in names, and from a to z -/
def In (z : Str) : Qn → Prop
  | any => True
  | no q => q.In z
  | both a b => a.In z ∧ b.In z
  | some a c b => a.In z ∧ c ∈ z.cps.toList ∧ b.In z
def Ok : Qn → Prop
  | any => True
  | no q => q.Ok
  | both a b => a.Ok ∧ b.Ok
  | some a c b => a.Ok ∧ (97 ≤ c ∧ c ≤ 122) ∧ b.Ok
theorem In.ok {z : Str} (h : Abc z) : ∀ {q : Qn}, q.In z → q.Ok
  | any, _ => trivial
  | no q, i => In.ok (q := q) h i
  | both _ _, i => ⟨In.ok h i.1, In.ok h i.2⟩
  | some _ _ _, i => ⟨In.ok h i.1, h _ i.2.1, In.ok h i.2.2⟩
theorem hi_le : ∀ q : Qn, q.hi ≤ q.parts
  | any => by simp [hi, parts]
  | no q => by have := hi_le q; simp [hi, parts]; omega
  | both a b => by have := hi_le a; have := hi_le b; simp [hi, parts]; omega
  | some a _ b => by have := hi_le a; have := hi_le b; simp [hi, parts]; omega
theorem parts_pos : ∀ q : Qn, 1 ≤ q.parts
  | any => by simp [parts]
  | no q => by simp [parts]
  | both a b => by simp [parts]
  | some a _ b => by simp [parts]
end Qn
section
variable {K : PySem.W.Frag} {H : Hp} {v : V}
/-- a tuple's data -/
theorem dp_tup {ds : List PyData} (h : Dp K H v (.tuple ds)) : ∃ a xs, v = .ref a ∧ SqT K H a xs ∧ DpAll K H xs ds := by
  cases h with
  | tup h1 h2 => exact ⟨_, _, rfl, h1, h2⟩
theorem dpa_len : ∀ {xs : List V} {ds : List PyData}, DpAll K H xs ds → xs.length = ds.length
  | _, _, .nil => rfl
  | _, _, .cons _ t => by rw [List.length_cons, List.length_cons, dpa_len t]
theorem dp_str {z : Str} (h : Dp K H v (.str z)) : v = .str z := by cases h; rfl
theorem dp_q {q : Qn} (h : Dp K H v q.d) : ∃ a xs, v = .ref a ∧ SqT K H a xs ∧
    match q with
    | .any => xs = [.str "any"]
    | .no r => ∃ x, xs = [.str "not", x] ∧ Dp K H x r.d
    | .both r t => ∃ x y, xs = [.str "both", x, y] ∧ Dp K H x r.d ∧ Dp K H y t.d
    | .some r c t => ∃ x y, xs = [.str "some", x, .str ⟨#[c]⟩, y] ∧ Dp K H x r.d ∧ Dp K H y t.d := by
  cases q with
  | any =>
    obtain ⟨a, xs, e, hs, ha⟩ := dp_tup h
    refine ⟨a, xs, e, hs, ?_⟩
    cases ha with
    | cons h1 t => cases t; rw [dp_str h1]
  | no r =>
    obtain ⟨a, xs, e, hs, ha⟩ := dp_tup h
    refine ⟨a, xs, e, hs, ?_⟩
    cases ha with
    | cons h1 t => cases t with
      | cons h2 t => cases t; rw [dp_str h1]; exact ⟨_, rfl, h2⟩
  | both r u =>
    obtain ⟨a, xs, e, hs, ha⟩ := dp_tup h
    refine ⟨a, xs, e, hs, ?_⟩
    cases ha with
    | cons h1 t => cases t with
      | cons h2 t => cases t with
        | cons h3 t => cases t; rw [dp_str h1]; exact ⟨_, _, rfl, h2, h3⟩
  | some r c u =>
    obtain ⟨a, xs, e, hs, ha⟩ := dp_tup h
    refine ⟨a, xs, e, hs, ?_⟩
    cases ha with
    | cons h1 t => cases t with
      | cons h2 t => cases t with
        | cons h3 t => cases t with
          | cons h4 t => cases t; rw [dp_str h1, dp_str h3]; exact ⟨_, _, rfl, h2, h4⟩
theorem q_any {a : Addr} (h : H a = Option.some (.tup [.str "any"])) : Dp K H (.ref a) Qn.any.d := .tup (st_of h) (.cons (.str _) .nil)
theorem q_no {a : Addr} {x : V} {r : Qn} (h : H a = Option.some (.tup [.str "not", x])) (hx : Dp K H x r.d) : Dp K H (.ref a) (Qn.no r).d := .tup (st_of h) (.cons (.str _) (.cons hx .nil))
theorem q_both {a : Addr} {x y : V} {r t : Qn} (h : H a = Option.some (.tup [.str "both", x, y])) (hx : Dp K H x r.d) (hy : Dp K H y t.d) : Dp K H (.ref a) (Qn.both r t).d := .tup (st_of h) (.cons (.str _) (.cons hx (.cons hy .nil)))
theorem q_some {a : Addr} {x y : V} {r t : Qn} {c : Nat} (h : H a = Option.some (.tup [.str "some", x, .str ⟨#[c]⟩, y])) (hx : Dp K H x r.d) (hy : Dp K H y t.d) : Dp K H (.ref a) (Qn.some r c t).d := .tup (st_of h) (.cons (.str _) (.cons hx (.cons (.str _) (.cons hy .nil))))
end

/-! ### tests whose answer is not known yet -/
theorem iteD {c A B : Prop} [Decidable c] (h1 : c → A) (h2 : ¬ c → B) : if decide c = true then A else B := by
  by_cases h : c
  · rw [if_pos (decide_eq_true h)]; exact h1 h
  · rw [if_neg (by simp [h])]; exact h2 h
theorem iteND {c A B : Prop} [Decidable c] (h1 : ¬ c → A) (h2 : c → B) : if (!decide c) = true then A else B := by
  by_cases h : c
  · rw [if_neg (by simp [h])]; exact h2 h
  · rw [if_pos (by simp [h])]; exact h1 h
theorem iteI {i j : Int} {A B : Prop} (h1 : i = j → A) (h2 : i ≠ j → B) : if decide (V.int i = V.int j) = true then A else B :=
  iteD (fun h => h1 (by injection h)) (fun h => h2 fun e => h (by rw [e]))
theorem iteNI {i j : Int} {A B : Prop} (h1 : i ≠ j → A) (h2 : i = j → B) : if (!decide (V.int i = V.int j)) = true then A else B :=
  iteND (fun h => h1 fun e => h (by rw [e])) (fun h => h2 (by injection h))
theorem iteS {i j : Str} {A B : Prop} (h1 : i = j → A) (h2 : i ≠ j → B) : if decide (V.str i = V.str j) = true then A else B :=
  iteD (fun h => h1 (by injection h)) (fun h => h2 fun e => h (by rw [e]))
theorem iteNS {i j : Str} {A B : Prop} (h1 : i ≠ j → A) (h2 : i = j → B) : if (!decide (V.str i = V.str j)) = true then A else B :=
  iteND (fun h => h1 fun e => h (by rw [e])) (fun h => h2 (by injection h))
theorem iteB {b : Bool} {A B : Prop} (h1 : b = true → A) (h2 : b = false → B) : if b = true then A else B := by
  cases b
  · exact h2 rfl
  · exact h1 rfl
/-- a promise that nobody can ask -/
theorem fn_void {P : Program} {w : World} {K : PySem.W.Frag} {mg : Str → Option Value} {base : Heap} {CX : CXT} {k : Nat} {f : Addr} {fd : FuncData} {ps : List Str} {sp : Sp} (h : ∀ vs H Q E, sp vs H Q E → False) : FnOk P w K mg base CX k f fd ps sp :=
  ⟨fun vs H Q E z => (h vs H Q E z).elim, fun _ _ _ _ _ _ vs Q E _ _ _ _ z => (h vs _ Q E z).elim⟩

/-! ### drawn questions -/
def Names (z : Str) : Prop := Abc z ∧ 1 ≤ z.length ∧ z.length ≤ 100
theorem Names.size {z : Str} (h : Names z) : z.length ≤ sizeLine := Nat.le_trans h.2.2 (by decide)
theorem Names.get {z : Str} (h : Names z) {k : Int} (h0 : 0 ≤ k) (h1 : k < z.length) : ∃ c, atI z.cps.toList k = some c ∧ c ∈ z.cps.toList := by
  obtain ⟨j, rfl⟩ : ∃ j : Nat, k = j := ⟨k.toNat, by omega⟩
  have lt : j < z.cps.toList.length := by
    rw [Array.length_toList]
    have : ((j : Nat) : Int) < z.cps.size := h1
    omega
  exact ⟨z.cps.toList[j], atI_nat (by simp [lt]), List.getElem_mem lt⟩
def sp_query (K : PySem.W.Frag) (n : Nat) : Sp := fun vs H Q _ => ∃ (H0 : Hp) (p : Addr) (m : Nat) (z : Str) (dp wd : Int), vs = [.ref p, .str z, .int dp, .int wd] ∧ Pl H0 H p m ∧ m + 2 * wd.toNat ≤ 2 ^ 20 ∧ 1 ≤ wd ∧ wd < n ∧ Names z ∧
  ∀ (q : Qn) (v : V) (H1 H' : Hp), Ex H0 H1 → Pl H1 H' p (m + 2 * wd.toNat) → Dp K H1 v q.d → q.In z → q.deep ≤ dp.toNat → (q.parts : Int) ≤ wd → Q v H'
def sp_steep (K : PySem.W.Frag) (n : Nat) : Sp := fun vs H Q _ => ∃ (H0 : Hp) (p : Addr) (m : Nat) (z : Str) (dp : Int), vs = [.ref p, .str z, .int dp] ∧ Pl H0 H p m ∧ m + 16 * dp.toNat ≤ 2 ^ 20 ∧ dp < n ∧ Names z ∧
  ∀ (q : Qn) (v : V) (H1 H' : Hp), Ex H0 H1 → Pl H1 H' p (m + 16 * dp.toNat) → Dp K H1 v q.d → q.In z → q.deep ≤ dp.toNat → q.parts ≤ 8 * dp.toNat + 1 → Q v H'
def sp_any_query (K : PySem.W.Frag) : Sp := fun vs H Q _ => ∃ (H0 : Hp) (p : Addr) (m : Nat) (z : Str) (dp wd : Int), vs = [.ref p, .str z, .int dp, .int wd] ∧ Pl H0 H p m ∧ m + 500 ≤ 2 ^ 20 ∧ 0 ≤ dp ∧ dp ≤ 6 ∧ 1 ≤ wd ∧ wd ≤ 60 ∧ Names z ∧
  ∀ (q : Qn) (v : V) (H1 H' : Hp), Ex H0 H1 → Pl H1 H' p (m + 500) → Dp K H1 v q.d → q.In z → q.deep ≤ dp.toNat → (q.parts : Int) ≤ max (8 * dp + 1) wd → Q v H'
end M
end

section
set_option Elab.async false
set_option linter.all false
set_option maxRecDepth 100000
/-! more rules: isinstance of data, a written dict's get, questions checked -/
namespace M
open PySem L2 Evl
open PyProof.Rows hiding St

/-! ### isinstance(x, T), T built in -/
theorem tyx_tup {K : PySem.W.Frag} {H : Hp} {a : Addr} {xs : List V} (h : SqT K H a xs) : TyX K H (.ref a) (.type "tuple") := by
  rcases h with (h | ⟨o, h⟩) | ⟨o, its, n, hk, hc, _⟩
  · exact .base (.tup h)
  · exact .fTuple h
  · exact .kTuple hk hc
theorem tyx_lst {K : PySem.W.Frag} {H : Hp} {a : Addr} {xs : List V} (h : SqL K H a xs) : TyX K H (.ref a) (.type "list") := by
  rcases h with (h | ⟨o, h⟩) | ⟨o, its, n, hk, hc, _⟩
  · exact .base (.lst h)
  · exact .base (.frz h)
  · exact .kList hk hc
def rIsT (K : PySem.W.Frag) : List V → Hp → VK → Prop := fun xs H Q => ∃ (x : V) (n t : String) (b : Bool), xs = [x, .ty n] ∧ TyX K H x (.type t) ∧ kitB t n = some b ∧ Q (.bl b) H
theorem call_isT {X : Cx} : CallR X (.builtin "isinstance") (rIsT X.K) := by
  intro pins s σ H xs us Q I r h
  obtain ⟨x, n, t, b, rfl, ty, k, q⟩ := h
  exact call_isi pins s σ H _ us Q I r ⟨x, .ty n, .type t, .type n, b, rfl, .ty n, ty, kit_ty k, q⟩
theorem k_tt : kitB "tuple" "tuple" = some true := by decide +kernel
theorem k_ss : kitB "str" "str" = some true := by decide +kernel
theorem k_ll : kitB "list" "list" = some true := by decide +kernel
theorem k_st : kitB "str" "tuple" = some false := by decide +kernel
theorem k_lt : kitB "list" "tuple" = some false := by decide +kernel
theorem k_it : kitB "int" "tuple" = some false := by decide +kernel
theorem k_bt : kitB "bool" "tuple" = some false := by decide +kernel
theorem k_nt : kitB "NoneType" "tuple" = some false := by decide +kernel
theorem k_dt : kitB "dict" "tuple" = some false := by decide +kernel
theorem k_ts : kitB "tuple" "str" = some false := by decide +kernel
theorem k_ls : kitB "list" "str" = some false := by decide +kernel
theorem k_is : kitB "int" "str" = some false := by decide +kernel
theorem k_bs : kitB "bool" "str" = some false := by decide +kernel
theorem k_ns : kitB "NoneType" "str" = some false := by decide +kernel
theorem k_ds : kitB "dict" "str" = some false := by decide +kernel
theorem k_tl : kitB "tuple" "list" = some false := by decide +kernel

/-! ### D.get(word, n), D a written dict of ints by texts -/
/-- what D holds at z: an int, or nothing -/
def KInts (K : PySem.W.Frag) (w : World) (d : Addr) (f : Str → Option Int) : Prop :=
  ∃ es n, KDict K w d es n ∧ ∀ z, (∃ i t, f z = some i ∧ PySem.W.nsIn K d z = some (some (.int i t))) ∨ (f z = none ∧ PySem.W.nsIn K d z = some none)
def tKGet (K : PySem.W.Frag) (w : World) (td ty tx : TE) : TE := fun σ H Q => td σ H fun x H1 => ∃ d f, x = .ref d ∧ KInts K w d f ∧ ty σ H1 fun y H2 => ∃ z, y = .str z ∧ tx σ H2 fun u H3 => ∃ j, u = .int j ∧ Q (.int ((f z).getD j)) H3
theorem pe_kget {X : Cx} {o e f : Expr} {apos cpos : Pos} {td ty tx : TE} (ho : PE X o td) (he : PE X e ty) (hf : PE X f tx) (m : M2 X o "get" apos e f cpos) : PE X (.Call (.Attribute o "get" apos) [e, f] [] cpos) (tKGet X.K X.w td ty tx) := by
  constructor
  intro pins s σ H Q I h
  refine wpAny_Call_method m.base m.few m.line PySem.F.plainAttrs_dict PySem.F.slot_dict_get PySem.F.type_dict_get (thn (ho.run pins s σ H _ I h) ?_)
  rintro u s1 ⟨x, H1, I1, rx, d, g, rfl, ⟨es, n, D, hg⟩, q1⟩
  cases (show u = Value.ref d from rx)
  have hm0 := PySem.W.mapOf_K (prog := X.prog) I1.kIn D.at_ D.lit
  refine ⟨hm0.typeIs, fun a ea => ?_, ?_⟩
  · cases ea
    exact ⟨_, I1.kIn _ _ D.at_, rfl⟩
  rw [m.trees]
  refine Calls.callWith_builtin rfl (Calls.evalArgs_plain (Calls.spliced_cons (thn (he.run pins s1 σ H1 _ I1 q1) ?_)))
  rintro v s2 ⟨y, H2, I2, ry, z, rfl, q2⟩
  obtain ⟨t, rfl⟩ := ry
  refine Calls.spliced_cons (thn (hf.run pins s2 σ H2 _ I2 q2) ?_)
  rintro v2 s3 ⟨y2, H3, I3, r3, j, rfl, q3⟩
  obtain ⟨t3, rfl⟩ := r3
  have hm := PySem.W.mapOf_K (prog := X.prog) I3.kIn D.at_ D.lit
  refine Calls.spliced_nil (call_meetsIn PySem.F.slot_dict_get hm.typeIs PySem.F.entry_dict_get (PySem.F.args_dict_get_3 _ _ _) (meets_dict_get_default (strKind X.prog X.w) d (PySem.strKind_is X.prog X.w z t) D.low (.int j t3)) ⟨_, hm, ?_⟩)
  rcases hg z with ⟨i, ti, e1, e2⟩ | ⟨e1, e2⟩
  · rw [e1] at q3
    rw [PySem.W.find_K D.at_ e2]
    exact ⟨.int i, H3, I3.tok _, ⟨ti, rfl⟩, q3⟩
  · rw [e1] at q3
    rw [PySem.W.find_K D.at_ e2]
    exact ⟨.int j, H3, I3.tok _, ⟨t3, rfl⟩, q3⟩

/-! ### values of any kind that a law makes: data, and empty dicts -/
mutual
inductive Da (K : PySem.W.Frag) (H : Hp) : V → PyData → Prop
  | non : Da K H .non .none
  | bl (b : Bool) : Da K H (.bl b) (.bool b)
  | int (i : Int) : Da K H (.int i) (.int i)
  | str (x : Str) : Da K H (.str x) (.str x)
  | dct {a : Addr} : H a = some (.dK []) → Da K H (.ref a) (.dict [])
  | lst {a : Addr} {xs : List V} {ds : List PyData} : SqL K H a xs → Das K H xs ds → Da K H (.ref a) (.list ds)
  | tup {a : Addr} {xs : List V} {ds : List PyData} : SqT K H a xs → Das K H xs ds → Da K H (.ref a) (.tuple ds)
inductive Das (K : PySem.W.Frag) (H : Hp) : List V → List PyData → Prop
  | nil : Das K H [] []
  | cons {v : V} {vs : List V} {d : PyData} {ds : List PyData} : Da K H v d → Das K H vs ds → Das K H (v :: vs) (d :: ds)
end
section
variable {K : PySem.W.Frag} {H H' : Hp}
mutual
theorem da_of : ∀ (d : PyData) (v : V), Dp K H v d → Da K H v d
  | .none, _, h => by cases h; exact .non
  | .bool b, _, h => by cases h; exact .bl b
  | .int i, _, h => by cases h; exact .int i
  | .str z, _, h => by cases h; exact .str z
  | .list ds, _, h => by cases h with | lst a b => exact .lst a (das_of ds _ b)
  | .tuple ds, _, h => by cases h with | tup a b => exact .tup a (das_of ds _ b)
  | .dict _, _, h => by cases h
theorem das_of : ∀ (ds : List PyData) (vs : List V), DpAll K H vs ds → Das K H vs ds
  | [], _, h => by cases h; exact .nil
  | d :: ds, _, h => by cases h with | cons a b => exact .cons (da_of d _ a) (das_of ds _ b)
end
mutual
theorem da_mono (x : Ex H H') : ∀ (d : PyData) (v : V), Da K H v d → Da K H' v d
  | .none, _, h => by cases h; exact .non
  | .bool b, _, h => by cases h; exact .bl b
  | .int i, _, h => by cases h; exact .int i
  | .str z, _, h => by cases h; exact .str z
  | .list ds, _, h => by cases h with | lst a b => exact .lst (ex_l x a) (das_mono x ds _ b)
  | .tuple ds, _, h => by cases h with | tup a b => exact .tup (ex_t x a) (das_mono x ds _ b)
  | .dict _, _, h => by cases h with | dct a => exact .dct (x _ _ a)
theorem das_mono (x : Ex H H') : ∀ (ds : List PyData) (vs : List V), Das K H vs ds → Das K H' vs ds
  | [], _, h => by cases h; exact .nil
  | d :: ds, _, h => by cases h with | cons a b => exact .cons (da_mono x d _ a) (das_mono x ds _ b)
end
theorem Da.up {v : V} {d : PyData} (h : Da K H v d) (x : Ex H H') : Da K H' v d := da_mono x d v h
theorem Das.up {v : List V} {d : List PyData} (h : Das K H v d) (x : Ex H H') : Das K H' v d := das_mono x d v h
theorem Das.len : ∀ {xs : List V} {ds : List PyData}, Das K H xs ds → xs.length = ds.length
  | _, _, .nil => rfl
  | _, _, .cons _ t => by rw [List.length_cons, List.length_cons, Das.len t]
theorem Das.app : ∀ {xs ys : List V} {ds es : List PyData}, Das K H xs ds → Das K H ys es → Das K H (xs ++ ys) (ds ++ es)
  | _, _, _, _, .nil, h => h
  | _, _, _, _, .cons a t, h => .cons a (Das.app t h)
/-- the last one -/
theorem Das.last : ∀ {xs : List V} {ds : List PyData}, Das K H xs ds → ds ≠ [] → ∃ x d, xs[xs.length - 1]? = some x ∧ Da K H x d ∧ Das K H xs.dropLast ds.dropLast ∧ ds = ds.dropLast ++ [d]
  | _, _, .nil, h => absurd rfl h
  | _, _, .cons a .nil, _ => ⟨_, _, rfl, a, .nil, rfl⟩
  | _, _, .cons a (.cons b t), _ => by
    obtain ⟨x, d, e1, e2, e3, e4⟩ := Das.last (.cons b t) (by simp)
    refine ⟨x, d, ?_, e2, .cons a e3, ?_⟩
    · simpa using e1
    · rw [List.dropLast_cons₂]
      show _ = _ :: (_ ++ [d])
      rw [← e4]
/-- the name of its type -/
def tyN : PyData → String
  | .none => "NoneType" | .bool _ => "bool" | .int _ => "int" | .str _ => "str" | .list _ => "list" | .tuple _ => "tuple" | .dict _ => "dict"
theorem Da.ty {v : V} {d : PyData} (h : Da K H v d) : TyX K H v (.type (tyN d)) := by
  cases h with
  | non => exact .base .non
  | bl b => exact .base (.bl b)
  | int i => exact .base (.int i)
  | str x => exact .base (.str x)
  | dct a => exact .base (.dK a)
  | lst a _ => exact tyx_lst a
  | tup a _ => exact tyx_tup a
def tupB : PyData → Bool
  | .tuple _ => true
  | _ => false
def strB : PyData → Bool
  | .str _ => true
  | _ => false
theorem isTup (d : PyData) : kitB (tyN d) "tuple" = some (tupB d) := by
  cases d with
  | tuple ds => exact k_tt
  | none => exact k_nt
  | bool b => exact k_bt
  | int b => exact k_it
  | str b => exact k_st
  | list b => exact k_lt
  | dict b => exact k_dt
theorem isStr (d : PyData) : kitB (tyN d) "str" = some (strB d) := by
  cases d with
  | str z => exact k_ss
  | none => exact k_ns
  | bool b => exact k_bs
  | int b => exact k_is
  | tuple b => exact k_ts
  | list b => exact k_ls
  | dict b => exact k_ds
end

/-! ### which data are questions -/
def IsQ (d : PyData) : Prop := ∃ q : Qn, q.Ok ∧ q.d = d
def OneLetter (z : Str) : Prop := ∃ c, z = ⟨#[c]⟩ ∧ 97 ≤ c ∧ c ≤ 122
def HasForm : PyData → Prop
  | .tuple [.str w] => w = "any"
  | .tuple [.str w, _] => w = "not"
  | .tuple [.str w, _, _] => w = "both"
  | .tuple [.str w, _, .str z, _] => w = "some" ∧ OneLetter z
  | _ => False
def inner : PyData → List PyData
  | .tuple [_, a] => [a]
  | .tuple [_, a, b] => [a, b]
  | .tuple [_, a, _, b] => [a, b]
  | _ => []
theorem isQ_form {d : PyData} : IsQ d ↔ HasForm d ∧ ∀ x ∈ inner d, IsQ x := by
  constructor
  · rintro ⟨q, ok, rfl⟩
    cases q with
    | any => exact ⟨rfl, by simp [Qn.d, inner]⟩
    | no a => exact ⟨rfl, by simp only [Qn.d, inner, List.mem_singleton, forall_eq]; exact ⟨a, ok, rfl⟩⟩
    | both a b =>
      refine ⟨rfl, fun x hx => ?_⟩
      simp only [Qn.d, inner, List.mem_cons, List.not_mem_nil, or_false] at hx
      rcases hx with rfl | rfl
      · exact ⟨a, ok.1, rfl⟩
      · exact ⟨b, ok.2, rfl⟩
    | some a c b =>
      refine ⟨⟨rfl, c, rfl, ok.2.1⟩, fun x hx => ?_⟩
      simp only [Qn.d, inner, List.mem_cons, List.not_mem_nil, or_false] at hx
      rcases hx with rfl | rfl
      · exact ⟨a, ok.1, rfl⟩
      · exact ⟨b, ok.2.2, rfl⟩
  · rintro ⟨hf, hi⟩
    unfold HasForm at hf
    split at hf
    · subst hf; exact ⟨.any, trivial, rfl⟩
    · subst hf
      obtain ⟨a, ha, ea⟩ := hi _ (by simp only [inner]; exact List.mem_cons_self)
      exact ⟨.no a, ha, by rw [← ea]; rfl⟩
    · subst hf
      obtain ⟨a, ha, ea⟩ := hi _ (by simp only [inner]; exact List.mem_cons_self)
      obtain ⟨b, hb, eb⟩ := hi _ (by simp only [inner]; exact List.mem_cons_of_mem _ List.mem_cons_self)
      exact ⟨.both a b, ⟨ha, hb⟩, by rw [← ea, ← eb]; rfl⟩
    · obtain ⟨rfl, c, rfl, hc⟩ := hf
      obtain ⟨a, ha, ea⟩ := hi _ (by simp only [inner]; exact List.mem_cons_self)
      obtain ⟨b, hb, eb⟩ := hi _ (by simp only [inner]; exact List.mem_cons_of_mem _ List.mem_cons_self)
      exact ⟨.some a c b, ⟨ha, hc, hb⟩, by rw [← ea, ← eb]; rfl⟩
    · exact hf.elim
/-- how big -/
noncomputable def sizes (ds : List PyData) : Nat := (ds.map sizeOf).sum
theorem inner_lt (d : PyData) : sizes (inner d) < sizeOf d := by
  unfold inner
  split <;> simp [sizes] <;> first | omega | (cases d <;> simp <;> omega)
theorem form_tup {d : PyData} (h : HasForm d) : ∃ z ds, d = .tuple (.str z :: ds) := by
  unfold HasForm at h
  split at h <;> first | exact ⟨_, _, rfl⟩ | exact h.elim

/-! ### texts within are short -/
mutual
def sm : PyData → Bool
  | .str z => decide (z.length ≤ 1000)
  | .list ds => sms ds
  | .tuple ds => sms ds
  | _ => true
def sms : List PyData → Bool
  | [] => true
  | d :: ds => sm d && sms ds
end
theorem sms_mem : ∀ {ds : List PyData}, sms ds = true → ∀ d ∈ ds, sm d = true
  | _ :: _, h, _, hd => by
    rw [sms, Bool.and_eq_true] at h
    rcases List.mem_cons.mp hd with rfl | hd
    · exact h.1
    · exact sms_mem h.2 _ hd
theorem sm_inner {d : PyData} (h : sm d = true) : ∀ x ∈ inner d, sm x = true := by
  intro x hx
  unfold inner at hx
  split at hx
  all_goals first
    | exact absurd hx (List.not_mem_nil)
    | (rw [sm] at h
       refine sms_mem h x ?_
       simp only [List.mem_cons, List.not_mem_nil, or_false] at hx ⊢
       first
        | exact .inr hx
        | (rcases hx with rfl | rfl
           · exact .inr (.inl rfl)
           · exact .inr (.inr (.inr rfl)))
        | (rcases hx with rfl | rfl
           · exact .inr (.inl rfl)
           · exact .inr (.inr rfl)))
theorem sm_q : ∀ q : Qn, sm q.d = true
  | .any => rfl
  | .no q => by simp only [Qn.d, sm, sms, sm_q q]; rfl
  | .both a b => by simp only [Qn.d, sm, sms, sm_q a, sm_q b]; rfl
  | .some a c b => by simp only [Qn.d, sm, sms, sm_q a, sm_q b]; rfl

/-! ### what the program's own defs promise -/
def sp_is_letter : Sp := fun vs H Q _ => ∃ c : Nat, vs = [.str ⟨#[c]⟩] ∧ Q (.bl (decide (97 ≤ c ∧ c ≤ 122))) H
def sp_is_one_letter (K : PySem.W.Frag) : Sp := fun vs H Q _ => ∃ (v : V) (d : PyData), vs = [v] ∧ Da K H v d ∧ sm d = true ∧ ∀ b : Bool, (b = true ↔ ∃ z, d = .str z ∧ OneLetter z) → Q (.bl b) H
def sp_has_form (K : PySem.W.Frag) : Sp := fun vs H Q _ => ∃ (v : V) (d : PyData), vs = [v] ∧ Da K H v d ∧ sm d = true ∧ ∀ b : Bool, (b = true ↔ HasForm d) → Q (.bl b) H
theorem one_cases (z : Str) (h : z.length = 1) : ∃ c, z = ⟨#[c]⟩ := by
  obtain ⟨⟨l⟩⟩ := z
  cases l with
  | nil => cases h
  | cons c t => cases t with
    | nil => exact ⟨c, rfl⟩
    | cons d t => simp [PySem.Str.length] at h
theorem at0 {α : Type} (x : α) (xs : List α) : atI (x :: xs) 0 = some x := atI_nat (j := 0) rfl
theorem at1 {α : Type} (x y : α) (xs : List α) : atI (x :: y :: xs) 1 = some y := atI_nat (j := 1) rfl
theorem at2 {α : Type} (x y z : α) (xs : List α) : atI (x :: y :: z :: xs) 2 = some z := atI_nat (j := 2) rfl
theorem at3 {α : Type} (x y z u : α) (xs : List α) : atI (x :: y :: z :: u :: xs) 3 = some u := atI_nat (j := 3) rfl
theorem look_cons {z k : Str} {n : Int} {l : List (Str × Int)} : List.lookup z ((k, n) :: l) = if z = k then some n else List.lookup z l := by
  by_cases e : z = k
  · rw [if_pos e, e]; simp [List.lookup]
  · rw [if_neg e]
    have : (z == k) = false := beq_eq_false_iff_ne.mpr e
    simp [List.lookup, this]
theorem sz_cases {z : Str} {n : Int} (h : (List.lookup z [(("any" : Str), (1 : Int)), (("not" : Str), 2), (("both" : Str), 3), (("some" : Str), 4)]).getD 0 = n) (hn : n ≠ 0) :
    (z = "any" ∧ n = 1) ∨ (z = "not" ∧ n = 2) ∨ (z = "both" ∧ n = 3) ∨ (z = "some" ∧ n = 4) := by
  rw [look_cons, look_cons, look_cons, look_cons] at h
  by_cases e1 : z = "any"
  · rw [if_pos e1] at h; exact .inl ⟨e1, h.symm⟩
  rw [if_neg e1] at h
  by_cases e2 : z = "not"
  · rw [if_pos e2] at h; exact .inr (.inl ⟨e2, h.symm⟩)
  rw [if_neg e2] at h
  by_cases e3 : z = "both"
  · rw [if_pos e3] at h; exact .inr (.inr (.inl ⟨e3, h.symm⟩))
  rw [if_neg e3] at h
  by_cases e4 : z = "some"
  · rw [if_pos e4] at h; exact .inr (.inr (.inr ⟨e4, h.symm⟩))
  rw [if_neg e4] at h
  exact absurd h.symm hn
theorem form_size {wd : Str} {ds : List PyData} (h : HasForm (.tuple (.str wd :: ds))) :
    (List.lookup wd [(("any" : Str), (1 : Int)), (("not" : Str), 2), (("both" : Str), 3), (("some" : Str), 4)]).getD 0 = ((ds.length + 1 : Nat) : Int) := by
  unfold HasForm at h
  split at h
  · rename_i e; cases e; subst h; exact (by decide +kernel : (List.lookup ("any" : Str) [(("any" : Str), (1 : Int)), (("not" : Str), 2), (("both" : Str), 3), (("some" : Str), 4)]).getD 0 = (1 : Int))
  · rename_i e; cases e; subst h; exact (by decide +kernel : (List.lookup ("not" : Str) [(("any" : Str), (1 : Int)), (("not" : Str), 2), (("both" : Str), 3), (("some" : Str), 4)]).getD 0 = (2 : Int))
  · rename_i e; cases e; subst h; exact (by decide +kernel : (List.lookup ("both" : Str) [(("any" : Str), (1 : Int)), (("not" : Str), 2), (("both" : Str), 3), (("some" : Str), 4)]).getD 0 = (3 : Int))
  · rename_i e; cases e; rw [h.1]; exact (by decide +kernel : (List.lookup ("some" : Str) [(("any" : Str), (1 : Int)), (("not" : Str), 2), (("both" : Str), 3), (("some" : Str), 4)]).getD 0 = (4 : Int))
  · exact h.elim
end M
end

section
set_option Elab.async false
set_option linter.all false
set_option maxRecDepth 100000
/-! stacks of data, questions walked part by part -/
namespace M
open PySem L2 Evl
open PyProof.Rows hiding St

/-! ### how many nodes -/
mutual
def nds : PyData → Nat
  | .list ds => ndss ds + 1
  | .tuple ds => ndss ds + 1
  | _ => 1
def ndss : List PyData → Nat
  | [] => 0
  | d :: ds => nds d + ndss ds
end
theorem nds_pos (d : PyData) : 1 ≤ nds d := by cases d <;> simp [nds]
theorem ndss_app : ∀ a b : List PyData, ndss (a ++ b) = ndss a + ndss b
  | [], b => by simp [ndss]
  | d :: a, b => by simp [ndss, ndss_app a b]; omega
theorem ndss_len : ∀ a : List PyData, a.length ≤ ndss a
  | [] => Nat.le_refl _
  | d :: a => by have := ndss_len a; have := nds_pos d; simp [ndss]; omega
theorem inner_nds (d : PyData) : ndss (inner d) < nds d := by
  unfold inner
  split <;> simp [nds, ndss] <;> first | omega | (cases d <;> simp [nds])
theorem sms_app : ∀ {a b : List PyData}, sms a = true → sms b = true → sms (a ++ b) = true
  | [], _, _, h => h
  | d :: a, b, h, h2 => by
    rw [sms, Bool.and_eq_true] at h
    show (sm d && sms (a ++ b)) = true
    rw [h.1, sms_app h.2 h2]; rfl
theorem sms_of : ∀ {a : List PyData}, (∀ d ∈ a, sm d = true) → sms a = true
  | [], _ => rfl
  | d :: a, h => by
    show (sm d && sms a) = true
    rw [h d List.mem_cons_self, sms_of fun x hx => h x (List.mem_cons_of_mem _ hx)]; rfl
theorem Das.ne {K : PySem.W.Frag} {H : Hp} {xs : List V} {ds : List PyData} (h : Das K H xs ds) : xs.isEmpty = ds.isEmpty := by cases h <;> rfl

def sp_inner (K : PySem.W.Frag) : Sp := fun vs H Q _ => ∃ (H0 : Hp) (v : V) (d : PyData), vs = [v] ∧ Ex H0 H ∧ Da K H0 v d ∧ HasForm d ∧
  ∀ (l : Addr) (xs : List V) (H' : Hp), Ex H H' → H l = none → H' l = some (.lst xs) → Das K H0 xs (inner d) → Q (.ref l) H'
def sp_is_question (K : PySem.W.Frag) : Sp := fun vs H Q _ => ∃ (H0 : Hp) (v : V) (d : PyData), vs = [v] ∧ Ex H0 H ∧ Da K H0 v d ∧ sm d = true ∧ nds d ≤ 10000 ∧
  ∀ (b : Bool) (H' : Hp), Ex H H' → (b = true ↔ IsQ d) → Q (.bl b) H'
theorem cut1_not (x : V) (xs : List V) : ¬ (HT.sIx (x :: xs).length 0 (some 1) = 0 ∧ HT.sIx (x :: xs).length (x :: xs).length none = (x :: xs).length) := by
  rintro ⟨h, _⟩
  simp [HT.sIx] at h
  try omega
theorem cut1 (x : V) (xs : List V) : cutV (x :: xs) (some 1) none = xs := by
  have e1 : HT.sIx (x :: xs).length 0 (some 1) = 1 := by
    simp [HT.sIx]
    try omega
  have e2 : HT.sIx (x :: xs).length (x :: xs).length none = (x :: xs).length := rfl
  unfold cutV
  rw [e1, e2]
  simp
section
variable {K : PySem.W.Frag} {H : Hp} {v : V} {xs : List V}
theorem da_str {z : Str} (h : Da K H v (.str z)) : v = .str z := by cases h; rfl
theorem da_tup {ds : List PyData} (h : Da K H v (.tuple ds)) : ∃ a xs, v = .ref a ∧ SqT K H a xs ∧ Das K H xs ds := by cases h with | tup a b => exact ⟨_, _, rfl, a, b⟩
theorem das0 (h : Das K H xs []) : xs = [] := by cases h; rfl
theorem dasc {a : PyData} {ds : List PyData} (h : Das K H xs (a :: ds)) : ∃ x ys, xs = x :: ys ∧ Da K H x a ∧ Das K H ys ds := by cases h with | cons a b => exact ⟨_, _, rfl, a, b⟩
theorem das1 {a : PyData} (h : Das K H xs [a]) : ∃ x, xs = [x] ∧ Da K H x a := by
  obtain ⟨x, ys, rfl, h1, h2⟩ := dasc h
  exact ⟨x, by rw [das0 h2], h1⟩
theorem das2 {a b : PyData} (h : Das K H xs [a, b]) : ∃ x y, xs = [x, y] ∧ Da K H x a ∧ Da K H y b := by
  obtain ⟨x, ys, rfl, h1, h2⟩ := dasc h
  obtain ⟨y, rfl, h3⟩ := das1 h2
  exact ⟨x, y, rfl, h1, h3⟩
theorem das3 {a b c : PyData} (h : Das K H xs [a, b, c]) : ∃ x y z, xs = [x, y, z] ∧ Da K H x a ∧ Da K H y b ∧ Da K H z c := by
  obtain ⟨x, ys, rfl, h1, h2⟩ := dasc h
  obtain ⟨y, z, rfl, h3⟩ := das2 h2
  exact ⟨x, y, z, rfl, h1, h3⟩
theorem das4 {a b c d : PyData} (h : Das K H xs [a, b, c, d]) : ∃ x y z u, xs = [x, y, z, u] ∧ Da K H x a ∧ Da K H y b ∧ Da K H z c ∧ Da K H u d := by
  obtain ⟨x, ys, rfl, h1, h2⟩ := dasc h
  obtain ⟨y, z, u, rfl, h3⟩ := das3 h2
  exact ⟨x, y, z, u, rfl, h1, h3⟩
/-- the shapes of what has form -/
theorem form_cases {d : PyData} (hd : Da K H v d) (hf : HasForm d) : ∃ a xs, v = .ref a ∧ SqT K H a xs ∧
    ((xs = [.str "any"] ∧ inner d = []) ∨ (∃ x r, xs = [.str "not", x] ∧ Da K H x r ∧ inner d = [r]) ∨ (∃ x y r t, xs = [.str "both", x, y] ∧ Da K H x r ∧ Da K H y t ∧ inner d = [r, t]) ∨
     (∃ x y r t c, xs = [.str "some", x, .str ⟨#[c]⟩, y] ∧ Da K H x r ∧ Da K H y t ∧ inner d = [r, t] ∧ 97 ≤ c ∧ c ≤ 122)) := by
  unfold HasForm at hf
  split at hf
  · obtain ⟨a, xs, rfl, hs, hx⟩ := da_tup hd
    obtain ⟨x, rfl, h⟩ := das1 hx
    rw [da_str h, hf] at hs
    exact ⟨a, _, rfl, hs, .inl ⟨rfl, rfl⟩⟩
  · obtain ⟨a, xs, rfl, hs, hx⟩ := da_tup hd
    obtain ⟨x, y, rfl, h, h2⟩ := das2 hx
    rw [da_str h, hf] at hs
    exact ⟨a, _, rfl, hs, .inr (.inl ⟨y, _, rfl, h2, rfl⟩)⟩
  · obtain ⟨a, xs, rfl, hs, hx⟩ := da_tup hd
    obtain ⟨x, y, z, rfl, h, h2, h3⟩ := das3 hx
    rw [da_str h, hf] at hs
    exact ⟨a, _, rfl, hs, .inr (.inr (.inl ⟨y, z, _, _, rfl, h2, h3, rfl⟩))⟩
  · obtain ⟨a, xs, rfl, hs, hx⟩ := da_tup hd
    obtain ⟨x, y, z, u, rfl, h, h2, h3, h4⟩ := das4 hx
    obtain ⟨e1, c, e2, hc⟩ := hf
    rw [da_str h, da_str h3, e1, e2] at hs
    exact ⟨a, _, rfl, hs, .inr (.inr (.inr ⟨y, u, _, _, c, rfl, h2, h4, rfl, hc⟩))⟩
  · exact hf.elim
end

def sp_check_question (K : PySem.W.Frag) : Sp := fun vs H Q _ => ∃ (H0 : Hp) (v : V) (q : Qn), vs = [v] ∧ Ex H0 H ∧ Dp K H0 v q.d ∧ q.Ok ∧ q.parts ≤ 1000 ∧ ∀ H' : Hp, Ex H H' → Q .non H'
theorem nds_q : ∀ q : Qn, nds q.d ≤ 4 * q.parts
  | .any => by simp [Qn.d, nds, ndss, Qn.parts]
  | .no q => by have := nds_q q; simp [Qn.d, nds, ndss, Qn.parts]; omega
  | .both a b => by have := nds_q a; have := nds_q b; simp [Qn.d, nds, ndss, Qn.parts]; omega
  | .some a c b => by have := nds_q a; have := nds_q b; simp [Qn.d, nds, ndss, Qn.parts]; omega
/-- its parts, itself first, each ahead of those within it -/
def Qn.all : Qn → List Qn
  | .any => [.any]
  | .no q => .no q :: q.all
  | .both a b => .both a b :: (a.all ++ b.all)
  | .some a c b => .some a c b :: (a.all ++ b.all)
def Qn.kids : Qn → List Qn
  | .any => []
  | .no q => [q]
  | .both a b => [a, b]
  | .some a _ b => [a, b]
theorem Qn.all_kids (q : Qn) : q.all = q :: q.kids.flatMap Qn.all := by cases q <;> simp [Qn.all, Qn.kids]
theorem Qn.all_len : ∀ q : Qn, q.all.length = q.parts
  | .any => rfl
  | .no q => by simp [Qn.all, Qn.parts, Qn.all_len q]
  | .both a b => by simp [Qn.all, Qn.parts, Qn.all_len a, Qn.all_len b]
  | .some a c b => by simp [Qn.all, Qn.parts, Qn.all_len a, Qn.all_len b]
theorem Qn.form : ∀ q : Qn, q.Ok → HasForm q.d
  | .any, _ => rfl
  | .no _, _ => rfl
  | .both _ _, _ => rfl
  | .some _ c _, h => ⟨rfl, c, rfl, h.2.1⟩
theorem Qn.inner (q : Qn) : M.inner q.d = q.kids.map Qn.d := by cases q <;> rfl
theorem Qn.kids_ok {q : Qn} (h : q.Ok) : ∀ r ∈ q.kids, r.Ok := by
  cases q with
  | any => intro r hr; cases hr
  | no a => intro r hr; simp [Qn.kids] at hr; subst hr; exact h
  | both a b => intro r hr; simp [Qn.kids] at hr; rcases hr with rfl | rfl; exact h.1; exact h.2
  | some a c b => intro r hr; simp [Qn.kids] at hr; rcases hr with rfl | rfl; exact h.1; exact h.2.2
/-- values that are the questions qs -/
def Qs (K : PySem.W.Frag) (H : Hp) (xs : List V) (qs : List Qn) : Prop := Das K H xs (qs.map Qn.d)
theorem Qs.last {K : PySem.W.Frag} {H : Hp} {xs : List V} {qs : List Qn} {q : Qn} (h : Qs K H xs (qs ++ [q])) : ∃ x, xs[xs.length - 1]? = some x ∧ Da K H x q.d ∧ Qs K H xs.dropLast qs := by
  obtain ⟨x, d, e1, e2, e3, e4⟩ := Das.last h (by simp)
  rw [List.map_append, List.map_singleton] at e4 e3
  rw [List.dropLast_concat] at e4 e3
  have e5 := List.append_cancel_left e4
  cases e5
  exact ⟨x, e1, e2, e3⟩
theorem Qs.app {K : PySem.W.Frag} {H : Hp} {xs ys : List V} {qs rs : List Qn} (h : Qs K H xs qs) (h2 : Qs K H ys rs) : Qs K H (xs ++ ys) (qs ++ rs) := by
  show Das _ _ _ (List.map _ _)
  rw [List.map_append]
  exact Das.app h h2
theorem Qs.len {K : PySem.W.Frag} {H : Hp} {xs : List V} {qs : List Qn} (h : Qs K H xs qs) : xs.length = qs.length := by
  have := Das.len h
  rw [List.length_map] at this
  exact this
theorem Das.rev {K : PySem.W.Frag} {H : Hp} : ∀ {xs : List V} {ds : List PyData}, Das K H xs ds → Das K H xs.reverse ds.reverse
  | _, _, .nil => .nil
  | _, _, .cons a t => by
    rw [List.reverse_cons, List.reverse_cons]
    exact Das.app (Das.rev t) (.cons a .nil)
theorem Qs.rev {K : PySem.W.Frag} {H : Hp} {xs : List V} {qs : List Qn} (h : Qs K H xs qs) : Qs K H xs.reverse qs.reverse := by
  show Das _ _ _ (List.map _ _)
  rw [List.map_reverse]
  exact Das.rev h
/-- how many parts of all -/
def ptss (qs : List Qn) : Nat := (qs.map Qn.parts).sum
theorem ptss_app (a b : List Qn) : ptss (a ++ b) = ptss a + ptss b := by simp [ptss]
theorem ptss_rev (a : List Qn) : ptss a.reverse = ptss a := by
  induction a with
  | nil => rfl
  | cons q a ih => rw [List.reverse_cons, ptss_app, ih]; simp [ptss]; omega
theorem ptss_kids (q : Qn) : ptss q.kids + 1 = q.parts := by cases q <;> simp [ptss, Qn.kids, Qn.parts]
theorem ptss_len : ∀ a : List Qn, a.length ≤ ptss a
  | [] => Nat.le_refl _
  | q :: a => by have := ptss_len a; have := q.parts_pos; simp [ptss] at *; omega
def sp_parts_of (K : PySem.W.Frag) : Sp := fun vs H Q _ => ∃ (H0 : Hp) (v : V) (q : Qn), vs = [v] ∧ Ex H0 H ∧ Dp K H0 v q.d ∧ q.Ok ∧ q.parts ≤ 1000 ∧
  ∀ (l : Addr) (xs : List V) (H' : Hp), Ex H H' → H l = none → H' l = some (.lst xs) → Qs K H0 xs q.all → Q (.ref l) H'
theorem all_flat : ∀ l : List Qn, (l.flatMap Qn.all).length = ptss l
  | [] => rfl
  | q :: l => by simp [List.flatMap_cons, Qn.all_len, all_flat l, ptss]

/-! ### turned about -/
def Qn.turn : Qn → Qn
  | .any => .any
  | .no q => .no q.turn
  | .both a b => .both a.turn b.turn
  | .some a c b => .some b.turn c a.turn
theorem Qn.turn_turn : ∀ q : Qn, q.turn.turn = q
  | .any => rfl
  | .no q => by simp [Qn.turn, Qn.turn_turn q]
  | .both a b => by simp [Qn.turn, Qn.turn_turn a, Qn.turn_turn b]
  | .some a c b => by simp [Qn.turn, Qn.turn_turn a, Qn.turn_turn b]
theorem Qn.turn_ok : ∀ {q : Qn}, q.Ok → q.turn.Ok
  | .any, _ => trivial
  | .no q, h => Qn.turn_ok (q := q) h
  | .both _ _, h => ⟨Qn.turn_ok h.1, Qn.turn_ok h.2⟩
  | .some _ _ _, h => ⟨Qn.turn_ok h.2.2, h.2.1, Qn.turn_ok h.1⟩
theorem Qn.turn_parts : ∀ q : Qn, q.turn.parts = q.parts
  | .any => rfl
  | .no q => by simp [Qn.turn, Qn.parts, Qn.turn_parts q]
  | .both a b => by simp [Qn.turn, Qn.parts, Qn.turn_parts a, Qn.turn_parts b]
  | .some a c b => by simp [Qn.turn, Qn.parts, Qn.turn_parts a, Qn.turn_parts b]; omega
theorem Qn.turn_deep : ∀ q : Qn, q.turn.deep = q.deep
  | .any => rfl
  | .no q => by simp [Qn.turn, Qn.deep, Qn.turn_deep q]
  | .both a b => by simp [Qn.turn, Qn.deep, Qn.turn_deep a, Qn.turn_deep b]
  | .some a c b => by simp [Qn.turn, Qn.deep, Qn.turn_deep a, Qn.turn_deep b, Nat.max_comm]
theorem Qn.all_ok : ∀ {q : Qn}, q.Ok → ∀ r ∈ q.all, r.Ok
  | .any, h, r, hr => by simp [Qn.all] at hr; subst hr; exact h
  | .no q, h, r, hr => by
    simp [Qn.all] at hr
    rcases hr with rfl | hr
    · exact h
    · exact Qn.all_ok (q := q) h r hr
  | .both a b, h, r, hr => by
    simp [Qn.all] at hr
    rcases hr with rfl | hr | hr
    · exact h
    · exact Qn.all_ok h.1 r hr
    · exact Qn.all_ok h.2 r hr
  | .some a c b, h, r, hr => by
    simp [Qn.all] at hr
    rcases hr with rfl | hr | hr
    · exact h
    · exact Qn.all_ok h.1 r hr
    · exact Qn.all_ok h.2.2 r hr
/-- behind a part stand the parts of what lies within it -/
theorem flat_split : ∀ (n : Nat) (qs : List Qn), ptss qs ≤ n → ∀ pre r S, qs.flatMap Qn.all = pre ++ r :: S → ∃ S', S = r.kids.flatMap Qn.all ++ S' ∧ ∃ rest : List Qn, S' = rest.flatMap Qn.all
  | n, [], _, pre, r, S, h => by simp at h
  | 0, q :: qs, hn, pre, r, S, h => by have := q.parts_pos; simp [ptss] at hn; omega
  | n + 1, q :: qs, hn, pre, r, S, h => by
    rw [List.flatMap_cons, Qn.all_kids] at h
    have e : q :: (q.kids.flatMap Qn.all ++ qs.flatMap Qn.all) = q :: (q.kids ++ qs).flatMap Qn.all := by rw [List.flatMap_append]
    rw [List.cons_append, e] at h
    cases pre with
    | nil =>
      rw [List.nil_append] at h
      injection h with h1 h2
      subst h1
      exact ⟨qs.flatMap Qn.all, by rw [← h2, List.flatMap_append], qs, rfl⟩
    | cons p pre =>
      rw [List.cons_append] at h
      injection h with h1 h2
      refine flat_split n (q.kids ++ qs) ?_ pre r S h2
      have k := ptss_kids q
      rw [ptss_app]
      have : ptss (q :: qs) = q.parts + ptss qs := by simp [ptss]
      omega
theorem flat_inj : ∀ (a b c : List Qn) (S : List Qn), a.flatMap Qn.all = b.flatMap Qn.all ++ c.flatMap Qn.all → ∃ rest, a = b ++ rest ∧ rest.flatMap Qn.all = c.flatMap Qn.all
  | a, [], c, S, h => ⟨a, rfl, by simpa using h⟩
  | [], q :: b, c, S, h => by
    rw [List.flatMap_cons, Qn.all_kids] at h
    simp at h
  | p :: a, q :: b, c, S, h => by
    rw [List.flatMap_cons, List.flatMap_cons, List.append_assoc] at h
    have e : p = q := by
      rw [Qn.all_kids p, Qn.all_kids q] at h
      injection h
    subst e
    obtain ⟨rest, e1, e2⟩ := flat_inj a b c S (List.append_cancel_left h)
    exact ⟨rest, by rw [e1]; rfl, e2⟩
def sp_turned_part (K : PySem.W.Frag) : Sp := fun vs H Q _ => ∃ (H0 : Hp) (v : V) (r : Qn) (l : Addr) (xs : List V) (rest : List Qn), vs = [v, .ref l] ∧ Ex H0 H ∧ H0 l = none ∧ Da K H0 v r.d ∧ r.Ok ∧ H l = some (.lst xs) ∧
  Qs K H0 xs (rest ++ (r.kids.map Qn.turn).reverse) ∧
  ∀ (v' : V) (ys : List V) (H1 H' : Hp), Ex H0 H1 → Ex H1 H' → H1 l = none → Da K H1 v' r.turn.d → H' l = some (.lst ys) → Qs K H1 ys rest → (∀ b o, b ≠ l → H b = some o → H' b = some o) → Q v' H'
def sp_turned_question (K : PySem.W.Frag) : Sp := fun vs H Q _ => ∃ (H0 : Hp) (v : V) (q : Qn), vs = [v] ∧ Ex H0 H ∧ Dp K H0 v q.d ∧ q.Ok ∧ q.parts ≤ 1000 ∧
  ∀ (v' : V) (H1 H' : Hp), Ex H0 H1 → Ex H1 H' → Ex H H' → Da K H1 v' q.turn.d → Q v' H'
section
variable {K : PySem.W.Frag} {H : Hp} {v : V}
theorem da_any (h : Da K H v Qn.any.d) : ∃ a, v = .ref a ∧ SqT K H a [.str "any"] := by
  obtain ⟨a, xs, e, hs, hx⟩ := da_tup h
  obtain ⟨x, rfl, h1⟩ := das1 hx
  rw [da_str h1] at hs
  exact ⟨a, e, hs⟩
theorem da_no {r : Qn} (h : Da K H v (Qn.no r).d) : ∃ a x, v = .ref a ∧ SqT K H a [.str "not", x] ∧ Da K H x r.d := by
  obtain ⟨a, xs, e, hs, hx⟩ := da_tup h
  obtain ⟨x, y, rfl, h1, h2⟩ := das2 hx
  rw [da_str h1] at hs
  exact ⟨a, y, e, hs, h2⟩
theorem da_both {r t : Qn} (h : Da K H v (Qn.both r t).d) : ∃ a x y, v = .ref a ∧ SqT K H a [.str "both", x, y] ∧ Da K H x r.d ∧ Da K H y t.d := by
  obtain ⟨a, xs, e, hs, hx⟩ := da_tup h
  obtain ⟨x, y, z, rfl, h1, h2, h3⟩ := das3 hx
  rw [da_str h1] at hs
  exact ⟨a, y, z, e, hs, h2, h3⟩
theorem da_some {r t : Qn} {c : Nat} (h : Da K H v (Qn.some r c t).d) : ∃ a x y, v = .ref a ∧ SqT K H a [.str "some", x, .str ⟨#[c]⟩, y] ∧ Da K H x r.d ∧ Da K H y t.d := by
  obtain ⟨a, xs, e, hs, hx⟩ := da_tup h
  obtain ⟨x, y, z, u, rfl, h1, h2, h3, h4⟩ := das4 hx
  rw [da_str h1, da_str h3] at hs
  exact ⟨a, y, u, e, hs, h2, h4⟩
theorem mk_any {a : Addr} (h : H a = Option.some (.tup [.str "any"])) : Da K H (.ref a) Qn.any.d := .tup (st_of h) (.cons (.str _) .nil)
theorem mk_no {a : Addr} {x : V} {r : Qn} (h : H a = Option.some (.tup [.str "not", x])) (hx : Da K H x r.d) : Da K H (.ref a) (Qn.no r).d := .tup (st_of h) (.cons (.str _) (.cons hx .nil))
theorem mk_both {a : Addr} {x y : V} {r t : Qn} (h : H a = Option.some (.tup [.str "both", x, y])) (hx : Da K H x r.d) (hy : Da K H y t.d) : Da K H (.ref a) (Qn.both r t).d := .tup (st_of h) (.cons (.str _) (.cons hx (.cons hy .nil)))
theorem mk_some {a : Addr} {x y : V} {r t : Qn} {c : Nat} (h : H a = Option.some (.tup [.str "some", x, .str ⟨#[c]⟩, y])) (hx : Da K H x r.d) (hy : Da K H y t.d) : Da K H (.ref a) (Qn.some r c t).d := .tup (st_of h) (.cons (.str _) (.cons hx (.cons (.str _) (.cons hy .nil))))
end
theorem Das.at {K : PySem.W.Frag} {H : Hp} : ∀ {xs : List V} {ds : List PyData}, Das K H xs ds → ∀ {j : Nat} {x : V} (hj : j < ds.length), xs[j]? = some x → Da K H x ds[j]
  | _, _, .nil, j, x, hj, _ => absurd hj (Nat.not_lt_zero _)
  | _, _, .cons a _, 0, x, _, e => by
    simp only [List.getElem?_cons_zero, Option.some.injEq] at e
    subst e
    exact a
  | _, _, .cons _ t, j + 1, x, hj, e => Das.at t (Nat.lt_of_succ_lt_succ hj) e
theorem Qs.at {K : PySem.W.Frag} {H : Hp} {xs : List V} {qs : List Qn} {j : Nat} {x : V} (h : Qs K H xs qs) (hj : j < qs.length) (e : xs[j]? = some x) : Da K H x qs[j].d := by
  have := Das.at h (j := j) (by rw [List.length_map]; exact hj) e
  rw [List.getElem_map] at this
  exact this
theorem flat_one {ts : List Qn} {q : Qn} (h : q.all = ts.flatMap Qn.all) : ts = [q] := by
  obtain ⟨rest, e1, e2⟩ := flat_inj ts [q] [] [] (by rw [← h]; simp)
  cases rest with
  | nil => exact e1
  | cons r rest => rw [List.flatMap_cons, Qn.all_kids] at e2; cases e2
end M
end

section
set_option Elab.async false
set_option linter.all false
set_option maxRecDepth 100000
/-! depths and letters of questions, part by part -/
namespace M
open PySem L2 Evl
open PyProof.Rows hiding St
def Qn.word : Qn → Str
  | .any => "any"
  | .no _ => "not"
  | .both _ _ => "both"
  | .some _ _ _ => "some"
def Qn.up : Qn → Nat
  | .some _ _ _ => 1
  | _ => 0
theorem Qn.word_some {q : Qn} : (q.word = "some" → q.up = 1) ∧ (q.word ≠ "some" → q.up = 0) := by
  cases q <;> simp [Qn.word, Qn.up] <;> decide
theorem da_word {K : PySem.W.Frag} {H : Hp} {v : V} {q : Qn} (h : Da K H v q.d) : ∃ a ws, v = .ref a ∧ SqT K H a (.str q.word :: ws) := by
  cases q with
  | any => obtain ⟨a, e, s⟩ := da_any h; exact ⟨a, _, e, s⟩
  | no r => obtain ⟨a, x, e, s, _⟩ := da_no h; exact ⟨a, _, e, s⟩
  | both r t => obtain ⟨a, x, y, e, s, _⟩ := da_both h; exact ⟨a, _, e, s⟩
  | some r c t => obtain ⟨a, x, y, e, s, _⟩ := da_some h; exact ⟨a, _, e, s⟩
/-! a pile of (part, depth) -/
def pd (p : Qn × Nat) : PyData := .tuple [p.1.d, .int p.2]
def Ds (K : PySem.W.Frag) (H : Hp) (xs : List V) (ts : List (Qn × Nat)) : Prop := Das K H xs (ts.map pd)
def mx : List (Qn × Nat) → Nat
  | [] => 0
  | p :: ts => max (p.2 + p.1.deep) (mx ts)
theorem mx_app : ∀ a b : List (Qn × Nat), mx (a ++ b) = max (mx a) (mx b)
  | [], b => by simp [mx]
  | p :: a, b => by simp [mx, mx_app a b, Nat.max_assoc]
theorem mx_kids (r : Qn) (d : Nat) : max (d + r.up) (mx (r.kids.map fun k => (k, d + r.up))) = d + r.deep := by
  cases r <;> simp [Qn.kids, mx, Qn.up, Qn.deep] <;> omega
theorem Ds.last {K : PySem.W.Frag} {H : Hp} {xs : List V} {ts : List (Qn × Nat)} {r : Qn} {d : Nat} (h : Ds K H xs (ts ++ [(r, d)])) : ∃ a y, xs[xs.length - 1]? = some (.ref a) ∧ SqT K H a [y, .int d] ∧ Da K H y r.d ∧ Ds K H xs.dropLast ts := by
  obtain ⟨x, d', e1, e2, e3, e4⟩ := Das.last h (by simp)
  rw [List.map_append, List.map_singleton] at e4 e3
  rw [List.dropLast_concat] at e4 e3
  have e5 := List.append_cancel_left e4
  cases e5
  obtain ⟨a, ys, rfl, hs, hy⟩ := da_tup e2
  obtain ⟨y, z, rfl, h1, h2⟩ := das2 hy
  cases h2
  exact ⟨a, y, e1, hs, h1, e3⟩
theorem Ds.app1 {K : PySem.W.Frag} {H : Hp} {xs : List V} {ts : List (Qn × Nat)} {r : Qn} {d : Nat} {a : Addr} {y : V} (h : Ds K H xs ts) (ha : H a = some (.tup [y, .int d])) (hy : Da K H y r.d) : Ds K H (xs ++ [.ref a]) (ts ++ [(r, d)]) := by
  show Das _ _ _ (List.map _ _)
  rw [List.map_append]
  exact Das.app h (.cons (.tup (st_of ha) (.cons hy (.cons (.int _) .nil))) .nil)
theorem Ds.len {K : PySem.W.Frag} {H : Hp} {xs : List V} {ts : List (Qn × Nat)} (h : Ds K H xs ts) : xs.length = ts.length := by
  have := Das.len h
  rw [List.length_map] at this
  exact this
theorem Ds.up {K : PySem.W.Frag} {H H' : Hp} {xs : List V} {ts : List (Qn × Nat)} (h : Ds K H xs ts) (x : Ex H H') : Ds K H' xs ts := Das.up h x
/-- how many parts a pile has -/
def pts2 (ts : List (Qn × Nat)) : Nat := ptss (ts.map Prod.fst)
theorem pts2_app (a b : List (Qn × Nat)) : pts2 (a ++ b) = pts2 a + pts2 b := by simp [pts2, ptss_app]
theorem pts2_len (a : List (Qn × Nat)) : a.length ≤ pts2 a := by
  have := ptss_len (a.map Prod.fst)
  simpa [pts2] using this
theorem pts2_kids (r : Qn) (d : Nat) : pts2 (r.kids.map fun k => (k, d)) + 1 = r.parts := by
  have := ptss_kids r
  simpa [pts2, Function.comp_def] using this
def sp_depth_of (K : PySem.W.Frag) : Sp := fun vs H Q _ => ∃ (H0 : Hp) (v : V) (q : Qn), vs = [v] ∧ Ex H0 H ∧ Dp K H0 v q.d ∧ q.Ok ∧ q.parts ≤ 1000 ∧ ∀ H' : Hp, Ex H H' → Q (.int (q.deep : Nat)) H'
theorem Ex.both {A B : Hp} (x : Ex A B) (t : Addr) (o : HO) : Ex (upd A t o) (upd B t o) := by
  intro b u e
  by_cases z : b = t
  · subst z; rw [upd_same] at e ⊢; exact e
  · rw [upd_ne z] at e ⊢; exact x b u e
theorem st6 {a c x o : Option V} {i i' j j' : Int} (h1 : i = i') (h2 : j = j') : [a, some (.int i), c, x, some (.int j), o] = [a, some (.int i'), c, x, some (.int j'), o] := by rw [h1, h2]
theorem take_succ' {α : Type} {xs : List α} {i : Nat} (h : i < xs.length) : xs.take (i + 1) = xs.take i ++ [xs[i]] := by rw [List.take_append_getElem h]
end M
end

section
set_option Elab.async false
set_option linter.all false
set_option maxRecDepth 100000
set_option maxHeartbeats 2000000
/-! sets of any scanned keys whose table can be walked; sorted(set of texts) -/
namespace M
open PySem PySem.Spec PyProof.Rows L2
section
variable {κ : Type} [DecidableEq κ] {P : Program} {w : World}
/-- no two rows hold one key -/
def Apart (knd : PySem.KeyKind P w κ) (p q : Int × Value) : Prop := ∀ k, knd.is k p.2 = true → knd.is k q.2 = true → False
theorem Apart.turn {knd : PySem.KeyKind P w κ} {p q : Int × Value} (x : Apart knd p q) : Apart knd q p := fun k u v => x k v u
/-- the set at a: its members by kind, how many, its table in order -/
def OSet (knd : PySem.KeyKind P w κ) (h : Heap) (a : Addr) (S : κ → Bool) (n : Nat) : Prop :=
  ∃ (ob : Obj) (rows : Array (Int × Value)) (age : Nat) (tab : SetTable), h.get? a = some ob ∧ ob.ExactSet ∧ ob.data = .set rows age tab ∧ ElemsOf knd rows.toList ∧ rows.toList.Pairwise (Apart knd) ∧
    (∀ k, S k = true ↔ ∃ p ∈ rows.toList, knd.is k p.2 = true) ∧ rows.size < scanBound ∧ tab.fits rows.size = true ∧ rows.size = n ∧ Ris tab.place.toList ∧ (w.params.followText "set-order" = true ∨ tab.led = true)
variable {knd : PySem.KeyKind P w κ} {h h' : Heap} {a : Addr} {S : κ → Bool} {n : Nat}
theorem OSet.keep (R : OSet knd h a S n) (z : ∀ u, h.get? a = some u → h'.get? a = some u) : OSet knd h' a S n := by
  rcases R with ⟨ob, rows, age, tab, at_, rest⟩
  exact ⟨ob, rows, age, tab, z ob at_, rest⟩
theorem OSet.plain (R : OSet knd h a S n) : h.SetOf knd a S n := by
  rcases R with ⟨ob, rows, age, tab, at_, ex, dat, el, _, me, few, fit, cnt, _⟩
  exact ⟨ob, rows, age, tab, at_, ex, dat, el, me, few, fit, cnt⟩
theorem OSet.alike {S' : κ → Bool} {n' : Nat} (R : OSet knd h a S n) (x : ∀ k, S' k = S k) (y : n' = n) : OSet knd h a S' n' := by
  rw [y, funext x]; exact R
end
section
variable {κ : Type} [DecidableEq κ] {P : Program} {w : World} {knd : PySem.KeyKind P w κ} {A : Around} {E : Value → Shared → Prop} {s : Shared} {a : Addr} {S : κ → Bool} {n : Nat}
/-- what is left behind the new row: stored, relaid if too full -/
theorem oset_tail {g : Bool → Sem Unit} (hg : ∀ (b : Bool) (s1 : Shared) (Q1 : Unit → Shared → Prop), Q1 () s1 → wpAny (model P w) A (g b) Q1 E s1)
    {ob : Obj} {old : Array (Int × Value)} {age : Nat} {tab : SetTable} (at_ : s.heap.get? a = some ob) (ex : ob.ExactSet) (dat : ob.data = .set old age tab)
    {rows : Array (Int × Value)} {tab2 : SetTable} {S' : κ → Bool} (el : ElemsOf knd rows.toList) (ap : rows.toList.Pairwise (Apart knd)) (me : ∀ k, S' k = true ↔ ∃ p ∈ rows.toList, knd.is k p.2 = true)
    (few : rows.size < scanBound) (fit : tab2.fits rows.size = true) (ris : Ris tab2.place.toList) (led : w.params.followText "set-order" = true ∨ tab2.led = true) {dummy : Bool} {R : Option Bool → Shared → Prop}
    (hR : ∀ hp, Heap.SameBut a s.heap hp → OSet knd hp a S' rows.size → R (some true) { s with heap := hp }) :
    wpAny (model P w) A (do
        storeSet a rows tab2
        if (!dummy && tab2.tooFull) = true then do
            g (relayAll tab2 rows (SetTable.grown rows.size)).2.2
            storeSet a (relayAll tab2 rows (SetTable.grown rows.size)).1 (relayAll tab2 rows (SetTable.grown rows.size)).2.1
            pure (some true)
          else pure (some true)) R E s := by
  have same := Heap.SameBut.update s.heap a (Obj.putSet rows tab2)
  have now := store_at (es' := rows) (t' := tab2) at_ dat
  refine wpAny_bind (wpAny_storeSet_of at_ dat ?_ (fits_of_scanBound few))
  by_cases full : (!dummy && tab2.tooFull) = true
  · rw [if_pos full]
    have perm := relayAll_perm tab2 rows (SetTable.grown rows.size)
    have fit3 := relayAll_fits tab2 rows (SetTable.grown rows.size)
    have ris3 := relayAll_ris tab2 rows (SetTable.grown rows.size)
    have led3 := relayAll_led tab2 rows (SetTable.grown rows.size)
    generalize relayAll tab2 rows (SetTable.grown rows.size) = out at perm fit3 ris3 led3 ⊢
    rcases out with ⟨rows3, tab3, flag⟩
    dsimp only at perm fit3 ris3 led3 ⊢
    have cnt : rows3.size = rows.size := by
      have := perm.length_eq
      rwa [Array.length_toList, Array.length_toList] at this
    have few3 : rows3.size < scanBound := cnt ▸ few
    refine wpAny_bind (hg flag _ _ ?_)
    refine wpAny_bind (wpAny_storeSet_of now rfl ?_ (fits_of_scanBound few3))
    have last := store_at (es' := rows3) (t' := tab3) now rfl
    refine wpAny_pure (hR _ (same.trans (Heap.SameBut.update _ a _)) ⟨_, rows3, _, tab3, last, ex, rfl, ?_, ?_, ?_, few3, fit3, cnt, ris3, ?_⟩)
    · exact fun p hp => el p (perm.mem_iff.mp hp)
    · exact (perm.pairwise_iff fun x => Apart.turn x).mpr ap
    · intro k
      rw [me k]
      exact ⟨fun ⟨p, hp, z⟩ => ⟨p, perm.mem_iff.mpr hp, z⟩, fun ⟨p, hp, z⟩ => ⟨p, perm.mem_iff.mp hp, z⟩⟩
    · rw [led3]; exact led
  · rw [if_neg full]
    exact wpAny_pure (hR _ same ⟨_, rows, _, tab2, now, ex, rfl, el, ap, me, few, fit, rfl, ris, led⟩)
theorem oset_put {k : κ} {u : Value} {Q : Bool → Shared → Prop} (hk : knd.is k u = true) (sc : u.scannable = true) (R : OSet knd s.heap a S n) (room : n + 1 < scanBound)
    (fin : ∀ hp, Heap.SameBut a s.heap hp → OSet knd hp a (fun j => S j || decide (j = k)) (if S k = true then n else n + 1) → Q (!S k) { s with heap := hp }) :
    wpAny (model P w) A (setAddHashed a u (knd.hash k)) Q E s := by
  rcases R with ⟨ob, rows, age, tab, at_, ex, dat, el, ap, me, few, fit, cnt, ris, led⟩
  unfold setAddHashed setAddHashedIn
  refine wpAny_holding (wpAny_bind (wpAny_setState_of at_ dat fit ?_))
  dsimp only
  rw [byScan_of sc few el]
  simp only [↓reduceIte]
  unfold setAddByScan
  refine wpAny_bind ?_
  refine wpAny_bind (wpAny_rule ?_)
  refine wpAny_bind (wpAny_setScan_of hk at_ dat fit el ?_)
  cases found : List.findIdx? (fun e => knd.is k e.2) rows.toList with
  | some j =>
    obtain ⟨inside, here, _⟩ := List.findIdx?_eq_some_iff_getElem.mp found
    have yes : S k = true := (me k).mpr ⟨rows.toList[j], List.getElem_mem inside, here⟩
    dsimp only
    refine wpAny_pure (wpAny_pure ?_)
    have goal := fin s.heap (Heap.SameBut.refl a s.heap) ⟨ob, rows, age, tab, at_, ex, dat, el, ap, fun i => ?_, few, fit, by rw [if_pos yes]; exact cnt, ris, led⟩
    · rw [yes] at goal
      exact goal
    · rw [← me i, Bool.or_eq_true, decide_eq_true_eq]
      constructor
      · rintro (z | rfl)
        · exact z
        · exact yes
      · exact .inl
  | none =>
    have gone : ∀ p ∈ rows.toList, knd.is k p.2 = true → False := fun p hp z => by
      have c := List.findIdx?_eq_none_iff.mp found p hp
      rw [z] at c
      cases c
    have no : S k = false := by
      rw [Bool.eq_false_iff]
      intro z
      obtain ⟨p, hp, e⟩ := (me k).mp z
      exact gone p hp e
    dsimp only
    have perm := layNew_perm tab rows (knd.hash k) u
    have fit1 := layNew_fits tab rows (knd.hash k) u
    have ris1 := layNew_ris tab rows (knd.hash k) u ris
    have led1 := layNew_led tab rows (knd.hash k) u
    generalize layNew tab rows (knd.hash k) u = out at perm fit1 ris1 led1 ⊢
    rcases out with ⟨rows1, tab1, dummy, flag⟩
    dsimp only at perm fit1 ris1 led1 ⊢
    rw [Array.toList_push] at perm
    have pc : rows1.toList.Perm ((knd.hash k, u) :: rows.toList) := perm.trans (List.perm_append_singleton _ _)
    have el1 : ElemsOf knd rows1.toList := fun p hp => by
      rcases List.mem_cons.mp (pc.mem_iff.mp hp) with rfl | z
      · exact ⟨⟨k, hk, rfl⟩, sc⟩
      · exact el p z
    have ap1 : rows1.toList.Pairwise (Apart knd) := by
      refine (pc.pairwise_iff fun x => Apart.turn x).mpr (List.pairwise_cons.mpr ⟨fun q hq i z1 z2 => ?_, ap⟩)
      have e : i = k := knd.inj _ _ _ z1 hk
      subst e
      exact gone q hq z2
    have me1 : ∀ i, (S i || decide (i = k)) = true ↔ ∃ p ∈ rows1.toList, knd.is i p.2 = true := fun i => by
      rw [Bool.or_eq_true, decide_eq_true_eq, me i]
      constructor
      · rintro (⟨p, hp, z⟩ | rfl)
        · exact ⟨p, pc.mem_iff.mpr (List.mem_cons_of_mem _ hp), z⟩
        · exact ⟨_, pc.mem_iff.mpr List.mem_cons_self, hk⟩
      · rintro ⟨p, hp, z⟩
        rcases List.mem_cons.mp (pc.mem_iff.mp hp) with rfl | y
        · exact .inr (knd.inj _ _ _ z hk)
        · exact .inl ⟨p, y, z⟩
    have cnt1 : rows1.size = n + 1 := by
      have := pc.length_eq
      rw [Array.length_toList, List.length_cons, Array.length_toList, cnt] at this
      exact this
    have few1 : rows1.size < scanBound := cnt1 ▸ room
    have ledN : w.params.followText "set-order" = true ∨ tab1.led = true := by rw [led1]; exact led
    have done : ∀ hp, Heap.SameBut a s.heap hp → OSet knd hp a (fun j => S j || decide (j = k)) rows1.size → Q true { s with heap := hp } := fun hp sb r => by
      have q := fin hp sb
      rw [no] at q
      rw [cnt1] at r
      exact q r
    have skip : ∀ (b : Bool) (s1 : Shared) (Q1 : Unit → Shared → Prop), Q1 () s1 → wpAny (model P w) A (match b with | true => rule "set.scan.the-table-gave-way" | false => pure ()) Q1 E s1 := by
      intro b s1 Q1 q
      cases b
      · exact wpAny_pure q
      · exact wpAny_rule q
    refine wpAny_bind (skip _ _ _ ?_)
    split
    · refine wpAny_bind ?_
      rw [hashByValue_scannable 8 sc]
      refine wpAny_pure ?_
      refine oset_tail (fun b s1 Q1 q => ?_) at_ ex dat el1 ap1 me1 few1 ?_ ?_ ?_ ?_
      · cases b <;> first | exact wpAny_pure q | exact wpAny_rule q
      · first | exact fit1 | (split <;> first | exact fit1 | exact SetTable.fits_plain_off fit1)
      · first | exact ris1 | (split <;> exact ris1)
      · first | exact ledN | (split <;> exact ledN)
      · intro hp sb r
        exact wpAny_pure (done hp sb r)
    · refine wpAny_bind (wpAny_pure ?_)
      simp only [↓reduceIte]
      refine oset_tail (fun b s1 Q1 q => ?_) at_ ex dat el1 ap1 me1 few1 fit1 ris1 ledN ?_
      · cases b <;> first | exact wpAny_pure q | exact wpAny_rule q
      · intro hp sb r
        exact wpAny_pure (done hp sb r)
theorem oset_add {k : κ} {u : Value} {Q : Value → Shared → Prop} (hk : knd.is k u = true) (sc : u.scannable = true) (R : OSet knd s.heap a S n) (room : n + 1 < scanBound)
    (fin : ∀ hp, Heap.SameBut a s.heap hp → OSet knd hp a (fun j => S j || decide (j = k)) (if S k = true then n else n + 1) → Q .none { s with heap := hp, toks := s.toks + 1 }) :
    wpAny (model P w) A (call (.builtin "set.add") [.ref a, u]) Q E s := by
  refine wpAny_call_entry F.slot_set_add R.plain.typeIs F.entry_set_add ?_ (F.args_set_add_2 _ _)
  unfold Builtin.«set.add» Builtin.Frozenset.oneOther
  simp only [List.isEmpty_nil, bind_assoc]
  unfold Builtin.Frozenset.addrOf setAdd
  refine wpAny_bind (wpAny_pure ?_)
  refine wpAny_bind (wpAny_pure ?_)
  refine wpAny_bind (wpAny_holding (wpAny_bind (knd.pyHash hk ?_)))
  refine oset_put (s := { s with toks := s.toks + 1 }) hk sc R room fun hp sb r => ?_
  show wpAny _ _ (ret Value.none) _ _ _
  exact wpAny_pure ⟨_, rfl, fin hp sb r⟩
theorem oset_fresh {P : Program} {w : World} (knd : PySem.KeyKind P w κ) {h : Heap} {a : Addr} {led : Bool} (hl : w.params.followText "set-order" = true ∨ led = true)
    (at_ : h.get? a = some { cls := .type "set", dict := none, data := .set #[] 0 (.fresh 0 0 led) }) : OSet knd h a (fun _ => false) 0 := by
  refine ⟨_, #[], 0, _, at_, ⟨rfl, rfl, rfl⟩, rfl, fun p hp => ?_, .nil, fun k => ?_, by decide, rfl, rfl, .nil, hl⟩
  · cases hp
  · constructor
    · intro z; cases z
    · rintro ⟨p, hp, _⟩; cases hp
end
end M
end

section
set_option Elab.async false
set_option linter.all false
set_option maxRecDepth 100000
set_option maxHeartbeats 4000000
/-! set(list of keys), sorted(set of texts), as rules -/
namespace M
open PySem PySem.Spec PyProof.Rows L2
section
variable {κ : Type} [DecidableEq κ] {P : Program} {w : World} {knd : PySem.KeyKind P w κ} {A : Around} {E : Value → Shared → Prop} {s : Shared}
/-- the loop that puts the items of a list into a set -/
theorem oset_loop {it a : Addr} {fp wr : List Addr} {G : Array GenState → Array GenState → Prop} {m : Nat} {Pv : Nat → Value → Prop} {St : Nat → Shared → Prop} {R : Result → Shared → Prop}
    (W : WalksS P w A.in1 it fp wr G m Pv St) (na : a ∉ fp) (ks : List κ) (len : m = ks.length) (few : m < 1000) (val : ∀ i v, Pv i v → ∃ k, ks[i]? = some k ∧ knd.is k v = true ∧ v.scannable = true) :
    ∀ (left i : Nat) (s : Shared), m - i = left → i ≤ m → St i s → (∃ n, n ≤ i ∧ OSet knd s.heap a (fun k => decide (k ∈ ks.take i)) n) →
      (∀ s' n, Moved (a :: wr) G s s' → n ≤ m → OSet knd s'.heap a (fun k => decide (k ∈ ks)) n → R (.ok (.ret .none)) s') →
      codeAny (model P w) A (.builtin "set.update.loop" ⟨[.ref a, .ref it], []⟩) R s := by
  have nw : a ∉ wr := fun z => na (W.sub _ z)
  have more : ∀ b ∈ wr, b ∈ a :: wr := fun b z => List.mem_cons_of_mem _ z
  intro left
  induction left with
  | zero =>
    intro i s e le st ⟨n, ni, S0⟩ out
    obtain rfl : i = m := by omega
    refine codeAny_builtin PyProof.Rows.F.entry_set_update_loop (by
      rw [Around.under_plainId PyProof.Rows.F.plain_set_update_loop _]
      show wpAny _ A.in1 (pyNext (.ref it) >>= _) _ _ s
      refine wpAny_bind (W.done s _ _ st fun s' mv => ?_)
      show wpAny _ A.in1 (ret Value.none) _ _ s'
      refine wpAny_pure (out s' n (mv.mono more) ni ((S0.keep fun u z => mv.heap a u nw z).alike (fun k => ?_) rfl))
      rw [len, List.take_length])
  | succ left ih =>
    intro i s e le st ⟨n, ni, S0⟩ out
    have lt : i < m := by omega
    refine codeAny_builtin PyProof.Rows.F.entry_set_update_loop (by
      rw [Around.under_plainId PyProof.Rows.F.plain_set_update_loop _]
      show wpAny _ A.in1 (pyNext (.ref it) >>= _) _ _ s
      refine wpAny_bind (W.item i s _ _ lt st fun v s' pv st' mv => ?_)
      obtain ⟨k, hk, ki, ks2⟩ := val i v pv
      have S1 := S0.keep fun u z => mv.heap a u nw z
      show wpAny _ A.in1 (holding [v] (setAdd a v) >>= _) _ _ s'
      refine wpAny_bind (wpAny_holding ?_)
      unfold setAdd
      refine wpAny_holding (wpAny_bind (knd.pyHash ki ?_))
      refine oset_put (s := { s' with toks := s'.toks + 1 }) ki ks2 S1 (by unfold scanBound; omega) fun hp sb S2 => ?_
      have nx : ks.take (i + 1) = ks.take i ++ [k] := by rw [List.take_succ, hk]; rfl
      have S3 : ∃ n', n' ≤ i + 1 ∧ OSet knd hp a (fun j => decide (j ∈ ks.take (i + 1))) n' := ⟨_, (by split <;> omega), S2.alike (fun j => by
        rw [nx]
        simp only [List.mem_append, List.mem_singleton, Bool.decide_or]) rfl⟩
      refine wpAny_pure ⟨plainId_quiet PyProof.Rows.F.plain_set_update_loop _, ih (i + 1) _ (by omega) lt (W.frame _ s' _ _ st' (Nat.le_succ _) fun b hb u z => ?_) S3 fun s'' n'' mv2 le2 S4 => ?_⟩
      · rw [sb.2 b fun y : b = a => na (y ▸ hb)]; exact z
      · refine out s'' n'' (Moved.trans W.gtrans ((mv.mono more).then_heap (Nat.le_succ _) fun b u nb z => ?_) mv2) le2 S4
        rw [sb.2 b fun y : b = a => nb (y ▸ List.mem_cons_self)]; exact z)
/-- the set object that set() and set(xs) begin with -/
abbrev bareSet (w : World) : Obj := { cls := .type "set", dict := none, data := .set #[] 0 (.fresh 0 0 (!w.params.followText "set-order")) }
theorem led_bare (w : World) : w.params.followText "set-order" = true ∨ (!w.params.followText "set-order") = true := by cases w.params.followText "set-order" <;> simp
/-- set(xs), xs a list of keys -/
theorem call_oset {l : Addr} {items : Array Value} {ks : List κ} {Q : Value → Shared → Prop} (calm : A.handled = none) (hl : s.heap.IsList l items) (len : items.size = ks.length) (few : ks.length < 1000)
    (val : ∀ (i : Nat) (v : Value), items[i]? = some v → ∃ k, ks[i]? = some k ∧ knd.is k v = true ∧ v.scannable = true)
    (fin : ∀ (hp : Heap) (tk : Nat) (n : Nat), n ≤ ks.length → OSet knd hp s.heap.objs.size (fun k => decide (k ∈ ks)) n → (∀ b u, s.heap.get? b = some u → hp.get? b = some u) → Q (.ref s.heap.objs.size) { s with heap := hp, toks := tk }) :
    wpAny (model P w) A (call (.type "set") [.ref l]) Q E s := by
  have made := PySem.F.called_set.made
  have subs := PySem.F.called_set.sub
  obtain ⟨_, _, order⟩ := PySem.F.called_set.mro
  refine wpAny_call (codeAny_of_tree (by
    show wpAny _ _ (callAny (.type "set") _) _ _ _
    refine wpAny_pure ⟨Code.quiet_builtin _ (by decide +kernel), codeAny_builtin PySem.F.entry_type_call ?_⟩
    rw [Around.under_plain (weight_type_call_type "set" [.ref l] []) rfl]
    have t1 := PySem.F.called_set.notType
    have t2 := PySem.F.called_set.canCreate
    have t3 := PySem.F.typeCall_set_1 (.ref l)
    repeat (any_goals (first | assumption | wp_step))
    refine codeAny_mono (code_set_led1 (.ref l) (E := E) (Q₁ := fun x s1 => x = .ref s.heap.objs.size ∧ s1 = { s with heap := s.heap.push (bareSet w) }) ⟨rfl, rfl⟩) fun r s1 got => ?_
    cases r with
    | error e => exact got
    | ok fl =>
      cases fl with
      | ret x =>
        obtain ⟨rfl, rfl⟩ := got
        have seen : (s.heap.push (bareSet w)).get? s.heap.objs.size = some (bareSet w) := Heap.get?_push_size _ rfl
        have typ : Shared.TypeIs { s with heap := s.heap.push (bareSet w) } (.ref s.heap.objs.size) "set" := ⟨_, seen, rfl⟩
        have i1 := PySem.F.called_set.init.lookup
        have i2 := PySem.F.called_set.init.bind (.ref s.heap.objs.size)
        repeat (any_goals (first | assumption | wp_step))
        refine codeAny_mono (codeAny_call_builtin (R := wants (fun y s2 => y = .none ∧ ∃ hp tk n, s2 = { s with heap := hp, toks := tk } ∧ n ≤ ks.length ∧ OSet knd hp s.heap.objs.size (fun k => decide (k ∈ ks)) n ∧ ∀ b u, s.heap.get? b = some u → hp.get? b = some u) E)
          PySem.F.called_set.init.plain PySem.F.entry_set_init (check_set_init_1 typ ?_)) fun r2 s2 got2 => ?_
        · obtain ⟨ob, at_, cls, num, dat⟩ := hl
          obtain ⟨oc, od, ot, os⟩ := ob
          simp only at cls dat
          subst cls; subst dat
          have at1 : (s.heap.push (bareSet w)).get? l = some { cls := .type "list", dict := od, data := .seq items num, slots := os } := Heap.get?_push_of_some _ at_
          have u1 := PySem.F.sub_list_set
          have u2 := PySem.F.sub_list_frozenset
          have u3 : (Value.type "list" == Value.type "dict") = false := by decide
          have isl : (s.heap.push (bareSet w)).IsList l items := ⟨_, at1, rfl, num, rfl⟩
          unfold Builtin.«set.__init__» noKeywords Builtin.Frozenset.updateFrom
          generalize gen : pyIter = PI
          wp_walk
          subst gen
          refine wpAny_pyIter_list isl (wpAny_bind (wpAny_runValue ?_))
          have below : l < s.heap.objs.size := Heap.lt_size at_
          have calm3 : A.in1.in1.in1.handled = none := by simp [calm]
          have apart : l ≠ (s.heap.push (bareSet w)).objs.size := by rw [Heap.size_push]; exact Nat.ne_of_lt (Nat.lt_succ_of_lt below)
          have out : s.heap.objs.size ∉ [(s.heap.push (bareSet w)).objs.size, l] := by
            rw [Heap.size_push]
            intro z
            rcases List.mem_cons.mp z with z | z
            · exact Nat.ne_of_lt (Nat.lt_succ_self _) z
            · exact Nat.ne_of_gt below (List.mem_singleton.mp z)
          refine oset_loop (knd := knd) ((Walks.list calm3 _ l apart items).toS) out ks len (by omega) val (items.size - 0) 0 _ (by omega) (Nat.zero_le _)
            ⟨⟨_, Heap.get?_push_size _ rfl, rfl, rfl⟩, (isl.push _)⟩ ⟨0, Nat.le_refl _, (oset_fresh knd (led_bare w) (Heap.get?_push_of_some _ seen)).alike (fun k => by simp) rfl⟩ fun s3 n mv le S3 => ?_
          obtain ⟨hp, g3, d3, tk, os3⟩ := s3
          have g0 : g3 = s.gens := mv.gens
          have d0 : d3 = s.drawn := mv.drawn
          have o0 : os3 = s.os := mv.os
          subst g0; subst d0; subst o0
          show wpAny _ _ _ _ _ _
          refine wpAny_pure (by
            show wpAny _ _ (ret Value.none) _ _ _
            refine wpAny_pure ⟨rfl, hp, tk, n, rfl, by omega, S3, fun b u z => ?_⟩
            have lb := Heap.lt_size z
            refine mv.heap b u ?_ (Heap.get?_push_of_some _ (Heap.get?_push_of_some _ z))
            rw [Heap.size_push]
            intro y
            rcases List.mem_cons.mp y with y | y
            · exact Nat.ne_of_lt lb y
            · exact Nat.ne_of_lt (Nat.lt_succ_of_lt lb) (List.mem_singleton.mp y))
        · cases r2 with
          | error e => exact got2
          | ok fl2 =>
            cases fl2 with
            | ret y =>
              obtain ⟨rfl, hp, tk, n, rfl, le, S3, old⟩ := got2
              repeat (any_goals (first | assumption | wp_step))
              exact fin _ _ _ le S3 old
            | _ => exact got2.elim
      | _ => exact got.elim))
end
end M
end

section
set_option Elab.async false
set_option linter.all false
set_option maxRecDepth 100000
set_option maxHeartbeats 2000000
/-! sorted(set of texts); the rules -/
namespace M
open PySem PySem.Spec L2
open PyProof.Rows hiding St
theorem str_is {P : Program} {w : World} {k : Str} {v : Value} (h : (PySem.strKind P w).is k v = true) : (∃ t, v = .str k t) ∧ PyProof.Rows.strOf v = k ∧ v.scannable = true := by
  obtain ⟨t, rfl⟩ := Value.isStrOf_shape h
  exact ⟨⟨t, rfl⟩, rfl, rfl⟩
/-- the texts of a set of texts, in some order -/
theorem oset_texts {P : Program} {w : World} {h : Heap} {a : Addr} {S : Str → Bool} {n : Nat} (R : OSet (PySem.strKind P w) h a S n) :
    ∃ ob rows age tab, h.get? a = some ob ∧ ob.cls = .type "set" ∧ ob.data = .set rows age tab ∧ rows.size < scanBound ∧ tab.fits rows.size = true ∧ Ris tab.place.toList ∧ (w.params.followText "set-order" = true ∨ tab.led = true) ∧
      (∀ v ∈ rows.toList.map (·.2), ∃ x t, v = .str x t) ∧ ((rows.toList.map (·.2)).map PyProof.Rows.strOf).Nodup ∧ (∀ k, k ∈ (rows.toList.map (·.2)).map PyProof.Rows.strOf ↔ S k = true) ∧ rows.size = n := by
  rcases R with ⟨ob, rows, age, tab, at_, ex, dat, el, ap, me, few, fit, cnt, ris, led⟩
  refine ⟨ob, rows, age, tab, at_, ex.1, dat, few, fit, ris, led, fun v hv => ?_, ?_, fun k => ?_, cnt⟩
  · obtain ⟨p, hp, rfl⟩ := List.mem_map.mp hv
    obtain ⟨k, hk, _⟩ := (el p hp).1
    obtain ⟨⟨t, e⟩, _⟩ := str_is hk
    exact ⟨k, t, e⟩
  · rw [List.map_map]
    refine List.pairwise_map.mpr (List.Pairwise.imp_of_mem (fun {p q} hp hq x e => ?_) ap)
    obtain ⟨k, hk, _⟩ := (el p hp).1
    obtain ⟨j, hj, _⟩ := (el q hq).1
    have e1 : PyProof.Rows.strOf p.2 = PyProof.Rows.strOf q.2 := e
    rw [(str_is hk).2.1, (str_is hj).2.1] at e1
    subst e1
    exact x k hk hj
  · rw [me k, List.map_map]
    constructor
    · intro z
      obtain ⟨p, hp, e⟩ := List.mem_map.mp z
      obtain ⟨j, hj, _⟩ := (el p hp).1
      have e1 : PyProof.Rows.strOf p.2 = k := e
      rw [(str_is hj).2.1] at e1
      subst e1
      exact ⟨p, hp, hj⟩
    · rintro ⟨p, hp, z⟩
      exact List.mem_map.mpr ⟨p, hp, (str_is z).2.1⟩
theorem nodup_le {α : Type} [DecidableEq α] : ∀ (l L : List α), l.Nodup → (∀ x ∈ l, x ∈ L) → l.length ≤ L.length
  | [], _, _, _ => Nat.zero_le _
  | x :: l, L, d, s => by
    obtain ⟨d1, d2⟩ := List.nodup_cons.mp d
    have hx : x ∈ L := s x List.mem_cons_self
    have q := nodup_le l (L.erase x) d2 fun y hy => (List.mem_erase_of_ne fun z : y = x => d1 (by rw [← z]; exact hy)).mpr (s y (List.mem_cons_of_mem _ hy))
    rw [List.length_erase_of_mem hx] at q
    have := List.length_pos_of_mem hx
    rw [List.length_cons]
    omega
theorem oset_count {P : Program} {w : World} {h : Heap} {a : Addr} {S : Str → Bool} {n : Nat} (R : OSet (PySem.strKind P w) h a S n) {L : List Str} (z : ∀ k, S k = true → k ∈ L) : n ≤ L.length := by
  obtain ⟨ob, rows, age, tab, _, _, _, _, _, _, _, _, nd, me, cnt⟩ := oset_texts R
  have q := nodup_le _ L nd fun x hx => z x ((me x).mp hx)
  rw [List.length_map, List.length_map, Array.length_toList, cnt] at q
  exact q
section
variable {P : Program} {w : World} {A : Around} {E : Value → Shared → Prop} {s : Shared} {a : Addr} {S : Str → Bool} {n : Nat}
theorem oset_sorted {Q : Value → Shared → Prop} (R : OSet (PySem.strKind P w) s.heap a S n) (calm : A.handled = none) (few : n < 64)
    (fin : ∀ (s' : Shared) (p : Addr) (out : Array Value) (c : Nat) (ss : List Str), (∀ b u, s.heap.get? b = some u → s'.heap.get? b = some u) → s'.gens = s.gens → s'.os = s.os → s.heap.objs.size ≤ p →
      s'.heap.get? p = some (seqObj "list" out c) → StrsAre out.toList ss → sortedS ss = true → ss.Nodup → (∀ k, k ∈ ss ↔ S k = true) → ss.length = n → Q (.ref p) s') :
    wpAny (model P w) A (call (.builtin "sorted") [.ref a]) Q E s := by
  obtain ⟨ob, rows, age, tab, at_, cls, dat, small, fit, ris, led, txs, nd, me, cnt⟩ := oset_texts R
  refine Calls.call_function_entry kind_sorted plain_sorted entry_sorted (args_sorted1 _) (by
    unfold Builtin.«sorted»
    refine wpAny_bind (m := checkCount "sorted" 1 1 _) (wpAny_pure (wpAny_bind (collect_set (A := A.in1) calm ⟨ob, at_, cls, dat⟩ fit small ris led fun s1 vs old grown gens os perm => ?_)))
    have len : vs.length = n := by rw [perm.length_eq, List.length_map, Array.length_toList]; exact cnt
    have all : StrsAre vs (vs.map PyProof.Rows.strOf) := PyProof.Rows.strsAre_map vs fun v hv => txs v (perm.mem_iff.mp hv)
    have pk := perm.map PyProof.Rows.strOf
    refine wpAny_bind (wpAny_newList ?_ (by rw [len, sizeLine_eq]; omega))
    have new : (s1.heap.push (seqObj "list" vs.toArray 0)).get? s1.heap.objs.size = some (seqObj "list" vs.toArray 0) := Heap.get?_push_size _ rfl
    refine wpAny_bind (wpAny_holding (wpAny_call_entry slot_list_sort ⟨_, new, rfl⟩ entry_list_sort (list_sort_treeK strKind_oneLt new all.keysOf (fun v1 v2 rest e => keyKind_strs (e ▸ all)) (by rw [len]; exact few) fun st hp hs => ⟨_, rfl, ?_⟩) (args_list_sort _)))
    obtain ⟨ss, s3, s4, s5⟩ := sorted_out_str all hp hs
    obtain ⟨c, at2⟩ := sortedHeap_at (vs := vs) (out := (arrOf st).map (·.2)) new
    have pp := s4.trans pk
    refine wpAny_pure ⟨_, rfl, fin _ s1.heap.objs.size _ c ss (fun b u z => ?_) gens os grown at2 s3 s5 (pp.nodup_iff.mpr nd) (fun k => by rw [pp.mem_iff, me k]) ?_⟩
    · have z1 := old b u z
      have lt := Heap.lt_size z1
      exact (sortedHeap_old (h := s1.heap.push (seqObj "list" vs.toArray 0)) (Nat.ne_of_lt lt) (by rw [size_push']; exact Nat.lt_succ_of_lt lt)).trans (Heap.get?_push_of_some _ z1)
    · rw [pp.length_eq, List.length_map, List.length_map, Array.length_toList]; exact cnt)
end
/-- the set of texts at a -/
def OsO (P : Program) (w : World) (a : Addr) (S : Str → Bool) : HO := .ext fun h => ∃ n, OSet (PySem.strKind P w) h a S n
section
variable {X : Cx}
theorem osO_new {P : Program} {w : World} {H : Hp} {h : Heap} {a : Addr} {S : Str → Bool} {n : Nat} (R : OSet (PySem.strKind P w) h a S n) : ObjOk P w H h a (OsO P w a S) := by
  have ⟨ob, _, _, _, at_, _⟩ := R
  exact ⟨⟨n, R⟩, ⟨ob, at_⟩, fun h1 h2 ⟨m, p⟩ z => ⟨m, p.keep z⟩⟩
theorem osO_get {pins : List (Addr × Obj)} {σ : St} {H : Hp} {s : Shared} {a : Addr} {S : Str → Bool} (I : Inv X pins σ H s) (ha : H a = some (OsO X.prog X.w a S)) : ∃ n, OSet (PySem.strKind X.prog X.w) s.heap a S n := (I.hok a _ ha).1
/-- set() -/
def rOset0 (P : Program) (w : World) : List V → Hp → VK → Prop := fun xs H Q => xs = [] ∧ ∀ p, H p = none → Q (.ref p) (upd H p (OsO P w p fun _ => false))
theorem cr_oset0 : CallR X (.type "set") (rOset0 X.prog X.w) := by
  intro pins s σ H xs us Q I r ⟨e, q⟩
  subst e
  cases r
  refine setR_new fun _ => ⟨.ref _, upd H s.heap.objs.size (OsO X.prog X.w s.heap.objs.size fun _ => false), ?_, rfl, q _ (I.hok.fresh (Nat.le_refl _))⟩
  exact I.laid (t' := s.toks) (fun b u z => Heap.get?_push_of_some _ z) (Nat.le_refl _) (osO_new (oset_fresh (PySem.strKind X.prog X.w) (led_bare X.w) (Heap.get?_push_size _ rfl)))
/-- set(xs), xs a list of texts -/
def rOsetL (K : PySem.W.Frag) (P : Program) (w : World) : List V → Hp → VK → Prop := fun xs H Q => ∃ (l : Addr) (ks : List Str), xs = [V.ref l] ∧ SqL K H l (ks.map V.str) ∧ ks.length < 1000 ∧ ∀ p, H p = none → Q (.ref p) (upd H p (OsO P w p fun k => decide (k ∈ ks)))
theorem cr_osetL (hc : X.calm = true) : CallR X (.type "set") (rOsetL X.K X.prog X.w) := by
  intro pins s σ H xs us Q I r ⟨l, ks, e, hl, few, q⟩
  subst e
  rw [Vals.ref1 r]
  obtain ⟨its, rv, pl, hz⟩ := I.list hl
  have all := rv.strs
  have hlen : its.length = ks.length := by rw [← rv.length, List.length_map]
  refine call_oset (knd := PySem.strKind X.prog X.w) (ks := ks) (I.ok.hd hc) pl.isList (by rw [List.size_toArray]; exact hlen) few (fun i v hv => ?_) fun hp tk n le R old => ?_
  · rw [List.getElem?_toArray] at hv
    have hi : i < its.length := (List.getElem?_eq_some_iff.mp hv).1
    obtain ⟨t, e⟩ := SS.strs_at all i v hv
    have hk : ks[i]? = some ks[i] := List.getElem?_eq_getElem (by omega)
    refine ⟨_, hk, ?_⟩
    rw [List.getD_eq_getElem?_getD, hk] at e
    subst e
    exact ⟨strKind_is _ _ _ _, rfl⟩
  · exact ⟨.ref s.heap.objs.size, upd H s.heap.objs.size (OsO X.prog X.w s.heap.objs.size fun k => decide (k ∈ ks)), I.laid (t' := tk) old (Nat.le_refl _) (osO_new R), rfl, q _ (I.hok.fresh (Nat.le_refl _))⟩
/-- found.add(k) -/
def rOadd (P : Program) (w : World) : V → List V → Hp → VK → Prop := fun x xs H Q => ∃ (a : Addr) (k : Str) (S : Str → Bool) (L : List Str), x = V.ref a ∧ xs = [V.str k] ∧ H a = some (OsO P w a S) ∧ (∀ j, S j = true → j ∈ L) ∧ L.length < 1000 ∧
  Q .non (upd H a (OsO P w a fun j => S j || decide (j = k)))
theorem mt_oadd : MtR X "set.add" (rOadd X.prog X.w) := by
  intro pins s σ H x xs v us Q I rx rxs ⟨a, k, S, L, e1, e2, ha, sub, few, q⟩
  subst e1; subst e2
  cases rx
  cases rxs with
  | cons ry rt =>
    cases rt
    obtain ⟨t, rfl⟩ := ry
    obtain ⟨n, R⟩ := osO_get I ha
    have := oset_count R sub
    refine oset_add (strKind_is _ _ _ _) rfl R (by unfold scanBound; omega) fun hp sb R2 => ⟨.non, upd H a (OsO X.prog X.w a fun j => S j || decide (j = k)), ?_, rfl, q⟩
    have ⟨ob, _, _, _, at_, _⟩ := R2
    exact I.write (e := a) (t' := s.toks + 1) (by rw [ha]; trivial) (.inl rfl) (fun b u hb hu => (sb.2 b hb).trans hu) ⟨ob, at_⟩ (osO_new R2)
def tOadd (P : Program) (w : World) (to : TE) (t : TA) : TE := fun σ H Q => to σ H fun x H1 => (∃ a S, x = V.ref a ∧ H1 a = some (OsO P w a S)) ∧ t σ H1 fun xs H2 => rOadd P w x xs H2 Q
variable {o e : Expr} {es : List Expr} {to : TE} {t : TA} {apos cpos : Pos}
theorem pe_oadd (ho : PE X o to) (ha : PA X (e :: es) t) (b1 : attributeBase o "add" X.env (eval o X.env) = eval o X.env := by rfl)
    (b2 : ((backTo cpos (starEach (e :: es) X.env)).all (fun x => !x.1) && (backToKw cpos (keywordEach [] X.env)).all (fun x => x.1.isSome) && decide ((e :: es).length + ([] : List Keyword).length + (if ([] : List Keyword).isEmpty then 0 else 1) < 30)) = true := by rfl)
    (b3 : (apos.endLine == cpos.line) = true := by rfl) (b4 : starEach (e :: es) X.env = (false, eval e X.env) :: starEach es X.env := by rfl) (b5 : (backTo cpos (starEach es X.env)).any (·.1) = false := by rfl) :
    PE X (.Call (.Attribute o "add" apos) (e :: es) [] cpos) (tOadd X.prog X.w to t) := by
  refine ⟨fun pins s σ H Q I h => wpAny_Call_method_late b1 b2 b3 rfl (thn (ho.run pins s σ H _ I h) fun v s1 ⟨x, H1, I1, r1, ty, q1⟩ => ?_)⟩
  obtain ⟨a, S, rfl, hka⟩ := ty
  obtain ⟨n, R⟩ := osO_get I1 hka
  cases r1
  have sp := R.plain
  refine ⟨"set", "set.add", F.plainAttrs_set, F.slot_set_add, F.type_set_add, sp.typeIs, sp.noDict, ?_⟩
  have hA := ha.run cpos pins s1 σ H1 _ I1 q1
  rw [b4] at hA ⊢
  exact Calls.callWith_builtin (by show (false || (backTo cpos (starEach es X.env)).any (·.1)) = false; rw [b5] <;> rfl) (Calls.evalArgs_plain (thn hA fun us s2 ⟨vs, H2, I2, r2, q2⟩ => mt_oadd pins s2 σ H2 (.ref a) vs (.ref a) us Q I2 rfl r2 q2))
/-- sorted(found) -/
def rOsorted (P : Program) (w : World) : List V → Hp → VK → Prop := fun xs H Q => ∃ (a : Addr) (S : Str → Bool) (L : List Str), xs = [V.ref a] ∧ H a = some (OsO P w a S) ∧ (∀ j, S j = true → j ∈ L) ∧ L.length < 64 ∧
  ∀ (ss : List Str) (p : Addr), sortedS ss = true → ss.Nodup → (∀ k, k ∈ ss ↔ S k = true) → H p = none → Q (.ref p) (upd H p (.lst (ss.map V.str)))
theorem cr_osorted (hc : X.calm = true) : CallR X (.builtin "sorted") (rOsorted X.prog X.w) := by
  intro pins s σ H xs us Q I r ⟨a, S, L, e, ha, sub, few, q⟩
  subst e
  rw [Vals.ref1 r]
  obtain ⟨n, R⟩ := osO_get I ha
  have cn := oset_count R sub
  refine oset_sorted R (I.ok.hd hc) (by omega) fun s' p out c ss old gens os above at_ txs sor nd me len => ?_
  have fresh : H p = none := I.hok.fresh above
  have size : (ss.map V.str).length ≤ sizeLine := by rw [List.length_map, len, sizeLine_eq]; omega
  have J : Inv X pins σ (upd H p (.lst (ss.map V.str))) { s with heap := s'.heap, gens := s'.gens, drawn := s'.drawn, toks := s'.toks } :=
    I.call (ch := []) (Un.laid old above fresh) (I.hok.laid old above ⟨size, out.toList, c, vals_of_strs txs, at_⟩) (by rw [gens]; exact I.bare) fun _ z => nomatch z
  have same : s' = { s with heap := s'.heap, gens := s'.gens, drawn := s'.drawn, toks := s'.toks } := by cases s'; cases s; cases os; rfl
  rw [same]
  exact ⟨.ref p, _, J, rfl, q ss p sor nd me fresh⟩
end
end M
end

section
set_option Elab.async false
set_option linter.all false
set_option maxRecDepth 100000
/-! letters, depths and turned questions by the law's own words -/
namespace M
open PySem L2 Evl
open PyProof.Rows hiding St
/-- the letter of a part, as a text -/
def Qn.own : Qn → List Str
  | .some _ c _ => [⟨#[c]⟩]
  | _ => []
/-- all letters of a question, in the sequence of its parts -/
def Qn.lets : Qn → List Str
  | .any => []
  | .no q => q.lets
  | .both a b => a.lets ++ b.lets
  | .some a c b => ⟨#[c]⟩ :: (a.lets ++ b.lets)
theorem Qn.lets_all : ∀ q : Qn, q.all.flatMap Qn.own = q.lets
  | .any => rfl
  | .no q => by rw [Qn.all, List.flatMap_cons, Qn.lets_all q]; rfl
  | .both a b => by rw [Qn.all, List.flatMap_cons, List.flatMap_append, Qn.lets_all a, Qn.lets_all b]; rfl
  | .some a c b => by rw [Qn.all, List.flatMap_cons, List.flatMap_append, Qn.lets_all a, Qn.lets_all b]; rfl
theorem Qn.lets_parts : ∀ q : Qn, q.lets.length ≤ q.parts
  | .any => Nat.zero_le _
  | .no q => by have := q.lets_parts; simp [Qn.lets, Qn.parts]; omega
  | .both a b => by have := a.lets_parts; have := b.lets_parts; simp [Qn.lets, Qn.parts]; omega
  | .some a c b => by have := a.lets_parts; have := b.lets_parts; simp [Qn.lets, Qn.parts]; omega
theorem Qn.turn_lets : ∀ (q : Qn) (z : Str), z ∈ q.turn.lets ↔ z ∈ q.lets
  | .any, z => Iff.rfl
  | .no q, z => q.turn_lets z
  | .both a b, z => by simp [Qn.turn, Qn.lets, a.turn_lets z, b.turn_lets z]
  | .some a c b, z => by simp [Qn.turn, Qn.lets, a.turn_lets z, b.turn_lets z, or_comm]
/-- the letters from a to z -/
def abc : List Str := (List.range 26).map fun i => ⟨#[97 + i]⟩
theorem mem_abc {c : Nat} (h : 97 ≤ c ∧ c ≤ 122) : (⟨#[c]⟩ : Str) ∈ abc := List.mem_map.mpr ⟨c - 97, List.mem_range.mpr (by omega), by rw [show 97 + (c - 97) = c by omega]⟩
theorem Qn.lets_abc : ∀ {q : Qn}, q.Ok → ∀ z ∈ q.lets, z ∈ abc
  | .any, _, z, hz => by cases hz
  | .no q, h, z, hz => Qn.lets_abc (q := q) h z hz
  | .both a b, h, z, hz => by
    rcases List.mem_append.mp hz with y | y
    · exact Qn.lets_abc h.1 z y
    · exact Qn.lets_abc h.2 z y
  | .some a c b, h, z, hz => by
    rcases List.mem_cons.mp hz with y | y
    · rw [y]; exact mem_abc h.2.1
    · rcases List.mem_append.mp y with y | y
      · exact Qn.lets_abc h.1 z y
      · exact Qn.lets_abc h.2.2 z y
/-- the sorted list of the texts of a list without repeats -/
def Srt (ss : List Str) (l : List Str) : Prop := sortedS ss = true ∧ ss.Nodup ∧ ∀ k, k ∈ ss ↔ k ∈ l
def sp_letters_in (K : PySem.W.Frag) : Sp := fun vs H Q _ => ∃ (H0 : Hp) (v : V) (q : Qn), vs = [v] ∧ Ex H0 H ∧ Dp K H0 v q.d ∧ q.Ok ∧ q.parts ≤ 900 ∧
  ∀ (ss : List Str) (p : Addr) (H' : Hp), Srt ss q.lets → Ex H H' → H p = none → H' p = some (.lst (ss.map V.str)) → Q (.ref p) H'
end M
namespace M
open PySem L2 Evl
open PyProof.Rows hiding St
theorem Qn.hi_kids {q r : Qn} (h : r ∈ q.kids) : r.hi < q.hi := by
  cases q with
  | any => cases h
  | no a => simp [Qn.kids] at h; subst h; simp [Qn.hi]
  | both a b => simp [Qn.kids] at h; rcases h with rfl | rfl <;> simp [Qn.hi] <;> omega
  | some a c b => simp [Qn.kids] at h; rcases h with rfl | rfl <;> simp [Qn.hi] <;> omega
theorem Qn.hi_pos : ∀ q : Qn, 1 ≤ q.hi := fun q => by cases q <;> simp [Qn.hi]
/-- the law's own depth, to a height -/
def sp_deep (K : PySem.W.Frag) (n : Nat) : Sp := fun vs H Q _ => ∃ (H0 : Hp) (v : V) (q : Qn), vs = [v] ∧ Ex H0 H ∧ Da K H0 v q.d ∧ q.hi ≤ n ∧ ∀ H' : Hp, Ex H H' → Q (.int (q.deep : Nat)) H'
/-- the depth of a question of another kind than "some" -/
theorem Qn.deep_max {q : Qn} {m : Int} (hn : q.up = 0) (h1 : m ∈ (0 : Int) :: q.kids.map fun r => ((r.deep : Nat) : Int)) (h2 : ∀ y ∈ (0 : Int) :: q.kids.map fun r => ((r.deep : Nat) : Int), y ≤ m) : m = ((q.deep : Nat) : Int) := by
  cases q with
  | any => simp [Qn.kids] at h1; simp [h1, Qn.deep]
  | no a =>
    simp only [Qn.kids, List.map_cons, List.map_nil, List.mem_cons, List.not_mem_nil, or_false, forall_eq_or_imp, forall_eq] at h1 h2
    simp only [Qn.deep]
    omega
  | both a b =>
    simp only [Qn.kids, List.map_cons, List.map_nil, List.mem_cons, List.not_mem_nil, or_false, forall_eq_or_imp, forall_eq] at h1 h2
    simp only [Qn.deep]
    omega
  | some a c b => simp [Qn.up] at hn
end M
namespace M
open PySem L2 Evl
open PyProof.Rows hiding St
theorem Qn.up_cases : ∀ q : Qn, (∃ r c u, q = .some r c u) ∨ q.up = 0
  | .any => .inr rfl
  | .no _ => .inr rfl
  | .both _ _ => .inr rfl
  | .some r c u => .inl ⟨r, c, u, rfl⟩
theorem da_kids {K : PySem.W.Frag} {H : Hp} {v : V} {q : Qn} (h : Da K H v q.d) (hn : q.up = 0) : ∃ a ws, v = .ref a ∧ SqT K H a (.str q.word :: ws) ∧ Qs K H ws q.kids := by
  cases q with
  | any => obtain ⟨a, e, s⟩ := da_any h; exact ⟨a, _, e, s, .nil⟩
  | no r => obtain ⟨a, x, e, s, hx⟩ := da_no h; exact ⟨a, _, e, s, .cons hx .nil⟩
  | both r t => obtain ⟨a, x, y, e, s, hx, hy⟩ := da_both h; exact ⟨a, _, e, s, .cons hx (.cons hy .nil)⟩
  | some r c t => cases hn
theorem Qn.kids_few (q : Qn) : q.kids.length ≤ 2 := by cases q <;> simp [Qn.kids]
end M
namespace M
open PySem L2 Evl
open PyProof.Rows hiding St
def sp_about (K : PySem.W.Frag) (n : Nat) : Sp := fun vs H Q _ => ∃ (H0 : Hp) (v : V) (q : Qn), vs = [v] ∧ Ex H0 H ∧ Da K H0 v q.d ∧ q.hi ≤ n ∧
  ∀ (v' : V) (H1 H' : Hp), Ex H0 H1 → Ex H1 H' → Ex H H' → (∀ b, H b ≠ none → H0 b = none → H1 b = none) → Da K H1 v' q.turn.d → Q v' H'
theorem Ex.nn {H H' : Hp} (x : Ex H H') {b : Addr} (h : H b ≠ none) : H' b ≠ none := by
  cases e : H b with
  | none => exact absurd e h
  | some o => rw [x _ _ e]; exact fun z => nomatch z
theorem Qn.turn_d {q : Qn} (hn : q.up = 0) : q.turn.d = .tuple (.str q.word :: (q.kids.map Qn.turn).map Qn.d) := by
  cases q with
  | some a c b => cases hn
  | _ => rfl
end M
namespace M
open PySem L2 Evl
open PyProof.Rows hiding St
/-- what stands behind the word of a question: questions and a letter -/
def Qn.ext : Qn → List (Sum Qn Str)
  | .any => []
  | .no a => [.inl a]
  | .both a b => [.inl a, .inl b]
  | .some a c b => [.inl a, .inr ⟨#[c]⟩, .inl b]
def xd : Sum Qn Str → PyData
  | .inl q => q.d
  | .inr z => .str z
def xl : Sum Qn Str → List Str
  | .inl q => q.lets
  | .inr _ => []
theorem Qn.lets_ext (q : Qn) : q.lets = q.own ++ q.ext.flatMap xl := by cases q <;> simp [Qn.lets, Qn.own, Qn.ext, xl]
theorem Qn.ext_hi {q r : Qn} (h : Sum.inl r ∈ q.ext) : r.hi < q.hi ∧ r.lets.length ≤ q.parts := by
  have hp := r.lets_parts
  cases q with
  | any => cases h
  | no a =>
    simp [Qn.ext] at h
    subst h
    simp [Qn.hi, Qn.parts]
    omega
  | both a b =>
    simp [Qn.ext] at h
    rcases h with rfl | rfl <;> simp [Qn.hi, Qn.parts] <;> omega
  | some a c b =>
    simp [Qn.ext] at h
    rcases h with rfl | rfl <;> simp [Qn.hi, Qn.parts] <;> omega
theorem Qn.ext_few (q : Qn) : q.ext.length ≤ 3 := by cases q <;> simp [Qn.ext]
theorem da_ext {K : PySem.W.Frag} {H : Hp} {v : V} {q : Qn} (h : Da K H v q.d) : ∃ a ws, v = .ref a ∧ SqT K H a (.str q.word :: ws) ∧ Das K H ws (q.ext.map xd) ∧ (∀ r c u, q = .some r c u → ws[1]? = some (.str ⟨#[c]⟩)) := by
  cases q with
  | any => obtain ⟨a, e, s⟩ := da_any h; exact ⟨a, _, e, s, .nil, fun r c u z => nomatch z⟩
  | no r => obtain ⟨a, x, e, s, hx⟩ := da_no h; exact ⟨a, _, e, s, .cons hx .nil, fun r c u z => nomatch z⟩
  | both r t => obtain ⟨a, x, y, e, s, hx, hy⟩ := da_both h; exact ⟨a, _, e, s, .cons hx (.cons hy .nil), fun r c u z => nomatch z⟩
  | some r c t =>
    obtain ⟨a, x, y, e, s, hx, hy⟩ := da_some h
    exact ⟨a, _, e, s, .cons hx (.cons (.str _) (.cons hy .nil)), fun r' c' u z => by cases z; rfl⟩
def sp_letters (K : PySem.W.Frag) (n : Nat) : Sp := fun vs H Q _ => ∃ (H0 : Hp) (v : V) (q : Qn), vs = [v] ∧ Ex H0 H ∧ Da K H0 v q.d ∧ q.hi ≤ n ∧ q.parts ≤ 900 ∧
  ∀ (l : Addr) (H' : Hp), Ex H H' → H l = none → H' l = some (.lst (q.lets.map V.str)) → Q (.ref l) H'
theorem isTup_q (q : Qn) : tupB q.d = true := by cases q <;> rfl
theorem Qn.ext_parts {q r : Qn} (h : Sum.inl r ∈ q.ext) : r.parts ≤ q.parts := by
  cases q with
  | any => cases h
  | no a => simp [Qn.ext] at h; subst h; simp [Qn.parts]
  | both a b => simp [Qn.ext] at h; rcases h with rfl | rfl <;> simp [Qn.parts] <;> omega
  | some a c b => simp [Qn.ext] at h; rcases h with rfl | rfl <;> simp [Qn.parts] <;> omega
end M
end

section
set_option Elab.async false
set_option linter.all false
set_option maxRecDepth 100000
/-! questions and lists of letters as data that is compared and shown -/
namespace M
open PySem L2 Evl
open PyProof.Rows hiding St
theorem dp_q2 {K : PySem.W.Frag} {H : Hp} : ∀ {q : Qn} {v : V}, Da K H v q.d → Dp K H v q.d
  | .any, _, h => by
    obtain ⟨a, rfl, s⟩ := da_any h
    exact .tup s (.cons (.str _) .nil)
  | .no q, _, h => by
    obtain ⟨a, x, rfl, s, hx⟩ := da_no h
    exact .tup s (.cons (.str _) (.cons (dp_q2 hx) .nil))
  | .both q r, _, h => by
    obtain ⟨a, x, y, rfl, s, hx, hy⟩ := da_both h
    exact .tup s (.cons (.str _) (.cons (dp_q2 hx) (.cons (dp_q2 hy) .nil)))
  | .some q c r, _, h => by
    obtain ⟨a, x, y, rfl, s, hx, hy⟩ := da_some h
    exact .tup s (.cons (.str _) (.cons (dp_q2 hx) (.cons (.str _) (.cons (dp_q2 hy) .nil))))
theorem Qn.lay : ∀ {q : Qn}, q.Ok → q.d.canLay0 = true
  | .any, _ => by decide +kernel
  | .no q, h => by
    have := Qn.lay (q := q) h
    simp only [Qn.d, PyData.canLay0, PyData.canLayAll0, this]
    decide +kernel
  | .both a b, h => by
    have h1 := Qn.lay h.1
    have h2 := Qn.lay h.2
    simp only [Qn.d, PyData.canLay0, PyData.canLayAll0, h1, h2]
    decide +kernel
  | .some a c b, h => by
    have h1 := Qn.lay h.1
    have h2 := Qn.lay h.2.2
    have h3 : PyData.strOk ⟨#[c]⟩ = true := by
      have := h.2.1.2
      show (#[c].all fun x => decide (x < 0x110000)) = true
      simp
      omega
    simp only [Qn.d, PyData.canLay0, PyData.canLayAll0, h1, h2, h3]
    decide +kernel
theorem Qn.high : ∀ q : Qn, q.d.depth = q.hi
  | .any => by simp [Qn.d, PyData.depth, PyData.depthAll, Qn.hi]
  | .no q => by simp [Qn.d, PyData.depth, PyData.depthAll, Qn.hi, Qn.high q]
  | .both a b => by simp [Qn.d, PyData.depth, PyData.depthAll, Qn.hi, Qn.high a, Qn.high b]
  | .some a c b => by simp [Qn.d, PyData.depth, PyData.depthAll, Qn.hi, Qn.high a, Qn.high b]
theorem Qn.turn_hi : ∀ q : Qn, q.turn.hi = q.hi
  | .any => rfl
  | .no q => by simp [Qn.turn, Qn.hi, Qn.turn_hi q]
  | .both a b => by simp [Qn.turn, Qn.hi, Qn.turn_hi a, Qn.turn_hi b]
  | .some a c b => by simp [Qn.turn, Qn.hi, Qn.turn_hi a, Qn.turn_hi b, Nat.max_comm]
theorem Qn.shp {q : Qn} (h : q.Ok) (h2 : q.hi ≤ 64) : SeqAt.shaped q.d = true := by
  unfold SeqAt.shaped
  rw [Qn.lay h, Qn.high]
  simpa using h2
theorem Qn.same {q : Qn} (h : q.Ok) : PyData.eqv q.d q.d = true := SeqAt.eqv_refl _ (Qn.lay h)
/-! ### sorted lists without repeats are determined by their members -/
theorem rising_pair : ∀ (p : Str) (l : List Str), risingS p l = true → l.Nodup → p ∉ l → ∀ x ∈ l, p.cps.toList < x.cps.toList := by
  intro p l
  induction l generalizing p with
  | nil => intro _ _ _ x hx; cases hx
  | cons y l ih =>
    intro h nd np x hx
    have h' : (!Spec.ltCps y.cps.toList p.cps.toList && risingS y l) = true := h
    rw [Bool.and_eq_true, ltCps_eq] at h'
    obtain ⟨n1, n2⟩ := List.nodup_cons.mp nd
    have le : ¬ y.cps.toList < p.cps.toList := by simpa using h'.1
    have ne : p ≠ y := fun z => np (z ▸ List.mem_cons_self)
    have lt : p.cps.toList < y.cps.toList := by
      rcases Std.lt_trichotomy p.cps.toList y.cps.toList with z | z | z
      · exact z
      · exact absurd (by cases p; cases y; congr; exact Array.toList_inj.mp z) ne
      · exact absurd z le
    rcases List.mem_cons.mp hx with rfl | z
    · exact lt
    · exact List.lt_trans lt (ih y h'.2 n2 n1 x z)
theorem srt_head {p : Str} {l : List Str} (h : sortedS (p :: l) = true) (nd : (p :: l).Nodup) : sortedS l = true ∧ l.Nodup ∧ p ∉ l ∧ ∀ x ∈ l, p.cps.toList < x.cps.toList := by
  obtain ⟨n1, n2⟩ := List.nodup_cons.mp nd
  refine ⟨?_, n2, n1, rising_pair p l h n2 n1⟩
  cases l with
  | nil => rfl
  | cons y l =>
    have h' : (!Spec.ltCps y.cps.toList p.cps.toList && risingS y l) = true := h
    rw [Bool.and_eq_true] at h'
    exact h'.2
theorem srt_one : ∀ (a b : List Str), sortedS a = true → a.Nodup → sortedS b = true → b.Nodup → (∀ x, x ∈ a ↔ x ∈ b) → a = b
  | [], [], _, _, _, _, _ => rfl
  | [], y :: b, _, _, _, _, h => absurd ((h y).mpr List.mem_cons_self) (fun z => by cases z)
  | x :: a, [], _, _, _, _, h => absurd ((h x).mp List.mem_cons_self) (fun z => by cases z)
  | x :: a, y :: b, s1, n1, s2, n2, h => by
    obtain ⟨p1, p2, p3, p4⟩ := srt_head s1 n1
    obtain ⟨q1, q2, q3, q4⟩ := srt_head s2 n2
    have e : x = y := by
      rcases List.mem_cons.mp ((h x).mp List.mem_cons_self) with z | z
      · exact z
      · rcases List.mem_cons.mp ((h y).mpr List.mem_cons_self) with z2 | z2
        · exact z2.symm
        · exact absurd (List.lt_trans (q4 x z) (p4 y z2)) (List.lt_irrefl _)
    subst e
    rw [srt_one a b p1 p2 q1 q2 fun u => ?_]
    constructor
    · intro hu
      rcases List.mem_cons.mp ((h u).mp (List.mem_cons_of_mem _ hu)) with z | z
      · exact absurd (z ▸ hu) p3
      · exact z
    · intro hu
      rcases List.mem_cons.mp ((h u).mpr (List.mem_cons_of_mem _ hu)) with z | z
      · exact absurd (z ▸ hu) q3
      · exact z
theorem Srt.one {a b l m : List Str} (h1 : Srt a l) (h2 : Srt b m) (e : ∀ z, z ∈ l ↔ z ∈ m) : a = b := srt_one a b h1.1 h1.2.1 h2.1 h2.2.1 fun x => by rw [h1.2.2, h2.2.2, e]
theorem Srt.few {a l : List Str} (h : Srt a l) (s : ∀ z ∈ l, z ∈ abc) : a.length ≤ 26 := nodup_le a abc h.2.1 fun x hx => s x ((h.2.2 x).mp hx)
end M
namespace M
open PySem L2 Evl
open PyProof.Rows hiding St
def sp_fits : Sp := fun vs H Q _ => ∃ (H0 : Hp) (p : Addr) (m : Nat), vs = [.ref p] ∧ Pl H0 H p m ∧ m + 600 ≤ 2 ^ 20 ∧ ∀ H' : Hp, Pl H0 H' p (m + 600) → Q (.bl true) H'
theorem names4 {k : Int} (h0 : 0 ≤ k) (h4 : k < 4) : ∃ z : Str, atI [V.str "ab", V.str "a", V.str "abcdefghijklmnopqrstuvwxyz", V.str "xqz"] k = some (.str z) ∧ Names z := by
  have n1 : Names "ab" := ⟨by unfold Abc; decide +kernel, by decide +kernel, by decide +kernel⟩
  have n2 : Names "a" := ⟨by unfold Abc; decide +kernel, by decide +kernel, by decide +kernel⟩
  have n3 : Names "abcdefghijklmnopqrstuvwxyz" := ⟨by unfold Abc; decide +kernel, by decide +kernel, by decide +kernel⟩
  have n4 : Names "xqz" := ⟨by unfold Abc; decide +kernel, by decide +kernel, by decide +kernel⟩
  rcases (by omega : k = 0 ∨ k = 1 ∨ k = 2 ∨ k = 3) with rfl | rfl | rfl | rfl
  · exact ⟨_, rfl, n1⟩
  · exact ⟨_, rfl, n2⟩
  · exact ⟨_, rfl, n3⟩
  · exact ⟨_, rfl, n4⟩
end M
namespace M
open PySem L2 Evl
open PyProof.Rows hiding St
/-- data that repr shows -/
def Shw (d : PyData) : Prop := d.showable = true ∧ d.hasDict = false ∧ d.depth ≤ 50 ∧ d.shown.length ≤ sizeLine
def dd (n : Nat) : PyData := .list [.int n, .int n]
theorem shw_dd {n : Nat} (h : n ≤ 6) : Shw (dd n) := by
  rcases (by omega : n = 0 ∨ n = 1 ∨ n = 2 ∨ n = 3 ∨ n = 4 ∨ n = 5 ∨ n = 6) with rfl | rfl | rfl | rfl | rfl | rfl | rfl <;> exact ⟨by decide +kernel, by decide +kernel, by decide +kernel, by decide +kernel⟩
def dl (ss : List Str) : PyData := .list (ss.map PyData.str)
theorem dps (K : PySem.W.Frag) (H : Hp) : ∀ ss : List Str, DpAll K H (ss.map V.str) (ss.map PyData.str)
  | [] => .nil
  | s :: ss => .cons (.str s) (dps K H ss)
theorem dp_l {K : PySem.W.Frag} {H : Hp} {a : Addr} {ss : List Str} (h : H a = some (.lst (ss.map V.str))) : Dp K H (.ref a) (dl ss) := .lst (SqL.of h) (dps K H ss)
/-- short texts -/
def Sh (ss : List Str) : Prop := ss.length ≤ 26 ∧ ∀ z ∈ ss, ∃ c, z = ⟨#[c]⟩ ∧ 97 ≤ c ∧ c ≤ 122
theorem abc_sh {z : Str} (h : z ∈ abc) : ∃ c, z = ⟨#[c]⟩ ∧ 97 ≤ c ∧ c ≤ 122 := by
  obtain ⟨i, hi, rfl⟩ := List.mem_map.mp h
  have := List.mem_range.mp hi
  exact ⟨97 + i, rfl, by omega, by omega⟩
theorem Srt.sh {a l : List Str} (h : Srt a l) (s : ∀ z ∈ l, z ∈ abc) : Sh a := ⟨h.few s, fun z hz => abc_sh (s z ((h.2.2 z).mp hz))⟩
theorem sh_lay : ∀ {ss : List Str}, (∀ z ∈ ss, ∃ c, z = ⟨#[c]⟩ ∧ 97 ≤ c ∧ c ≤ 122) → PyData.canLayAll0 (ss.map PyData.str) = true ∧ PyData.depthAll (ss.map PyData.str) = 0 ∧ PyData.showableAll (ss.map PyData.str) = true ∧ PyData.hasDictAll (ss.map PyData.str) = false ∧
    PyData.leavesShortAll 8 (ss.map PyData.str) = true ∧ PyData.bulkAll (ss.map PyData.str) = 2 * ss.length
  | [], _ => ⟨rfl, rfl, rfl, rfl, rfl, rfl⟩
  | z :: ss, h => by
    obtain ⟨c, rfl, h1, h2⟩ := h z List.mem_cons_self
    obtain ⟨a1, a2, a3, a4, a5, a6⟩ := sh_lay fun y hy => h y (List.mem_cons_of_mem _ hy)
    have b1 : PyData.strOk ⟨#[c]⟩ = true := by
      show (#[c].all fun x => decide (x < 0x110000)) = true
      simp
      omega
    have b2 : PyData.leavesShort 8 (.str ⟨#[c]⟩) = true := by
      show ([c].all fun c => decide (c < 16 ^ 8)) = true
      simp
      omega
    refine ⟨?_, ?_, ?_, ?_, ?_, ?_⟩
    · simp only [List.map_cons, PyData.canLayAll0, PyData.canLay0, b1, a1]; rfl
    · simp only [List.map_cons, PyData.depthAll, PyData.depth, a2]; rfl
    · simp only [List.map_cons, PyData.showableAll, PyData.showable, a3]; rfl
    · simp only [List.map_cons, PyData.hasDictAll, PyData.hasDict, a4]; rfl
    · simp only [List.map_cons, PyData.leavesShortAll, b2, a5]; rfl
    · simp only [List.map_cons, PyData.bulkAll, PyData.bulk, a6, List.length_cons]
      simp
      omega
theorem sh_shp {ss : List Str} (h : Sh ss) : SeqAt.shaped (dl ss) = true ∧ PyData.eqv (dl ss) (dl ss) = true := by
  obtain ⟨a1, a2, _⟩ := sh_lay h.2
  have lay : (dl ss).canLay0 = true := by show PyData.canLay0 (.list _) = true; rw [PyData.canLay0]; exact a1
  refine ⟨?_, SeqAt.eqv_refl _ lay⟩
  unfold SeqAt.shaped
  rw [lay]
  show (true && decide (PyData.depth (.list _) ≤ 64)) = true
  rw [PyData.depth, a2]
  decide
theorem shw_ll {ss : List Str} (h : Sh ss) : Shw (.list [dl ss, dl ss]) := by
  obtain ⟨a1, a2, a3, a4, a5, a6⟩ := sh_lay h.2
  have few := h.1
  refine ⟨?_, ?_, ?_, ?_⟩
  · simp only [PyData.showable, PyData.showableAll, dl, a3]; rfl
  · simp only [PyData.hasDict, PyData.hasDictAll, dl, a4]; rfl
  · simp only [PyData.depth, PyData.depthAll, dl, a2]; decide
  · refine PyData.shown_fits_bulk (B := 8) (by decide) (by decide) ?_ ?_
    · simp only [PyData.leavesShort, PyData.leavesShortAll, dl, a5]; rfl
    · simp only [PyData.bulk, PyData.bulkAll, dl, a6]
      omega
end M
namespace M
open PySem L2 Evl
open PyProof.Rows hiding St
def sp_law (K : PySem.W.Frag) : Sp := fun vs H Q _ => ∃ (a : Addr) (ns : List Int), vs = [.ref a] ∧ SqL K H a (ns.map V.int) ∧ ns.length ≤ 63 ∧ ∀ H' : Hp, Q (.bl true) H'
end M
namespace M
open PySem L2 Evl
open PyProof.Rows hiding St
def entI (e : DictEntry) : Option (Str × Int) := match e.key, e.val with
  | .str x _, .int i _ => some (x, i)
  | _, _ => none
theorem kints_of {K : PySem.W.Frag} {w : World} {a : Addr} {es : Array DictEntry} {n : Nat} {kvs : List (Str × Int)} (l : K.lookup a = some ⟨.type "dict", none, .dict es n, #[]⟩) (hk : PySem.W.KeysLit w.params es.toList) (lo : (a == sysModules) = false)
    (hf : es.toList.map entI = kvs.map some) : KInts K w a (fun z => kvs.lookup z) := by
  refine ⟨es, n, ⟨l, hk, lo⟩, fun z => ?_⟩
  have e : PySem.W.nsIn K a z = (match es.toList.find? (·.key.isStr z) with
      | some e => some (some e.val)
      | none => if es.toList.any (·.refKey) then none else some none) := by
    unfold PySem.W.nsIn
    rw [l]
    rfl
  rw [e]
  clear e l hk
  generalize es.toList = L at *
  have key : ∀ (L : List DictEntry) (kvs : List (Str × Int)), L.map entI = kvs.map some → (L.any (·.refKey) = false) ∧ ((∃ i t e, kvs.lookup z = some i ∧ L.find? (·.key.isStr z) = some e ∧ e.val = .int i t) ∨ (kvs.lookup z = none ∧ L.find? (·.key.isStr z) = none)) := by
    intro L
    induction L with
    | nil =>
      intro kvs h
      cases kvs with
      | nil => exact ⟨rfl, .inr ⟨rfl, rfl⟩⟩
      | cons q r => cases h
    | cons en L ih =>
      intro kvs h
      cases kvs with
      | nil => cases h
      | cons q r =>
        rw [List.map_cons, List.map_cons] at h
        injection h with h1 h2
        obtain ⟨i1, i2⟩ := ih r h2
        unfold entI at h1
        split at h1
        · rename_i x t i u ek ev
          cases h1
          refine ⟨?_, ?_⟩
          · rw [List.any_cons, i1]
            simp [DictEntry.refKey, ek]
          · by_cases hz : x = z
            · subst hz
              refine .inl ⟨i, u, en, ?_, ?_, ev⟩
              · simp [List.lookup]
              · rw [List.find?_cons_of_pos]
                simp [ek, Value.isStr]
            · have nz : (z == x) = false := by simpa using fun y : z = x => hz y.symm
              have hl : List.lookup z ((x, i) :: r) = List.lookup z r := by simp [List.lookup, nz]
              have hfd : List.find? (fun e => e.key.isStr z) (en :: L) = List.find? (fun e => e.key.isStr z) L := by
                rw [List.find?_cons_of_neg]
                simp [ek, Value.isStr, hz]
              rw [hl, hfd]
              exact i2
        · cases h1
  obtain ⟨k1, k2⟩ := key L kvs hf
  rcases k2 with ⟨i, t, e, h1, h2, h3⟩ | ⟨h1, h2⟩
  · refine .inl ⟨i, t, h1, ?_⟩
    rw [h2, ← h3]
  · refine .inr ⟨h1, ?_⟩
    rw [h2, k1]
    rfl
end M
namespace M
open PySem L2 Evl
open PyProof.Rows hiding St
theorem kb_one {K : PySem.W.Frag} {fd : FuncData} {x : Str} (hb : ∀ (s : Shared) (u : Value), BindsTo s fd ⟨[], [(x, u)]⟩ [(x, u)]) :
    KBinds K fd [x] [x] (fun us ws => match us, ws with | [], [w0] => [w0] | _, _ => []) (fun us ws => match us, ws with | [], [w0] => [w0] | _, _ => []) := by
  refine ⟨fun s us ws _ hl => ?_, fun {vs us zs ws} r1 r2 => ?_⟩
  · rcases us with _ | ⟨u, us⟩
    · rcases ws with _ | ⟨w0, _ | ⟨w1, ws⟩⟩
      · exact nomatch hl
      · exact hb s w0
      · exact nomatch hl
    · exact nomatch hl
  · cases r1 with
    | nil =>
      cases r2 with
      | nil => exact .nil
      | cons a b =>
        cases b with
        | nil => exact .cons a .nil
        | cons c d => exact .nil
    | cons a b => exact .nil
end M
end

section
set_option Elab.async false
set_option linter.all false
set_option maxRecDepth 100000
/-! any value: shown, not among texts; what k11's judge needs -/
namespace M
open PySem L2 Evl
open PyProof.Rows hiding St
mutual
/-- no list in it -/
def lf : PyData → Bool
  | .list _ => false
  | .tuple ds => lfs ds
  | _ => true
def lfs : List PyData → Bool
  | [] => true
  | d :: ds => lf d && lfs ds
end
section
variable {X : Cx} {pins : List (Addr × Obj)} {σ : L2.St} {H : Hp} {s : Shared}
mutual
theorem Da.reads (I : Inv X pins σ H s) : ∀ (d : PyData) (v : V) (u : Value), Da X.K H v d → RelV v u → ∃ as, Reads s.heap u d as ∧ (lf d = true → sysModules ∉ as)
  | .none, _, _, h, r => by
    cases h
    cases r
    exact ⟨_, Reads.none, by simp⟩
  | .bool b, _, _, h, r => by
    cases h
    cases r
    exact ⟨_, Reads.bool b, by simp⟩
  | .int i, _, _, h, r => by
    cases h
    obtain ⟨t, rfl⟩ := r
    exact ⟨_, Reads.int i t, by simp⟩
  | .str x, _, _, h, r => by
    cases h
    obtain ⟨t, rfl⟩ := r
    exact ⟨_, Reads.str x t, by simp⟩
  | .list ds, _, _, h, r => by
    cases h with
    | lst hs ha =>
      cases r
      obtain ⟨its, rv, ⟨o, n, ho, hc, _, hd⟩, _⟩ := I.list hs
      obtain ⟨as, hr, hm⟩ := Da.readsAll I ds _ its ha rv
      exact ⟨_, Reads.list ho hc hd hr, fun z => nomatch z⟩
  | .tuple ds, _, _, h, r => by
    cases h with
    | tup hs ha =>
      cases r
      obtain ⟨its, rv, ⟨o, ho, hc, n, hd⟩, _⟩ := I.tuple hs
      obtain ⟨as, hr, hm⟩ := Da.readsAll I ds _ its ha rv
      exact ⟨_, Reads.tuple ho hc hd hr, hm⟩
  | .dict kvs, _, _, h, r => by
    cases h with
    | dct ha =>
      cases r
      rename_i ad
      obtain ⟨_, hns, vs, rel, o, es, ep, ho, hx, hd, he1, he, he3⟩ := I.hok _ _ ha
      cases rel
      have e0 : es.toList = [] := by
        generalize es.toList = l at he
        cases he
        rfl
      refine ⟨_, Reads.dict (as := []) (bs := []) ho hx.1 hd (by rw [e0]; exact .nil) (by rw [e0]; exact .nil), fun _ z => ?_⟩
      simp at z
      rw [← z] at hns
      simp at hns
theorem Da.readsAll (I : Inv X pins σ H s) : ∀ (ds : List PyData) (vs : List V) (us : List Value), Das X.K H vs ds → Vals vs us → ∃ as, ReadsAll s.heap us ds as ∧ (lfs ds = true → sysModules ∉ as)
  | [], _, _, h, r => by
    cases h
    cases r
    exact ⟨_, ReadsAll.nil, by simp⟩
  | d :: ds, _, _, h, r => by
    cases h with
    | cons h1 h2 =>
      cases r with
      | cons r1 r2 =>
        obtain ⟨as, q1, m1⟩ := Da.reads I d _ _ h1 r1
        obtain ⟨bs, q2, m2⟩ := Da.readsAll I ds _ _ h2 r2
        exact ⟨_, ReadsAll.cons q1 q2, fun l z => by
          rw [lfs, Bool.and_eq_true] at l
          exact (List.mem_append.mp z).elim (m1 l.1) (m2 l.2)⟩
end
end
/-! ### repr of any value -/
def rReprA (K : PySem.W.Frag) : List V → Hp → VK → Prop := fun xs H Q => ∃ x d, xs = [x] ∧ Da K H x d ∧ d.showable = true ∧ d.depth ≤ 50 ∧ d.shown.length ≤ sizeLine ∧ (!d.hasDict || lf d) = true ∧ Q (.str d.shown) H
theorem call_reprA {X : Cx} (hg : X.A.guards = some []) (hu : X.A.units + 64 < cLine) : CallR X (.builtin "repr") (rReprA X.K) := by
  intro pins s σ H vs us Q I r h
  obtain ⟨x, d, rfl, hd, hs, hp, hz, hl, q⟩ := h
  obtain ⟨u, rfl, ru⟩ := vals1 r
  obtain ⟨as, rd, hm0⟩ := Da.reads I d x u hd ru
  have hm : d.hasDict = true → sysModules ∉ as := fun z => hm0 (by rw [z] at hl; exact hl)
  have fin : ∀ t, EP X pins σ Q (.str d.shown t) { s with toks := s.toks + 1 } := fun t => ⟨.str _, H, I.tok _, ⟨_, rfl⟩, q⟩
  cases rd with
  | none => exact P.repr_of_none (fin _)
  | bool b => exact P.repr_of_bool (fin _)
  | int i t => exact P.repr_of_int (by simpa [PyData.showable] using hs) (fin _)
  | str z t => exact P.repr_of_str (fin _) hz
  | list h1 h2 h3 h4 =>
    refine repr_of_reads' (.list h1 h2 h3 h4) hs hm hg (by omega) (fun _ _ e => e) (fun h' t tk k => ?_) hz
    exact ⟨.str _, H, I.kept (t' := tk) k, ⟨_, rfl⟩, q⟩
  | tuple h1 h2 h3 h4 =>
    refine repr_of_reads' (.tuple h1 h2 h3 h4) hs hm hg (by omega) (fun _ _ e => e) (fun h' t tk k => ?_) hz
    exact ⟨.str _, H, I.kept (t' := tk) k, ⟨_, rfl⟩, q⟩
  | dict h1 h2 h3 h4 h5 =>
    refine repr_of_reads' (.dict h1 h2 h3 h4 h5) hs hm hg (by omega) (fun _ _ e => e) (fun h' t tk k => ?_) hz
    exact ⟨.str _, H, I.kept (t' := tk) k, ⟨_, rfl⟩, q⟩
/-! ### x not in (texts) -/
def inT : PyData → List Str → Bool
  | .str z, zs => zs.any fun y => y == z
  | _, _ => false
def dctB : PyData → Bool
  | .dict _ => true
  | _ => false
def rNotInT (K : PySem.W.Frag) : R2 := fun x y H Q => ∃ p zs d, y = .ref p ∧ SqT K H p (zs.map V.str) ∧ Da K H x d ∧ dctB d = false ∧ Q (.bl (!inT d zs)) H
theorem flats : ∀ zs : List Str, (zs.map V.str).all flatV = true
  | [] => rfl
  | z :: zs => by rw [List.map_cons, List.all_cons, flats zs]; rfl
theorem vals_strs : ∀ {zs : List Str} {us : List Value}, Vals (zs.map V.str) us → ∀ u ∈ us, ∃ z t, u = .str z t
  | [], _, .nil, u, hu => by cases hu
  | z :: zs, _, .cons r t, u, hu => by
    rcases List.mem_cons.mp hu with rfl | hu
    · obtain ⟨t, rfl⟩ := r; exact ⟨_, _, rfl⟩
    · exact vals_strs t u hu
theorem inV_none (x : V) (h : ∀ z : Str, eqV (.str z) x = false) : ∀ zs : List Str, inV x (zs.map V.str) = false
  | [] => rfl
  | z :: zs => by
    show (eqV (.str z) x || inV x (zs.map V.str)) = false
    rw [h, inV_none x h zs]; rfl
theorem inV_str (y : Str) : ∀ zs : List Str, inV (.str y) (zs.map V.str) = zs.any fun z => z == y
  | [] => rfl
  | z :: zs => by
    show (eqV (.str z) (.str y) || inV (.str y) (zs.map V.str)) = _
    rw [inV_str y zs, List.any_cons]; rfl
theorem u1 {n : Nat} (h : n + 64 < cLine) : n + 1 < cLine := by omega
theorem op_notInT {X : Cx} (hu' : X.A.units + 64 < cLine) : OpR X (compareOp .NotIn) (rNotInT X.K) := by
  have hu : X.A.in1.units < cLine := u1 hu'
  intro pins s σ H x y v u Q I rx ry h
  obtain ⟨p, zs, d, rfl, hq, hd, hn, q⟩ := h
  have fl : flatV x = true → inV x (zs.map V.str) = inT d zs → wpAny (model X.prog X.w) X.A (compareOp .NotIn v u) (EP X pins σ Q) X.xe s := fun f e =>
    op_notIn_seq pins s σ H x _ v u Q I rx ry ⟨p, _, rfl, .inr hq, f, flats zs, by rw [e]; exact q⟩
  have sq : (∀ w ∈ s.heap.objs.toList, True) → inT d zs = false → (∀ (z : Str) (t : Tok), SeqAt.EqAt X.A.in1 s (.str z t) v false) → wpAny (model X.prog X.w) X.A (compareOp .NotIn v u) (EP X pins σ Q) X.xe s := fun _ e f => by
    cases ry
    obtain ⟨its, r, pl, hz⟩ := I.tuple hq
    refine SeqAt.notIn_tupleAt (fun _ => false) pl (fun w hw => ?_) ⟨.bl _, H, I, rfl, ?_⟩
    · obtain ⟨z, t, rfl⟩ := vals_strs r w (by simpa using hw)
      exact f z t
    · rw [show its.toArray.any (fun _ => false) = false by simp, ← e]
      exact q
  cases hd with
  | non => exact fl rfl (inV_none _ (fun _ => rfl) zs)
  | bl b => exact fl rfl (inV_none _ (fun _ => rfl) zs)
  | int i => exact fl rfl (inV_none _ (fun _ => rfl) zs)
  | str z => exact fl rfl (inV_str z zs)
  | dct a => cases hn
  | lst hs _ =>
    cases rx
    obtain ⟨its, r, pl, hz⟩ := I.list hs
    exact sq (fun _ _ => trivial) rfl fun z t => SeqAt.EqAt.str_list z t pl.isList hu
  | tup hs _ =>
    cases rx
    obtain ⟨its, r, pl, hz⟩ := I.tuple hs
    exact sq (fun _ _ => trivial) rfl fun z t => SeqAt.EqAt.str_tuple z t pl hu
end M
end

section
set_option Elab.async false
set_option linter.all false
set_option maxRecDepth 100000
/-! displays of data, walked in one step; what a value must be to be judged and shown -/
namespace M
open PySem L2 Evl
open PyProof.Rows hiding St
section
variable {X : Cx} {e : Expr} {es : List Expr} {t t' : TE} {ta ta' : TA}
theorem pe_weak (h : PE X e t) (w : ∀ σ H Q, t' σ H Q → t σ H Q) : PE X e t' := ⟨fun pins s σ H Q I q => h.run pins s σ H Q I (w σ H Q q)⟩
theorem pa_weak (h : PA X es ta) (w : ∀ σ H Q, ta' σ H Q → ta σ H Q) : PA X es ta' := ⟨fun pos pins s σ H Q I q => h.run pos pins s σ H Q I (w σ H Q q)⟩
end
/-- an expression that makes data and leaves the pool: S tells what the names hold, c what is known of them -/
def tD {γ : Type} (K : PySem.W.Frag) (S : γ → L2.St → Hp → Prop) (d : γ → PyData) : TE := fun σ H Q => ∃ (c : γ) (B : Hp) (p : Addr) (m : Nat), Pl B H p m ∧ S c σ B ∧ ∀ v B' H', Ex B B' → Pl B' H' p m → Da K B' v (d c) → Q v H'
def tDL {γ : Type} (K : PySem.W.Frag) (S : γ → L2.St → Hp → Prop) (ds : γ → List PyData) : TE := fun σ H Q => ∃ (c : γ) (B : Hp) (p : Addr) (m : Nat), Pl B H p m ∧ S c σ B ∧ ∀ a vs B' H', Ex B B' → Pl B' H' p m → B' a = some (.lst vs) → Das K B' vs (ds c) → Q (.ref a) H'
def tDs {γ : Type} (K : PySem.W.Frag) (S : γ → L2.St → Hp → Prop) (ds : γ → List PyData) : TA := fun σ H Q => ∃ (c : γ) (B : Hp) (p : Addr) (m : Nat), Pl B H p m ∧ S c σ B ∧ ∀ vs B' H', Ex B B' → Pl B' H' p m → Das K B' vs (ds c) → Q vs H'
def Up {γ : Type} (S : γ → L2.St → Hp → Prop) : Prop := ∀ c σ B B', Ex B B' → S c σ B → S c σ B'
section
variable {γ : Type} {X : Cx} {S : γ → L2.St → Hp → Prop} {d : γ → PyData} {ds : γ → List PyData} {e : Expr} {es : List Expr} {pos : Pos}
theorem pd_str {z : Str} {j} : PE X (.Constant (.str z) j pos) (tD X.K S fun _ => .str z) := pe_weak pe_str fun σ H Q ⟨c, B, p, m, hP, _, h⟩ => h _ B H (Ex.refl _) hP (.str z)
theorem pd_int {i : Int} {j} : PE X (.Constant (.int i) j pos) (tD X.K S fun _ => .int i) := pe_weak pe_int fun σ H Q ⟨c, B, p, m, hP, _, h⟩ => h _ B H (Ex.refl _) hP (.int i)
theorem pd_bl {b : Bool} {j} : PE X (.Constant (.bool b) j pos) (tD X.K S fun _ => .bool b) := pe_weak pe_bl fun σ H Q ⟨c, B, p, m, hP, _, h⟩ => h _ B H (Ex.refl _) hP (.bl b)
theorem pd_non {j} : PE X (.Constant .none j pos) (tD X.K S fun _ => .none) := pe_weak pe_non fun σ H Q ⟨c, B, p, m, hP, _, h⟩ => h _ B H (Ex.refl _) hP .non
theorem pd_tup {x1} (h : PA X es (tDs X.K S ds)) (hl : ∀ c, (ds c).length ≤ 1000 := by intro _; exact Nat.le_of_ble_eq_true rfl) : PE X (.Tuple es x1 pos) (tD X.K S fun c => .tuple (ds c)) :=
  pe_weak (pe_tup h) fun σ H Q ⟨c, B, p, m, hP, hs, k⟩ => ⟨c, B, p, m, hP, hs, fun vs B1 H1 x hP1 hd => ⟨by rw [hd.len]; exact Nat.le_trans (hl c) (by decide), fun a ha => by
    obtain ⟨hP2, x2, e2⟩ := hP1.new (o := .tup vs) ha
    exact k _ _ _ (x.trans x2) hP2 (.tup (st_of e2) (hd.up x2))⟩⟩
theorem pd_lst (h : PA X es (tDs X.K S ds)) (hl : ∀ c, (ds c).length ≤ 1000 := by intro _; exact Nat.le_of_ble_eq_true rfl) : PE X (.List es pos) (tD X.K S fun c => .list (ds c)) :=
  pe_weak (pe_lst h) fun σ H Q ⟨c, B, p, m, hP, hs, k⟩ => ⟨c, B, p, m, hP, hs, fun vs B1 H1 x hP1 hd => ⟨by rw [hd.len]; exact Nat.le_trans (hl c) (by decide), fun a ha => by
    obtain ⟨hP2, x2, e2⟩ := hP1.new (o := .lst vs) ha
    exact k _ _ _ (x.trans x2) hP2 (.lst (SqL.of e2) (hd.up x2))⟩⟩
theorem pd_lstL (h : PA X es (tDs X.K S ds)) (hl : ∀ c, (ds c).length ≤ 1000 := by intro _; exact Nat.le_of_ble_eq_true rfl) : PE X (.List es pos) (tDL X.K S ds) :=
  pe_weak (pe_lst h) fun σ H Q ⟨c, B, p, m, hP, hs, k⟩ => ⟨c, B, p, m, hP, hs, fun vs B1 H1 x hP1 hd => ⟨by rw [hd.len]; exact Nat.le_trans (hl c) (by decide), fun a ha => by
    obtain ⟨hP2, x2, e2⟩ := hP1.new (o := .lst vs) ha
    exact k _ _ _ _ (x.trans x2) hP2 e2 (hd.up x2)⟩⟩
theorem pd_dct : PE X (.Dict [] [] pos) (tD X.K S fun _ => .dict []) :=
  pe_weak pe_dnewK fun σ H Q ⟨c, B, p, m, hP, hs, k⟩ => fun a ha => by
    obtain ⟨hP2, x2, e2⟩ := hP.new (o := .dK []) ha
    exact k _ _ _ x2 hP2 (.dct e2)
theorem pd_nil : PA X [] (tDs X.K S fun _ => []) := pa_weak pa_nil fun σ H Q ⟨c, B, p, m, hP, _, k⟩ => k _ B H (Ex.refl _) hP .nil
theorem pd_cons (hS : Up S) (he : PE X e (tD X.K S d)) (hr : PA X es (tDs X.K S ds)) (hs : starEach (e :: es) X.env = (false, eval e X.env) :: starEach es X.env := by rfl) : PA X (e :: es) (tDs X.K S fun c => d c :: ds c) :=
  pa_weak (pa_cons he hr hs) fun σ H Q ⟨c, B, p, m, hP, hs, k⟩ => ⟨c, B, p, m, hP, hs, fun v B1 H1 x1 hP1 hv => ⟨c, B1, p, m, hP1, hS _ _ _ _ x1 hs, fun vs B2 H2 x2 hP2 hvs => k _ _ _ (x1.trans x2) hP2 (.cons (hv.up x2) hvs)⟩⟩
theorem pd_of {t : TE} (he : PE X e t) (h : ∀ σ H Q, tD X.K S d σ H Q → t σ H Q) : PE X e (tD X.K S d) := pe_weak he h
theorem pd_var {i : Nat} (he : PE X e (tVar i)) (h : ∀ c σ B, S c σ B → ∃ v, σ[i]? = some (some v) ∧ Da X.K B v (d c)) : PE X e (tD X.K S d) :=
  pe_weak he fun σ H Q ⟨c, B, p, m, hP, hs, k⟩ => by
    obtain ⟨v, e, hv⟩ := h c σ B hs
    exact ⟨v, e, k v B H (Ex.refl _) hP hv⟩
end
/-! ### what a value must be to be judged and shown -/
/-- a list and a dict are not both in it -/
def okr (d : PyData) : Bool := !d.hasDict || lf d
def hd0 : List PyData → Bool
  | .dict _ :: _ => false
  | _ => true
mutual
def hk : PyData → Bool
  | .tuple ds => hd0 ds && hks ds
  | _ => true
def hks : List PyData → Bool
  | [] => true
  | d :: ds => hk d && hks ds
end
theorem hks_mem : ∀ {ds : List PyData}, hks ds = true → ∀ d ∈ ds, hk d = true
  | _ :: _, h, _, hd => by
    rw [hks, Bool.and_eq_true] at h
    rcases List.mem_cons.mp hd with rfl | hd
    · exact h.1
    · exact hks_mem h.2 _ hd
theorem hk_q : ∀ q : Qn, hk q.d = true
  | .any => rfl
  | .no q => by simp only [Qn.d, hk, hks, hk_q q]; rfl
  | .both a b => by simp only [Qn.d, hk, hks, hk_q a, hk_q b]; rfl
  | .some a c b => by simp only [Qn.d, hk, hks, hk_q a, hk_q b]; rfl
structure Fit (n c : Nat) (d : PyData) : Prop where
  hk : M.hk d = true
  sm : M.sm d = true
  nds : M.nds d ≤ c
  dep : d.depth ≤ n
  shw : d.showable = true
  lv : PyData.leavesShort 8 d = true
  bk : d.bulk + 1 ≤ 20 * c
theorem q_shw : ∀ {q : Qn}, q.Ok → q.d.showable = true ∧ PyData.leavesShort 8 q.d = true ∧ q.d.bulk ≤ 40 * q.parts
  | .any, _ => ⟨rfl, rfl, by decide⟩
  | .no q, h => by
    obtain ⟨h1, h2, h3⟩ := q_shw (q := q) h
    have e1 : PyData.leavesShort 8 (.str "not") = true := rfl
    refine ⟨by simp only [Qn.d, PyData.showable, PyData.showableAll, h1]; rfl, by simp only [Qn.d, PyData.leavesShort, PyData.leavesShortAll, h2] at e1 ⊢; rw [e1]; rfl, ?_⟩
    have e2 : PyData.bulk (.str "not") ≤ 10 := by decide
    simp only [Qn.d, PyData.bulk, PyData.bulkAll, Qn.parts] at e2 ⊢
    omega
  | .both a b, h => by
    obtain ⟨h1, h2, h3⟩ := q_shw h.1
    obtain ⟨g1, g2, g3⟩ := q_shw h.2
    have e1 : PyData.leavesShort 8 (.str "both") = true := rfl
    refine ⟨by simp only [Qn.d, PyData.showable, PyData.showableAll, h1, g1]; rfl, by simp only [Qn.d, PyData.leavesShort, PyData.leavesShortAll, h2, g2] at e1 ⊢; rw [e1]; rfl, ?_⟩
    have e2 : PyData.bulk (.str "both") ≤ 10 := by decide
    simp only [Qn.d, PyData.bulk, PyData.bulkAll, Qn.parts] at e2 ⊢
    omega
  | .some a c b, h => by
    obtain ⟨h1, h2, h3⟩ := q_shw h.1
    obtain ⟨g1, g2, g3⟩ := q_shw h.2.2
    have e1 : PyData.leavesShort 8 (.str "some") = true := rfl
    have e3 : PyData.leavesShort 8 (.str ⟨#[c]⟩) = true := by
      have := h.2.1.2
      show ([c].all fun c => decide (c < 16 ^ 8)) = true
      simp
      omega
    refine ⟨by simp only [Qn.d, PyData.showable, PyData.showableAll, h1, g1]; rfl, by simp only [Qn.d, PyData.leavesShort, PyData.leavesShortAll, h2, g2] at e1 e3 ⊢; rw [e1, e3]; rfl, ?_⟩
    have e2 : PyData.bulk (.str "some") ≤ 10 := by decide
    have e4 : PyData.bulk (.str ⟨#[c]⟩) ≤ 10 := by simp [PyData.bulk]
    simp only [Qn.d, PyData.bulk, PyData.bulkAll, Qn.parts] at e2 e4 ⊢
    omega
theorem fit_q {q : Qn} (h : q.Ok) (hp : q.parts ≤ 40) : Fit 40 160 q.d := by
  obtain ⟨h1, h2, h3⟩ := q_shw h
  have h4 := nds_q q
  have h5 := q.hi_le
  exact ⟨hk_q q, sm_q q, by omega, by rw [Qn.high]; omega, h1, h2, by omega⟩
theorem Fit.shown {n c : Nat} {d : PyData} (h : Fit n c d) (hc : c ≤ 2000) : d.shown.length ≤ sizeLine :=
  PyData.shown_fits_bulk (B := 8) (by decide) (by decide) h.lv (by have := h.bk; omega)
theorem Fit.mono {n c n' c' : Nat} {d : PyData} (h : Fit n c d) (hn : n ≤ n') (hc : c ≤ c') : Fit n' c' d :=
  ⟨h.hk, h.sm, Nat.le_trans h.nds hc, Nat.le_trans h.dep hn, h.shw, h.lv, Nat.le_trans h.bk (Nat.mul_le_mul_left _ hc)⟩
/-! all of a list -/
structure Fits (n c : Nat) (ds : List PyData) : Prop where
  hk : M.hks ds = true
  sm : M.sms ds = true
  nds : M.ndss ds ≤ c
  dep : PyData.depthAll ds ≤ n
  shw : PyData.showableAll ds = true
  lv : PyData.leavesShortAll 8 ds = true
  bk : PyData.bulkAll ds ≤ 20 * c
theorem Fits.nil {n : Nat} : Fits n 0 [] := ⟨rfl, rfl, Nat.le_refl _, Nat.zero_le _, rfl, rfl, Nat.le_refl _⟩
theorem Fits.cons {n c c' : Nat} {d : PyData} {ds : List PyData} (h : Fit n c d) (t : Fits n c' ds) : Fits n (c + c') (d :: ds) :=
  ⟨by rw [M.hks, h.hk, t.hk]; rfl, by rw [M.sms, h.sm, t.sm]; rfl, Nat.add_le_add h.nds t.nds, by rw [PyData.depthAll]; exact Nat.max_le.mpr ⟨h.dep, t.dep⟩,
    by rw [PyData.showableAll, h.shw, t.shw]; rfl, by rw [PyData.leavesShortAll, h.lv, t.lv]; rfl, by have := h.bk; have := t.bk; simp only [PyData.bulkAll]; omega⟩
theorem Fit.tup {n c : Nat} {ds : List PyData} (h0 : hd0 ds = true) (t : Fits n c ds) : Fit (n + 1) (c + 1) (.tuple ds) :=
  ⟨by rw [M.hk, t.hk, Bool.and_true]; exact h0, by rw [M.sm]; exact t.sm, by rw [M.nds]; exact Nat.add_le_add_right t.nds 1, by rw [PyData.depth]; exact Nat.add_le_add_right t.dep 1, by rw [PyData.showable]; exact t.shw,
    by rw [PyData.leavesShort]; exact t.lv, by have := t.bk; rw [PyData.bulk]; omega⟩
theorem Fit.lst {n c : Nat} {ds : List PyData} (t : Fits n c ds) : Fit (n + 1) (c + 1) (.list ds) :=
  ⟨rfl, by rw [M.sm]; exact t.sm, by rw [M.nds]; exact Nat.add_le_add_right t.nds 1, by rw [PyData.depth]; exact Nat.add_le_add_right t.dep 1, by rw [PyData.showable]; exact t.shw,
    by rw [PyData.leavesShort]; exact t.lv, by have := t.bk; rw [PyData.bulk]; omega⟩
theorem fit_str {n : Nat} {z : Str} (h : z.cps.size ≤ 18) (h2 : PyData.leavesShort 8 (.str z) = true) : Fit n 1 (.str z) :=
  ⟨rfl, by rw [M.sm]; exact decide_eq_true (Nat.le_trans h (by decide)), Nat.le_refl _, Nat.zero_le _, rfl, h2, by rw [PyData.bulk]; omega⟩
theorem fit_non {n : Nat} : Fit n 1 .none := ⟨rfl, rfl, Nat.le_refl _, Nat.zero_le _, rfl, rfl, by decide⟩
theorem fit_bl {n : Nat} {b : Bool} : Fit n 1 (.bool b) := ⟨rfl, rfl, Nat.le_refl _, Nat.zero_le _, rfl, rfl, Nat.le_of_ble_eq_true rfl⟩
theorem fit_int {n : Nat} {i : Int} (h : PyData.showable (.int i) = true) (h2 : PyData.leavesShort 8 (.int i) = true) : Fit n 1 (.int i) := ⟨rfl, rfl, Nat.le_refl _, Nat.zero_le _, h, h2, Nat.le_of_ble_eq_true rfl⟩
theorem fit_dct {n : Nat} : Fit (n + 1) 1 (.dict []) := ⟨rfl, rfl, Nat.le_refl _, by simp [PyData.depth, PyData.depthKv], rfl, rfl, by decide⟩
theorem fit_qn {n : Nat} {q : Qn} (h : q.Ok) (hp : q.parts ≤ 40) (hn : 40 ≤ n) : Fit n 160 q.d := (fit_q h hp).mono hn (Nat.le_refl _)
/-! ### the things that are questions, or nearly so -/
def qItems : Qn → List PyData
  | .any => [.str "any"]
  | .no q => [.str "not", q.d]
  | .both a b => [.str "both", a.d, b.d]
  | .some a c b => [.str "some", a.d, .str ⟨#[c]⟩, b.d]
theorem q_items (q : Qn) : q.d = .tuple (qItems q) := by cases q <;> rfl
abbrev dAny : PyData := .tuple [.str "any"]
def odds1 : List PyData := [.none, .int 0, .bool true, .str "", .str "any", .list [], .list [.str "any"], .tuple [], .dict [], .tuple [.str "some"], .tuple [.str "any", dAny], .tuple [.str "not"], .tuple [.str "not", .str "any"]]
def odds2 : List PyData := [.tuple [.str "both", dAny], .tuple [.str "some", dAny, .str "a"], .tuple [.str "some", dAny, .str "A", dAny], .tuple [.str "all"], .tuple [.none]]
def odds3 : List PyData := [.tuple [.str "some", dAny, .str "ab", dAny], .tuple [.str "some", dAny, .int 1, dAny], .tuple [.str "some", .str "a", dAny, .str "b"]]
def odds4 (q : Qn) : List PyData := [.tuple [.str "not", .list [.str "any"]], .list [q.d], .tuple [q.d], .list (qItems q), .tuple (qItems q ++ [dAny]), .tuple [.str "both", q.d, .none]]
def odds5 (q : Qn) : List PyData := [.tuple [.str "not", .tuple [.str "not", .none]], .tuple [.str "some", q.d, .str "", q.d], .tuple [.str "some", q.d, .none, q.d]]
def odds (q : Qn) : List PyData := odds1 ++ odds2 ++ odds3 ++ odds4 q ++ odds5 q
def arounds1 (q : Qn) (i : PyData) : List PyData := [.tuple [.str "not", i], .tuple [.str "both", q.d, i], .tuple [.str "some", i, .str "b", q.d]]
def arounds2 (q : Qn) (i : PyData) : List PyData := [.tuple [.str "some", q.d, .str "b", i], q.d]
section
variable {γ : Type} {K : PySem.W.Frag} {S : γ → L2.St → Hp → Prop} {q : Qn} {σ : L2.St} {H : Hp} {Q : VK}
theorem items_ne (q : Qn) : qItems q ≠ [] := by cases q <;> simp [qItems]
theorem items_few (q : Qn) : (qItems q).length ≤ 4 := by cases q <;> simp [qItems]
theorem at_list (hS1 : ∀ c σ B, S c σ B → ∃ a xs, σ[1]? = some (some (.ref a)) ∧ SqT K B a xs ∧ Das K B xs (qItems q)) (h : tD K S (fun _ => .list (qItems q)) σ H Q) :
    tCB (fun xs H Q => ∃ p ys, xs = [.ref p] ∧ (SqL K H p ys ∨ SqT K H p ys) ∧ ∀ l, H l = none → Q (.ref l) (upd H l (.lst ys))) (tCons (tVar 1) tNil) σ H Q := by
  obtain ⟨c, B, p, m, hP, hs, k⟩ := h
  obtain ⟨a, xs, e1, e2, e3⟩ := hS1 c σ B hs
  refine ⟨_, e1, a, xs, rfl, .inr (ex_t hP.ex e2), fun l hl => ?_⟩
  obtain ⟨hP2, x2, e4⟩ := hP.new (o := .lst xs) hl
  exact k _ _ _ x2 hP2 (.lst (SqL.of e4) (e3.up x2))
theorem at_more (hS1 : ∀ c σ B, S c σ B → ∃ a xs, σ[1]? = some (some (.ref a)) ∧ SqT K B a xs ∧ Das K B xs (qItems q)) (h : tD K S (fun _ => .tuple (qItems q ++ [dAny])) σ H Q) :
    tOp (rCatT K) (tVar 1) (tTup (tCons (tTup (tCons (tC (.str "any")) tNil)) tNil)) σ H Q := by
  obtain ⟨c, B, p, m, hP, hs, k⟩ := h
  obtain ⟨a, xs, e1, e2, e3⟩ := hS1 c σ B hs
  have hl := e3.len
  have hn := items_ne q
  have hf := items_few q
  refine ⟨_, e1, by decide, fun l1 n1 => ?_⟩
  obtain ⟨hP1, x1, f1⟩ := hP.new (o := .tup [.str "any"]) n1
  refine ⟨Nat.le_trans (Nat.le_refl 1) (by decide), fun l2 n2 => ?_⟩
  obtain ⟨hP2, x2, f2⟩ := hP1.new (o := .tup [.ref l1]) n2
  refine ⟨a, l2, xs, [.ref l1], rfl, rfl, ex_t hP2.ex (ex_t x2 (ex_t x1 e2)), SqT.of (hP2.ex _ _ f2), fun z => by rw [z] at hl; exact hn (List.eq_nil_of_length_eq_zero hl.symm), ?_, (fun z => nomatch z), fun _ l3 n3 => ?_⟩
  · rw [hl]; exact Nat.le_trans (Nat.add_le_add_right hf 1) (by decide)
  · obtain ⟨hP3, x3, f3⟩ := hP2.new (o := .tup (xs ++ [.ref l1])) n3
    refine k _ _ _ ((x1.trans x2).trans x3) hP3 (.tup (st_of f3) (Das.app (e3.up ((x1.trans x2).trans x3)) (.cons (.tup (st_of (x3 _ _ (x2 _ _ f1))) (.cons (.str _) .nil)) .nil)))
end
theorem odds_len (q : Qn) : (odds q).length = 30 := rfl
def AllF (n c : Nat) (ds : List PyData) : Prop := ∀ d ∈ ds, Fit n c d
theorem AllF.nil {n c : Nat} : AllF n c [] := fun d h => by cases h
theorem AllF.cons {n c : Nat} {d : PyData} {ds : List PyData} (h : Fit n c d) (t : AllF n c ds) : AllF n c (d :: ds) := fun e he => by
  rcases List.mem_cons.mp he with rfl | he
  · exact h
  · exact t e he
theorem AllF.app {n c : Nat} {a b : List PyData} (h : AllF n c a) (t : AllF n c b) : AllF n c (a ++ b) := fun e he => (List.mem_append.mp he).elim (h e) (t e)
theorem Fits.app {n c c' : Nat} : ∀ {a b : List PyData}, Fits n c a → Fits n c' b → Fits n (c + c') (a ++ b)
  | a, b, ⟨h1, h2, h3, h4, h5, h6, h7⟩, ⟨g1, g2, g3, g4, g5, g6, g7⟩ => by
    have e1 : ∀ a : List PyData, M.hks (a ++ b) = (M.hks a && M.hks b) := fun a => by induction a with
      | nil => rfl
      | cons x a ih => simp only [List.cons_append, M.hks, ih, Bool.and_assoc]
    have e2 : ∀ a : List PyData, M.sms (a ++ b) = (M.sms a && M.sms b) := fun a => by induction a with
      | nil => rfl
      | cons x a ih => simp only [List.cons_append, M.sms, ih, Bool.and_assoc]
    have e4 : ∀ a : List PyData, PyData.depthAll (a ++ b) = max (PyData.depthAll a) (PyData.depthAll b) := fun a => by induction a with
      | nil => simp [PyData.depthAll]
      | cons x a ih => simp only [List.cons_append, PyData.depthAll, ih, Nat.max_assoc]
    have e5 : ∀ a : List PyData, PyData.showableAll (a ++ b) = (PyData.showableAll a && PyData.showableAll b) := fun a => by induction a with
      | nil => rfl
      | cons x a ih => simp only [List.cons_append, PyData.showableAll, ih, Bool.and_assoc]
    have e6 : ∀ a : List PyData, PyData.leavesShortAll 8 (a ++ b) = (PyData.leavesShortAll 8 a && PyData.leavesShortAll 8 b) := fun a => by induction a with
      | nil => rfl
      | cons x a ih => simp only [List.cons_append, PyData.leavesShortAll, ih, Bool.and_assoc]
    have e7 : ∀ a : List PyData, PyData.bulkAll (a ++ b) = PyData.bulkAll a + PyData.bulkAll b := fun a => by induction a with
      | nil => simp [PyData.bulkAll]
      | cons x a ih => simp only [List.cons_append, PyData.bulkAll, ih]; omega
    exact ⟨by rw [e1, h1, g1]; rfl, by rw [e2, h2, g2]; rfl, by rw [ndss_app]; omega, by rw [e4]; omega, by rw [e5, h5, g5]; rfl, by rw [e6, h6, g6]; rfl, by rw [e7]; omega⟩
theorem Fit.inv {n c : Nat} {ds : List PyData} (h : Fit (n + 1) c (.tuple ds)) : Fits n c ds := by
  obtain ⟨h1, h2, h3, h4, h5, h6, h7⟩ := h
  rw [M.hk, Bool.and_eq_true] at h1
  rw [M.sm] at h2
  rw [M.nds] at h3
  rw [PyData.depth] at h4
  rw [PyData.showable] at h5
  rw [PyData.leavesShort] at h6
  rw [PyData.bulk] at h7
  exact ⟨h1.2, h2, by omega, by omega, h5, h6, by omega⟩
theorem fits_items {n : Nat} {q : Qn} (h : q.Ok) (hp : q.parts ≤ 40) (hn : 40 ≤ n) : Fits n 160 (qItems q) := by
  have := fit_qn (n := n + 1) h hp (by omega)
  rw [q_items] at this
  exact this.inv
theorem odds_fit {q : Qn} (h : q.Ok) (hp : q.parts ≤ 40) : AllF 44 800 (odds q) := by
  have hq : ∀ n, 40 ≤ n → Fit n 160 q.d := fun n hn => fit_qn h hp hn
  have e0 : hd0 (qItems q ++ [dAny]) = true := by cases q <;> rfl
  have e1 : hd0 [q.d] = true := by cases q <;> rfl
  unfold odds odds1 odds2 odds3 odds4 odds5
  simp only [List.cons_append, List.nil_append]
  have sh : ∀ {d : PyData} {ds : List PyData}, (∃ c, Fit 44 c d ∧ c ≤ 800) → AllF 44 800 ds → AllF 44 800 (d :: ds) := fun ⟨c, h, hc⟩ t => .cons (h.mono (Nat.le_refl _) hc) t
  iterate 30 (refine sh ⟨_, by (repeat (first
    | exact fit_non | exact fit_bl | exact fit_int rfl (by decide +kernel) | exact fit_str (by decide) rfl | exact fit_dct | exact hq _ (by decide) | exact Fits.nil | exact fits_items h hp (by decide)
    | apply Fit.tup e0 | apply Fit.tup e1 | apply Fit.tup rfl | apply Fit.lst | apply Fits.app (fits_items h hp (by decide)) | apply Fits.cons)), by decide⟩ ?_)
  exact AllF.nil
end M
namespace M
open PySem L2 Evl
open PyProof.Rows hiding St
def sp_lisq (K : PySem.W.Frag) (n : Nat) : Sp := fun vs H Q _ => ∃ (H0 : Hp) (v : V) (d : PyData), vs = [v] ∧ Ex H0 H ∧ Da K H0 v d ∧ hk d = true ∧ sm d = true ∧ nds d ≤ 10000 ∧ d.depth < n ∧
  ∀ (b : Bool) (H' : Hp), Ex H H' → (b = true ↔ IsQ d) → Q (.bl b) H'
def sp_odd (K : PySem.W.Frag) : Sp := fun vs H Q _ => ∃ (H0 : Hp) (p : Addr) (m : Nat) (v : V) (q : Qn), vs = [.ref p, v] ∧ Pl H0 H p m ∧ m + 20 ≤ 2 ^ 20 ∧ Dp K H0 v q.d ∧ q.Ok ∧ q.parts ≤ 40 ∧
  ∀ (d : PyData) (v' : V) (H1 H' : Hp), Ex H0 H1 → Pl H1 H' p (m + 4) → Da K H1 v' d → Fit 48 2000 d → okr d = true → Q v' H'
end M
namespace M
open PySem L2 Evl
open PyProof.Rows hiding St
def Wd (z : Str) (j : Int) : Prop := (z = "any" ∧ j = 1) ∨ (z = "not" ∧ j = 2) ∨ (z = "both" ∧ j = 3) ∨ (z = "some" ∧ j = 4)
def words4 : List Str := ["any", "not", "both", "some"]
theorem form_in {d0 : PyData} {ds : List PyData} (h : HasForm (.tuple (d0 :: ds))) : inT d0 ["any", "not", "both", "some"] = true := by
  obtain ⟨z, es, e⟩ := form_tup h
  cases e
  unfold HasForm at h
  split at h
  · rename_i e; cases e; subst h; decide +kernel
  · rename_i e; cases e; subst h; decide +kernel
  · rename_i e; cases e; subst h; decide +kernel
  · rename_i e; cases e; rw [h.1]; decide +kernel
  · exact h.elim
def kv4 : List (Key × V) := [(.inr "any", .int 1), (.inr "not", .int 2), (.inr "both", .int 3), (.inr "some", .int 4)]
theorem inT_cases {d0 : PyData} (h : inT d0 ["any", "not", "both", "some"] = true) : ∃ (z : Str) (j : Int), d0 = .str z ∧ valV (mergeK [] kv4) (.inr z) = some (.int j) ∧ Wd z j := by
  cases d0 with
  | str z =>
    have h' : (("any" : Str) == z || (("not" : Str) == z || (("both" : Str) == z || (("some" : Str) == z || false)))) = true := h
    simp only [Bool.or_eq_true, beq_iff_eq, Bool.or_false] at h'
    rcases h' with rfl | rfl | rfl | rfl
    · exact ⟨_, 1, rfl, rfl, .inl ⟨rfl, rfl⟩⟩
    · exact ⟨_, 2, rfl, rfl, .inr (.inl ⟨rfl, rfl⟩)⟩
    · exact ⟨_, 3, rfl, rfl, .inr (.inr (.inl ⟨rfl, rfl⟩))⟩
    · exact ⟨_, 4, rfl, rfl, .inr (.inr (.inr ⟨rfl, rfl⟩))⟩
  | _ => cases h
end M
namespace M
open PySem L2 Evl
open PyProof.Rows hiding St
theorem form_len {z : Str} {j : Int} {ds : List PyData} (w : Wd z j) (h : HasForm (.tuple (.str z :: ds))) : ((ds.length : Nat) : Int) + 1 = j := by
  have e := form_size h
  have e2 : (((ds.length + 1 : Nat)) : Int) = (ds.length : Int) + 1 := by omega
  rw [← e2, ← e]
  rcases w with ⟨rfl, rfl⟩ | ⟨rfl, rfl⟩ | ⟨rfl, rfl⟩ | ⟨rfl, rfl⟩ <;> decide +kernel
theorem wd_some {j : Int} (w : Wd "some" j) : j = 4 := by
  rcases w with ⟨h, _⟩ | ⟨h, _⟩ | ⟨h, _⟩ | ⟨_, h⟩
  · exact absurd h (by decide +kernel)
  · exact absurd h (by decide +kernel)
  · exact absurd h (by decide +kernel)
  · exact h
theorem depth_mem : ∀ {ds : List PyData} {d : PyData}, d ∈ ds → d.depth ≤ PyData.depthAll ds
  | x :: ds, d, h => by
    rw [PyData.depthAll]
    rcases List.mem_cons.mp h with rfl | h
    · exact Nat.le_max_left _ _
    · exact Nat.le_trans (depth_mem h) (Nat.le_max_right _ _)
theorem nds_mem : ∀ {ds : List PyData} {d : PyData}, d ∈ ds → nds d ≤ ndss ds
  | x :: ds, d, h => by
    rw [ndss]
    rcases List.mem_cons.mp h with rfl | h
    · exact Nat.le_add_right _ _
    · exact Nat.le_trans (nds_mem h) (Nat.le_add_left _ _)
/-- what a part needs, to be judged -/
theorem part_ok {n : Nat} {ds : List PyData} (h1 : hk (.tuple ds) = true) (h2 : sm (.tuple ds) = true) (h3 : nds (.tuple ds) ≤ 10000) (h4 : (PyData.tuple ds).depth < n + 1) : ∀ d ∈ ds, hk d = true ∧ sm d = true ∧ nds d ≤ 10000 ∧ d.depth < n := by
  intro d hd
  rw [hk, Bool.and_eq_true] at h1
  rw [sm] at h2
  rw [nds] at h3
  rw [PyData.depth] at h4
  have := nds_mem hd
  have := depth_mem hd
  exact ⟨hks_mem h1.2 d hd, sms_mem h2 d hd, by omega, by omega⟩
theorem abc_mem (c : Nat) : c ∈ ("abcdefghijklmnopqrstuvwxyz" : Str).cps.toList ↔ 97 ≤ c ∧ c ≤ 122 := by
  have e : ("abcdefghijklmnopqrstuvwxyz" : Str).cps.toList = List.range' 97 26 := by decide +kernel
  rw [e, List.mem_range'_1]
  omega
theorem isQ_some {a b : PyData} {c : Nat} (h : 97 ≤ c ∧ c ≤ 122) : IsQ (.tuple [.str "some", a, .str ⟨#[c]⟩, b]) ↔ IsQ a ∧ IsQ b := by
  rw [isQ_form]
  constructor
  · rintro ⟨_, h⟩
    exact ⟨h _ (by simp [inner]), h _ (by simp [inner])⟩
  · rintro ⟨h1, h2⟩
    refine ⟨⟨rfl, c, rfl, h⟩, fun x hx => ?_⟩
    simp [inner] at hx
    rcases hx with rfl | rfl
    · exact h1
    · exact h2
theorem isQ_few {z : Str} {j : Int} {ds : List PyData} (w : Wd z j) (hn : z ≠ "some") (hl : ((ds.length : Nat) : Int) + 1 = j) : (IsQ (.tuple (.str z :: ds)) ↔ ∀ x ∈ ds, IsQ x) ∧ ds.length ≤ 2 := by
  rw [isQ_form]
  rcases w with ⟨rfl, rfl⟩ | ⟨rfl, rfl⟩ | ⟨rfl, rfl⟩ | ⟨rfl, rfl⟩
  · match ds, hl with
    | [], _ => exact ⟨⟨fun _ x hx => (nomatch hx), fun _ => ⟨rfl, fun x hx => (nomatch hx)⟩⟩, by decide⟩
    | _ :: _, h => simp only [List.length_cons] at h; omega
  · match ds, hl with
    | [a], _ => exact ⟨⟨fun h x hx => h.2 x hx, fun h => ⟨rfl, fun x hx => h x hx⟩⟩, by simp⟩
    | [], h | _ :: _ :: _, h => simp only [List.length_cons, List.length_nil] at h; omega
  · match ds, hl with
    | [a, b], _ => exact ⟨⟨fun h x hx => h.2 x hx, fun h => ⟨rfl, fun x hx => h x hx⟩⟩, by simp⟩
    | [], h | [_], h | _ :: _ :: _ :: _, h => simp only [List.length_cons, List.length_nil] at h; omega
  · exact absurd rfl hn
end M
namespace M
open PySem L2 Evl
open PyProof.Rows hiding St
theorem dpa_ones (K : PySem.W.Frag) (H : Hp) : ∀ c : Nat, DpAll K H (List.replicate c (.int 1)) (List.replicate c (.int 1))
  | 0 => .nil
  | c + 1 => .cons (.int 1) (dpa_ones K H c)
theorem ones_eq {c : Nat} (h : c ≤ 2) : SeqAt.shaped (.list (List.replicate c (.int 1))) = true ∧ PyData.eqv (.list (List.replicate c (.int 1))) (.list []) = decide (c = 0) := by
  rcases (by omega : c = 0 ∨ c = 1 ∨ c = 2) with rfl | rfl | rfl <;> exact ⟨by decide +kernel, by decide +kernel⟩
end M
namespace M
open PySem L2 Evl
open PyProof.Rows hiding St
theorem arounds_fit {q : Qn} {d : PyData} (h : q.Ok) (hp : q.parts ≤ 40) (hd : Fit 44 800 d) : AllF 48 2000 (arounds1 q d ++ arounds2 q d) := by
  have hq : ∀ n, 40 ≤ n → Fit n 160 q.d := fun n hn => fit_qn h hp hn
  have h0 : ∀ n, 44 ≤ n → Fit n 800 d := fun n hn => hd.mono hn (Nat.le_refl _)
  unfold arounds1 arounds2
  simp only [List.cons_append, List.nil_append]
  have sh : ∀ {d : PyData} {ds : List PyData}, (∃ c, Fit 48 c d ∧ c ≤ 2000) → AllF 48 2000 ds → AllF 48 2000 (d :: ds) := fun ⟨c, h, hc⟩ t => .cons (h.mono (Nat.le_refl _) hc) t
  iterate 5 (refine sh ⟨_, by (repeat (first
    | exact fit_str (by decide) rfl | exact hq _ (by decide) | exact h0 _ (by decide) | exact Fits.nil
    | apply Fit.tup rfl | apply Fits.cons)), by decide⟩ ?_)
  exact AllF.nil
end M
namespace M
open PySem L2 Evl
open PyProof.Rows hiding St
theorem iff_bool {a b : Bool} {p : Prop} (h1 : a = true ↔ p) (h2 : b = true ↔ p) : a = b := by
  cases a <;> cases b <;> simp_all
def db2 (b : Bool) : PyData := .list [.bool b, .bool b]
theorem shw_db (b : Bool) : Shw (db2 b) := by cases b <;> exact ⟨by decide +kernel, by decide +kernel, by decide +kernel, by decide +kernel⟩
def heads : List PyData := [.list [], .list [.str "any"], .dict [], .tuple [.str "any"], .int 0, .none, .bool true]
theorem heads_str : ∀ d ∈ heads, strB d = false := by
  intro d h
  simp only [heads, List.mem_cons, List.not_mem_nil, or_false] at h
  rcases h with rfl | rfl | rfl | rfl | rfl | rfl | rfl <;> rfl
theorem heads_sm : ∀ d ∈ heads, sm d = true ∧ nds d ≤ 10 := by
  intro d h
  simp only [heads, List.mem_cons, List.not_mem_nil, or_false] at h
  rcases h with rfl | rfl | rfl | rfl | rfl | rfl | rfl <;> exact ⟨by decide +kernel, by decide +kernel⟩
theorem not_isQ {d : PyData} {ds : List PyData} (h : strB d = false) : ¬ IsQ (.tuple (d :: ds)) := fun z => by
  obtain ⟨y, es, e⟩ := form_tup (isQ_form.mp z).1
  cases e
  cases h
theorem not_isQ2 {d : PyData} {ds : List PyData} (h : strB d = false) : ¬ IsQ (.tuple [.str "not", .tuple (d :: ds)]) := fun z => by
  have := (isQ_form.mp z).2 (.tuple (d :: ds)) (by show _ ∈ [PyData.tuple (d :: ds)]; exact List.mem_cons_self)
  exact not_isQ h this
end M
namespace M
open PySem L2 Evl
open PyProof.Rows hiding St
theorem q_plain : ∀ q : Qn, q.d.hasDict = false ∧ lf q.d = true
  | .any => ⟨rfl, rfl⟩
  | .no q => by
    obtain ⟨h1, h2⟩ := q_plain q
    exact ⟨by simp only [Qn.d, PyData.hasDict, PyData.hasDictAll, h1]; rfl, by simp only [Qn.d, lf, lfs, h2]; rfl⟩
  | .both a b => by
    obtain ⟨h1, h2⟩ := q_plain a
    obtain ⟨g1, g2⟩ := q_plain b
    exact ⟨by simp only [Qn.d, PyData.hasDict, PyData.hasDictAll, h1, g1]; rfl, by simp only [Qn.d, lf, lfs, h2, g2]; rfl⟩
  | .some a c b => by
    obtain ⟨h1, h2⟩ := q_plain a
    obtain ⟨g1, g2⟩ := q_plain b
    exact ⟨by simp only [Qn.d, PyData.hasDict, PyData.hasDictAll, h1, g1]; rfl, by simp only [Qn.d, lf, lfs, h2, g2]; rfl⟩
def AllO (ds : List PyData) : Prop := ∀ d ∈ ds, okr d = true
theorem AllO.nil : AllO [] := fun d h => by cases h
theorem AllO.cons {d : PyData} {ds : List PyData} (h : okr d = true) (t : AllO ds) : AllO (d :: ds) := fun e he => by
  rcases List.mem_cons.mp he with rfl | he
  · exact h
  · exact t e he
theorem odds_okr (q : Qn) : AllO (odds q) := by
  obtain ⟨h1, h2⟩ := q_plain q
  have h3 : PyData.hasDictAll (qItems q) = false := by
    rw [q_items] at h1
    simpa [PyData.hasDict] using h1
  have h5 : PyData.hasDictAll (qItems q ++ [dAny]) = false := by
    have : ∀ l : List PyData, PyData.hasDictAll l = false → PyData.hasDictAll (l ++ [dAny]) = false := fun l => by
      induction l with
      | nil => intro _; rfl
      | cons x l ih =>
        intro h
        simp only [PyData.hasDictAll, Bool.or_eq_false_iff, List.cons_append] at h ⊢
        exact ⟨h.1, ih h.2⟩
    exact this _ h3
  unfold odds odds1 odds2 odds3 odds4 odds5
  simp only [List.cons_append, List.nil_append]
  iterate 30 (refine AllO.cons (by first | rfl | (simp only [okr, PyData.hasDict, PyData.hasDictAll, h1, h3, h5]; rfl)) ?_)
  exact AllO.nil
theorem arounds_okr {q : Qn} {d : PyData} (hd : okr d = true) : AllO (arounds1 q d ++ arounds2 q d) := by
  obtain ⟨h1, h2⟩ := q_plain q
  have hd' : d.hasDict = false ∨ lf d = true := by
    unfold okr at hd
    cases h : d.hasDict with
    | false => exact .inl rfl
    | true => rw [h] at hd; exact .inr hd
  unfold arounds1 arounds2
  simp only [List.cons_append, List.nil_append]
  rcases hd' with h0 | h0
  · iterate 5 (refine AllO.cons (by simp only [okr, PyData.hasDict, PyData.hasDictAll, h1, h0]; rfl) ?_)
    exact AllO.nil
  · iterate 5 (refine AllO.cons (by simp only [okr, lf, lfs, h2, h0, Bool.and_self, Bool.or_true]) ?_)
    exact AllO.nil
end M
end

section
set_option Elab.async false
set_option linter.all false
set_option maxRecDepth 100000
namespace Lw
open PySem L2 Evl M
open PyProof.Rows hiding St
def top (i : Nat) : Stmt := PySem.Challenge.pw_pickdepths_k11_questions_recognized.main.body.getD i (.Pass ⟨0, 0, 0, 0⟩)
abbrev s_is_letter : Stmt := top 1
theorem sc_is_letter : FnScope ["sign"] ["sign"] (defScope s_is_letter) := ⟨rfl, rfl, rfl, by decide +kernel, rfl, by decide +kernel, by decide +kernel⟩
abbrev s_is_question : Stmt := top 4
theorem sc_is_question : FnScope ["value", "waiting", "part"] ["value"] (defScope s_is_question) := ⟨rfl, rfl, rfl, by decide +kernel, rfl, by decide +kernel, by decide +kernel⟩
abbrev s_inner_questions : Stmt := top 5
theorem sc_inner_questions : FnScope ["part"] ["part"] (defScope s_inner_questions) := ⟨rfl, rfl, rfl, by decide +kernel, rfl, by decide +kernel, by decide +kernel⟩
abbrev s_has_form : Stmt := top 6
theorem sc_has_form : FnScope ["value", "word"] ["value"] (defScope s_has_form) := ⟨rfl, rfl, rfl, by decide +kernel, rfl, by decide +kernel, by decide +kernel⟩
abbrev s_is_one_letter : Stmt := top 7
theorem sc_is_one_letter : FnScope ["value"] ["value"] (defScope s_is_one_letter) := ⟨rfl, rfl, rfl, by decide +kernel, rfl, by decide +kernel, by decide +kernel⟩
abbrev s__law_pool : Stmt := top 9
theorem sc__law_pool : FnScope ["script", "spot", "cell"] ["script", "spot"] (defScope s__law_pool) := ⟨rfl, rfl, rfl, by decide +kernel, rfl, by decide +kernel, by decide +kernel⟩
abbrev s__law_draw : Stmt := top 10
theorem sc__law_draw : FnScope ["pool", "span", "drawn", "mixed"] ["pool", "span"] (defScope s__law_draw) := ⟨rfl, rfl, rfl, by decide +kernel, rfl, by decide +kernel, by decide +kernel⟩
abbrev s__law_query : Stmt := top 11
theorem sc__law_query : FnScope ["pool", "names", "deep", "wide", "way", "half", "ahead"] ["pool", "names", "deep", "wide"] (defScope s__law_query) := ⟨rfl, rfl, rfl, by decide +kernel, rfl, by decide +kernel, by decide +kernel⟩
abbrev s__law_steep : Stmt := top 12
theorem sc__law_steep : FnScope ["pool", "names", "deep", "inner", "rest_here", "ahead", "behind", "whole", "way"] ["pool", "names", "deep"] (defScope s__law_steep) := ⟨rfl, rfl, rfl, by decide +kernel, rfl, by decide +kernel, by decide +kernel⟩
abbrev s__law_any_query : Stmt := top 13
theorem sc__law_any_query : FnScope ["pool", "names", "deep", "wide"] ["pool", "names", "deep", "wide"] (defScope s__law_any_query) := ⟨rfl, rfl, rfl, by decide +kernel, rfl, by decide +kernel, by decide +kernel⟩
abbrev s__law_is_query : Stmt := top 14
theorem sc__law_is_query : FnScope ["thing", "inner_here"] ["thing"] (defScope s__law_is_query) := ⟨rfl, rfl, rfl, by decide +kernel, rfl, by decide +kernel, by decide +kernel⟩
abbrev s__law_odd_thing : Stmt := top 15
theorem sc__law_odd_thing : FnScope ["pool", "query", "odds", "inner_here", "around"] ["pool", "query"] (defScope s__law_odd_thing) := ⟨rfl, rfl, rfl, by decide +kernel, rfl, by decide +kernel, by decide +kernel⟩
abbrev s__law_fits : Stmt := top 16
theorem sc__law_fits : FnScope ["pool", "query", "thing", "same", "due", "head_here", "letter"] ["pool"] (defScope s__law_fits) := ⟨rfl, rfl, rfl, by decide +kernel, rfl, by decide +kernel, by decide +kernel⟩
abbrev s_law : Stmt := top 17
theorem sc_law : FnScope ["script", "spot", "pool", "turn"] ["script"] (defScope s_law) := ⟨rfl, rfl, rfl, by decide +kernel, rfl, by decide +kernel, by decide +kernel⟩
structure Tx (w : World) (K : PySem.W.Frag) (mg : Str → Option Value) where
  a_is_letter : Addr
  d_is_letter : FuncData
  g_is_letter : mg "is_letter" = some (.ref a_is_letter)
  F_is_letter : Fun K "is_letter" "is_letter" s_is_letter a_is_letter d_is_letter
  b_is_letter : Binds K d_is_letter ["sign"] []
  a_is_question : Addr
  d_is_question : FuncData
  g_is_question : mg "is_question" = some (.ref a_is_question)
  F_is_question : Fun K "is_question" "is_question" s_is_question a_is_question d_is_question
  b_is_question : Binds K d_is_question ["value"] []
  a_inner_questions : Addr
  d_inner_questions : FuncData
  g_inner_questions : mg "inner_questions" = some (.ref a_inner_questions)
  F_inner_questions : Fun K "inner_questions" "inner_questions" s_inner_questions a_inner_questions d_inner_questions
  b_inner_questions : Binds K d_inner_questions ["part"] []
  a_has_form : Addr
  d_has_form : FuncData
  g_has_form : mg "has_form" = some (.ref a_has_form)
  F_has_form : Fun K "has_form" "has_form" s_has_form a_has_form d_has_form
  b_has_form : Binds K d_has_form ["value"] []
  a_is_one_letter : Addr
  d_is_one_letter : FuncData
  g_is_one_letter : mg "is_one_letter" = some (.ref a_is_one_letter)
  F_is_one_letter : Fun K "is_one_letter" "is_one_letter" s_is_one_letter a_is_one_letter d_is_one_letter
  b_is_one_letter : Binds K d_is_one_letter ["value"] []
  a__law_pool : Addr
  d__law_pool : FuncData
  g__law_pool : mg "_law_pool" = some (.ref a__law_pool)
  F__law_pool : Fun K "_law_pool" "_law_pool" s__law_pool a__law_pool d__law_pool
  b__law_pool : Binds K d__law_pool ["script", "spot"] []
  a__law_draw : Addr
  d__law_draw : FuncData
  g__law_draw : mg "_law_draw" = some (.ref a__law_draw)
  F__law_draw : Fun K "_law_draw" "_law_draw" s__law_draw a__law_draw d__law_draw
  b__law_draw : Binds K d__law_draw ["pool", "span"] []
  a__law_query : Addr
  d__law_query : FuncData
  g__law_query : mg "_law_query" = some (.ref a__law_query)
  F__law_query : Fun K "_law_query" "_law_query" s__law_query a__law_query d__law_query
  b__law_query : Binds K d__law_query ["pool", "names", "deep", "wide"] []
  a__law_steep : Addr
  d__law_steep : FuncData
  g__law_steep : mg "_law_steep" = some (.ref a__law_steep)
  F__law_steep : Fun K "_law_steep" "_law_steep" s__law_steep a__law_steep d__law_steep
  b__law_steep : Binds K d__law_steep ["pool", "names", "deep"] []
  a__law_any_query : Addr
  d__law_any_query : FuncData
  g__law_any_query : mg "_law_any_query" = some (.ref a__law_any_query)
  F__law_any_query : Fun K "_law_any_query" "_law_any_query" s__law_any_query a__law_any_query d__law_any_query
  b__law_any_query : Binds K d__law_any_query ["pool", "names", "deep", "wide"] []
  a__law_is_query : Addr
  d__law_is_query : FuncData
  g__law_is_query : mg "_law_is_query" = some (.ref a__law_is_query)
  F__law_is_query : Fun K "_law_is_query" "_law_is_query" s__law_is_query a__law_is_query d__law_is_query
  b__law_is_query : Binds K d__law_is_query ["thing"] []
  a__law_odd_thing : Addr
  d__law_odd_thing : FuncData
  g__law_odd_thing : mg "_law_odd_thing" = some (.ref a__law_odd_thing)
  F__law_odd_thing : Fun K "_law_odd_thing" "_law_odd_thing" s__law_odd_thing a__law_odd_thing d__law_odd_thing
  b__law_odd_thing : Binds K d__law_odd_thing ["pool", "query"] []
  a__law_fits : Addr
  d__law_fits : FuncData
  g__law_fits : mg "_law_fits" = some (.ref a__law_fits)
  F__law_fits : Fun K "_law_fits" "_law_fits" s__law_fits a__law_fits d__law_fits
  b__law_fits : Binds K d__law_fits ["pool"] []
  a_law : Addr
  d_law : FuncData
  g_law : mg "law" = some (.ref a_law)
  F_law : Fun K "law" "law" s_law a_law d_law
  b_law : Binds K d_law ["script"] []
  kb_is_question__value : KBinds K d_is_question ["value"] ["value"] (fun us ws => match us, ws with | [], [w0] => [w0] | _, _ => []) (fun us ws => match us, ws with | [], [w0] => [w0] | _, _ => [])
  b_abs : mg "abs" = none
  b_int : mg "int" = none
  b_isinstance : mg "isinstance" = none
  b_len : mg "len" = none
  b_list : mg "list" = none
  b_max : mg "max" = none
  b_min : mg "min" = none
  b_range : mg "range" = none
  b_repr : mg "repr" = none
  b_str : mg "str" = none
  b_tuple : mg "tuple" = none
  a_SIZES : Addr
  g_SIZES : mg "SIZES" = some (.ref a_SIZES)
  ki_SIZES : KInts K w a_SIZES (fun z => List.lookup z [(("any" : Str), 1), (("not" : Str), 2), (("both" : Str), 3), (("some" : Str), 4)])
  bl : ∀ (s : Shared) (u : Value), BindsTo s d_law ⟨[u], []⟩ [("script", u)]
section
variable {P : Program} {w : World} {K : PySem.W.Frag} {mg : Str → Option Value} {base : Heap}
end
end Lw
end

section
set_option Elab.async false
set_option linter.all false
set_option maxRecDepth 100000
set_option maxHeartbeats 4000000
set_option pp.maxSteps 300
set_option pp.deepTerms false
namespace Lw
open PySem L2 Evl M
open PyProof.Rows hiding St
local macro_rules | `(tactic| walk_at "at") => `(tactic| first | assumption | exact upd_same)
local macro_rules | `(tactic| walk_at "sq") => `(tactic| first | assumption | exact SqL.of (by walk_at "at") | exact SqT.of (by walk_at "at"))
local macro_rules | `(tactic| walk_at "sd") => `(tactic| first | assumption | exact Names.size (by assumption) | omega | decide | exact Nat.le_of_ble_eq_true rfl | exact Or.inl ⟨by decide, by decide⟩ | exact wide_div (b := 200) (by first | assumption | decide) (by first | assumption | decide) (by decide) (by decide) | exact pow_w 10 (by decide) (by decide) (by decide) (by decide))
local macro_rules | `(tactic| walk_at "r1") => `(tactic| first
  | refine ⟨_, rfl, ?_⟩
  | refine ⟨_, _, rfl, rfl, ?_⟩
  | refine And.intro rfl ?_
  | refine ⟨_, _, _, _, rfl, rfl, (by walk_at "sq"), rfl, ?_⟩
  | refine ⟨_, _, _, _, rfl, rfl, (by walk_at "at"), rfl, ?_⟩
  | refine ⟨_, _, rfl, Or.inl (by walk_at "sq"), ?_⟩
  | refine ⟨_, _, rfl, Or.inr (by walk_at "sq"), ?_⟩
  | refine ⟨_, _, rfl, ?_⟩
  | refine Or.inl ⟨_, rfl, ?_⟩
  | refine And.intro (by walk_at "sd") ?_)
local macro_rules | `(tactic| walk_at "rd") => `(tactic| try (walk_at "r1"; walk_at "rd"))
section
variable {P : Program} {w : World} {K : PySem.W.Frag} {mg : Str → Option Value} {base : Heap}
theorem ok__law_draw (T : Tx w K mg) : FnOk P w K mg base CX0 1 T.a__law_draw T.d__law_draw ["pool", "span"] sp_draw := by
  refine T.F__law_draw.ok sc__law_draw (fun vs H Q E h => ?_) (fun cdv A outer s H vs Q E hr h => ?_)
  · obtain ⟨_, _, _, _, rfl, _⟩ := h
    rfl
  obtain ⟨H0, p, m, n, rfl, hP, hm, n0, nb, k⟩ := h
  obtain ⟨a, b, c, hp, a0, b0, b1, c0, c1⟩ := hP.at_
  refine ⟨_, (pss_cons (ps_if (pt_cmpR op_gt (pe_ix ix_list (pv 0) pe_int (fun _ _ => rfl)) pe_int (nomark _)) (pss_cons (ps_set (i := 2) sc__law_draw.nd rfl (Or.inl rfl) (pe_op op_mod (pe_callTy call_int1 (by rfl) T.b_int (by decide +kernel) (pa_cons (pe_ix ix_list (pv 0) pe_int (fun _ _ => rfl)) pa_nil)) (pv 1)))
   (pss_cons (ps_asg (pe_op op_fdivW (pe_ix ix_list (pv 0) pe_int (fun _ _ => rfl)) (pv 1)) (pg_sub (pv 0) pe_int set_list))
   (pss_one (ps_ret (pv 2))))) pss_nil)
   (pss_cons (ps_asg (pe_op op_add (pe_ix ix_list (pv 0) pe_int (fun _ _ => rfl)) pe_int) (pg_sub (pv 0) pe_int set_list))
   (pss_cons (ps_set (i := 3) sc__law_draw.nd rfl (Or.inl rfl) (pe_op op_mod (pe_callTy call_int1 (by rfl) T.b_int (by decide +kernel) (pa_cons (pe_op M.op_powW (pe_op op_add (pe_ix ix_list (pv 0) pe_int (fun _ _ => rfl)) (pe_op op_mul pe_int (pe_ix ix_list (pv 0) pe_int (fun _ _ => rfl)))) pe_int) pa_nil)) pe_int))
   (pss_cons (ps_set (i := 3) sc__law_draw.nd rfl (Or.inl rfl) (pe_op op_mod (pe_callTy call_int1 (by rfl) T.b_int (by decide +kernel) (pa_cons (pe_op M.op_powW (pe_op op_add (pv 3) (pe_op op_mul pe_int (pe_ix ix_list (pv 0) pe_int (fun _ _ => rfl)))) pe_int) pa_nil)) pe_int))
   (pss_one (ps_ret (pe_op op_mod (pe_callTy call_int1 (by rfl) T.b_int (by decide +kernel) (pa_cons (pe_op op_fdivW (pv 3) pe_int) pa_nil)) (pv 1)))))))), ?_⟩
  walk_at "rd"
  refine ite2 (fun q => ?_) (fun q => ?_)
  · walk_at "rd"
    have q1 : 0 < a := of_decide_eq_true q
    refine k _ _ (Int.emod_nonneg _ (by omega)) (Int.emod_lt_of_pos _ n0) ⟨hP.ex.mut hP.out, hP.out, a / n, b, c, ?_, Int.ediv_nonneg a0 (by omega), b0, b1, c0, by omega⟩ (fun b' h => upd_ne h)
    rw [upd_same]; rfl
  · walk_at "rd"
    refine ⟨pow_w 64 (by omega) (by decide) (by decide) (by decide), ?_⟩
    walk_at "rd"
    refine ⟨pow_w 128 ?_ (by decide) (by decide) (by decide), ?_⟩
    · have e := Int.emod_lt_of_pos ((b + 15485863 * (c + 1)) ^ Int.toNat 3) (show (0 : Int) < 162259276829213363391578010288127 by decide)
      have e0 := Int.emod_nonneg ((b + 15485863 * (c + 1)) ^ Int.toNat 3) (show (162259276829213363391578010288127 : Int) ≠ 0 by decide)
      generalize (b + 15485863 * (c + 1)) ^ Int.toNat 3 % 162259276829213363391578010288127 = x at e e0
      show (x + 32452843 * (c + 1)).natAbs < 2 ^ 128
      have : (2 : Nat) ^ 128 = 340282366920938463463374607431768211456 := by decide
      omega
    walk_at "rd"
    refine k _ _ (Int.emod_nonneg _ (by omega)) (Int.emod_lt_of_pos _ n0) ⟨hP.ex.mut hP.out, hP.out, a, b, c + 1, ?_, a0, b0, b1, by omega, by omega⟩ (fun b' h => upd_ne h)
    rw [upd_same]; rfl

end
end Lw
end

section
set_option Elab.async false
set_option linter.all false
set_option maxRecDepth 100000
set_option maxHeartbeats 4000000
set_option pp.maxSteps 300
set_option pp.deepTerms false
namespace Lw
open PySem L2 Evl M
open PyProof.Rows hiding St
local macro_rules | `(tactic| walk_at "at") => `(tactic| first | assumption | exact upd_same)
local macro_rules | `(tactic| walk_at "sq") => `(tactic| first | assumption | exact SqL.of (by walk_at "at") | exact SqT.of (by walk_at "at"))
local macro_rules | `(tactic| walk_at "sd") => `(tactic| first | assumption | exact Names.size (by assumption) | omega | decide | exact Nat.le_of_ble_eq_true rfl | exact Or.inl ⟨by decide, by decide⟩ | exact wide_div (b := 200) (by first | assumption | decide) (by first | assumption | decide) (by decide) (by decide) | exact pow_w 10 (by decide) (by decide) (by decide) (by decide))
local macro_rules | `(tactic| walk_at "r1") => `(tactic| first
  | refine ⟨_, rfl, ?_⟩
  | refine ⟨_, _, rfl, rfl, ?_⟩
  | refine And.intro rfl ?_
  | refine ⟨_, _, _, _, rfl, rfl, (by walk_at "sq"), rfl, ?_⟩
  | refine ⟨_, _, _, _, rfl, rfl, (by walk_at "at"), rfl, ?_⟩
  | refine ⟨_, _, rfl, Or.inl (by walk_at "sq"), ?_⟩
  | refine ⟨_, _, rfl, Or.inr (by walk_at "sq"), ?_⟩
  | refine ⟨_, _, rfl, ?_⟩
  | refine Or.inl ⟨_, rfl, ?_⟩
  | refine And.intro (by walk_at "sd") ?_)
local macro_rules | `(tactic| walk_at "rd") => `(tactic| try (walk_at "r1"; walk_at "rd"))
section
variable {P : Program} {w : World} {K : PySem.W.Frag} {mg : Str → Option Value} {base : Heap}
theorem ok_is_letter (T : Tx w K mg) : FnOk P w K mg base CX0 1 T.a_is_letter T.d_is_letter ["sign"] sp_is_letter := by
  refine T.F_is_letter.ok sc_is_letter (fun vs H Q E h => ?_) (fun cdv A outer s H vs Q E hr h => ?_)
  · obtain ⟨_, rfl, _⟩ := h
    rfl
  obtain ⟨c, rfl, k⟩ := h
  have lt : ∀ a b : Nat, (([a] : List Nat) < [b]) ↔ a < b := fun a b => by
    rw [List.cons_lt_cons_iff]
    exact ⟨fun h => h.elim id fun z => absurd z.2 (List.lt_irrefl _), Or.inl⟩
  have la : (Str.ofString "a").cps.toList = [97] := by decide +kernel
  have lz : (Str.ofString "z").cps.toList = [122] := by decide +kernel
  refine ⟨_, (pss_one (ps_ret (pe_chain op_le_str op_le_str pe_str (pv 0) pe_str))), ?_⟩
  walk_at "rd"
  rw [la]
  refine iteND (fun e1 => ?_) (fun e1 => ?_)
  · have e1 : ¬ c < 97 := fun z => e1 ((lt _ _).mpr z)
    walk_at "rd"
    show Q (V.bl (!decide ((Str.ofString "z").cps.toList < [c]))) H
    rw [lz]
    have e : (!decide (([122] : List Nat) < [c])) = decide (97 ≤ c ∧ c ≤ 122) := by
      by_cases h : 122 < c
      · rw [decide_eq_true ((lt _ _).mpr h), decide_eq_false (by omega)]; rfl
      · rw [decide_eq_false (fun z => h ((lt _ _).mp z)), decide_eq_true (by omega)]; rfl
    rw [e]
    exact k
  · have e1 : c < 97 := (lt _ _).mp e1
    show Q (V.bl false) H
    rw [← (decide_eq_false (by omega) : decide (97 ≤ c ∧ c ≤ 122) = false)]
    exact k

end
end Lw
end

section
set_option Elab.async false
set_option linter.all false
set_option maxRecDepth 100000
set_option maxHeartbeats 4000000
set_option pp.maxSteps 300
set_option pp.deepTerms false
namespace Lw
open PySem L2 Evl M
open PyProof.Rows hiding St
local macro_rules | `(tactic| walk_at "at") => `(tactic| first | assumption | exact upd_same)
local macro_rules | `(tactic| walk_at "sq") => `(tactic| first | assumption | exact SqL.of (by walk_at "at") | exact SqT.of (by walk_at "at"))
local macro_rules | `(tactic| walk_at "sd") => `(tactic| first | assumption | exact Names.size (by assumption) | omega | decide | exact Nat.le_of_ble_eq_true rfl | exact Or.inl ⟨by decide, by decide⟩ | exact wide_div (b := 200) (by first | assumption | decide) (by first | assumption | decide) (by decide) (by decide) | exact pow_w 10 (by decide) (by decide) (by decide) (by decide))
local macro_rules | `(tactic| walk_at "r1") => `(tactic| first
  | refine ⟨_, rfl, ?_⟩
  | refine ⟨_, _, rfl, rfl, ?_⟩
  | refine And.intro rfl ?_
  | refine ⟨_, _, _, _, rfl, rfl, (by walk_at "sq"), rfl, ?_⟩
  | refine ⟨_, _, _, _, rfl, rfl, (by walk_at "at"), rfl, ?_⟩
  | refine ⟨_, _, rfl, Or.inl (by walk_at "sq"), ?_⟩
  | refine ⟨_, _, rfl, Or.inr (by walk_at "sq"), ?_⟩
  | refine ⟨_, _, rfl, ?_⟩
  | refine Or.inl ⟨_, rfl, ?_⟩
  | refine And.intro (by walk_at "sd") ?_)
local macro_rules | `(tactic| walk_at "rd") => `(tactic| try (walk_at "r1"; walk_at "rd"))
section
variable {P : Program} {w : World} {K : PySem.W.Frag} {mg : Str → Option Value} {base : Heap}
theorem ok_is_one_letter (T : Tx w K mg) (G_is_letter : FnOk P w K mg base CX0 1 T.a_is_letter T.d_is_letter ["sign"] sp_is_letter) :
    FnOk P w K mg base CX0 2 T.a_is_one_letter T.d_is_one_letter ["value"] (sp_is_one_letter K) := by
  refine T.F_is_one_letter.ok sc_is_one_letter (fun vs H Q E h => ?_) (fun cdv A outer s H vs Q E hr h => ?_)
  · obtain ⟨_, _, rfl, _⟩ := h
    rfl
  obtain ⟨v, d, rfl, hd, hs, k⟩ := h
  refine ⟨_, (pss_one (ps_ret (pe_and (pe_callB M.call_isT (by rfl) T.b_isinstance (by decide +kernel) (pa_cons (pv 0) (pa_cons (pe_bltn (v := .ty "str") (by rfl) T.b_str (by decide +kernel) rfl) pa_nil))) (pe_and (pe_cmpR op_eq (pe_callB call_len_str (by rfl) T.b_len (by decide +kernel) (pa_cons (pv 0) pa_nil)) pe_int (nomark _)) (pe_one (pe_call G_is_letter (hr.mono (by omega)) (by rfl) T.g_is_letter T.F_is_letter.kp T.b_is_letter .nil pass0 (pa_cons (pv 0) pa_nil))))))), ?_⟩
  walk_at "rd"
  refine ⟨_, _, _, _, rfl, hd.ty, isStr d, ?_⟩
  walk_at "rd"
  refine iteB (fun e1 => ?_) (fun e1 => ?_)
  · cases hd with
    | str z =>
      have hz : z.length ≤ 1000 := of_decide_eq_true hs
      walk_at "rd"
      refine And.intro (Nat.le_trans hz (by decide)) ?_
      walk_at "rd"
      refine iteI (fun e2 => ?_) (fun e2 => ?_)
      · obtain ⟨c, rfl⟩ := one_cases z (by omega)
        walk_at "rd"
        refine k _ ⟨fun h => ⟨_, rfl, c, rfl, of_decide_eq_true h⟩, ?_⟩
        rintro ⟨_, e3, c', e4, h⟩
        cases e3
        cases e4
        exact decide_eq_true h
      · refine k _ ⟨(fun h => nomatch h), ?_⟩
        rintro ⟨_, e3, c', rfl, _⟩
        cases e3
        exact absurd rfl e2
    | _ => cases e1
  · refine k _ ⟨(fun h => nomatch h), ?_⟩
    rintro ⟨z, rfl, _⟩
    cases e1

end
end Lw
end

section
set_option Elab.async false
set_option linter.all false
set_option maxRecDepth 100000
set_option maxHeartbeats 4000000
set_option pp.maxSteps 300
set_option pp.deepTerms false
namespace Lw
open PySem L2 Evl M
open PyProof.Rows hiding St
local macro_rules | `(tactic| walk_at "at") => `(tactic| first | assumption | exact upd_same)
local macro_rules | `(tactic| walk_at "sq") => `(tactic| first | assumption | exact SqL.of (by walk_at "at") | exact SqT.of (by walk_at "at"))
local macro_rules | `(tactic| walk_at "sd") => `(tactic| first | assumption | exact Names.size (by assumption) | omega | decide | exact Nat.le_of_ble_eq_true rfl | exact Or.inl ⟨by decide, by decide⟩ | exact wide_div (b := 200) (by first | assumption | decide) (by first | assumption | decide) (by decide) (by decide) | exact pow_w 10 (by decide) (by decide) (by decide) (by decide))
local macro_rules | `(tactic| walk_at "r1") => `(tactic| first
  | refine ⟨_, rfl, ?_⟩
  | refine ⟨_, _, rfl, rfl, ?_⟩
  | refine And.intro rfl ?_
  | refine ⟨_, _, _, _, rfl, rfl, (by walk_at "sq"), rfl, ?_⟩
  | refine ⟨_, _, _, _, rfl, rfl, (by walk_at "at"), rfl, ?_⟩
  | refine ⟨_, _, rfl, Or.inl (by walk_at "sq"), ?_⟩
  | refine ⟨_, _, rfl, Or.inr (by walk_at "sq"), ?_⟩
  | refine ⟨_, _, rfl, ?_⟩
  | refine Or.inl ⟨_, rfl, ?_⟩
  | refine And.intro (by walk_at "sd") ?_)
local macro_rules | `(tactic| walk_at "rd") => `(tactic| try (walk_at "r1"; walk_at "rd"))
section
variable {P : Program} {w : World} {K : PySem.W.Frag} {mg : Str → Option Value} {base : Heap}
theorem ok_has_form (T : Tx w K mg) (G_is_one_letter : FnOk P w K mg base CX0 2 T.a_is_one_letter T.d_is_one_letter ["value"] (sp_is_one_letter K)) :
    FnOk P w K mg base CX0 3 T.a_has_form T.d_has_form ["value"] (sp_has_form K) := by
  refine T.F_has_form.ok sc_has_form (fun vs H Q E h => ?_) (fun cdv A outer s H vs Q E hr h => ?_)
  · obtain ⟨_, _, rfl, _⟩ := h
    rfl
  obtain ⟨v, d, rfl, hd, hs, k⟩ := h
  refine ⟨_, (pss_cons (ps_if (pw_or (pt_not (pt_val (pe_callB M.call_isT (by rfl) T.b_isinstance (by decide +kernel) (pa_cons (pv 0) (pa_cons (pe_bltn (v := .ty "tuple") (by rfl) T.b_tuple (by decide +kernel) rfl) pa_nil))))) (pw_or1 (pt_cmpR op_eq (pe_callB call_len_seq (by rfl) T.b_len (by decide +kernel) (pa_cons (pv 0) pa_nil)) pe_int (nomark _)))).pt (pss_one (ps_ret pe_bl)) pss_nil)
   (pss_cons (ps_set (i := 1) sc_has_form.nd rfl (Or.inl rfl) (pe_ix ix_tup (pv 0) pe_int (fun _ _ => rfl)))
   (pss_cons (ps_if (pw_or (pt_not (pt_val (pe_callB M.call_isT (by rfl) T.b_isinstance (by decide +kernel) (pa_cons (pv 1) (pa_cons (pe_bltn (v := .ty "str") (by rfl) T.b_str (by decide +kernel) rfl) pa_nil))))) (pw_or1 (pt_cmpR op_ne (M.pe_kget (pe_glob (v := .ref T.a_SIZES) (by rfl) T.g_SIZES rfl) (pv 1) pe_int ⟨by rfl, by rfl, by rfl, by rfl⟩) (pe_callB call_len_seq (by rfl) T.b_len (by decide +kernel) (pa_cons (pv 0) pa_nil)) (nomark _)))).pt (pss_one (ps_ret pe_bl)) pss_nil)
   (pss_one (ps_ret (pe_or (pe_cmpR op_ne (pv 1) pe_str (nomark _)) (pe_one (pe_call G_is_one_letter (hr.mono (by omega)) (by rfl) T.g_is_one_letter T.F_is_one_letter.kp T.b_is_one_letter .nil pass0 (pa_cons (pe_ix ix_tup (pv 0) pe_int (fun _ _ => rfl)) pa_nil))))))))), ?_⟩
  have no : ¬ HasForm d → Q (.bl false) H := fun h => k false ⟨(fun z => nomatch z), fun z => absurd z h⟩
  walk_at "rd"
  refine ⟨_, _, _, _, rfl, hd.ty, isTup d, ?_⟩
  walk_at "rd"
  refine iteB (fun e1 => ?_) (fun e1 => ?_)
  · walk_at "rd"
    exact no fun h => by
      obtain ⟨z, ds, rfl⟩ := form_tup h
      cases e1
  have e1 : tupB d = true := by simpa using e1
  cases hd with
  | @tup a xs ds hx hds =>
    have hl := hds.len
    walk_at "rd"
    refine iteI (fun e2 => ?_) (fun e2 => ?_)
    · walk_at "rd"
      exact no fun h => by
        obtain ⟨z, es, e⟩ := form_tup h
        cases e
        simp only [List.length_cons] at hl
        omega
    cases hds with
    | nil => exact absurd rfl e2
    | @cons x xs d0 ds hd0 hds =>
      walk_at "rd"
      refine ⟨_, _, _, x, rfl, rfl, hx, at0 _ _, ?_⟩
      walk_at "rd"
      refine ⟨_, _, _, _, rfl, hd0.ty, isStr d0, ?_⟩
      walk_at "rd"
      refine iteB (fun e3 => ?_) (fun e3 => ?_)
      · walk_at "rd"
        exact no fun h => by
          obtain ⟨z, es, e⟩ := form_tup h
          cases e
          cases e3
      have e3 : strB d0 = true := by simpa using e3
      cases hd0 with
      | str wd =>
        walk_at "rd"
        refine ⟨_, _, rfl, T.ki_SIZES, ?_⟩
        walk_at "rd"
        refine iteNI (fun e4 => ?_) (fun e4 => ?_)
        · walk_at "rd"
          refine no fun h => e4 ?_
          show (List.lookup wd _).getD 0 = _
          rw [form_size h, hl]
          rfl
        have e4 := sz_cases e4 e2
        have hl2 : xs.length = ds.length := hds.len
        simp only [List.length_cons] at e4
        walk_at "rd"
        refine iteNS (fun e5 => ?_) (fun e5 => ?_)
        · refine k true ⟨fun _ => ?_, fun _ => rfl⟩
          rcases e4 with ⟨rfl, e6⟩ | ⟨rfl, e6⟩ | ⟨rfl, e6⟩ | ⟨rfl, e6⟩
          · cases ds with
            | nil => rfl
            | cons _ _ => simp only [List.length_cons] at hl2; omega
          · match ds, hl2 with
            | [_], _ => rfl
            | [], h | _ :: _ :: _, h => simp only [List.length_cons, List.length_nil] at h; omega
          · match ds, hl2 with
            | [_, _], _ => rfl
            | [], h | [_], h | _ :: _ :: _ :: _, h => simp only [List.length_cons, List.length_nil] at h; omega
          · exact absurd rfl e5
        · subst e5
          have e6 : ((xs.length + 1 : Nat) : Int) = 4 := by
            rcases e4 with ⟨z, _⟩ | ⟨z, _⟩ | ⟨z, _⟩ | ⟨_, z⟩
            · exact absurd z (by decide +kernel)
            · exact absurd z (by decide +kernel)
            · exact absurd z (by decide +kernel)
            · exact z
          match xs, ds, hds, hl2, e6 with
          | _, _, .cons ha (.cons hc (.cons hb .nil)), _, _ =>
            walk_at "rd"
            have hs' : sm _ = true := sms_mem (ds := [_, _, _, _]) hs _ (List.mem_cons_of_mem _ (List.mem_cons_of_mem _ List.mem_cons_self))
            refine ⟨_, _, rfl, hc, hs', fun b hb' => ?_⟩
            refine k b (hb'.trans ⟨?_, ?_⟩)
            · rintro ⟨z, rfl, h⟩
              exact ⟨rfl, h⟩
            · intro h
              unfold HasForm at h
              split at h
              all_goals first
                | (rename_i e; cases e; exact ⟨_, rfl, h.2⟩)
                | (rename_i e; cases e)
                | exact h.elim
          | _, _, .nil, _, h | _, _, .cons _ .nil, _, h | _, _, .cons _ (.cons _ .nil), _, h | _, _, .cons _ (.cons _ (.cons _ (.cons _ _))), _, h => simp only [List.length_cons, List.length_nil] at h; omega
      | _ => cases e3
  | _ => cases e1

end
end Lw
end

section
set_option Elab.async false
set_option linter.all false
set_option maxRecDepth 100000
set_option maxHeartbeats 4000000
set_option pp.maxSteps 300
set_option pp.deepTerms false
namespace Lw
open PySem L2 Evl M
open PyProof.Rows hiding St
local macro_rules | `(tactic| walk_at "at") => `(tactic| first | assumption | exact upd_same)
local macro_rules | `(tactic| walk_at "sq") => `(tactic| first | assumption | exact SqL.of (by walk_at "at") | exact SqT.of (by walk_at "at"))
local macro_rules | `(tactic| walk_at "sd") => `(tactic| first | assumption | exact Names.size (by assumption) | omega | decide | exact Nat.le_of_ble_eq_true rfl | exact Or.inl ⟨by decide, by decide⟩ | exact wide_div (b := 200) (by first | assumption | decide) (by first | assumption | decide) (by decide) (by decide) | exact pow_w 10 (by decide) (by decide) (by decide) (by decide))
local macro_rules | `(tactic| walk_at "r1") => `(tactic| first
  | refine ⟨_, rfl, ?_⟩
  | refine ⟨_, _, rfl, rfl, ?_⟩
  | refine And.intro rfl ?_
  | refine ⟨_, _, _, _, rfl, rfl, (by walk_at "sq"), rfl, ?_⟩
  | refine ⟨_, _, _, _, rfl, rfl, (by walk_at "at"), rfl, ?_⟩
  | refine ⟨_, _, rfl, Or.inl (by walk_at "sq"), ?_⟩
  | refine ⟨_, _, rfl, Or.inr (by walk_at "sq"), ?_⟩
  | refine ⟨_, _, rfl, ?_⟩
  | refine Or.inl ⟨_, rfl, ?_⟩
  | refine And.intro (by walk_at "sd") ?_)
local macro_rules | `(tactic| walk_at "rd") => `(tactic| try (walk_at "r1"; walk_at "rd"))
section
variable {P : Program} {w : World} {K : PySem.W.Frag} {mg : Str → Option Value} {base : Heap}
theorem ok_inner_questions (T : Tx w K mg) : FnOk P w K mg base CX0 1 T.a_inner_questions T.d_inner_questions ["part"] (sp_inner K) := by
  refine T.F_inner_questions.ok sc_inner_questions (fun vs H Q E h => ?_) (fun cdv A outer s H vs Q E hr h => ?_)
  · obtain ⟨_, _, _, rfl, _⟩ := h
    rfl
  obtain ⟨H0, v, d, rfl, x0, hd, hf, k⟩ := h
  refine ⟨_, (pss_cons (ps_if (pt_cmpR op_eq (pe_ix ix_tup (pv 0) pe_int (fun _ _ => rfl)) pe_str (nomark _)) (pss_one (ps_ret (pe_lst (pa_cons (pe_ix ix_tup (pv 0) pe_int (fun _ _ => rfl)) (pa_cons (pe_ix ix_tup (pv 0) pe_int (fun _ _ => rfl)) pa_nil))))) pss_nil)
   (pss_one (ps_ret (pe_callTy call_list_of (by rfl) T.b_list (by decide +kernel) (pa_cons (pe_slice sl_tup (pv 0) (po_some pe_int) po_none) pa_nil))))), ?_⟩
  have tail : ∀ (x : V) (xs : List V) (ds : List PyData), inner d = ds → Das K H0 xs ds → ∀ t, H t = none → ∀ l, upd H t (.tup (cutV (x :: xs) (some 1) none)) l = none → Q (.ref l) (upd (upd H t (.tup (cutV (x :: xs) (some 1) none))) l (.lst (cutV (x :: xs) (some 1) none))) := by
    intro x xs ds e h t ht l hl
    rw [cut1] at hl ⊢
    exact k l xs _ ((Ex.new ht).trans (Ex.new hl)) (fresh_back (Ex.new ht) hl) upd_same (by rw [e]; exact h)
  obtain ⟨a, xs, rfl, hx, hc⟩ := form_cases hd hf
  have hx := ex_t x0 hx
  rcases hc with ⟨rfl, e⟩ | ⟨x, r, rfl, h1, e⟩ | ⟨x, y, r, t, rfl, h1, h2, e⟩ | ⟨x, y, r, t, c, rfl, h1, h2, e, _⟩
  · walk_at "rd"
    refine ⟨_, _, rfl, hx, cut1_not _ _, fun t ht => ?_⟩
    walk_at "rd"
    exact tail _ _ _ e .nil t ht
  · walk_at "rd"
    refine ⟨_, _, rfl, hx, cut1_not _ _, fun t ht => ?_⟩
    walk_at "rd"
    exact tail _ _ _ e (.cons h1 .nil) t ht
  · walk_at "rd"
    refine ⟨_, _, rfl, hx, cut1_not _ _, fun t ht => ?_⟩
    walk_at "rd"
    exact tail _ _ _ e (.cons h1 (.cons h2 .nil)) t ht
  · walk_at "rd"
    exact fun l hl => k l _ _ (Ex.new hl) hl upd_same (by rw [e]; exact .cons h1 (.cons h2 .nil))

end
end Lw
end

section
set_option Elab.async false
set_option linter.all false
set_option maxRecDepth 100000
set_option maxHeartbeats 4000000
set_option pp.maxSteps 300
set_option pp.deepTerms false
namespace Lw
open PySem L2 Evl M
open PyProof.Rows hiding St
local macro_rules | `(tactic| walk_at "at") => `(tactic| first | assumption | exact upd_same)
local macro_rules | `(tactic| walk_at "sq") => `(tactic| first | assumption | exact SqL.of (by walk_at "at") | exact SqT.of (by walk_at "at"))
local macro_rules | `(tactic| walk_at "sd") => `(tactic| first | assumption | exact Names.size (by assumption) | omega | decide | exact Nat.le_of_ble_eq_true rfl | exact Or.inl ⟨by decide, by decide⟩ | exact wide_div (b := 200) (by first | assumption | decide) (by first | assumption | decide) (by decide) (by decide) | exact pow_w 10 (by decide) (by decide) (by decide) (by decide))
local macro_rules | `(tactic| walk_at "r1") => `(tactic| first
  | refine ⟨_, rfl, ?_⟩
  | refine ⟨_, _, rfl, rfl, ?_⟩
  | refine And.intro rfl ?_
  | refine ⟨_, _, _, _, rfl, rfl, (by walk_at "sq"), rfl, ?_⟩
  | refine ⟨_, _, _, _, rfl, rfl, (by walk_at "at"), rfl, ?_⟩
  | refine ⟨_, _, rfl, Or.inl (by walk_at "sq"), ?_⟩
  | refine ⟨_, _, rfl, Or.inr (by walk_at "sq"), ?_⟩
  | refine ⟨_, _, rfl, ?_⟩
  | refine Or.inl ⟨_, rfl, ?_⟩
  | refine And.intro (by walk_at "sd") ?_)
local macro_rules | `(tactic| walk_at "rd") => `(tactic| try (walk_at "r1"; walk_at "rd"))
section
variable {P : Program} {w : World} {K : PySem.W.Frag} {mg : Str → Option Value} {base : Heap}
theorem ok_is_question (T : Tx w K mg) (G_has_form : FnOk P w K mg base CX0 3 T.a_has_form T.d_has_form ["value"] (sp_has_form K))
    (G_inner_questions : FnOk P w K mg base CX0 1 T.a_inner_questions T.d_inner_questions ["part"] (sp_inner K)) :
    FnOk P w K mg base CX0 4 T.a_is_question T.d_is_question ["value"] (sp_is_question K) := by
  refine T.F_is_question.ok sc_is_question (fun vs H Q E h => ?_) (fun cdv A outer s H vs Q E hr h => ?_)
  · obtain ⟨_, _, _, rfl, _⟩ := h
    rfl
  obtain ⟨H0, v, d, rfl, x0, hd, hs, hz, k⟩ := h
  refine ⟨_, (pss_cons (ps_set (i := 1) sc_is_question.nd rfl (Or.inl rfl) (pe_lst (pa_cons (pv 0) pa_nil)))
   (pss_cons (ps_while PassesOwn.never (pt_truth (pv 1) (by intro _; rfl)) (pss_cons (ps_set (i := 2) sc_is_question.nd rfl (Or.inl rfl) (pe_bm0 PySem.F.plainAttrs_list PySem.F.slot_list_pop PySem.F.type_list_pop mt_pop (pv 1)))
   (pss_cons (ps_if (pt_not (pt_val (pe_call G_has_form (hr.mono (by omega)) (by rfl) T.g_has_form T.F_has_form.kp T.b_has_form .nil pass0 (pa_cons (pv 2) pa_nil)))) (pss_one (ps_ret pe_bl)) pss_nil)
   (pss_one (ps_expr (pe_bm PySem.F.plainAttrs_list PySem.F.slot_list_extend PySem.F.type_list_extend mt_extend (pv 1) (pa_cons (pe_call G_inner_questions (hr.mono (by omega)) (by rfl) T.g_inner_questions T.F_inner_questions.kp T.b_inner_questions .nil pass0 (pa_cons (pv 2) pa_nil)) pa_nil)))))))
   (pss_one (ps_ret pe_bl)))), ?_⟩
  walk_at "rd"
  intro l hl
  refine ⟨fun m σ H' => ∃ (xs : List V) (ds : List PyData) (o : Option V), σ = [some v, some (.ref l), o] ∧ m = ndss ds ∧ Ex H H' ∧ H' l = some (.lst xs) ∧ Das K H0 xs ds ∧ sms ds = true ∧ ndss ds ≤ 10000 ∧ (IsQ d ↔ ∀ x ∈ ds, IsQ x),
    ⟨_, [v], [d], _, rfl, rfl, Ex.new hl, upd_same, .cons hd .nil, by rw [sms, hs]; rfl, by simp only [ndss]; omega, by simp⟩, ?_⟩
  rintro m σ H' ⟨xs, ds, o, rfl, rfl, x1, hL, hds, hsm, hn, hq⟩
  refine ⟨_, rfl, _, .inl ⟨xs, SqL.of hL, rfl⟩, ?_⟩
  rw [hds.ne]
  cases ds with
  | nil =>
    refine iteF ?_
    walk_at "rd"
    exact k true H' x1 ⟨fun _ => hq.mpr (by simp), fun _ => rfl⟩
  | cons d1 ds1 =>
  refine iteT ?_
  obtain ⟨x, dl, e1, hx, hdl, e2⟩ := hds.last (by simp)
  generalize d1 :: ds1 = ds at *
  have hlen := hds.len
  have hl0 : H0 l = none := fresh_back x0 hl
  have n0 : ndss ds.dropLast + nds dl = ndss ds := by
    conv => rhs; rw [e2, ndss_app]
    simp [ndss]
  have mem : ∀ y, y ∈ ds ↔ y ∈ ds.dropLast ∨ y = dl := fun y => by
    conv => lhs; rw [e2]
    simp
  have sm1 : sm dl = true := sms_mem hsm _ ((mem dl).mpr (.inr rfl))
  refine ⟨fun σ' G => ∃ m', m' < ndss ds ∧ ∃ (xs : List V) (ds : List PyData) (o : Option V), σ' = [some v, some (.ref l), o] ∧ m' = ndss ds ∧ Ex H G ∧ G l = some (.lst xs) ∧ Das K H0 xs ds ∧ sms ds = true ∧ ndss ds ≤ 10000 ∧ (IsQ d ↔ ∀ x ∈ ds, IsQ x), fun _ _ h => h, ?_⟩
  refine ⟨_, rfl, .inl ⟨rfl, _, SqL.of hL⟩, l, xs, x, rfl, rfl, hL, e1, ?_⟩
  have ex1 : Ex H (upd H' l (.lst xs.dropLast)) := x1.mut hl
  have hx1 : Da K (upd H' l (.lst xs.dropLast)) x dl := hx.up (x0.trans ex1)
  walk_at "rd"
  refine ⟨x, dl, rfl, hx1, sm1, fun b hb => ?_⟩
  walk_at "rd"
  cases b with
  | false =>
    refine iteT ?_
    walk_at "rd"
    refine k false _ ex1 ⟨(fun h => nomatch h), fun h => ?_⟩
    exact hb.mpr (isQ_form.mp (hq.mp h dl ((mem dl).mpr (.inr rfl)))).1
  | true =>
    refine iteF ?_
    have hf : HasForm dl := hb.mp rfl
    walk_at "rd"
    refine ⟨.inl ⟨rfl, _, SqL.of upd_same⟩, ?_⟩
    refine ⟨_, rfl, ?_⟩
    refine ⟨H0, x, dl, rfl, x0.trans ex1, hx, hf, fun l2 ys G xg f2 g2 hys => ?_⟩
    have ln : l2 ≠ l := fun z => by rw [z, upd_same] at f2; cases f2
    have b1 := ndss_len ds.dropLast
    have b2 := ndss_len (inner dl)
    have b3 := inner_nds dl
    have b4 := hdl.len
    have b5 := hys.len
    refine ⟨l, l2, xs.dropLast, ys, rfl, rfl, xg _ _ upd_same, g2, Nat.le_trans (by omega : _ ≤ 20000) (by decide), ?_⟩
    refine ⟨ndss (ds.dropLast ++ inner dl), by rw [ndss_app]; omega, _, _, _, rfl, rfl, ?_, upd_same, hdl.app hys, sms_app ?_ (sms_of (sm_inner sm1)), by rw [ndss_app]; omega, hq.trans ⟨fun h y hy => ?_, fun h y hy => ?_⟩⟩
    · exact (ex1.trans xg).mut hl
    · exact sms_of fun y hy => sms_mem hsm y ((mem y).mpr (.inl hy))
    · rcases List.mem_append.mp hy with z | z
      · exact h y ((mem y).mpr (.inl z))
      · exact (isQ_form.mp (h dl ((mem dl).mpr (.inr rfl)))).2 y z
    · rcases (mem y).mp hy with z | rfl
      · exact h y (List.mem_append.mpr (.inl z))
      · exact isQ_form.mpr ⟨hf, fun y' hy' => h y' (List.mem_append.mpr (.inr hy'))⟩

end
end Lw
end

section
set_option Elab.async false
set_option linter.all false
set_option maxRecDepth 100000
set_option maxHeartbeats 4000000
set_option pp.maxSteps 300
set_option pp.deepTerms false
namespace Lw
open PySem L2 Evl M
open PyProof.Rows hiding St
local macro_rules | `(tactic| walk_at "at") => `(tactic| first | assumption | exact upd_same)
local macro_rules | `(tactic| walk_at "sq") => `(tactic| first | assumption | exact SqL.of (by walk_at "at") | exact SqT.of (by walk_at "at"))
local macro_rules | `(tactic| walk_at "sd") => `(tactic| first | assumption | exact Names.size (by assumption) | omega | decide | exact Nat.le_of_ble_eq_true rfl | exact Or.inl ⟨by decide, by decide⟩ | exact wide_div (b := 200) (by first | assumption | decide) (by first | assumption | decide) (by decide) (by decide) | exact pow_w 10 (by decide) (by decide) (by decide) (by decide))
local macro_rules | `(tactic| walk_at "r1") => `(tactic| first
  | refine ⟨_, rfl, ?_⟩
  | refine ⟨_, _, rfl, rfl, ?_⟩
  | refine And.intro rfl ?_
  | refine ⟨_, _, _, _, rfl, rfl, (by walk_at "sq"), rfl, ?_⟩
  | refine ⟨_, _, _, _, rfl, rfl, (by walk_at "at"), rfl, ?_⟩
  | refine ⟨_, _, rfl, Or.inl (by walk_at "sq"), ?_⟩
  | refine ⟨_, _, rfl, Or.inr (by walk_at "sq"), ?_⟩
  | refine ⟨_, _, rfl, ?_⟩
  | refine Or.inl ⟨_, rfl, ?_⟩
  | refine And.intro (by walk_at "sd") ?_)
local macro_rules | `(tactic| walk_at "rd") => `(tactic| try (walk_at "r1"; walk_at "rd"))
section
variable {P : Program} {w : World} {K : PySem.W.Frag} {mg : Str → Option Value} {base : Heap}
theorem ok__law_pool (T : Tx w K mg) : FnOk P w K mg base CX0 1 T.a__law_pool T.d__law_pool ["script", "spot"] (sp_pool K) := by
  refine T.F__law_pool.ok sc__law_pool (fun vs H Q E h => ?_) (fun cdv A outer s H vs Q E hr h => ?_)
  · obtain ⟨_, _, _, rfl, _⟩ := h
    rfl
  obtain ⟨a, ns, i, rfl, hS, i0, i1, k⟩ := h
  have fin : ∀ (c : Int) (p : Addr), H p = none → Pl H (upd H p (.lst [.int (if c.natAbs - 10 ^ 18 > (0 : Int) then c.natAbs - 10 ^ 18 else 0), .int (c % 2305843009213693951 + 7368787 * (i + 1)), .int 0])) p 0 := by
    intro c p hp
    have e := Int.emod_lt_of_pos c (show (0 : Int) < 2305843009213693951 by decide)
    have e0 := Int.emod_nonneg c (show (2305843009213693951 : Int) ≠ 0 by decide)
    refine ⟨Ex.new hp, hp, _, _, _, upd_same, ?_, by omega, ?_, by omega, by omega⟩
    · split <;> omega
    · have : (2 : Int) ^ 62 = 4611686018427387904 := by decide
      omega
  refine ⟨_, (pss_cons (ps_set (i := 2) sc__law_pool.nd rfl (Or.inl rfl) pe_int)
   (pss_cons (ps_if (pt_cmpR op_lt (pv 1) (pe_callB call_len_seq (by rfl) T.b_len (by decide +kernel) (pa_cons (pv 0) pa_nil)) (nomark _)) (pss_one (ps_set (i := 2) sc__law_pool.nd rfl (Or.inl rfl) (pe_ix ix_list (pv 0) (pv 1) (fun _ _ => rfl)))) pss_nil)
   (pss_one (ps_ret (pe_lst (pa_cons (pe_callB (call_max2 (by rfl)) (by rfl) T.b_max (by decide +kernel) (pa_cons pe_int (pa_cons (pe_op op_sub (pe_callB call_abs (by rfl) T.b_abs (by decide +kernel) (pa_cons (pv 2) pa_nil)) (pe_op M.op_powW pe_int pe_int)) pa_nil))) (pa_cons (pe_op op_add (pe_op op_mod (pe_callTy call_int1 (by rfl) T.b_int (by decide +kernel) (pa_cons (pv 2) pa_nil)) pe_int) (pe_op op_mul pe_int (pe_op op_add (pv 1) pe_int))) (pa_cons pe_int pa_nil)))))))), ?_⟩
  walk_at "rd"
  refine ite2 (fun q => ?_) (fun q => ?_)
  · have q1 : i < ns.length := by
      have q0 := of_decide_eq_true q
      rw [List.length_map] at q0
      exact q0
    obtain ⟨j, rfl⟩ : ∃ j : Nat, i = j := ⟨i.toNat, by omega⟩
    have q2 : j < ns.length := by omega
    walk_at "rd"
    refine ⟨_, _, _, V.int ns[j], rfl, rfl, hS, atI_nat (by simp [q2]), ?_⟩
    walk_at "rd"
    intro p hp
    refine k p _ ?_
    have e := fin ns[j] p hp
    have e2 : (if ns[j] < 0 then -ns[j] else ns[j]) = (ns[j].natAbs : Int) := by split <;> omega
    rw [← e2] at e
    exact e
  · walk_at "rd"
    exact fun p hp => k p _ (fin 0 p hp)

end
end Lw
end

section
set_option Elab.async false
set_option linter.all false
set_option maxRecDepth 100000
set_option maxHeartbeats 4000000
set_option pp.maxSteps 300
set_option pp.deepTerms false
namespace Lw
open PySem L2 Evl M
open PyProof.Rows hiding St
local macro_rules | `(tactic| walk_at "at") => `(tactic| first | assumption | exact upd_same)
local macro_rules | `(tactic| walk_at "sq") => `(tactic| first | assumption | exact SqL.of (by walk_at "at") | exact SqT.of (by walk_at "at"))
local macro_rules | `(tactic| walk_at "sd") => `(tactic| first | assumption | exact Names.size (by assumption) | omega | decide | exact Nat.le_of_ble_eq_true rfl | exact Or.inl ⟨by decide, by decide⟩ | exact wide_div (b := 200) (by first | assumption | decide) (by first | assumption | decide) (by decide) (by decide) | exact pow_w 10 (by decide) (by decide) (by decide) (by decide))
local macro_rules | `(tactic| walk_at "r1") => `(tactic| first
  | refine ⟨_, rfl, ?_⟩
  | refine ⟨_, _, rfl, rfl, ?_⟩
  | refine And.intro rfl ?_
  | refine ⟨_, _, _, _, rfl, rfl, (by walk_at "sq"), rfl, ?_⟩
  | refine ⟨_, _, _, _, rfl, rfl, (by walk_at "at"), rfl, ?_⟩
  | refine ⟨_, _, rfl, Or.inl (by walk_at "sq"), ?_⟩
  | refine ⟨_, _, rfl, Or.inr (by walk_at "sq"), ?_⟩
  | refine ⟨_, _, rfl, ?_⟩
  | refine Or.inl ⟨_, rfl, ?_⟩
  | refine And.intro (by walk_at "sd") ?_)
local macro_rules | `(tactic| walk_at "rd") => `(tactic| try (walk_at "r1"; walk_at "rd"))
section
variable {P : Program} {w : World} {K : PySem.W.Frag} {mg : Str → Option Value} {base : Heap}
theorem ok__law_query (T : Tx w K mg) (G__law_draw : FnOk P w K mg base CX0 1 T.a__law_draw T.d__law_draw ["pool", "span"] sp_draw) : ∀ n : Nat,
    FnOk P w K mg base CX0 (n + 1) T.a__law_query T.d__law_query ["pool", "names", "deep", "wide"] (sp_query K n) := by
  intro n
  induction n with
  | zero => exact fn_void fun vs H Q E ⟨_, _, _, _, _, _, _, _, _, h1, h, _⟩ => by omega
  | succ n ih =>
  have G__law_query := ih
  refine T.F__law_query.ok sc__law_query (fun vs H Q E h => ?_) (fun cdv A outer s H vs Q E hr h => ?_)
  · obtain ⟨_, _, _, _, _, _, rfl, _⟩ := h
    rfl
  obtain ⟨H0, p, m, z, dp, wd, rfl, hP, hm, w1, wn, hz, k⟩ := h
  refine ⟨_, (pss_cons (ps_set (i := 4) sc__law_query.nd rfl (Or.inl rfl) (pe_call G__law_draw (hr.mono (by omega)) (by rfl) T.g__law_draw T.F__law_draw.kp T.b__law_draw .nil pass0 (pa_cons (pv 0) (pa_cons pe_int pa_nil))))
   (pss_cons (ps_if (pw_or (pt_cmpR op_lt (pv 3) pe_int (nomark _)) (pw_or1 (pt_cmpR op_eq (pv 4) pe_int (nomark _)))).pt (pss_one (ps_ret (pe_tup (pa_cons pe_str pa_nil)))) pss_nil)
   (pss_cons (ps_if (pt_cmpR op_eq (pv 4) pe_int (nomark _)) (pss_one (ps_ret (pe_tup (pa_cons pe_str (pa_cons (pe_call G__law_query (hr.mono (by omega)) (by rfl) T.g__law_query T.F__law_query.kp T.b__law_query .nil pass0 (pa_cons (pv 0) (pa_cons (pv 1) (pa_cons (pv 2) (pa_cons (pe_op op_sub (pv 3) pe_int) pa_nil))))) pa_nil))))) pss_nil)
   (pss_cons (ps_set (i := 5) sc__law_query.nd rfl (Or.inl rfl) (pe_op op_fdivW (pe_op op_sub (pv 3) pe_int) pe_int))
   (pss_cons (ps_if (pw_or (pt_cmpR op_lt (pv 5) pe_int (nomark _)) (pw_or1 (pw_and (pt_cmpR op_lt (pv 2) pe_int (nomark _)) (pw_and1 (pt_cmpR op_gt (pv 4) pe_int (nomark _)))).pt)).pt (pss_one (ps_ret (pe_tup (pa_cons pe_str (pa_cons (pe_tup (pa_cons pe_str pa_nil)) pa_nil))))) pss_nil)
   (pss_cons (ps_if (pt_cmpR op_eq (pv 4) pe_int (nomark _)) (pss_one (ps_ret (pe_tup (pa_cons pe_str (pa_cons (pe_call G__law_query (hr.mono (by omega)) (by rfl) T.g__law_query T.F__law_query.kp T.b__law_query .nil pass0 (pa_cons (pv 0) (pa_cons (pv 1) (pa_cons (pv 2) (pa_cons (pv 5) pa_nil))))) (pa_cons (pe_call G__law_query (hr.mono (by omega)) (by rfl) T.g__law_query T.F__law_query.kp T.b__law_query .nil pass0 (pa_cons (pv 0) (pa_cons (pv 1) (pa_cons (pv 2) (pa_cons (pv 5) pa_nil))))) pa_nil)))))) pss_nil)
   (pss_cons (ps_set (i := 6) sc__law_query.nd rfl (Or.inl rfl) (pe_call G__law_query (hr.mono (by omega)) (by rfl) T.g__law_query T.F__law_query.kp T.b__law_query .nil pass0 (pa_cons (pv 0) (pa_cons (pv 1) (pa_cons (pe_op op_sub (pv 2) pe_int) (pa_cons (pv 5) pa_nil))))))
   (pss_one (ps_ret (pe_tup (pa_cons pe_str (pa_cons (pv 6) (pa_cons (pe_ix ix_str (pv 1) (pe_call G__law_draw (hr.mono (by omega)) (by rfl) T.g__law_draw T.F__law_draw.kp T.b__law_draw .nil pass0 (pa_cons (pv 0) (pa_cons (pe_callB call_len_str (by rfl) T.b_len (by decide +kernel) (pa_cons (pv 1) pa_nil)) pa_nil))) (fun _ _ => rfl)) (pa_cons (pe_call G__law_query (hr.mono (by omega)) (by rfl) T.g__law_query T.F__law_query.kp T.b__law_query .nil pass0 (pa_cons (pv 0) (pa_cons (pv 1) (pa_cons (pe_op op_sub (pv 2) pe_int) (pa_cons (pv 5) pa_nil))))) pa_nil)))))))))))))), ?_⟩
  walk_at "rd"
  refine ⟨H0, p, m, 5, rfl, hP, by omega, by decide, by decide, fun way H1 y0 y1 hP1 _ => ?_⟩
  have lone : ∀ (a : Addr), H1 a = none → Q (.ref a) (upd H1 a (.tup [.str "any"])) := fun a ha => by
    obtain ⟨hP2, x2, e2⟩ := hP1.new (o := .tup [.str "any"]) ha
    exact k .any _ _ _ x2 (hP2.mono (by omega)) (q_any e2) trivial (Nat.zero_le _) w1
  have small : 2 ≤ wd → ∀ (a b : Addr), H1 a = none → (upd H1 a (.tup [.str "any"])) b = none → Q (.ref b) (upd (upd H1 a (.tup [.str "any"])) b (.tup [.str "not", .ref a])) := fun w2 a b ha hb => by
    obtain ⟨hP2, x2, e2⟩ := hP1.new (o := .tup [.str "any"]) ha
    obtain ⟨hP3, x3, e3⟩ := hP2.new (o := .tup [.str "not", .ref a]) hb
    exact k (.no .any) _ _ _ (x2.trans x3) (hP3.mono (by omega)) (q_no e3 ((q_any e2).up x3)) trivial (Nat.zero_le _) (by simp only [Qn.parts]; omega)
  walk_at "rd"
  refine iteD (fun e1 => ?_) (fun e1 => ?_)
  · walk_at "rd"
    exact lone
  walk_at "rd"
  refine iteI (fun e2 => ?_) (fun e2 => ?_)
  · walk_at "rd"
    exact lone
  walk_at "rd"
  refine iteI (fun e3 => ?_) (fun e3 => ?_)
  · walk_at "rd"
    refine ⟨H0, p, m + 1, z, dp, wd - 1, rfl, hP1, by omega, by omega, by omega, hz, fun q v H2 H3 x2 hP3 hd hin hdp hpt => ?_⟩
    walk_at "rd"
    intro a ha
    obtain ⟨hP4, x4, e4⟩ := hP3.new (o := .tup [.str "not", v]) ha
    exact k (.no q) _ _ _ (x2.trans x4) (hP4.mono (by omega)) (q_no e4 (hd.up x4)) hin hdp (by simp only [Qn.parts]; omega)
  walk_at "rd"
  refine iteD (fun e4 => ?_) (fun e4 => ?_)
  · walk_at "rd"
    intro a ha
    walk_at "rd"
    exact fun b hb => small (by omega) a b ha hb
  walk_at "rd"
  refine iteD (fun e5 => ?_) (fun e5 => ?_)
  · walk_at "rd"
    refine iteD (fun e6 => ?_) (fun e6 => ?_)
    · walk_at "rd"
      intro a ha
      walk_at "rd"
      exact fun b hb => small (by omega) a b ha hb
    walk_at "rd"
    refine iteI (fun e7 => ?_) (fun e7 => by omega)
    walk_at "rd"
    refine ⟨H0, p, m + 1, z, dp, _, rfl, hP1, by omega, by omega, by omega, hz, fun q1 v1 H2 H3 x2 hP3 d1 i1 dp1 pt1 => ?_⟩
    walk_at "rd"
    refine ⟨H2, p, _, z, dp, _, rfl, hP3, by omega, by omega, by omega, hz, fun q2 v2 H4 H5 x4 hP5 d2 i2 dp2 pt2 => ?_⟩
    walk_at "rd"
    intro a ha
    obtain ⟨hP6, x6, e6⟩ := hP5.new (o := .tup [.str "both", v1, v2]) ha
    exact k (.both q1 q2) _ _ _ ((x2.trans x4).trans x6) (hP6.mono (by omega)) (q_both e6 (d1.up (x4.trans x6)) (d2.up x6)) ⟨i1, i2⟩ (by simp only [Qn.deep]; omega) (by simp only [Qn.parts]; omega)
  walk_at "rd"
  refine iteI (fun e7 => ?_) (fun e7 => ?_)
  · walk_at "rd"
    refine ⟨H0, p, m + 1, z, dp, _, rfl, hP1, by omega, by omega, by omega, hz, fun q1 v1 H2 H3 x2 hP3 d1 i1 dp1 pt1 => ?_⟩
    walk_at "rd"
    refine ⟨H2, p, _, z, dp, _, rfl, hP3, by omega, by omega, by omega, hz, fun q2 v2 H4 H5 x4 hP5 d2 i2 dp2 pt2 => ?_⟩
    walk_at "rd"
    intro a ha
    obtain ⟨hP6, x6, e6⟩ := hP5.new (o := .tup [.str "both", v1, v2]) ha
    exact k (.both q1 q2) _ _ _ ((x2.trans x4).trans x6) (hP6.mono (by omega)) (q_both e6 (d1.up (x4.trans x6)) (d2.up x6)) ⟨i1, i2⟩ (by simp only [Qn.deep]; omega) (by simp only [Qn.parts]; omega)
  walk_at "rd"
  refine ⟨H0, p, m + 1, z, dp - 1, _, rfl, hP1, by omega, by omega, by omega, hz, fun q1 v1 H2 H3 x2 hP3 d1 i1 dp1 pt1 => ?_⟩
  walk_at "rd"
  refine ⟨H2, p, _, z.length, rfl, hP3, by omega, (by have := hz.2.1; omega), (by have := hz.2.2; omega), fun kc H4 c0 c1 hP4 _ => ?_⟩
  obtain ⟨c, hc, hcz⟩ := hz.get c0 c1
  refine ⟨_, _, _, rfl, rfl, hz.size, hc, ?_⟩
  walk_at "rd"
  refine ⟨H2, p, _, z, dp - 1, _, rfl, hP4, by omega, by omega, by omega, hz, fun q2 v2 H5 H6 x5 hP6 d2 i2 dp2 pt2 => ?_⟩
  walk_at "rd"
  intro a ha
  obtain ⟨hP7, x7, e8⟩ := hP6.new (o := .tup [.str "some", v1, .str ⟨#[c]⟩, v2]) ha
  exact k (.some q1 c q2) _ _ _ ((x2.trans x5).trans x7) (hP7.mono (by omega)) (q_some e8 (d1.up (x5.trans x7)) (d2.up x7)) ⟨i1, hcz, i2⟩ (by simp only [Qn.deep]; omega) (by simp only [Qn.parts]; omega)

end
end Lw
end

section
set_option Elab.async false
set_option linter.all false
set_option maxRecDepth 100000
set_option maxHeartbeats 4000000
set_option pp.maxSteps 300
set_option pp.deepTerms false
namespace Lw
open PySem L2 Evl M
open PyProof.Rows hiding St
local macro_rules | `(tactic| walk_at "at") => `(tactic| first | assumption | exact upd_same)
local macro_rules | `(tactic| walk_at "sq") => `(tactic| first | assumption | exact SqL.of (by walk_at "at") | exact SqT.of (by walk_at "at"))
local macro_rules | `(tactic| walk_at "sd") => `(tactic| first | assumption | exact Names.size (by assumption) | omega | decide | exact Nat.le_of_ble_eq_true rfl | exact Or.inl ⟨by decide, by decide⟩ | exact wide_div (b := 200) (by first | assumption | decide) (by first | assumption | decide) (by decide) (by decide) | exact pow_w 10 (by decide) (by decide) (by decide) (by decide))
local macro_rules | `(tactic| walk_at "r1") => `(tactic| first
  | refine ⟨_, rfl, ?_⟩
  | refine ⟨_, _, rfl, rfl, ?_⟩
  | refine And.intro rfl ?_
  | refine ⟨_, _, _, _, rfl, rfl, (by walk_at "sq"), rfl, ?_⟩
  | refine ⟨_, _, _, _, rfl, rfl, (by walk_at "at"), rfl, ?_⟩
  | refine ⟨_, _, rfl, Or.inl (by walk_at "sq"), ?_⟩
  | refine ⟨_, _, rfl, Or.inr (by walk_at "sq"), ?_⟩
  | refine ⟨_, _, rfl, ?_⟩
  | refine Or.inl ⟨_, rfl, ?_⟩
  | refine And.intro (by walk_at "sd") ?_)
local macro_rules | `(tactic| walk_at "rd") => `(tactic| try (walk_at "r1"; walk_at "rd"))
section
variable {P : Program} {w : World} {K : PySem.W.Frag} {mg : Str → Option Value} {base : Heap}
theorem ok__law_steep (T : Tx w K mg) (G__law_draw : FnOk P w K mg base CX0 1 T.a__law_draw T.d__law_draw ["pool", "span"] sp_draw)
    (G__law_query : FnOk P w K mg base CX0 5 T.a__law_query T.d__law_query ["pool", "names", "deep", "wide"] (sp_query K 4)) : ∀ n : Nat,
    FnOk P w K mg base CX0 (n + 6) T.a__law_steep T.d__law_steep ["pool", "names", "deep"] (sp_steep K n) := by
  intro n
  induction n with
  | zero =>
    refine T.F__law_steep.ok sc__law_steep (fun vs H Q E h => ?_) (fun cdv A outer s H vs Q E hr h => ?_)
    · obtain ⟨_, _, _, _, _, rfl, _⟩ := h
      rfl
    obtain ⟨H0, p, m, z, dp, rfl, hP, hm, wn, hz, k⟩ := h
    refine ⟨_, (pss_cons (ps_if (pt_cmpR op_lt (pv 2) pe_int (nomark _)) (pss_one (ps_ret (pe_tup (pa_cons pe_str pa_nil)))) pss_nil) pss_never), ?_⟩
    walk_at "rd"
    refine iteD (fun e1 => ?_) (fun e1 => by omega)
    walk_at "rd"
    intro a ha
    obtain ⟨hP2, x2, e2⟩ := hP.new (o := .tup [.str "any"]) ha
    exact k .any _ _ _ x2 (hP2.mono (by omega)) (q_any e2) trivial (Nat.zero_le _) (by simp only [Qn.parts]; omega)
  | succ n ih =>
  have G__law_steep := ih
  refine T.F__law_steep.ok sc__law_steep (fun vs H Q E h => ?_) (fun cdv A outer s H vs Q E hr h => ?_)
  · obtain ⟨_, _, _, _, _, rfl, _⟩ := h
    rfl
  obtain ⟨H0, p, m, z, dp, rfl, hP, hm, wn, hz, k⟩ := h
  refine ⟨_, (pss_cons (ps_if (pt_cmpR op_lt (pv 2) pe_int (nomark _)) (pss_one (ps_ret (pe_tup (pa_cons pe_str pa_nil)))) pss_nil)
   (pss_cons (ps_par (i := 3) (j := 4) (by rfl) sc__law_steep.nd rfl rfl (by decide) rfl rfl (pa_cons (pe_call G__law_steep (hr.mono (by omega)) (by rfl) T.g__law_steep T.F__law_steep.kp T.b__law_steep .nil pass0 (pa_cons (pv 0) (pa_cons (pv 1) (pa_cons (pe_op op_sub (pv 2) pe_int) pa_nil)))) (pa_cons (pe_call G__law_query (hr.mono (by omega)) (by rfl) T.g__law_query T.F__law_query.kp T.b__law_query .nil pass0 (pa_cons (pv 0) (pa_cons (pv 1) (pa_cons (pe_op op_sub (pv 2) pe_int) (pa_cons pe_int pa_nil))))) pa_nil)) (by rfl))
   (pss_cons (ps_asg (pe_ix ix_list (pe_lst (pa_cons (pe_tup (pa_cons (pv 3) (pa_cons (pv 4) pa_nil))) (pa_cons (pe_tup (pa_cons (pv 4) (pa_cons (pv 3) pa_nil))) pa_nil))) (pe_call G__law_draw (hr.mono (by omega)) (by rfl) T.g__law_draw T.F__law_draw.kp T.b__law_draw .nil pass0 (pa_cons (pv 0) (pa_cons pe_int pa_nil))) (fun _ _ => rfl)) (pg_tup (by rfl) (pgs_cons (pg_name (i := 5) sc__law_steep.nd rfl (Or.inl rfl)) (pgs_cons (pg_name (i := 6) sc__law_steep.nd rfl (Or.inl rfl)) pgs_nil))))
   (pss_cons (ps_par (i := 7) (j := 8) (by rfl) sc__law_steep.nd rfl rfl (by decide) rfl rfl (pa_cons (pe_tup (pa_cons pe_str (pa_cons (pv 5) (pa_cons (pe_ix ix_str (pv 1) (pe_call G__law_draw (hr.mono (by omega)) (by rfl) T.g__law_draw T.F__law_draw.kp T.b__law_draw .nil pass0 (pa_cons (pv 0) (pa_cons (pe_callB call_len_str (by rfl) T.b_len (by decide +kernel) (pa_cons (pv 1) pa_nil)) pa_nil))) (fun _ _ => rfl)) (pa_cons (pv 6) pa_nil))))) (pa_cons (pe_call G__law_draw (hr.mono (by omega)) (by rfl) T.g__law_draw T.F__law_draw.kp T.b__law_draw .nil pass0 (pa_cons (pv 0) (pa_cons pe_int pa_nil))) pa_nil)) (by rfl))
   (pss_cons (ps_if (pt_cmpR op_eq (pv 8) pe_int (nomark _)) (pss_one (ps_ret (pe_tup (pa_cons pe_str (pa_cons (pv 7) pa_nil))))) pss_nil)
   (pss_one (ps_ret (pe_ifExp (pt_cmpR op_eq (pv 8) pe_int (nomark _)) (pe_tup (pa_cons pe_str (pa_cons (pv 7) (pa_cons (pe_call G__law_query (hr.mono (by omega)) (by rfl) T.g__law_query T.F__law_query.kp T.b__law_query .nil pass0 (pa_cons (pv 0) (pa_cons (pv 1) (pa_cons (pv 2) (pa_cons pe_int pa_nil))))) pa_nil)))) (pv 7))))))))), ?_⟩
  walk_at "rd"
  refine iteD (fun e1 => ?_) (fun e1 => ?_)
  · walk_at "rd"
    intro a ha
    obtain ⟨hP2, x2, e2⟩ := hP.new (o := .tup [.str "any"]) ha
    exact k .any _ _ _ x2 (hP2.mono (by omega)) (q_any e2) trivial (Nat.zero_le _) (by simp only [Qn.parts]; omega)
  walk_at "rd"
  refine ⟨H0, p, m, z, dp - 1, rfl, hP, by omega, by omega, hz, fun q1 v1 H2 H3 x2 hP3 d1 i1 dp1 pt1 => ?_⟩
  walk_at "rd"
  refine ⟨H2, p, _, z, dp - 1, 3, rfl, hP3, by omega, by decide, by omega, hz, fun q2 v2 H4 H5 x4 hP5 d2 i2 dp2 pt2 => ?_⟩
  walk_at "rd"
  intro a1 ha1
  walk_at "rd"
  intro a2 ha2
  walk_at "rd"
  intro l hl
  obtain ⟨hP6, x6, e6⟩ := hP5.new (o := .tup [v1, v2]) ha1
  obtain ⟨hP7, x7, e7⟩ := hP6.new (o := .tup [v2, v1]) ha2
  obtain ⟨hP8, x8, e8⟩ := hP7.new (o := .lst [.ref a1, .ref a2]) hl
  have e6' := x8 _ _ (x7 _ _ e6)
  have e7' := x8 _ _ e7
  have x68 := (x6.trans x7).trans x8
  generalize upd (upd (upd H4 a1 (.tup [v1, v2])) a2 (.tup [v2, v1])) l (.lst [.ref a1, .ref a2]) = H8 at *
  generalize upd (upd (upd H5 a1 (.tup [v1, v2])) a2 (.tup [v2, v1])) l (.lst [.ref a1, .ref a2]) = H9 at *
  walk_at "rd"
  refine ⟨H8, p, _, 2, rfl, hP8, by omega, by decide, by decide, fun kd H10 k0 k1 hP10 _ => ?_⟩
  have pick : ∃ (va vb : V) (qa qb : Qn), atI [V.ref a1, V.ref a2] kd = some (.ref (if kd = 0 then a1 else a2)) ∧ H8 (if kd = 0 then a1 else a2) = some (.tup [va, vb]) ∧ Dp K H8 va qa.d ∧ Dp K H8 vb qb.d ∧
      qa.In z ∧ qb.In z ∧ qa.deep ≤ (dp - 1).toNat ∧ qb.deep ≤ (dp - 1).toNat ∧ qa.parts + qb.parts ≤ 8 * (dp - 1).toNat + 4 := by
    rcases (by omega : kd = 0 ∨ kd = 1) with rfl | rfl
    · exact ⟨v1, v2, q1, q2, rfl, e6', d1.up (x4.trans x68), d2.up x68, i1, i2, dp1, dp2, by omega⟩
    · exact ⟨v2, v1, q2, q1, rfl, e7', d2.up x68, d1.up (x4.trans x68), i2, i1, dp2, dp1, by omega⟩
  obtain ⟨va, vb, qa, qb, hat, htup, da, db, ia, ib, dpa, dpb, ptab⟩ := pick
  refine ⟨_, _, _, _, rfl, rfl, SqL.of (hP10.ex _ _ e8), hat, ?_⟩
  refine ⟨_, _, rfl, SqT.of (hP10.ex _ _ htup), rfl, ?_⟩
  walk_at "rd"
  refine ⟨H8, p, _, z.length, rfl, hP10, by omega, (by have := hz.2.1; omega), (by have := hz.2.2; omega), fun kc H11 c0 c1 hP11 _ => ?_⟩
  obtain ⟨c, hc, hcz⟩ := hz.get c0 c1
  refine ⟨_, _, _, rfl, rfl, hz.size, hc, ?_⟩
  walk_at "rd"
  intro a3 ha3
  obtain ⟨hP12, x12, e12⟩ := hP11.new (o := .tup [.str "some", va, .str ⟨#[c]⟩, vb]) ha3
  have dw := q_some e12 (da.up x12) (db.up x12)
  generalize upd H8 a3 _ = H12 at *
  generalize upd H11 a3 _ = H13 at *
  walk_at "rd"
  refine ⟨H12, p, _, 5, rfl, hP12, by omega, by decide, by decide, fun way H14 y0 y1 hP14 _ => ?_⟩
  have x0 : Ex H0 H12 := ((x2.trans x4).trans x68).trans x12
  walk_at "rd"
  refine iteI (fun e2 => ?_) (fun e2 => ?_)
  · walk_at "rd"
    intro a ha
    obtain ⟨hP15, x15, e15⟩ := hP14.new (o := .tup [.str "not", .ref a3]) ha
    exact k (.no (.some qa c qb)) _ _ _ (x0.trans x15) (hP15.mono (by omega)) (q_no e15 (dw.up x15)) ⟨ia, hcz, ib⟩ (by simp only [Qn.deep]; omega) (by simp only [Qn.parts]; omega)
  walk_at "rd"
  refine iteI (fun e3 => ?_) (fun e3 => ?_)
  · walk_at "rd"
    refine ⟨H12, p, _, z, dp, 3, rfl, hP14, by omega, by decide, by omega, hz, fun q3 v3 H15 H16 x16 hP16 d3 i3 dp3 pt3 => ?_⟩
    walk_at "rd"
    intro a ha
    obtain ⟨hP17, x17, e17⟩ := hP16.new (o := .tup [.str "both", .ref a3, v3]) ha
    exact k (.both (.some qa c qb) q3) _ _ _ ((x0.trans x16).trans x17) (hP17.mono (by omega)) (q_both e17 (dw.up (x16.trans x17)) (d3.up x17)) ⟨⟨ia, hcz, ib⟩, i3⟩ (by simp only [Qn.deep]; omega) (by simp only [Qn.parts]; omega)
  walk_at "rd"
  exact k (.some qa c qb) _ _ _ x0 (hP14.mono (by omega)) dw ⟨ia, hcz, ib⟩ (by simp only [Qn.deep]; omega) (by simp only [Qn.parts]; omega)

end
end Lw
end

section
set_option Elab.async false
set_option linter.all false
set_option maxRecDepth 100000
set_option maxHeartbeats 4000000
set_option pp.maxSteps 300
set_option pp.deepTerms false
namespace Lw
open PySem L2 Evl M
open PyProof.Rows hiding St
local macro_rules | `(tactic| walk_at "at") => `(tactic| first | assumption | exact upd_same)
local macro_rules | `(tactic| walk_at "sq") => `(tactic| first | assumption | exact SqL.of (by walk_at "at") | exact SqT.of (by walk_at "at"))
local macro_rules | `(tactic| walk_at "sd") => `(tactic| first | assumption | exact Names.size (by assumption) | omega | decide | exact Nat.le_of_ble_eq_true rfl | exact Or.inl ⟨by decide, by decide⟩ | exact wide_div (b := 200) (by first | assumption | decide) (by first | assumption | decide) (by decide) (by decide) | exact pow_w 10 (by decide) (by decide) (by decide) (by decide))
local macro_rules | `(tactic| walk_at "r1") => `(tactic| first
  | refine ⟨_, rfl, ?_⟩
  | refine ⟨_, _, rfl, rfl, ?_⟩
  | refine And.intro rfl ?_
  | refine ⟨_, _, _, _, rfl, rfl, (by walk_at "sq"), rfl, ?_⟩
  | refine ⟨_, _, _, _, rfl, rfl, (by walk_at "at"), rfl, ?_⟩
  | refine ⟨_, _, rfl, Or.inl (by walk_at "sq"), ?_⟩
  | refine ⟨_, _, rfl, Or.inr (by walk_at "sq"), ?_⟩
  | refine ⟨_, _, rfl, ?_⟩
  | refine Or.inl ⟨_, rfl, ?_⟩
  | refine And.intro (by walk_at "sd") ?_)
local macro_rules | `(tactic| walk_at "rd") => `(tactic| try (walk_at "r1"; walk_at "rd"))
section
variable {P : Program} {w : World} {K : PySem.W.Frag} {mg : Str → Option Value} {base : Heap}
theorem ok__law_any_query (T : Tx w K mg) (G__law_draw : FnOk P w K mg base CX0 1 T.a__law_draw T.d__law_draw ["pool", "span"] sp_draw)
    (G__law_query : FnOk P w K mg base CX0 62 T.a__law_query T.d__law_query ["pool", "names", "deep", "wide"] (sp_query K 61))
    (G__law_steep : FnOk P w K mg base CX0 13 T.a__law_steep T.d__law_steep ["pool", "names", "deep"] (sp_steep K 7)) :
    FnOk P w K mg base CX0 63 T.a__law_any_query T.d__law_any_query ["pool", "names", "deep", "wide"] (sp_any_query K) := by
  refine T.F__law_any_query.ok sc__law_any_query (fun vs H Q E h => ?_) (fun cdv A outer s H vs Q E hr h => ?_)
  · obtain ⟨_, _, _, _, _, _, rfl, _⟩ := h
    rfl
  obtain ⟨H0, p, m, z, dp, wd, rfl, hP, hm, p0, p6, w1, w60, hz, k⟩ := h
  refine ⟨_, (pss_cons (ps_if (pt_cmpR op_eq (pe_call G__law_draw (hr.mono (by omega)) (by rfl) T.g__law_draw T.F__law_draw.kp T.b__law_draw .nil pass0 (pa_cons (pv 0) (pa_cons pe_int pa_nil))) pe_int (nomark _)) (pss_one (ps_ret (pe_call G__law_steep (hr.mono (by omega)) (by rfl) T.g__law_steep T.F__law_steep.kp T.b__law_steep .nil pass0 (pa_cons (pv 0) (pa_cons (pv 1) (pa_cons (pv 2) pa_nil)))))) pss_nil)
   (pss_one (ps_ret (pe_call G__law_query (hr.mono (by omega)) (by rfl) T.g__law_query T.F__law_query.kp T.b__law_query .nil pass0 (pa_cons (pv 0) (pa_cons (pv 1) (pa_cons (pv 2) (pa_cons (pv 3) pa_nil)))))))), ?_⟩
  walk_at "rd"
  refine ⟨H0, p, _, 2, rfl, hP, by omega, by decide, by decide, fun kd H1 k0 k1 hP1 _ => ?_⟩
  walk_at "rd"
  refine iteI (fun e1 => ?_) (fun e1 => ?_)
  · walk_at "rd"
    refine ⟨H0, p, _, z, dp, rfl, hP1, by omega, by omega, hz, fun q v H2 H3 x hP2 hd hi hdp hpt => ?_⟩
    exact k q v H2 H3 x (hP2.mono (by omega)) hd hi hdp (by omega)
  · walk_at "rd"
    refine ⟨H0, p, _, z, dp, wd, rfl, hP1, by omega, w1, by omega, hz, fun q v H2 H3 x hP2 hd hi hdp hpt => ?_⟩
    exact k q v H2 H3 x (hP2.mono (by omega)) hd hi hdp (by omega)

end
end Lw
end

section
set_option Elab.async false
set_option linter.all false
set_option maxRecDepth 100000
set_option maxHeartbeats 4000000
set_option pp.maxSteps 300
set_option pp.deepTerms false
namespace Lw
open PySem L2 Evl M
open PyProof.Rows hiding St
local macro_rules | `(tactic| walk_at "at") => `(tactic| first | assumption | exact upd_same)
local macro_rules | `(tactic| walk_at "sq") => `(tactic| first | assumption | exact SqL.of (by walk_at "at") | exact SqT.of (by walk_at "at"))
local macro_rules | `(tactic| walk_at "sd") => `(tactic| first | assumption | exact Names.size (by assumption) | omega | decide | exact Nat.le_of_ble_eq_true rfl | exact Or.inl ⟨by decide, by decide⟩ | exact wide_div (b := 200) (by first | assumption | decide) (by first | assumption | decide) (by decide) (by decide) | exact pow_w 10 (by decide) (by decide) (by decide) (by decide))
local macro_rules | `(tactic| walk_at "r1") => `(tactic| first
  | refine ⟨_, rfl, ?_⟩
  | refine ⟨_, _, rfl, rfl, ?_⟩
  | refine And.intro rfl ?_
  | refine ⟨_, _, _, _, rfl, rfl, (by walk_at "sq"), rfl, ?_⟩
  | refine ⟨_, _, _, _, rfl, rfl, (by walk_at "at"), rfl, ?_⟩
  | refine ⟨_, _, rfl, Or.inl (by walk_at "sq"), ?_⟩
  | refine ⟨_, _, rfl, Or.inr (by walk_at "sq"), ?_⟩
  | refine ⟨_, _, rfl, ?_⟩
  | refine Or.inl ⟨_, rfl, ?_⟩
  | refine And.intro (by walk_at "sd") ?_)
local macro_rules | `(tactic| walk_at "rd") => `(tactic| try (walk_at "r1"; walk_at "rd"))
section
variable {P : Program} {w : World} {K : PySem.W.Frag} {mg : Str → Option Value} {base : Heap}
theorem ok__law_is_query (T : Tx w K mg) : ∀ n : Nat, FnOk P w K mg base CX0 n T.a__law_is_query T.d__law_is_query ["thing"] (sp_lisq K n) := by
  intro n
  induction n with
  | zero =>
    refine fn_void fun vs H Q E h => ?_
    obtain ⟨_, _, q, _, _, _, _, _, _, h, _⟩ := h
    omega
  | succ n ih =>
  have G__law_is_query := ih
  refine T.F__law_is_query.ok sc__law_is_query (fun vs H Q E h => ?_) (fun cdv A outer s H vs Q E hr h => ?_)
  · obtain ⟨_, _, _, rfl, _⟩ := h
    rfl
  obtain ⟨H0, v, d, rfl, x0, hd, hkd, hs, hz, hn, k⟩ := h
  refine ⟨_, (pss_cons (ps_if (pw_or (pt_not (pt_val (pe_callB M.call_isT (by rfl) T.b_isinstance (by decide +kernel) (pa_cons (pv 0) (pa_cons (pe_bltn (v := .ty "tuple") (by rfl) T.b_tuple (by decide +kernel) rfl) pa_nil))))) (pw_or (pt_cmpR op_eq (pe_callB call_len_seq (by rfl) T.b_len (by decide +kernel) (pa_cons (pv 0) pa_nil)) pe_int (nomark _)) (pw_or1 (pt_cmpR (M.op_notInT hr.units) (pe_ix ix_tup (pv 0) pe_int (fun _ _ => rfl)) (pe_tup (pa_cons pe_str (pa_cons pe_str (pa_cons pe_str (pa_cons pe_str pa_nil))))) (by rfl))))).pt (pss_one (ps_ret pe_bl)) pss_nil)
   (pss_cons (ps_if (pt_cmpR op_ne (pe_callB call_len_seq (by rfl) T.b_len (by decide +kernel) (pa_cons (pv 0) pa_nil)) (pe_dget (M.u1 hr.units) (pe_disp (pps_cons pe_str pe_int (pps_cons pe_str pe_int (pps_cons pe_str pe_int (pps_cons pe_str pe_int pps_nil)))) (by rfl) (by rfl) (fun z => by cases z) (by decide)) (pe_ix ix_tup (pv 0) pe_int (fun _ _ => rfl)) (fun _ _ => rfl)) (nomark _)) (pss_one (ps_ret pe_bl)) pss_nil)
   (pss_cons (ps_if (pt_cmpR op_eq (pe_ix ix_tup (pv 0) pe_int (fun _ _ => rfl)) pe_str (nomark _)) (pss_cons (ps_if (pw_or (pt_not (pt_val (pe_callB M.call_isT (by rfl) T.b_isinstance (by decide +kernel) (pa_cons (pe_ix ix_tup (pv 0) pe_int (fun _ _ => rfl)) (pa_cons (pe_bltn (v := .ty "str") (by rfl) T.b_str (by decide +kernel) rfl) pa_nil))))) (pw_or (pt_cmpR op_ne (pe_callB call_len_str (by rfl) T.b_len (by decide +kernel) (pa_cons (pe_ix ix_tup (pv 0) pe_int (fun _ _ => rfl)) pa_nil)) pe_int (nomark _)) (pw_or1 (pt_cmpR op_notIn_sign (pe_ix ix_tup (pv 0) pe_int (fun _ _ => rfl)) pe_str (by rfl))))).pt (pss_one (ps_ret pe_bl)) pss_nil)
   (pss_one (ps_ret (pe_and (pe_call G__law_is_query (hr.mono (by omega)) (by rfl) T.g__law_is_query T.F__law_is_query.kp T.b__law_is_query .nil pass0 (pa_cons (pe_ix ix_tup (pv 0) pe_int (fun _ _ => rfl)) pa_nil)) (pe_one (pe_call G__law_is_query (hr.mono (by omega)) (by rfl) T.g__law_is_query T.F__law_is_query.kp T.b__law_is_query .nil pass0 (pa_cons (pe_ix ix_tup (pv 0) pe_int (fun _ _ => rfl)) pa_nil))))))) pss_nil)
   (pss_one (ps_ret (pe_cmpR (op_eqD hr.units) (pe_lc (own := [("inner_here", 1)]) (g := gName 1) (by rfl) sc__law_is_query.nd (pi_tup (pe_slice sl_tup (pv 0) (po_some pe_int) po_none)) (blkOk_by (own := [("inner_here", 1)]) (N := ["thing", "inner_here"]) (sc := defScope s__law_is_query) (by decide +kernel)) (fun _ _ _ _ _ => (pg_name (i := 1) sc__law_is_query.nd rfl (Or.inl rfl))) (fun _ _ _ _ _ => (pts_one (pt_not (pt_val (pe_call G__law_is_query (hr.mono (by omega)) (by rfl) T.g__law_is_query T.F__law_is_query.kp T.b__law_is_query .nil pass0 (pa_cons (pv 1) pa_nil)))))) (fun _ _ _ _ _ => pe_int)) (pe_lst pa_nil) (nomark _))))))), ?_⟩
  have no : ¬ IsQ d → ∀ H', Ex H H' → Q (.bl false) H' := fun h H' x => k false H' x ⟨(fun z => nomatch z), fun z => absurd z h⟩
  walk_at "rd"
  refine ⟨_, _, _, _, rfl, (hd.up x0).ty, isTup d, ?_⟩
  walk_at "rd"
  refine iteB (fun e1 => ?_) (fun e1 => ?_)
  · refine iteT ?_
    walk_at "rd"
    exact no (fun h => by
      obtain ⟨z, ds, rfl⟩ := form_tup (isQ_form.mp h).1
      cases e1) _ (Ex.refl _)
  have e1 : tupB d = true := by simpa using e1
  cases d with
  | tuple ds =>
    obtain ⟨a, xs, rfl, hx0, hds0⟩ := da_tup hd
    have hx := ex_t x0 hx0
    have hds := hds0.up x0
    have hl := hds.len
    walk_at "rd"
    refine iteI (fun e2 => ?_) (fun e2 => ?_)
    · refine iteT ?_
      walk_at "rd"
      exact no (fun h => by
        obtain ⟨z, es, e⟩ := form_tup (isQ_form.mp h).1
        cases e
        simp only [List.length_cons] at hl
        omega) _ (Ex.refl _)
    cases hds with
    | nil => exact absurd rfl e2
    | @cons x xs d0 ds h0 hds =>
    walk_at "rd"
    refine ⟨_, _, _, x, rfl, rfl, hx, at0 _ _, ?_⟩
    walk_at "rd"
    intro l nl
    have hc0 : dctB d0 = false := by
      rw [hk, Bool.and_eq_true] at hkd
      cases d0 <;> first | rfl | cases hkd.1
    have xl : Ex H (upd H l (.tup [.str "any", .str "not", .str "both", .str "some"])) := Ex.new nl
    have el : upd H l (.tup [.str "any", .str "not", .str "both", .str "some"]) l = some (.tup ([("any" : Str), "not", "both", "some"].map V.str)) := upd_same
    generalize upd H l (.tup [.str "any", .str "not", .str "both", .str "some"]) = H1 at *
    refine ⟨l, ["any", "not", "both", "some"], d0, rfl, st_of el, h0.up xl, hc0, ?_⟩
    walk_at "rd"
    refine iteB (fun e3 => ?_) (fun e3 => ?_)
    · walk_at "rd"
      have e4 : inT d0 ["any", "not", "both", "some"] = false := by simpa using e3
      exact no (fun h => by
        have := form_in (isQ_form.mp h).1
        rw [e4] at this; cases this) H1 xl
    have e4 : inT d0 ["any", "not", "both", "some"] = true := by simpa using e3
    obtain ⟨z, j, rfl, hj, hz4⟩ := inT_cases e4
    obtain rfl := da_str h0
    have hx1 := ex_t xl hx
    walk_at "rd"
    intro t nt
    have et : upd H1 t (.dK []) t = some (.dK []) := upd_same
    walk_at "rd"
    refine ⟨kv4, rfl, by decide, ?_⟩
    have xt : Ex H (upd (upd H1 t (.dK [])) t (.dK (mergeK [] kv4))) := xl.trans ((Ex.refl _).mut nt |>.mut nt)
    have gt : upd (upd H1 t (.dK [])) t (.dK (mergeK [] kv4)) t = some (.dK (mergeK [] kv4)) := upd_same
    generalize upd (upd H1 t (.dK [])) t (.dK (mergeK [] kv4)) = H2 at *
    have hx2 := ex_t xt hx
    walk_at "rd"
    refine ⟨_, _, _, _, rfl, rfl, hx2, at0 _ _, ?_⟩
    refine ⟨t, .int j, rfl, .inl ⟨_, .inr z, .inl gt, rfl, hj.symm⟩, ?_⟩
    walk_at "rd"
    refine iteNI (fun e5 => ?_) (fun e5 => ?_)
    · walk_at "rd"
      refine no (fun h => e5 ?_) H2 xt
      have := form_len hz4 (isQ_form.mp h).1
      simp only [List.length_cons] at hl ⊢
      omega
    have hdl : xs.length = ds.length := by simpa using hl
    have e5' : (ds.length : Int) + 1 = j := by rw [← e5]; simp [hdl]
    have parts := part_ok hkd hs hz hn
    walk_at "rd"
    refine ⟨_, _, _, _, rfl, rfl, hx2, at0 _ _, ?_⟩
    walk_at "rd"
    refine iteS (fun e6 => ?_) (fun e6 => ?_)
    · subst e6
      obtain rfl := wd_some hz4
      match xs, ds, hds, hdl, e5' with
      | _, _, .nil, _, h | _, _, .cons _ .nil, _, h | _, _, .cons _ (.cons _ .nil), _, h | _, _, .cons _ (.cons _ (.cons _ (.cons _ _))), _, h => simp only [List.length_cons, List.length_nil] at h; omega
      | _, _, @Das.cons _ _ u _ du _ ha (@Das.cons _ _ vc _ dc _ hc (@Das.cons _ _ vb _ db _ hb .nil)), _, _ =>
        walk_at "rd"
        refine ⟨_, _, _, _, rfl, (hc.up xt).ty, isStr dc, ?_⟩
        walk_at "rd"
        have third : (∀ c, dc = .str ⟨#[c]⟩ → ¬ (97 ≤ c ∧ c ≤ 122)) → ¬ IsQ (.tuple [.str "some", du, dc, db]) := fun h3 h => by
          obtain ⟨q, ok, e⟩ := h
          cases q with
          | some qa c qb =>
            simp only [Qn.d, PyData.tuple.injEq, List.cons.injEq] at e
            exact h3 c e.2.2.1.symm ok.2.1
          | _ => simp [Qn.d] at e
        refine iteB (fun e7 => ?_) (fun e7 => ?_)
        · refine iteT ?_
          walk_at "rd"
          refine no (third fun c e => ?_) H2 xt
          subst e
          cases e7
        cases hc with
        | str z2 =>
          have hz2 : z2.length ≤ 1000 := of_decide_eq_true (parts (.str z2) (by simp)).2.1
          walk_at "rd"
          refine And.intro (Nat.le_trans hz2 (by decide)) ?_
          walk_at "rd"
          refine iteNI (fun e8 => ?_) (fun e8 => ?_)
          · refine iteT ?_
            walk_at "rd"
            refine no (third fun c e => ?_) H2 xt
            cases e
            exact absurd rfl e8
          obtain ⟨c, rfl⟩ := one_cases z2 (by omega)
          walk_at "rd"
          refine iteB (fun e9 => ?_) (fun e9 => ?_)
          · walk_at "rd"
            refine no (third fun c' e => ?_) H2 xt
            cases e
            intro hc
            have := (abc_mem _).mpr hc
            rw [decide_eq_true this] at e9
            cases e9
          have hc : 97 ≤ c ∧ c ≤ 122 := (abc_mem c).mp (by simpa using e9)
          have iq := isQ_some (a := du) (b := db) hc
          obtain ⟨p1, p2, p3, p4⟩ := parts du (by simp)
          obtain ⟨r1, r2, r3, r4⟩ := parts db (by simp)
          walk_at "rd"
          refine ⟨H, u, du, rfl, xt, ha, p1, p2, p3, p4, fun b1 H3 x3 hb1 => ?_⟩
          walk_at "rd"
          refine iteB (fun e10 => ?_) (fun e10 => ?_)
          · have hx3 := ex_t (xt.trans x3) hx
            walk_at "rd"
            refine ⟨H, vb, db, rfl, xt.trans x3, hb, r1, r2, r3, r4, fun b2 H4 x4 hb2 => ?_⟩
            exact k b2 H4 (xt.trans (x3.trans x4)) (by rw [iq, hb2]; exact ⟨fun h => ⟨hb1.mp e10, h⟩, fun h => h.2⟩)
          · exact k false H3 (xt.trans x3) ⟨(fun z => nomatch z), fun h => by
              have := hb1.mpr (iq.mp h).1
              rw [e10] at this
              cases this⟩
        | _ => cases e7
    · obtain ⟨hiff, hfew⟩ := isQ_few hz4 e6 e5'
      walk_at "rd"
      refine ⟨_, _, rfl, hx2, cut1_not _ _, fun t2 nt2 => ?_⟩
      rw [cut1]
      have x3 : Ex H (upd H2 t2 (.tup xs)) := xt.trans (Ex.new nt2)
      have e3t : upd H2 t2 (.tup xs) t2 = some (.tup xs) := upd_same
      generalize upd H2 t2 (.tup xs) = H3 at *
      refine ⟨t2, rfl, ⟨xs, st_of e3t⟩, fun D nD => ?_⟩
      have nDt : D ≠ t2 := fun z => by rw [z, e3t] at nD; cases nD
      obtain ⟨Pv, hPv⟩ : ∃ Pv : Nat → Hp → Prop, ∀ i G, Pv i G ↔ ∃ c : Nat, Ex H3 G ∧ G D = some (.lst (List.replicate c (.int 1))) ∧ i ≤ xs.length ∧ c ≤ i ∧ (c = 0 ↔ ∀ y ∈ ds.take i, IsQ y) := ⟨_, fun _ _ => Iff.rfl⟩
      refine lc_tup (xs := xs) Pv ((hPv _ _).mpr ⟨0, Ex.new nD, upd_same, Nat.zero_le _, Nat.le_refl _, by simp⟩) (fun i G _ h => ?_) (fun i y G hy h => ?_) (fun G h => ?_)
      · obtain ⟨c, xg, _⟩ := (hPv _ _).mp h
        exact st_of (xg _ _ e3t)
      · obtain ⟨c, xg, gD, hi, hci, hc0⟩ := (hPv _ _).mp h
        have hi2 : i < xs.length := (List.getElem?_eq_some_iff.mp hy).1
        have hj : i < ds.length := by omega
        have hy2 := Das.at hds hj hy
        have nx := take_succ' hj
        have mem := List.getElem_mem hj
        obtain ⟨p1, p2, p3, p4⟩ := parts _ (List.mem_cons_of_mem _ mem)
        generalize ds[i] = e at *
        walk_at "rd"
        refine ⟨H, y, e, rfl, x3.trans xg, hy2, p1, p2, p3, p4, fun b G2 xg2 hb => ?_⟩
        walk_at "rd"
        have hdw : ds.length ≤ 2 := hfew
        refine iteB (fun e7 => ?_) (fun e7 => ?_)
        · have nb : ¬ IsQ e := fun z => by
            rw [hb.mpr z] at e7; cases e7
          walk_at "rd"
          refine ⟨_, xg2 _ _ gD, ?_, (hPv _ _).mpr ⟨c + 1, (xg.trans xg2).mut nD, ?_, hi2, by omega, ⟨fun z => by omega, fun z => ?_⟩⟩⟩
          · rw [List.length_replicate]; exact Nat.lt_of_lt_of_le (by omega : c < 3) (by decide)
          · rw [upd_same, List.replicate_succ']
          · exact absurd (z e (by rw [nx]; simp)) nb
        · have hb' : b = true := by simpa using e7
          have ib := hb.mp hb'
          refine (hPv _ _).mpr ⟨c, xg.trans xg2, xg2 _ _ gD, hi2, by omega, ?_⟩
          rw [hc0, nx]
          constructor
          · intro z y hy
            rcases List.mem_append.mp hy with hy | hy
            · exact z y hy
            · rw [List.mem_singleton.mp hy]; exact ib
          · intro z y hy
            exact z y (List.mem_append.mpr (.inl hy))
      · obtain ⟨c, xg, gD, hi, hci, hc0⟩ := (hPv _ _).mp h
        walk_at "rd"
        intro l3 nl3
        have hc2 : c ≤ 2 := by omega
        obtain ⟨s1, s2⟩ := ones_eq hc2
        have nDl : D ≠ l3 := ne_of_none gD nl3
        refine ⟨.list (List.replicate c (.int 1)), .list [], .lst (SqL.of (by rw [upd_ne nDl]; exact gD)) (dpa_ones _ _ c), .lst (SqL.of upd_same) .nil, s1, by decide +kernel, ?_⟩
        rw [s2]
        refine k _ _ (x3.trans (xg.trans (Ex.new nl3))) ?_
        rw [decide_eq_true_eq, hc0, hiff, hdl, List.take_length]
  | _ => cases e1

end
end Lw
end

section
set_option Elab.async false
set_option linter.all false
set_option maxRecDepth 100000
set_option maxHeartbeats 4000000
set_option pp.maxSteps 300
set_option pp.deepTerms false
namespace Lw
open PySem L2 Evl M
open PyProof.Rows hiding St
local macro_rules | `(tactic| walk_at "at") => `(tactic| first | assumption | exact upd_same)
local macro_rules | `(tactic| walk_at "sq") => `(tactic| first | assumption | exact SqL.of (by walk_at "at") | exact SqT.of (by walk_at "at"))
local macro_rules | `(tactic| walk_at "sd") => `(tactic| first | assumption | exact Names.size (by assumption) | omega | decide | exact Nat.le_of_ble_eq_true rfl | exact Or.inl ⟨by decide, by decide⟩ | exact wide_div (b := 200) (by first | assumption | decide) (by first | assumption | decide) (by decide) (by decide) | exact pow_w 10 (by decide) (by decide) (by decide) (by decide))
local macro_rules | `(tactic| walk_at "r1") => `(tactic| first
  | refine ⟨_, rfl, ?_⟩
  | refine ⟨_, _, rfl, rfl, ?_⟩
  | refine And.intro rfl ?_
  | refine ⟨_, _, _, _, rfl, rfl, (by walk_at "sq"), rfl, ?_⟩
  | refine ⟨_, _, _, _, rfl, rfl, (by walk_at "at"), rfl, ?_⟩
  | refine ⟨_, _, rfl, Or.inl (by walk_at "sq"), ?_⟩
  | refine ⟨_, _, rfl, Or.inr (by walk_at "sq"), ?_⟩
  | refine ⟨_, _, rfl, ?_⟩
  | refine Or.inl ⟨_, rfl, ?_⟩
  | refine And.intro (by walk_at "sd") ?_)
local macro_rules | `(tactic| walk_at "rd") => `(tactic| try (walk_at "r1"; walk_at "rd"))
section
variable {P : Program} {w : World} {K : PySem.W.Frag} {mg : Str → Option Value} {base : Heap}
theorem ok__law_odd_thing (T : Tx w K mg) (G__law_draw : FnOk P w K mg base CX0 1 T.a__law_draw T.d__law_draw ["pool", "span"] sp_draw) :
    FnOk P w K mg base CX0 2 T.a__law_odd_thing T.d__law_odd_thing ["pool", "query"] (sp_odd K) := by
  refine T.F__law_odd_thing.ok sc__law_odd_thing (fun vs H Q E h => ?_) (fun cdv A outer s H vs Q E hr h => ?_)
  · obtain ⟨_, _, _, _, _, rfl, _⟩ := h
    rfl
  obtain ⟨H0, p, m, v, q, rfl, hP, hm, hd, hok, hp, k⟩ := h
  obtain ⟨qa, qxs, rfl, hqs, hqd⟩ : ∃ a xs, v = .ref a ∧ SqT K H0 a xs ∧ Das K H0 xs (qItems q) := by
    have := da_of _ _ hd
    rw [q_items] at this
    exact da_tup this
  obtain ⟨S, hSd⟩ : ∃ S : Unit → L2.St → Hp → Prop, ∀ c σ B, S c σ B ↔ (σ[1]? = some (some (.ref qa)) ∧ SqT K B qa qxs ∧ Das K B qxs (qItems q)) := ⟨_, fun _ _ _ => Iff.rfl⟩
  have hS : Up S := fun c σ B B' x h => by
    obtain ⟨a, b, d⟩ := (hSd _ _ _).mp h
    exact (hSd _ _ _).mpr ⟨a, ex_t x b, d.up x⟩
  have hS1 : ∀ c σ B, S c σ B → ∃ a xs, σ[1]? = some (some (.ref a)) ∧ SqT K B a xs ∧ Das K B xs (qItems q) := fun c σ B h => ⟨_, _, (hSd _ _ _).mp h⟩
  have hq : ∀ c σ B, S c σ B → ∃ v, σ[1]? = some (some v) ∧ Da K B v q.d := fun c σ B h => by
    obtain ⟨a, b, d⟩ := (hSd _ _ _).mp h
    exact ⟨_, a, by rw [q_items]; exact .tup b d⟩
  obtain ⟨S2, hS2d⟩ : ∃ S2 : PyData → L2.St → Hp → Prop, ∀ c σ B, S2 c σ B ↔ (σ[1]? = some (some (.ref qa)) ∧ Da K B (.ref qa) q.d ∧ ∃ v, σ[3]? = some (some v) ∧ Da K B v c) := ⟨_, fun _ _ _ => Iff.rfl⟩
  have hT : Up S2 := fun c σ B B' x h => by
    obtain ⟨a, b, v, d, e⟩ := (hS2d _ _ _).mp h
    exact (hS2d _ _ _).mpr ⟨a, b.up x, v, d, e.up x⟩
  have hq2 : ∀ c σ B, S2 c σ B → ∃ v, σ[1]? = some (some v) ∧ Da K B v q.d := fun c σ B h => by
    obtain ⟨a, b, v, d, e⟩ := (hS2d _ _ _).mp h
    exact ⟨_, a, b⟩
  have hi2 : ∀ c σ B, S2 c σ B → ∃ v, σ[3]? = some (some v) ∧ Da K B v c := fun c σ B h => by
    obtain ⟨a, b, v, d, e⟩ := (hS2d _ _ _).mp h
    exact ⟨v, d, e⟩
  refine ⟨_, (pss_cons (ps_set (i := 2) sc__law_odd_thing.nd rfl (Or.inl rfl) (M.pd_lstL (M.pd_cons hS M.pd_non (M.pd_cons hS M.pd_int (M.pd_cons hS M.pd_bl (M.pd_cons hS M.pd_str (M.pd_cons hS M.pd_str (M.pd_cons hS (M.pd_lst M.pd_nil) (M.pd_cons hS (M.pd_lst (M.pd_cons hS M.pd_str M.pd_nil)) (M.pd_cons hS (M.pd_tup M.pd_nil) (M.pd_cons hS M.pd_dct (M.pd_cons hS (M.pd_tup (M.pd_cons hS M.pd_str M.pd_nil)) (M.pd_cons hS (M.pd_tup (M.pd_cons hS M.pd_str (M.pd_cons hS (M.pd_tup (M.pd_cons hS M.pd_str M.pd_nil)) M.pd_nil))) (M.pd_cons hS (M.pd_tup (M.pd_cons hS M.pd_str M.pd_nil)) (M.pd_cons hS (M.pd_tup (M.pd_cons hS M.pd_str (M.pd_cons hS M.pd_str M.pd_nil))) M.pd_nil)))))))))))))))
   (pss_cons (ps_set (i := 2) sc__law_odd_thing.nd rfl (Or.inl rfl) (pe_op op_cat (pv 2) (M.pd_lstL (M.pd_cons hS (M.pd_tup (M.pd_cons hS M.pd_str (M.pd_cons hS (M.pd_tup (M.pd_cons hS M.pd_str M.pd_nil)) M.pd_nil))) (M.pd_cons hS (M.pd_tup (M.pd_cons hS M.pd_str (M.pd_cons hS (M.pd_tup (M.pd_cons hS M.pd_str M.pd_nil)) (M.pd_cons hS M.pd_str M.pd_nil)))) (M.pd_cons hS (M.pd_tup (M.pd_cons hS M.pd_str (M.pd_cons hS (M.pd_tup (M.pd_cons hS M.pd_str M.pd_nil)) (M.pd_cons hS M.pd_str (M.pd_cons hS (M.pd_tup (M.pd_cons hS M.pd_str M.pd_nil)) M.pd_nil))))) (M.pd_cons hS (M.pd_tup (M.pd_cons hS M.pd_str M.pd_nil)) (M.pd_cons hS (M.pd_tup (M.pd_cons hS M.pd_non M.pd_nil)) M.pd_nil))))))))
   (pss_cons (ps_set (i := 2) sc__law_odd_thing.nd rfl (Or.inl rfl) (pe_op op_cat (pv 2) (M.pd_lstL (M.pd_cons hS (M.pd_tup (M.pd_cons hS M.pd_str (M.pd_cons hS (M.pd_tup (M.pd_cons hS M.pd_str M.pd_nil)) (M.pd_cons hS M.pd_str (M.pd_cons hS (M.pd_tup (M.pd_cons hS M.pd_str M.pd_nil)) M.pd_nil))))) (M.pd_cons hS (M.pd_tup (M.pd_cons hS M.pd_str (M.pd_cons hS (M.pd_tup (M.pd_cons hS M.pd_str M.pd_nil)) (M.pd_cons hS M.pd_int (M.pd_cons hS (M.pd_tup (M.pd_cons hS M.pd_str M.pd_nil)) M.pd_nil))))) (M.pd_cons hS (M.pd_tup (M.pd_cons hS M.pd_str (M.pd_cons hS M.pd_str (M.pd_cons hS (M.pd_tup (M.pd_cons hS M.pd_str M.pd_nil)) (M.pd_cons hS M.pd_str M.pd_nil))))) M.pd_nil))))))
   (pss_cons (ps_set (i := 2) sc__law_odd_thing.nd rfl (Or.inl rfl) (pe_op op_cat (pv 2) (M.pd_lstL (M.pd_cons hS (M.pd_tup (M.pd_cons hS M.pd_str (M.pd_cons hS (M.pd_lst (M.pd_cons hS M.pd_str M.pd_nil)) M.pd_nil))) (M.pd_cons hS (M.pd_lst (M.pd_cons hS (M.pd_var (pv 1) hq) M.pd_nil)) (M.pd_cons hS (M.pd_tup (M.pd_cons hS (M.pd_var (pv 1) hq) M.pd_nil)) (M.pd_cons hS (M.pd_of (d := fun _ => .list (qItems q)) (pe_callTy call_list_of (by rfl) T.b_list (by decide +kernel) (pa_cons (pv 1) pa_nil)) fun σ H Q h => by exact M.at_list hS1 h) (M.pd_cons hS (M.pd_of (d := fun _ => .tuple (qItems q ++ [dAny])) (pe_op op_catT (pv 1) (pe_tup (pa_cons (pe_tup (pa_cons pe_str pa_nil)) pa_nil))) fun σ H Q h => by exact M.at_more hS1 h) (M.pd_cons hS (M.pd_tup (M.pd_cons hS M.pd_str (M.pd_cons hS (M.pd_var (pv 1) hq) (M.pd_cons hS M.pd_non M.pd_nil)))) M.pd_nil)))))))))
   (pss_cons (ps_set (i := 2) sc__law_odd_thing.nd rfl (Or.inl rfl) (pe_op op_cat (pv 2) (M.pd_lstL (M.pd_cons hS (M.pd_tup (M.pd_cons hS M.pd_str (M.pd_cons hS (M.pd_tup (M.pd_cons hS M.pd_str (M.pd_cons hS M.pd_non M.pd_nil))) M.pd_nil))) (M.pd_cons hS (M.pd_tup (M.pd_cons hS M.pd_str (M.pd_cons hS (M.pd_var (pv 1) hq) (M.pd_cons hS M.pd_str (M.pd_cons hS (M.pd_var (pv 1) hq) M.pd_nil))))) (M.pd_cons hS (M.pd_tup (M.pd_cons hS M.pd_str (M.pd_cons hS (M.pd_var (pv 1) hq) (M.pd_cons hS M.pd_non (M.pd_cons hS (M.pd_var (pv 1) hq) M.pd_nil))))) M.pd_nil))))))
   (pss_cons (ps_if (pt_cmpR op_eq (pe_call G__law_draw (hr.mono (by omega)) (by rfl) T.g__law_draw T.F__law_draw.kp T.b__law_draw .nil pass0 (pa_cons (pv 0) (pa_cons pe_int pa_nil))) pe_int (nomark _)) (pss_one (ps_ret (pe_ix ix_list (pv 2) (pe_call G__law_draw (hr.mono (by omega)) (by rfl) T.g__law_draw T.F__law_draw.kp T.b__law_draw .nil pass0 (pa_cons (pv 0) (pa_cons pe_int pa_nil))) (fun _ _ => rfl)))) pss_nil)
   (pss_cons (ps_set (i := 3) sc__law_odd_thing.nd rfl (Or.inl rfl) (pe_ix ix_list (pv 2) (pe_call G__law_draw (hr.mono (by omega)) (by rfl) T.g__law_draw T.F__law_draw.kp T.b__law_draw .nil pass0 (pa_cons (pv 0) (pa_cons pe_int pa_nil))) (fun _ _ => rfl)))
   (pss_cons (ps_set (i := 4) sc__law_odd_thing.nd rfl (Or.inl rfl) (M.pd_lstL (M.pd_cons hT (M.pd_tup (M.pd_cons hT M.pd_str (M.pd_cons hT (M.pd_var (pv 3) hi2) M.pd_nil))) (M.pd_cons hT (M.pd_tup (M.pd_cons hT M.pd_str (M.pd_cons hT (M.pd_var (pv 1) hq2) (M.pd_cons hT (M.pd_var (pv 3) hi2) M.pd_nil)))) (M.pd_cons hT (M.pd_tup (M.pd_cons hT M.pd_str (M.pd_cons hT (M.pd_var (pv 3) hi2) (M.pd_cons hT M.pd_str (M.pd_cons hT (M.pd_var (pv 1) hq2) M.pd_nil))))) M.pd_nil)))))
   (pss_one (ps_ret (pe_ix ix_list (pe_op op_cat (pv 4) (M.pd_lstL (M.pd_cons hT (M.pd_tup (M.pd_cons hT M.pd_str (M.pd_cons hT (M.pd_var (pv 1) hq2) (M.pd_cons hT M.pd_str (M.pd_cons hT (M.pd_var (pv 3) hi2) M.pd_nil))))) (M.pd_cons hT (M.pd_var (pv 1) hq2) M.pd_nil)))) (pe_call G__law_draw (hr.mono (by omega)) (by rfl) T.g__law_draw T.F__law_draw.kp T.b__law_draw .nil pass0 (pa_cons (pv 0) (pa_cons pe_int pa_nil))) (fun _ _ => rfl)))))))))))), ?_⟩
  walk_at "rd"
  refine ⟨(), H0, p, m, hP, (hSd _ _ _).mpr ⟨rfl, hqs, hqd⟩, fun l1 xs1 B1 H1 x1 hP1 e1 d1 => ?_⟩
  walk_at "rd"
  have f1 : Das K B1 xs1 odds1 := d1
  have y1 : Ex H0 B1 := x1
  clear d1
  refine ⟨(), B1, p, m, hP1, (hSd _ _ _).mpr ⟨rfl, ex_t y1 hqs, hqd.up y1⟩, fun b2 ws2 C2 G2 u2 hC2 g2 w2 => ?_⟩
  have w2' : Das K C2 ws2 (odds2) := w2
  clear w2
  refine ⟨l1, b2, xs1, ws2, rfl, rfl, hC2.ex _ _ (u2 _ _ e1), hC2.ex _ _ g2, ?_, fun l2 n2 => ?_⟩
  · rw [f1.len, w2'.len]
    exact Nat.le_trans (Nat.le_of_ble_eq_true rfl : _ ≤ 100) (by decide)
  obtain ⟨hP2, x2, e2⟩ := hC2.new (o := .lst (xs1 ++ ws2)) n2
  have f2 := Das.app (f1.up (u2.trans x2)) (w2'.up x2)
  have y2 := (y1.trans u2).trans x2
  generalize upd C2 l2 (.lst (xs1 ++ ws2)) = B2 at *
  generalize upd G2 l2 (.lst (xs1 ++ ws2)) = H2 at *
  generalize xs1 ++ ws2 = xs2 at *
  walk_at "rd"
  refine ⟨(), B2, p, m, hP2, (hSd _ _ _).mpr ⟨rfl, ex_t y2 hqs, hqd.up y2⟩, fun b3 ws3 C3 G3 u3 hC3 g3 w3 => ?_⟩
  have w3' : Das K C3 ws3 (odds3) := w3
  clear w3
  refine ⟨l2, b3, xs2, ws3, rfl, rfl, hC3.ex _ _ (u3 _ _ e2), hC3.ex _ _ g3, ?_, fun l3 n3 => ?_⟩
  · rw [f2.len, w3'.len]
    exact Nat.le_trans (Nat.le_of_ble_eq_true rfl : _ ≤ 100) (by decide)
  obtain ⟨hP3, x3, e3⟩ := hC3.new (o := .lst (xs2 ++ ws3)) n3
  have f3 := Das.app (f2.up (u3.trans x3)) (w3'.up x3)
  have y3 := (y2.trans u3).trans x3
  generalize upd C3 l3 (.lst (xs2 ++ ws3)) = B3 at *
  generalize upd G3 l3 (.lst (xs2 ++ ws3)) = H3 at *
  generalize xs2 ++ ws3 = xs3 at *
  walk_at "rd"
  refine ⟨(), B3, p, m, hP3, (hSd _ _ _).mpr ⟨rfl, ex_t y3 hqs, hqd.up y3⟩, fun b4 ws4 C4 G4 u4 hC4 g4 w4 => ?_⟩
  have w4' : Das K C4 ws4 (odds4 q) := w4
  clear w4
  refine ⟨l3, b4, xs3, ws4, rfl, rfl, hC4.ex _ _ (u4 _ _ e3), hC4.ex _ _ g4, ?_, fun l4 n4 => ?_⟩
  · rw [f3.len, w4'.len]
    exact Nat.le_trans (Nat.le_of_ble_eq_true rfl : _ ≤ 100) (by decide)
  obtain ⟨hP4, x4, e4⟩ := hC4.new (o := .lst (xs3 ++ ws4)) n4
  have f4 := Das.app (f3.up (u4.trans x4)) (w4'.up x4)
  have y4 := (y3.trans u4).trans x4
  generalize upd C4 l4 (.lst (xs3 ++ ws4)) = B4 at *
  generalize upd G4 l4 (.lst (xs3 ++ ws4)) = H4 at *
  generalize xs3 ++ ws4 = xs4 at *
  walk_at "rd"
  refine ⟨(), B4, p, m, hP4, (hSd _ _ _).mpr ⟨rfl, ex_t y4 hqs, hqd.up y4⟩, fun b5 ws5 C5 G5 u5 hC5 g5 w5 => ?_⟩
  have w5' : Das K C5 ws5 (odds5 q) := w5
  clear w5
  refine ⟨l4, b5, xs4, ws5, rfl, rfl, hC5.ex _ _ (u5 _ _ e4), hC5.ex _ _ g5, ?_, fun l5 n5 => ?_⟩
  · rw [f4.len, w5'.len]
    exact Nat.le_trans (Nat.le_of_ble_eq_true rfl : _ ≤ 100) (by decide)
  obtain ⟨hP5, x5, e5⟩ := hC5.new (o := .lst (xs4 ++ ws5)) n5
  have f5 := Das.app (f4.up (u5.trans x5)) (w5'.up x5)
  have y5 := (y4.trans u5).trans x5
  generalize upd C5 l5 (.lst (xs4 ++ ws5)) = B5 at *
  generalize upd G5 l5 (.lst (xs4 ++ ws5)) = H5 at *
  generalize xs4 ++ ws5 = xs5 at *
  walk_at "rd"
  have few : xs5.length = 30 := f5.len
  have fit := odds_fit hok hp
  have pick : ∀ kd : Int, 0 ≤ kd → kd < 30 → ∃ x d, atI xs5 kd = some x ∧ Da K B5 x d ∧ Fit 44 800 d ∧ okr d = true := fun kd k0 k1 => by
    obtain ⟨j, rfl⟩ : ∃ j : Nat, kd = j := ⟨kd.toNat, by omega⟩
    have hj : j < xs5.length := by omega
    have hj2 : j < (odds q).length := by rw [odds_len]; omega
    exact ⟨xs5[j], (odds q)[j], atI_nat (List.getElem?_eq_getElem hj), Das.at f5 hj2 (List.getElem?_eq_getElem hj), fit _ (List.getElem_mem hj2), odds_okr q _ (List.getElem_mem hj2)⟩
  refine ⟨B5, p, m, 2, rfl, hP5, by omega, by decide, by decide, fun kd H6 k0 k1 hP6 _ => ?_⟩
  walk_at "rd"
  refine iteI (fun z1 => ?_) (fun z1 => ?_)
  · walk_at "rd"
    refine ⟨B5, p, _, 30, rfl, hP6, by omega, by decide, by decide, fun kd H7 k0 k1 hP7 _ => ?_⟩
    obtain ⟨x, d, ha, hx, hf, ho⟩ := pick kd k0 k1
    walk_at "rd"
    refine ⟨_, _, _, _, rfl, rfl, SqL.of (hP7.ex _ _ e5), ha, ?_⟩
    exact k d x B5 H7 y5 (hP7.mono (by omega)) hx (hf.mono (by decide) (by decide)) ho
  walk_at "rd"
  refine ⟨B5, p, _, 30, rfl, hP6, by omega, by decide, by decide, fun kd H7 k0 k1 hP7 _ => ?_⟩
  obtain ⟨x, d, ha, hx, hf, ho⟩ := pick kd k0 k1
  walk_at "rd"
  refine ⟨_, _, _, _, rfl, rfl, SqL.of (hP7.ex _ _ e5), ha, ?_⟩
  have hqq : Da K B5 (.ref qa) q.d := (da_of _ _ hd).up y5
  walk_at "rd"
  refine ⟨d, B5, p, _, hP7, (hS2d _ _ _).mpr ⟨rfl, hqq, x, rfl, hx⟩, fun l6 xs6 B6 H8 x6 hP8 e6 d6 => ?_⟩
  walk_at "rd"
  refine ⟨d, B6, p, _, hP8, (hS2d _ _ _).mpr ⟨rfl, hqq.up x6, x, rfl, hx.up x6⟩, fun l7 xs7 B7 H9 x7 hP9 e7 d7 => ?_⟩
  have d6' : Das K B6 xs6 (arounds1 q d) := d6
  have d7' : Das K B7 xs7 (arounds2 q d) := d7
  clear d6 d7
  refine ⟨l6, l7, xs6, xs7, rfl, rfl, hP9.ex _ _ (x7 _ _ e6), hP9.ex _ _ e7, ?_, fun l8 n8 => ?_⟩
  · rw [d6'.len, d7'.len]
    exact Nat.le_trans (Nat.le_of_ble_eq_true rfl : _ ≤ 100) (by decide)
  obtain ⟨hP10, x8, e8⟩ := hP9.new (o := .lst (xs6 ++ xs7)) n8
  have f8 := Das.app (d6'.up (x7.trans x8)) (d7'.up x8)
  have y8 := ((y5.trans x6).trans x7).trans x8
  generalize upd B7 l8 (.lst (xs6 ++ xs7)) = B8 at *
  generalize upd H9 l8 (.lst (xs6 ++ xs7)) = H10 at *
  generalize xs6 ++ xs7 = xs8 at *
  walk_at "rd"
  refine ⟨B8, p, _, 5, rfl, hP10, by omega, by decide, by decide, fun kd H11 k0 k1 hP11 _ => ?_⟩
  have few8 : xs8.length = 5 := f8.len
  obtain ⟨j, rfl⟩ : ∃ j : Nat, kd = j := ⟨kd.toNat, by omega⟩
  have hj : j < xs8.length := by omega
  have hj2 : j < (arounds1 q d ++ arounds2 q d).length := by show j < 5; omega
  refine ⟨_, _, _, _, rfl, rfl, SqL.of (hP11.ex _ _ e8), atI_nat (List.getElem?_eq_getElem hj), ?_⟩
  exact k _ _ B8 H11 y8 (hP11.mono (by omega)) (Das.at f8 hj2 (List.getElem?_eq_getElem hj)) (arounds_fit hok hp hf _ (List.getElem_mem hj2)) (arounds_okr ho _ (List.getElem_mem hj2))

end
end Lw
end

section
set_option Elab.async false
set_option linter.all false
set_option maxRecDepth 100000
set_option maxHeartbeats 4000000
set_option pp.maxSteps 300
set_option pp.deepTerms false
namespace Lw
open PySem L2 Evl M
open PyProof.Rows hiding St
local macro_rules | `(tactic| walk_at "at") => `(tactic| first | assumption | exact upd_same)
local macro_rules | `(tactic| walk_at "sq") => `(tactic| first | assumption | exact SqL.of (by walk_at "at") | exact SqT.of (by walk_at "at"))
local macro_rules | `(tactic| walk_at "sd") => `(tactic| first | assumption | exact Names.size (by assumption) | omega | decide | exact Nat.le_of_ble_eq_true rfl | exact Or.inl ⟨by decide, by decide⟩ | exact wide_div (b := 200) (by first | assumption | decide) (by first | assumption | decide) (by decide) (by decide) | exact pow_w 10 (by decide) (by decide) (by decide) (by decide))
local macro_rules | `(tactic| walk_at "r1") => `(tactic| first
  | refine ⟨_, rfl, ?_⟩
  | refine ⟨_, _, rfl, rfl, ?_⟩
  | refine And.intro rfl ?_
  | refine ⟨_, _, _, _, rfl, rfl, (by walk_at "sq"), rfl, ?_⟩
  | refine ⟨_, _, _, _, rfl, rfl, (by walk_at "at"), rfl, ?_⟩
  | refine ⟨_, _, rfl, Or.inl (by walk_at "sq"), ?_⟩
  | refine ⟨_, _, rfl, Or.inr (by walk_at "sq"), ?_⟩
  | refine ⟨_, _, rfl, ?_⟩
  | refine Or.inl ⟨_, rfl, ?_⟩
  | refine And.intro (by walk_at "sd") ?_)
local macro_rules | `(tactic| walk_at "rd") => `(tactic| try (walk_at "r1"; walk_at "rd"))
section
variable {P : Program} {w : World} {K : PySem.W.Frag} {mg : Str → Option Value} {base : Heap}
theorem ok__law_fits (T : Tx w K mg) (G__law_draw : FnOk P w K mg base CX0 1 T.a__law_draw T.d__law_draw ["pool", "span"] sp_draw)
    (G__law_any_query : FnOk P w K mg base CX0 63 T.a__law_any_query T.d__law_any_query ["pool", "names", "deep", "wide"] (sp_any_query K))
    (G__law_odd_thing : FnOk P w K mg base CX0 2 T.a__law_odd_thing T.d__law_odd_thing ["pool", "query"] (sp_odd K))
    (G__law_is_query : FnOk P w K mg base CX0 60 T.a__law_is_query T.d__law_is_query ["thing"] (sp_lisq K 60))
    (G_is_question : FnOk P w K mg base CX0 4 T.a_is_question T.d_is_question ["value"] (sp_is_question K)) :
    FnG P w K mg base CX0 64 T.a__law_fits T.d__law_fits ["pool"] sp_fits := by
  refine M.Fun.okG T.F__law_fits sc__law_fits (fun vs H Q E h => ?_) (fun cdv A hg outer s H vs Q E hr h => ?_)
  · obtain ⟨_, _, _, rfl, _⟩ := h
    rfl
  obtain ⟨H0, p, m, rfl, hP, hm, k⟩ := h
  obtain ⟨S, hSd⟩ : ∃ S : Unit → L2.St → Hp → Prop, ∀ c σ B, S c σ B ↔ True := ⟨fun _ _ _ => True, fun _ _ _ => Iff.rfl⟩
  have hS : Up S := fun c σ B B' x h => (hSd _ _ _).mpr trivial
  refine ⟨_, (pss_cons (ps_set (i := 1) sc__law_fits.nd rfl (Or.inl rfl) (pe_call G__law_any_query (hr.mono (by omega)) (by rfl) T.g__law_any_query T.F__law_any_query.kp T.b__law_any_query .nil pass0 (pa_cons (pv 0) (pa_cons pe_str (pa_cons pe_int (pa_cons pe_int pa_nil))))))
   (pss_cons (ps_for PassesOwn.never (by rfl) (pi_tup (pe_tup (pa_cons (pv 1) (pa_cons (pe_call G__law_odd_thing (hr.mono (by omega)) (by rfl) T.g__law_odd_thing T.F__law_odd_thing.kp T.b__law_odd_thing .nil pass0 (pa_cons (pv 0) (pa_cons (pv 1) pa_nil))) (pa_cons (pe_call G__law_odd_thing (hr.mono (by omega)) (by rfl) T.g__law_odd_thing T.F__law_odd_thing.kp T.b__law_odd_thing .nil pass0 (pa_cons (pv 0) (pa_cons (pv 1) pa_nil))) (pa_cons (pe_call G__law_odd_thing (hr.mono (by omega)) (by rfl) T.g__law_odd_thing T.F__law_odd_thing.kp T.b__law_odd_thing .nil pass0 (pa_cons (pv 0) (pa_cons (pv 1) pa_nil))) pa_nil)))))) (pg_name (i := 2) sc__law_fits.nd rfl (Or.inl rfl)) (pss_cons (ps_par (i := 3) (j := 4) (by rfl) sc__law_fits.nd rfl rfl (by decide) rfl rfl (pa_cons (pe_callB (M.call_reprA hg hr.units) (by rfl) T.b_repr (by decide +kernel) (pa_cons (pv 2) pa_nil)) (pa_cons (pe_call G__law_is_query (hr.mono (by omega)) (by rfl) T.g__law_is_query T.F__law_is_query.kp T.b__law_is_query .nil pass0 (pa_cons (pv 2) pa_nil)) pa_nil)) (by rfl))
   (pss_one (ps_if (pw_or (pt_cmpR op_ne (pe_callB (M.call_repr hg hr.units) (by rfl) T.b_repr (by decide +kernel) (pa_cons (pe_lst (pa_cons (pe_call G_is_question (hr.mono (by omega)) (by rfl) T.g_is_question T.F_is_question.kp T.b_is_question .nil pass0 (pa_cons (pv 2) pa_nil)) (pa_cons (M.pe_callK0 G_is_question (hr.mono (by omega)) (by rfl) T.g_is_question T.F_is_question.kp T.kb_is_question__value pass0 (pk_cons (pv 2) pk_nil)) pa_nil))) pa_nil)) (pe_callB (M.call_repr hg hr.units) (by rfl) T.b_repr (by decide +kernel) (pa_cons (pe_lst (pa_cons (pv 4) (pa_cons (pv 4) pa_nil))) pa_nil)) (nomark _)) (pw_or1 (pt_cmpR op_ne (pe_callB (M.call_reprA hg hr.units) (by rfl) T.b_repr (by decide +kernel) (pa_cons (pv 2) pa_nil)) (pv 3) (nomark _)))).pt (pss_one (ps_ret pe_bl)) pss_nil))))
   (pss_cons (ps_for PassesOwn.never (by rfl) (pi_tup (M.pd_tup (M.pd_cons hS (M.pd_lst M.pd_nil) (M.pd_cons hS (M.pd_lst (M.pd_cons hS M.pd_str M.pd_nil)) (M.pd_cons hS M.pd_dct (M.pd_cons hS (M.pd_tup (M.pd_cons hS M.pd_str M.pd_nil)) (M.pd_cons hS M.pd_int (M.pd_cons hS M.pd_non (M.pd_cons hS M.pd_bl M.pd_nil))))))))) (pg_name (i := 5) sc__law_fits.nd rfl (Or.inl rfl)) (pss_one (ps_if (pw_or (pt_val (pe_call G_is_question (hr.mono (by omega)) (by rfl) T.g_is_question T.F_is_question.kp T.b_is_question .nil pass0 (pa_cons (pe_tup (pa_cons (pv 5) pa_nil)) pa_nil))) (pw_or (pt_val (pe_call G_is_question (hr.mono (by omega)) (by rfl) T.g_is_question T.F_is_question.kp T.b_is_question .nil pass0 (pa_cons (pe_tup (pa_cons (pv 5) (pa_cons (pv 1) pa_nil))) pa_nil))) (pw_or1 (pt_val (pe_call G_is_question (hr.mono (by omega)) (by rfl) T.g_is_question T.F_is_question.kp T.b_is_question .nil pass0 (pa_cons (pe_tup (pa_cons pe_str (pa_cons (pe_tup (pa_cons (pv 5) (pa_cons (pv 1) pa_nil))) pa_nil))) pa_nil)))))).pt (pss_one (ps_ret pe_bl)) pss_nil)))
   (pss_cons (ps_set (i := 6) sc__law_fits.nd rfl (Or.inl rfl) (pe_ix ix_str pe_str (pe_call G__law_draw (hr.mono (by omega)) (by rfl) T.g__law_draw T.F__law_draw.kp T.b__law_draw .nil pass0 (pa_cons (pv 0) (pa_cons pe_int pa_nil))) (fun _ _ => rfl)))
   (pss_one (ps_ret (pe_and (pe_call G_is_question (hr.mono (by omega)) (by rfl) T.g_is_question T.F_is_question.kp T.b_is_question .nil pass0 (pa_cons (pe_tup (pa_cons pe_str (pa_cons (pv 1) (pa_cons (pv 6) (pa_cons (pe_tup (pa_cons pe_str (pa_cons (pv 1) pa_nil))) pa_nil))))) pa_nil)) (pe_one (pe_call G__law_is_query (hr.mono (by omega)) (by rfl) T.g__law_is_query T.F__law_is_query.kp T.b__law_is_query .nil pass0 (pa_cons (pv 1) pa_nil)))))))))), ?_⟩
  have hn : Names "abz" := ⟨by unfold Abc; decide +kernel, by decide +kernel, by decide +kernel⟩
  walk_at "rd"
  refine ⟨H0, p, m, "abz", 4, 30, rfl, hP, by omega, by decide, by decide, by decide, by decide, hn, fun q v H1 H2 x1 hP2 hd hi hdp hpt => ?_⟩
  have hok := hi.ok hn.1
  have hp40 : q.parts ≤ 40 := by omega
  walk_at "rd"
  refine ⟨H1, p, _, v, q, rfl, hP2, by omega, hd, hok, hp40, fun d1 v1 B1 G1 x2 hP3 hd1 hf1 ho1 => ?_⟩
  walk_at "rd"
  refine ⟨B1, p, _, v, q, rfl, hP3, by omega, hd.up x2, hok, hp40, fun d2 v2 B2 G2 x3 hP4 hd2 hf2 ho2 => ?_⟩
  walk_at "rd"
  refine ⟨B2, p, _, v, q, rfl, hP4, by omega, (hd.up x2).up x3, hok, hp40, fun d3 v3 B3 G3 x4 hP5 hd3 hf3 ho3 => ?_⟩
  walk_at "rd"
  intro t nt
  obtain ⟨hP6, x5, e5⟩ := hP5.new (o := .tup [v, v1, v2, v3]) nt
  have hq5 : Da K (upd B3 t (.tup [v, v1, v2, v3])) v q.d := (da_of _ _ hd).up (((x2.trans x3).trans x4).trans x5)
  have g1 := hd1.up ((x3.trans x4).trans x5)
  have g2 := hd2.up (x4.trans x5)
  have g3 := hd3.up x5
  have y5 := (((x1.trans x2).trans x3).trans x4).trans x5
  generalize upd B3 t (.tup [v, v1, v2, v3]) = B4 at *
  generalize upd G3 t (.tup [v, v1, v2, v3]) = G4 at *
  have hfq : Fit 48 2000 q.d := (fit_q hok hp40).mono (by decide) (by decide)
  have hoq : okr q.d = true := by unfold okr; rw [(q_plain q).1]; rfl
  have each : ∀ (i : Nat) (x : V), [v, v1, v2, v3][i]? = some x → ∃ d, Da K B4 x d ∧ Fit 48 2000 d ∧ okr d = true := fun i x hx => by
    match i, hx with
    | 0, hx => cases hx; exact ⟨_, hq5, hfq, hoq⟩
    | 1, hx => cases hx; exact ⟨_, g1, hf1, ho1⟩
    | 2, hx => cases hx; exact ⟨_, g2, hf2, ho2⟩
    | 3, hx => cases hx; exact ⟨_, g3, hf3, ho3⟩
    | n + 4, hx => simp at hx
  walk_at "rd"
  refine ⟨⟨_, st_of (hP6.ex _ _ e5)⟩, ?_⟩
  obtain ⟨Pv, hPv⟩ : ∃ Pv : Nat → L2.St → Hp → Prop, ∀ i σ G, Pv i σ G ↔ ∃ o2 o3 o4 : Option V, σ = [some (.ref p), some v, o2, o3, o4, none, none] ∧ Ex G4 G := ⟨_, fun _ _ _ => Iff.rfl⟩
  refine for_tup (xs := [v, v1, v2, v3]) Pv ((hPv _ _ _).mpr ⟨_, _, _, rfl, Ex.refl _⟩) (fun i σ G _ h => ?_) (fun i x σ G hx h => ?_) (fun σ G h => ?_)
  · obtain ⟨_, _, _, _, xg⟩ := (hPv _ _ _).mp h
    exact st_of (xg _ _ (hP6.ex _ _ e5))
  · obtain ⟨o2, o3, o4, rfl, xg⟩ := (hPv _ _ _).mp h
    obtain ⟨d, hd, hf, ho⟩ := each i x hx
    have b0 := hP6.ex.trans xg
    have hsn := hf.shown (by decide)
    have hdp : d.depth ≤ 50 := Nat.le_trans hf.dep (by decide)
    have hnd : nds d ≤ 10000 := Nat.le_trans hf.nds (by decide)
    walk_at "rd"
    refine ⟨_, d, rfl, hd.up b0, hf.shw, hdp, hsn, ho, ?_⟩
    walk_at "rd"
    refine ⟨B4, x, d, rfl, b0, hd, hf.hk, hf.sm, hnd, by omega, fun b I1 x6 hb => ?_⟩
    walk_at "rd"
    refine ⟨B4, x, d, rfl, b0.trans x6, hd, hf.sm, hnd, fun b1 I2 x7 hb1 => ?_⟩
    have e1 := iff_bool hb1 hb
    subst e1
    walk_at "rd"
    refine ⟨B4, x, d, rfl, (b0.trans x6).trans x7, hd, hf.sm, hnd, fun b2 I3 x8 hb2 => ?_⟩
    have e2 := iff_bool hb2 hb
    subst e2
    obtain ⟨r1, r2, r3, r4⟩ := shw_db b2
    walk_at "rd"
    intro l9 n9
    have x9 : Ex I3 (upd I3 l9 (.lst [.bl b2, .bl b2])) := Ex.new n9
    have e9 : upd I3 l9 (.lst [.bl b2, .bl b2]) l9 = some (.lst [.bl b2, .bl b2]) := upd_same
    generalize upd I3 l9 (.lst [.bl b2, .bl b2]) = I4 at *
    walk_at "rd"
    refine ⟨_, db2 b2, rfl, .lst (SqL.of e9) (.cons (.bl _) (.cons (.bl _) .nil)), r1, r2, r3, r4, ?_⟩
    walk_at "rd"
    intro l10 n10
    have x10 : Ex I4 (upd I4 l10 (.lst [.bl b2, .bl b2])) := Ex.new n10
    have e10 : upd I4 l10 (.lst [.bl b2, .bl b2]) l10 = some (.lst [.bl b2, .bl b2]) := upd_same
    generalize upd I4 l10 (.lst [.bl b2, .bl b2]) = I5 at *
    walk_at "rd"
    refine ⟨_, db2 b2, rfl, .lst (SqL.of e10) (.cons (.bl _) (.cons (.bl _) .nil)), r1, r2, r3, r4, ?_⟩
    walk_at "rd"
    refine iteNS (fun y => absurd rfl y) (fun _ => ?_)
    walk_at "rd"
    have b5 := (((((b0.trans x6).trans x7).trans x8).trans x9).trans x10)
    refine ⟨_, d, rfl, hd.up b5, hf.shw, hdp, hsn, ho, ?_⟩
    walk_at "rd"
    refine iteNS (fun y => absurd rfl y) (fun _ => ?_)
    walk_at "rd"
    exact (hPv _ _ _).mpr ⟨_, _, _, rfl, ((((xg.trans x6).trans x7).trans x8).trans x9).trans x10⟩
  · obtain ⟨o2, o3, o4, rfl, xg⟩ := (hPv _ _ _).mp h
    have hP7 := hP6.keep xg
    walk_at "rd"
    refine ⟨(), B4, p, _, hP7, (hSd _ _ _).mpr trivial, fun t2 B5 G5 x6 hP8 d8 => ?_⟩
    have d8' : Da K B5 t2 (.tuple heads) := d8
    clear d8
    obtain ⟨ta, txs, rfl, hts, htd⟩ := da_tup d8'
    walk_at "rd"
    refine ⟨⟨_, ex_t hP8.ex hts⟩, ?_⟩
    have hl7 : txs.length = heads.length := htd.len
    have hq6 := hq5.up x6
    obtain ⟨Pw, hPw⟩ : ∃ Pw : Nat → L2.St → Hp → Prop, ∀ i σ G, Pw i σ G ↔ ∃ o2 o3 o4 o5 : Option V, σ = [some (.ref p), some v, o2, o3, o4, o5, none] ∧ Ex G5 G := ⟨_, fun _ _ _ => Iff.rfl⟩
    refine for_tup (xs := txs) Pw ((hPw _ _ _).mpr ⟨_, _, _, _, rfl, Ex.refl _⟩) (fun i σ G _ h => ?_) (fun i x σ G hx h => ?_) (fun σ G h => ?_)
    · obtain ⟨_, _, _, _, _, xg2⟩ := (hPw _ _ _).mp h
      exact ex_t (hP8.ex.trans xg2) hts
    · obtain ⟨o2, o3, o4, o5, rfl, xg2⟩ := (hPw _ _ _).mp h
      have hj : i < heads.length := by
        have := (List.getElem?_eq_some_iff.mp hx).1
        omega
      have hd := Das.at htd hj hx
      have mem := List.getElem_mem hj
      obtain ⟨h1, h2⟩ := heads_sm _ mem
      have h3 := heads_str _ mem
      generalize heads[i] = d at *
      have b0 := hP8.ex.trans xg2
      have hq7 : Da K B5 v q.d := hq6
      walk_at "rd"
      intro l1 n1
      have z1 : Ex G (upd G l1 (.tup [x])) := Ex.new n1
      have g1 : upd G l1 (.tup [x]) l1 = some (.tup [x]) := upd_same
      generalize upd G l1 (.tup [x]) = I1 at *
      refine ⟨I1, .ref l1, .tuple [d], rfl, Ex.refl _, .tup (st_of g1) (.cons (hd.up (b0.trans z1)) .nil), by simp only [sm, sms, h1]; rfl, by simp only [nds, ndss]; omega, fun b1 I2 z2 hb1 => ?_⟩
      have e1 : b1 = false := by
        cases b1 with
        | false => rfl
        | true => exact absurd (hb1.mp rfl) (not_isQ h3)
      subst e1
      walk_at "rd"
      have hsq : sm q.d = true := sm_q q
      have hnq : nds q.d ≤ 160 := (fit_q hok hp40).nds
      intro l2 n2
      have z3 : Ex I2 (upd I2 l2 (.tup [x, v])) := Ex.new n2
      have g2 : upd I2 l2 (.tup [x, v]) l2 = some (.tup [x, v]) := upd_same
      generalize upd I2 l2 (.tup [x, v]) = I3 at *
      have c3 := ((b0.trans z1).trans z2).trans z3
      refine ⟨I3, .ref l2, .tuple [d, q.d], rfl, Ex.refl _, .tup (st_of g2) (.cons (hd.up c3) (.cons (hq7.up c3) .nil)), by simp only [sm, sms, h1, hsq]; rfl, by simp only [nds, ndss]; omega, fun b2 I4 z4 hb2 => ?_⟩
      have e2 : b2 = false := by
        cases b2 with
        | false => rfl
        | true => exact absurd (hb2.mp rfl) (not_isQ h3)
      subst e2
      walk_at "rd"
      intro l3 n3
      have z5 : Ex I4 (upd I4 l3 (.tup [x, v])) := Ex.new n3
      have g3 : upd I4 l3 (.tup [x, v]) l3 = some (.tup [x, v]) := upd_same
      generalize upd I4 l3 (.tup [x, v]) = I5 at *
      walk_at "rd"
      intro l4 n4
      have z6 : Ex I5 (upd I5 l4 (.tup [.str "not", .ref l3])) := Ex.new n4
      have g4 : upd I5 l4 (.tup [.str "not", .ref l3]) l4 = some (.tup [.str "not", .ref l3]) := upd_same
      generalize upd I5 l4 (.tup [.str "not", .ref l3]) = I6 at *
      have c6 := ((c3.trans z4).trans z5).trans z6
      refine ⟨I6, .ref l4, .tuple [.str "not", .tuple [d, q.d]], rfl, Ex.refl _, .tup (st_of g4) (.cons (.str _) (.cons (.tup (st_of (z6 _ _ g3)) (.cons (hd.up c6) (.cons (hq7.up c6) .nil))) .nil)), by simp only [sm, sms, h1, hsq]; rfl, by simp only [nds, ndss]; omega, fun b3 I7 z7 hb3 => ?_⟩
      have e3 : b3 = false := by
        cases b3 with
        | false => rfl
        | true => exact absurd (hb3.mp rfl) (not_isQ2 h3)
      subst e3
      walk_at "rd"
      refine (hPw _ _ _).mpr ⟨_, _, _, _, rfl, ?_⟩
      exact (((((xg2.trans z1).trans z2).trans z3).trans z4).trans z5).trans (z6.trans z7)
    · obtain ⟨o2, o3, o4, o5, rfl, xg2⟩ := (hPw _ _ _).mp h
      have hP9 := hP8.keep xg2
      walk_at "rd"
      refine ⟨B5, p, _, 26, rfl, hP9, by omega, by decide, by decide, fun kc I1 c0 c1 hP10 _ => ?_⟩
      have nabc : Names "abcdefghijklmnopqrstuvwxyz" := ⟨by unfold Abc; decide +kernel, by decide +kernel, by decide +kernel⟩
      obtain ⟨c, hc, hcz⟩ := nabc.get c0 c1
      have hc2 := nabc.1 c hcz
      refine ⟨_, _, _, rfl, rfl, nabc.size, hc, ?_⟩
      walk_at "rd"
      intro l3 n3
      have z5 : Ex I1 (upd I1 l3 (.tup [.str "not", v])) := Ex.new n3
      have g3 : upd I1 l3 (.tup [.str "not", v]) l3 = some (.tup [.str "not", v]) := upd_same
      generalize upd I1 l3 (.tup [.str "not", v]) = I5 at *
      walk_at "rd"
      intro l4 n4
      have z6 : Ex I5 (upd I5 l4 (.tup [.str "some", v, .str ⟨#[c]⟩, .ref l3])) := Ex.new n4
      have g4 : upd I5 l4 (.tup [.str "some", v, .str ⟨#[c]⟩, .ref l3]) l4 = some (.tup [.str "some", v, .str ⟨#[c]⟩, .ref l3]) := upd_same
      generalize upd I5 l4 (.tup [.str "some", v, .str ⟨#[c]⟩, .ref l3]) = I6 at *
      have c6 := (hP10.ex.trans z5).trans z6
      have hq8 := hq6.up c6
      have whole : Da K I6 (.ref l4) (Qn.some q c (.no q)).d := mk_some g4 hq8 (mk_no (z6 _ _ g3) hq8)
      have okw : (Qn.some q c (.no q)).Ok := ⟨hok, hc2, hok⟩
      have hnq := nds_q (Qn.some q c (.no q))
      have hpw : (Qn.some q c (.no q)).parts ≤ 82 := by simp only [Qn.parts]; omega
      refine ⟨I6, .ref l4, (Qn.some q c (.no q)).d, rfl, Ex.refl _, whole, sm_q _, by omega, fun b3 I7 z7 hb3 => ?_⟩
      have e3 : b3 = true := hb3.mpr ⟨_, okw, rfl⟩
      subst e3
      walk_at "rd"
      have hfq2 := fit_q hok hp40
      refine ⟨I6, v, q.d, rfl, z7, hq8, hfq2.hk, hfq2.sm, Nat.le_trans hfq2.nds (by decide), Nat.lt_of_le_of_lt hfq2.dep (by decide), fun b4 I8 z8 hb4 => ?_⟩
      have e4 : b4 = true := hb4.mpr ⟨_, hok, rfl⟩
      subst e4
      have last := hP10.keep (((z5.trans z6).trans z7).trans z8)
      exact k I8 (Pl.mono ⟨(y5.trans x6).trans last.ex, hP.out, last.at_⟩ (by omega))

end
end Lw
end

section
set_option Elab.async false
set_option linter.all false
set_option maxRecDepth 100000
set_option maxHeartbeats 4000000
set_option pp.maxSteps 300
set_option pp.deepTerms false
namespace Lw
open PySem L2 Evl M
open PyProof.Rows hiding St
local macro_rules | `(tactic| walk_at "at") => `(tactic| first | assumption | exact upd_same)
local macro_rules | `(tactic| walk_at "sq") => `(tactic| first | assumption | exact SqL.of (by walk_at "at") | exact SqT.of (by walk_at "at"))
local macro_rules | `(tactic| walk_at "sd") => `(tactic| first | assumption | exact Names.size (by assumption) | omega | decide | exact Nat.le_of_ble_eq_true rfl | exact Or.inl ⟨by decide, by decide⟩ | exact wide_div (b := 200) (by first | assumption | decide) (by first | assumption | decide) (by decide) (by decide) | exact pow_w 10 (by decide) (by decide) (by decide) (by decide))
local macro_rules | `(tactic| walk_at "r1") => `(tactic| first
  | refine ⟨_, rfl, ?_⟩
  | refine ⟨_, _, rfl, rfl, ?_⟩
  | refine And.intro rfl ?_
  | refine ⟨_, _, _, _, rfl, rfl, (by walk_at "sq"), rfl, ?_⟩
  | refine ⟨_, _, _, _, rfl, rfl, (by walk_at "at"), rfl, ?_⟩
  | refine ⟨_, _, rfl, Or.inl (by walk_at "sq"), ?_⟩
  | refine ⟨_, _, rfl, Or.inr (by walk_at "sq"), ?_⟩
  | refine ⟨_, _, rfl, ?_⟩
  | refine Or.inl ⟨_, rfl, ?_⟩
  | refine And.intro (by walk_at "sd") ?_)
local macro_rules | `(tactic| walk_at "rd") => `(tactic| try (walk_at "r1"; walk_at "rd"))
section
variable {P : Program} {w : World} {K : PySem.W.Frag} {mg : Str → Option Value} {base : Heap}
theorem ok_law (T : Tx w K mg) (G__law_pool : FnOk P w K mg base CX0 1 T.a__law_pool T.d__law_pool ["script", "spot"] (sp_pool K))
    (G__law_fits : FnG P w K mg base CX0 64 T.a__law_fits T.d__law_fits ["pool"] sp_fits) :
    FnG P w K mg base CX0 65 T.a_law T.d_law ["script"] (sp_law K) := by
  refine M.Fun.okG T.F_law sc_law (fun vs H Q E h => ?_) (fun cdv A hg outer s H vs Q E hr h => ?_)
  · obtain ⟨_, _, rfl, _⟩ := h
    rfl
  obtain ⟨a, ns, rfl, hs, hl, k⟩ := h
  refine ⟨_, (pss_cons (ps_for PassesOwn.never (by rfl) (pi_range1 (by rfl) T.b_range (pa_cons (pe_callB (call_max2 (by rfl)) (by rfl) T.b_max (by decide +kernel) (pa_cons pe_int (pa_cons (pe_callB (call_min2 (by rfl)) (by rfl) T.b_min (by decide +kernel) (pa_cons pe_int (pa_cons (pe_callB call_len_seq (by rfl) T.b_len (by decide +kernel) (pa_cons (pv 0) pa_nil)) pa_nil))) pa_nil))) pa_nil)) (pg_name (i := 1) sc_law.nd rfl (Or.inl rfl)) (pss_cons (ps_set (i := 2) sc_law.nd rfl (Or.inl rfl) (pe_call G__law_pool (hr.mono (by omega)) (by rfl) T.g__law_pool T.F__law_pool.kp T.b__law_pool .nil pass0 (pa_cons (pv 0) (pa_cons (pv 1) pa_nil))))
   (pss_one (ps_for PassesOwn.never (by rfl) (pi_range1 (by rfl) T.b_range (pa_cons pe_int pa_nil)) (pg_name (i := 3) sc_law.nd rfl (Or.inl rfl)) (pss_one (ps_if (pt_not (pt_val (M.pe_callG G__law_fits hg (hr.mono (by omega)) (by rfl) T.g__law_fits T.F__law_fits.kp T.b__law_fits .nil pass0 (pa_cons (pv 2) pa_nil)))) (pss_one (ps_ret pe_bl)) pss_nil))))))
   (pss_one (ps_ret pe_bl))), ?_⟩
  walk_at "rd"
  have hb : (if (if (((ns.map V.int).length : Nat) : Int) < 6 then (((ns.map V.int).length : Nat) : Int) else 6) > 1 then (if (((ns.map V.int).length : Nat) : Int) < 6 then (((ns.map V.int).length : Nat) : Int) else 6) else 1).toNat ≤ 6 := by
    split <;> split <;> omega
  generalize Int.toNat _ = top at *
  obtain ⟨Po, hPo⟩ : ∃ Po : Nat → L2.St → Hp → Prop, ∀ i σ G, Po i σ G ↔ ∃ (o1 o2 o3 : Option V), σ = [some (.ref a), o1, o2, o3] ∧ Ex H G := ⟨_, fun _ _ _ => Iff.rfl⟩
  refine for_range Po ((hPo _ _ _).mpr ⟨_, _, _, rfl, Ex.refl _⟩) (fun i σ G hi h => ?_) (fun σ G h => ?_)
  · obtain ⟨o1, o2, o3, rfl, xg⟩ := (hPo _ _ _).mp h
    have hs1 := ex_l xg hs
    walk_at "rd"
    refine ⟨a, ns, _, rfl, hs1, by omega, by omega, fun p G2 hP => ?_⟩
    walk_at "rd"
    obtain ⟨Pi, hPi⟩ : ∃ Pi : Nat → L2.St → Hp → Prop, ∀ i σ G3, Pi i σ G3 ↔ ∃ (o1 o3 : Option V), σ = [some (.ref a), o1, some (.ref p), o3] ∧ Pl G G3 p (600 * i) := ⟨_, fun _ _ _ => Iff.rfl⟩
    refine for_range Pi ((hPi _ _ _).mpr ⟨_, _, rfl, hP⟩) (fun j σ G3 hj h => ?_) (fun σ G3 h => ?_)
    · obtain ⟨o1, o3, rfl, hP3⟩ := (hPi _ _ _).mp h
      have hj5 : j < 5 := hj
      walk_at "rd"
      refine ⟨G, p, 600 * j, rfl, hP3, by omega, fun G4 hP4 => ?_⟩
      walk_at "rd"
      exact (hPi _ _ _).mpr ⟨_, _, rfl, hP4.mono (by omega)⟩
    · obtain ⟨o1, o3, rfl, hP3⟩ := (hPi _ _ _).mp h
      exact (hPo _ _ _).mpr ⟨_, _, _, rfl, xg.trans hP3.ex⟩
  · obtain ⟨o1, o2, o3, rfl, xg⟩ := (hPo _ _ _).mp h
    walk_at "rd"
    exact k G

end
end Lw
end

section
set_option Elab.async false
set_option linter.all false
set_option maxRecDepth 100000
set_option maxHeartbeats 4000000
namespace Lw
open PySem L2 Evl M
open PyProof.Rows hiding St
theorem all_mk {P : Program} {w : World} {K : PySem.W.Frag} {h : Heap} {mg : Str → Option Value} {fa : Addr} (X : K.In h) (G : h.Ns mainGlobals mg) (hfa : mg "law" = some (.ref fa))
  {f_is_letter : Addr} {od_is_letter an_is_letter : Option Addr} {sl_is_letter : Array (Option Value)} {oc_is_letter kV_is_letter dc_is_letter pm_is_letter cd_is_letter ct_is_letter : Value}
  {f_is_question : Addr} {od_is_question an_is_question : Option Addr} {sl_is_question : Array (Option Value)} {oc_is_question kV_is_question dc_is_question pm_is_question cd_is_question ct_is_question : Value}
  {f_inner_questions : Addr} {od_inner_questions an_inner_questions : Option Addr} {sl_inner_questions : Array (Option Value)} {oc_inner_questions kV_inner_questions dc_inner_questions pm_inner_questions cd_inner_questions ct_inner_questions : Value}
  {f_has_form : Addr} {od_has_form an_has_form : Option Addr} {sl_has_form : Array (Option Value)} {oc_has_form kV_has_form dc_has_form pm_has_form cd_has_form ct_has_form : Value}
  {f_is_one_letter : Addr} {od_is_one_letter an_is_one_letter : Option Addr} {sl_is_one_letter : Array (Option Value)} {oc_is_one_letter kV_is_one_letter dc_is_one_letter pm_is_one_letter cd_is_one_letter ct_is_one_letter : Value}
  {f__law_pool : Addr} {od__law_pool an__law_pool : Option Addr} {sl__law_pool : Array (Option Value)} {oc__law_pool kV__law_pool dc__law_pool pm__law_pool cd__law_pool ct__law_pool : Value}
  {f__law_draw : Addr} {od__law_draw an__law_draw : Option Addr} {sl__law_draw : Array (Option Value)} {oc__law_draw kV__law_draw dc__law_draw pm__law_draw cd__law_draw ct__law_draw : Value}
  {f__law_query : Addr} {od__law_query an__law_query : Option Addr} {sl__law_query : Array (Option Value)} {oc__law_query kV__law_query dc__law_query pm__law_query cd__law_query ct__law_query : Value}
  {f__law_steep : Addr} {od__law_steep an__law_steep : Option Addr} {sl__law_steep : Array (Option Value)} {oc__law_steep kV__law_steep dc__law_steep pm__law_steep cd__law_steep ct__law_steep : Value}
  {f__law_any_query : Addr} {od__law_any_query an__law_any_query : Option Addr} {sl__law_any_query : Array (Option Value)} {oc__law_any_query kV__law_any_query dc__law_any_query pm__law_any_query cd__law_any_query ct__law_any_query : Value}
  {f__law_is_query : Addr} {od__law_is_query an__law_is_query : Option Addr} {sl__law_is_query : Array (Option Value)} {oc__law_is_query kV__law_is_query dc__law_is_query pm__law_is_query cd__law_is_query ct__law_is_query : Value}
  {f__law_odd_thing : Addr} {od__law_odd_thing an__law_odd_thing : Option Addr} {sl__law_odd_thing : Array (Option Value)} {oc__law_odd_thing kV__law_odd_thing dc__law_odd_thing pm__law_odd_thing cd__law_odd_thing ct__law_odd_thing : Value}
  {f__law_fits : Addr} {od__law_fits an__law_fits : Option Addr} {sl__law_fits : Array (Option Value)} {oc__law_fits kV__law_fits dc__law_fits pm__law_fits cd__law_fits ct__law_fits : Value}
  {f_law : Addr} {od_law an_law : Option Addr} {sl_law : Array (Option Value)} {oc_law kV_law dc_law pm_law cd_law ct_law : Value}
  {f_SIZES : Addr} {es_SIZES : Array DictEntry} {n_SIZES : Nat}
  (g_is_letter : PySem.W.nsIn K mainGlobals "is_letter" = some (some (.ref f_is_letter)))
  (l_is_letter : K.lookup f_is_letter = some ⟨oc_is_letter, od_is_letter, .func (PySem.W.fnOf "is_letter" "is_letter" (defArgs s_is_letter) (defBody s_is_letter) (defScope s_is_letter) .none kV_is_letter dc_is_letter pm_is_letter an_is_letter cd_is_letter ct_is_letter), sl_is_letter⟩)
  (c_is_letter : PySem.W.codeIn K cd_is_letter "is_letter" = true)
  (k_is_letter : PySem.W.keepIn K (.ref f_is_letter) = true)
  (g_is_question : PySem.W.nsIn K mainGlobals "is_question" = some (some (.ref f_is_question)))
  (l_is_question : K.lookup f_is_question = some ⟨oc_is_question, od_is_question, .func (PySem.W.fnOf "is_question" "is_question" (defArgs s_is_question) (defBody s_is_question) (defScope s_is_question) .none kV_is_question dc_is_question pm_is_question an_is_question cd_is_question ct_is_question), sl_is_question⟩)
  (c_is_question : PySem.W.codeIn K cd_is_question "is_question" = true)
  (k_is_question : PySem.W.keepIn K (.ref f_is_question) = true)
  (g_inner_questions : PySem.W.nsIn K mainGlobals "inner_questions" = some (some (.ref f_inner_questions)))
  (l_inner_questions : K.lookup f_inner_questions = some ⟨oc_inner_questions, od_inner_questions, .func (PySem.W.fnOf "inner_questions" "inner_questions" (defArgs s_inner_questions) (defBody s_inner_questions) (defScope s_inner_questions) .none kV_inner_questions dc_inner_questions pm_inner_questions an_inner_questions cd_inner_questions ct_inner_questions), sl_inner_questions⟩)
  (c_inner_questions : PySem.W.codeIn K cd_inner_questions "inner_questions" = true)
  (k_inner_questions : PySem.W.keepIn K (.ref f_inner_questions) = true)
  (g_has_form : PySem.W.nsIn K mainGlobals "has_form" = some (some (.ref f_has_form)))
  (l_has_form : K.lookup f_has_form = some ⟨oc_has_form, od_has_form, .func (PySem.W.fnOf "has_form" "has_form" (defArgs s_has_form) (defBody s_has_form) (defScope s_has_form) .none kV_has_form dc_has_form pm_has_form an_has_form cd_has_form ct_has_form), sl_has_form⟩)
  (c_has_form : PySem.W.codeIn K cd_has_form "has_form" = true)
  (k_has_form : PySem.W.keepIn K (.ref f_has_form) = true)
  (g_is_one_letter : PySem.W.nsIn K mainGlobals "is_one_letter" = some (some (.ref f_is_one_letter)))
  (l_is_one_letter : K.lookup f_is_one_letter = some ⟨oc_is_one_letter, od_is_one_letter, .func (PySem.W.fnOf "is_one_letter" "is_one_letter" (defArgs s_is_one_letter) (defBody s_is_one_letter) (defScope s_is_one_letter) .none kV_is_one_letter dc_is_one_letter pm_is_one_letter an_is_one_letter cd_is_one_letter ct_is_one_letter), sl_is_one_letter⟩)
  (c_is_one_letter : PySem.W.codeIn K cd_is_one_letter "is_one_letter" = true)
  (k_is_one_letter : PySem.W.keepIn K (.ref f_is_one_letter) = true)
  (g__law_pool : PySem.W.nsIn K mainGlobals "_law_pool" = some (some (.ref f__law_pool)))
  (l__law_pool : K.lookup f__law_pool = some ⟨oc__law_pool, od__law_pool, .func (PySem.W.fnOf "_law_pool" "_law_pool" (defArgs s__law_pool) (defBody s__law_pool) (defScope s__law_pool) .none kV__law_pool dc__law_pool pm__law_pool an__law_pool cd__law_pool ct__law_pool), sl__law_pool⟩)
  (c__law_pool : PySem.W.codeIn K cd__law_pool "_law_pool" = true)
  (k__law_pool : PySem.W.keepIn K (.ref f__law_pool) = true)
  (g__law_draw : PySem.W.nsIn K mainGlobals "_law_draw" = some (some (.ref f__law_draw)))
  (l__law_draw : K.lookup f__law_draw = some ⟨oc__law_draw, od__law_draw, .func (PySem.W.fnOf "_law_draw" "_law_draw" (defArgs s__law_draw) (defBody s__law_draw) (defScope s__law_draw) .none kV__law_draw dc__law_draw pm__law_draw an__law_draw cd__law_draw ct__law_draw), sl__law_draw⟩)
  (c__law_draw : PySem.W.codeIn K cd__law_draw "_law_draw" = true)
  (k__law_draw : PySem.W.keepIn K (.ref f__law_draw) = true)
  (g__law_query : PySem.W.nsIn K mainGlobals "_law_query" = some (some (.ref f__law_query)))
  (l__law_query : K.lookup f__law_query = some ⟨oc__law_query, od__law_query, .func (PySem.W.fnOf "_law_query" "_law_query" (defArgs s__law_query) (defBody s__law_query) (defScope s__law_query) .none kV__law_query dc__law_query pm__law_query an__law_query cd__law_query ct__law_query), sl__law_query⟩)
  (c__law_query : PySem.W.codeIn K cd__law_query "_law_query" = true)
  (k__law_query : PySem.W.keepIn K (.ref f__law_query) = true)
  (g__law_steep : PySem.W.nsIn K mainGlobals "_law_steep" = some (some (.ref f__law_steep)))
  (l__law_steep : K.lookup f__law_steep = some ⟨oc__law_steep, od__law_steep, .func (PySem.W.fnOf "_law_steep" "_law_steep" (defArgs s__law_steep) (defBody s__law_steep) (defScope s__law_steep) .none kV__law_steep dc__law_steep pm__law_steep an__law_steep cd__law_steep ct__law_steep), sl__law_steep⟩)
  (c__law_steep : PySem.W.codeIn K cd__law_steep "_law_steep" = true)
  (k__law_steep : PySem.W.keepIn K (.ref f__law_steep) = true)
  (g__law_any_query : PySem.W.nsIn K mainGlobals "_law_any_query" = some (some (.ref f__law_any_query)))
  (l__law_any_query : K.lookup f__law_any_query = some ⟨oc__law_any_query, od__law_any_query, .func (PySem.W.fnOf "_law_any_query" "_law_any_query" (defArgs s__law_any_query) (defBody s__law_any_query) (defScope s__law_any_query) .none kV__law_any_query dc__law_any_query pm__law_any_query an__law_any_query cd__law_any_query ct__law_any_query), sl__law_any_query⟩)
  (c__law_any_query : PySem.W.codeIn K cd__law_any_query "_law_any_query" = true)
  (k__law_any_query : PySem.W.keepIn K (.ref f__law_any_query) = true)
  (g__law_is_query : PySem.W.nsIn K mainGlobals "_law_is_query" = some (some (.ref f__law_is_query)))
  (l__law_is_query : K.lookup f__law_is_query = some ⟨oc__law_is_query, od__law_is_query, .func (PySem.W.fnOf "_law_is_query" "_law_is_query" (defArgs s__law_is_query) (defBody s__law_is_query) (defScope s__law_is_query) .none kV__law_is_query dc__law_is_query pm__law_is_query an__law_is_query cd__law_is_query ct__law_is_query), sl__law_is_query⟩)
  (c__law_is_query : PySem.W.codeIn K cd__law_is_query "_law_is_query" = true)
  (k__law_is_query : PySem.W.keepIn K (.ref f__law_is_query) = true)
  (g__law_odd_thing : PySem.W.nsIn K mainGlobals "_law_odd_thing" = some (some (.ref f__law_odd_thing)))
  (l__law_odd_thing : K.lookup f__law_odd_thing = some ⟨oc__law_odd_thing, od__law_odd_thing, .func (PySem.W.fnOf "_law_odd_thing" "_law_odd_thing" (defArgs s__law_odd_thing) (defBody s__law_odd_thing) (defScope s__law_odd_thing) .none kV__law_odd_thing dc__law_odd_thing pm__law_odd_thing an__law_odd_thing cd__law_odd_thing ct__law_odd_thing), sl__law_odd_thing⟩)
  (c__law_odd_thing : PySem.W.codeIn K cd__law_odd_thing "_law_odd_thing" = true)
  (k__law_odd_thing : PySem.W.keepIn K (.ref f__law_odd_thing) = true)
  (g__law_fits : PySem.W.nsIn K mainGlobals "_law_fits" = some (some (.ref f__law_fits)))
  (l__law_fits : K.lookup f__law_fits = some ⟨oc__law_fits, od__law_fits, .func (PySem.W.fnOf "_law_fits" "_law_fits" (defArgs s__law_fits) (defBody s__law_fits) (defScope s__law_fits) .none kV__law_fits dc__law_fits pm__law_fits an__law_fits cd__law_fits ct__law_fits), sl__law_fits⟩)
  (c__law_fits : PySem.W.codeIn K cd__law_fits "_law_fits" = true)
  (k__law_fits : PySem.W.keepIn K (.ref f__law_fits) = true)
  (g_law : PySem.W.nsIn K mainGlobals "law" = some (some (.ref f_law)))
  (l_law : K.lookup f_law = some ⟨oc_law, od_law, .func (PySem.W.fnOf "law" "law" (defArgs s_law) (defBody s_law) (defScope s_law) .none kV_law dc_law pm_law an_law cd_law ct_law), sl_law⟩)
  (c_law : PySem.W.codeIn K cd_law "law" = true)
  (k_law : PySem.W.keepIn K (.ref f_law) = true)
  (z_abs : PySem.W.nsIn K mainGlobals "abs" = some none)
  (z_int : PySem.W.nsIn K mainGlobals "int" = some none)
  (z_isinstance : PySem.W.nsIn K mainGlobals "isinstance" = some none)
  (z_len : PySem.W.nsIn K mainGlobals "len" = some none)
  (z_list : PySem.W.nsIn K mainGlobals "list" = some none)
  (z_max : PySem.W.nsIn K mainGlobals "max" = some none)
  (z_min : PySem.W.nsIn K mainGlobals "min" = some none)
  (z_range : PySem.W.nsIn K mainGlobals "range" = some none)
  (z_repr : PySem.W.nsIn K mainGlobals "repr" = some none)
  (z_str : PySem.W.nsIn K mainGlobals "str" = some none)
  (z_tuple : PySem.W.nsIn K mainGlobals "tuple" = some none)
  (g_SIZES : PySem.W.nsIn K mainGlobals "SIZES" = some (some (.ref f_SIZES)))
  (l_SIZES : K.lookup f_SIZES = some ⟨.type "dict", none, .dict es_SIZES n_SIZES, #[]⟩)
  (h_SIZES : PySem.W.KeysLit w.params es_SIZES.toList)
  (o_SIZES : (f_SIZES == sysModules) = false)
  (v_SIZES : es_SIZES.toList.map entI = ([(("any" : Str), (1 : Int)), (("not" : Str), (2 : Int)), (("both" : Str), (3 : Int)), (("some" : Str), (4 : Int))]).map some) :
  ∃ fd : FuncData, (∀ (s : Shared) (u : Value), BindsTo s fd ⟨[u], []⟩ [("script", u)]) ∧ ∀ base : Heap, K.In base → base.Ns mainGlobals mg → FnG P w K mg base CX0 65 fa fd ["script"] (sp_law K) := by
  have e : f_law = fa := by
    have e1 := hfa.symm.trans (PySem.W.mg_of X G g_law)
    injection e1 with e1
    injection e1 with e1
    exact e1.symm
  subst e
  let T : Tx w K mg := {
    a_is_letter := f_is_letter,
    d_is_letter := PySem.W.fnOf "is_letter" "is_letter" (defArgs s_is_letter) (defBody s_is_letter) (defScope s_is_letter) .none kV_is_letter dc_is_letter pm_is_letter an_is_letter cd_is_letter ct_is_letter,
    g_is_letter := PySem.W.mg_of X G g_is_letter,
    F_is_letter := fun_mk (st := s_is_letter) l_is_letter c_is_letter k_is_letter,
    b_is_letter := (fun_mk (st := s_is_letter) l_is_letter c_is_letter k_is_letter).binds (ps := ["sign"]) fun _ _ _ _ _ _ us hl => match us, hl with | [_], _ => rfl,
    a_is_question := f_is_question,
    d_is_question := PySem.W.fnOf "is_question" "is_question" (defArgs s_is_question) (defBody s_is_question) (defScope s_is_question) .none kV_is_question dc_is_question pm_is_question an_is_question cd_is_question ct_is_question,
    g_is_question := PySem.W.mg_of X G g_is_question,
    F_is_question := fun_mk (st := s_is_question) l_is_question c_is_question k_is_question,
    b_is_question := (fun_mk (st := s_is_question) l_is_question c_is_question k_is_question).binds (ps := ["value"]) fun _ _ _ _ _ _ us hl => match us, hl with | [_], _ => rfl,
    a_inner_questions := f_inner_questions,
    d_inner_questions := PySem.W.fnOf "inner_questions" "inner_questions" (defArgs s_inner_questions) (defBody s_inner_questions) (defScope s_inner_questions) .none kV_inner_questions dc_inner_questions pm_inner_questions an_inner_questions cd_inner_questions ct_inner_questions,
    g_inner_questions := PySem.W.mg_of X G g_inner_questions,
    F_inner_questions := fun_mk (st := s_inner_questions) l_inner_questions c_inner_questions k_inner_questions,
    b_inner_questions := (fun_mk (st := s_inner_questions) l_inner_questions c_inner_questions k_inner_questions).binds (ps := ["part"]) fun _ _ _ _ _ _ us hl => match us, hl with | [_], _ => rfl,
    a_has_form := f_has_form,
    d_has_form := PySem.W.fnOf "has_form" "has_form" (defArgs s_has_form) (defBody s_has_form) (defScope s_has_form) .none kV_has_form dc_has_form pm_has_form an_has_form cd_has_form ct_has_form,
    g_has_form := PySem.W.mg_of X G g_has_form,
    F_has_form := fun_mk (st := s_has_form) l_has_form c_has_form k_has_form,
    b_has_form := (fun_mk (st := s_has_form) l_has_form c_has_form k_has_form).binds (ps := ["value"]) fun _ _ _ _ _ _ us hl => match us, hl with | [_], _ => rfl,
    a_is_one_letter := f_is_one_letter,
    d_is_one_letter := PySem.W.fnOf "is_one_letter" "is_one_letter" (defArgs s_is_one_letter) (defBody s_is_one_letter) (defScope s_is_one_letter) .none kV_is_one_letter dc_is_one_letter pm_is_one_letter an_is_one_letter cd_is_one_letter ct_is_one_letter,
    g_is_one_letter := PySem.W.mg_of X G g_is_one_letter,
    F_is_one_letter := fun_mk (st := s_is_one_letter) l_is_one_letter c_is_one_letter k_is_one_letter,
    b_is_one_letter := (fun_mk (st := s_is_one_letter) l_is_one_letter c_is_one_letter k_is_one_letter).binds (ps := ["value"]) fun _ _ _ _ _ _ us hl => match us, hl with | [_], _ => rfl,
    a__law_pool := f__law_pool,
    d__law_pool := PySem.W.fnOf "_law_pool" "_law_pool" (defArgs s__law_pool) (defBody s__law_pool) (defScope s__law_pool) .none kV__law_pool dc__law_pool pm__law_pool an__law_pool cd__law_pool ct__law_pool,
    g__law_pool := PySem.W.mg_of X G g__law_pool,
    F__law_pool := fun_mk (st := s__law_pool) l__law_pool c__law_pool k__law_pool,
    b__law_pool := (fun_mk (st := s__law_pool) l__law_pool c__law_pool k__law_pool).binds (ps := ["script", "spot"]) fun _ _ _ _ _ _ us hl => match us, hl with | [_, _], _ => rfl,
    a__law_draw := f__law_draw,
    d__law_draw := PySem.W.fnOf "_law_draw" "_law_draw" (defArgs s__law_draw) (defBody s__law_draw) (defScope s__law_draw) .none kV__law_draw dc__law_draw pm__law_draw an__law_draw cd__law_draw ct__law_draw,
    g__law_draw := PySem.W.mg_of X G g__law_draw,
    F__law_draw := fun_mk (st := s__law_draw) l__law_draw c__law_draw k__law_draw,
    b__law_draw := (fun_mk (st := s__law_draw) l__law_draw c__law_draw k__law_draw).binds (ps := ["pool", "span"]) fun _ _ _ _ _ _ us hl => match us, hl with | [_, _], _ => rfl,
    a__law_query := f__law_query,
    d__law_query := PySem.W.fnOf "_law_query" "_law_query" (defArgs s__law_query) (defBody s__law_query) (defScope s__law_query) .none kV__law_query dc__law_query pm__law_query an__law_query cd__law_query ct__law_query,
    g__law_query := PySem.W.mg_of X G g__law_query,
    F__law_query := fun_mk (st := s__law_query) l__law_query c__law_query k__law_query,
    b__law_query := (fun_mk (st := s__law_query) l__law_query c__law_query k__law_query).binds (ps := ["pool", "names", "deep", "wide"]) fun _ _ _ _ _ _ us hl => match us, hl with | [_, _, _, _], _ => rfl,
    a__law_steep := f__law_steep,
    d__law_steep := PySem.W.fnOf "_law_steep" "_law_steep" (defArgs s__law_steep) (defBody s__law_steep) (defScope s__law_steep) .none kV__law_steep dc__law_steep pm__law_steep an__law_steep cd__law_steep ct__law_steep,
    g__law_steep := PySem.W.mg_of X G g__law_steep,
    F__law_steep := fun_mk (st := s__law_steep) l__law_steep c__law_steep k__law_steep,
    b__law_steep := (fun_mk (st := s__law_steep) l__law_steep c__law_steep k__law_steep).binds (ps := ["pool", "names", "deep"]) fun _ _ _ _ _ _ us hl => match us, hl with | [_, _, _], _ => rfl,
    a__law_any_query := f__law_any_query,
    d__law_any_query := PySem.W.fnOf "_law_any_query" "_law_any_query" (defArgs s__law_any_query) (defBody s__law_any_query) (defScope s__law_any_query) .none kV__law_any_query dc__law_any_query pm__law_any_query an__law_any_query cd__law_any_query ct__law_any_query,
    g__law_any_query := PySem.W.mg_of X G g__law_any_query,
    F__law_any_query := fun_mk (st := s__law_any_query) l__law_any_query c__law_any_query k__law_any_query,
    b__law_any_query := (fun_mk (st := s__law_any_query) l__law_any_query c__law_any_query k__law_any_query).binds (ps := ["pool", "names", "deep", "wide"]) fun _ _ _ _ _ _ us hl => match us, hl with | [_, _, _, _], _ => rfl,
    a__law_is_query := f__law_is_query,
    d__law_is_query := PySem.W.fnOf "_law_is_query" "_law_is_query" (defArgs s__law_is_query) (defBody s__law_is_query) (defScope s__law_is_query) .none kV__law_is_query dc__law_is_query pm__law_is_query an__law_is_query cd__law_is_query ct__law_is_query,
    g__law_is_query := PySem.W.mg_of X G g__law_is_query,
    F__law_is_query := fun_mk (st := s__law_is_query) l__law_is_query c__law_is_query k__law_is_query,
    b__law_is_query := (fun_mk (st := s__law_is_query) l__law_is_query c__law_is_query k__law_is_query).binds (ps := ["thing"]) fun _ _ _ _ _ _ us hl => match us, hl with | [_], _ => rfl,
    a__law_odd_thing := f__law_odd_thing,
    d__law_odd_thing := PySem.W.fnOf "_law_odd_thing" "_law_odd_thing" (defArgs s__law_odd_thing) (defBody s__law_odd_thing) (defScope s__law_odd_thing) .none kV__law_odd_thing dc__law_odd_thing pm__law_odd_thing an__law_odd_thing cd__law_odd_thing ct__law_odd_thing,
    g__law_odd_thing := PySem.W.mg_of X G g__law_odd_thing,
    F__law_odd_thing := fun_mk (st := s__law_odd_thing) l__law_odd_thing c__law_odd_thing k__law_odd_thing,
    b__law_odd_thing := (fun_mk (st := s__law_odd_thing) l__law_odd_thing c__law_odd_thing k__law_odd_thing).binds (ps := ["pool", "query"]) fun _ _ _ _ _ _ us hl => match us, hl with | [_, _], _ => rfl,
    a__law_fits := f__law_fits,
    d__law_fits := PySem.W.fnOf "_law_fits" "_law_fits" (defArgs s__law_fits) (defBody s__law_fits) (defScope s__law_fits) .none kV__law_fits dc__law_fits pm__law_fits an__law_fits cd__law_fits ct__law_fits,
    g__law_fits := PySem.W.mg_of X G g__law_fits,
    F__law_fits := fun_mk (st := s__law_fits) l__law_fits c__law_fits k__law_fits,
    b__law_fits := (fun_mk (st := s__law_fits) l__law_fits c__law_fits k__law_fits).binds (ps := ["pool"]) fun _ _ _ _ _ _ us hl => match us, hl with | [_], _ => rfl,
    a_law := f_law,
    d_law := PySem.W.fnOf "law" "law" (defArgs s_law) (defBody s_law) (defScope s_law) .none kV_law dc_law pm_law an_law cd_law ct_law,
    g_law := PySem.W.mg_of X G g_law,
    F_law := fun_mk (st := s_law) l_law c_law k_law,
    b_law := (fun_mk (st := s_law) l_law c_law k_law).binds (ps := ["script"]) fun _ _ _ _ _ _ us hl => match us, hl with | [_], _ => rfl,
    kb_is_question__value := kb_one fun _ _ => .of_eq rfl,
    b_abs := PySem.W.mg_none_of X G z_abs,
    b_int := PySem.W.mg_none_of X G z_int,
    b_isinstance := PySem.W.mg_none_of X G z_isinstance,
    b_len := PySem.W.mg_none_of X G z_len,
    b_list := PySem.W.mg_none_of X G z_list,
    b_max := PySem.W.mg_none_of X G z_max,
    b_min := PySem.W.mg_none_of X G z_min,
    b_range := PySem.W.mg_none_of X G z_range,
    b_repr := PySem.W.mg_none_of X G z_repr,
    b_str := PySem.W.mg_none_of X G z_str,
    b_tuple := PySem.W.mg_none_of X G z_tuple,
    a_SIZES := f_SIZES,
    g_SIZES := PySem.W.mg_of X G g_SIZES,
    ki_SIZES := kints_of l_SIZES h_SIZES o_SIZES v_SIZES,
    bl := fun s v => .of_eq rfl }
  refine ⟨PySem.W.fnOf "law" "law" (defArgs s_law) (defBody s_law) (defScope s_law) .none kV_law dc_law pm_law an_law cd_law ct_law, fun s v => .of_eq rfl, fun base _ _ => ?_⟩
  have G__law_draw := ok__law_draw (P := P) (base := base) T
  have G_is_letter := ok_is_letter (P := P) (base := base) T
  have G_is_one_letter := ok_is_one_letter T G_is_letter
  have G_has_form := ok_has_form T G_is_one_letter
  have G_inner_questions := ok_inner_questions (P := P) (base := base) T
  have G_is_question := ok_is_question T G_has_form G_inner_questions
  have G__law_pool := ok__law_pool (P := P) (base := base) T
  have G__law_query := ok__law_query T G__law_draw
  have G__law_steep := ok__law_steep T G__law_draw (G__law_query 4) 7
  have G__law_any_query := ok__law_any_query T G__law_draw (G__law_query 61) G__law_steep
  have G__law_is_query := ok__law_is_query (P := P) (base := base) T 60
  have G__law_odd_thing := ok__law_odd_thing T G__law_draw
  have G__law_fits := ok__law_fits T G__law_draw G__law_any_query G__law_odd_thing G__law_is_query G_is_question
  have G_law := ok_law T G__law_pool G__law_fits
  exact G_law
end Lw
open PySem PySem.W PyProof.Rows in
set_option maxRecDepth 100000 in
set_option maxHeartbeats 0 in
theorem PySem.Challenge.cw_pickdepths_k11_questions_recognized_holds : PySem.Challenge.rw_pickdepths_k11_questions_recognized.Holds := by
  w_on; o_law; k_head; (case hw => w_witness2)
  k_fill
  refine M.walk_ofG (l := PySem.Challenge.rw_pickdepths_k11_questions_recognized) (n := 63) (k := 65) (x := "script") (sp := fun K => M.sp_law K) rfl (by decide) rfl ⟨rfl, by decide, by decide⟩ (fun w h Y => PySem.W.kIn_of Y) ?F (fun K H a ns hl _ hS => ⟨a, ns, rfl, hS, hl, fun _ => rfl⟩)
  case F =>
    intro w mg fa h KX G hmg
    refine' Lw.all_mk KX G hmg ?g_is_letter ?l_is_letter ?c_is_letter ?k_is_letter ?g_is_question ?l_is_question ?c_is_question ?k_is_question ?g_inner_questions ?l_inner_questions ?c_inner_questions ?k_inner_questions ?g_has_form ?l_has_form ?c_has_form ?k_has_form ?g_is_one_letter ?l_is_one_letter ?c_is_one_letter ?k_is_one_letter ?g__law_pool ?l__law_pool ?c__law_pool ?k__law_pool ?g__law_draw ?l__law_draw ?c__law_draw ?k__law_draw ?g__law_query ?l__law_query ?c__law_query ?k__law_query ?g__law_steep ?l__law_steep ?c__law_steep ?k__law_steep ?g__law_any_query ?l__law_any_query ?c__law_any_query ?k__law_any_query ?g__law_is_query ?l__law_is_query ?c__law_is_query ?k__law_is_query ?g__law_odd_thing ?l__law_odd_thing ?c__law_odd_thing ?k__law_odd_thing ?g__law_fits ?l__law_fits ?c__law_fits ?k__law_fits ?g_law ?l_law ?c_law ?k_law ?z_abs ?z_int ?z_isinstance ?z_len ?z_list ?z_max ?z_min ?z_range ?z_repr ?z_str ?z_tuple ?g_SIZES ?l_SIZES ?h_SIZES ?o_SIZES ?v_SIZES
    (case g_is_letter => k_is)
    (case l_is_letter => k_is)
    (case c_is_letter => k_is)
    (case k_is_letter => k_is)
    (case g_is_question => k_is)
    (case l_is_question => k_is)
    (case c_is_question => k_is)
    (case k_is_question => k_is)
    (case g_inner_questions => k_is)
    (case l_inner_questions => k_is)
    (case c_inner_questions => k_is)
    (case k_inner_questions => k_is)
    (case g_has_form => k_is)
    (case l_has_form => k_is)
    (case c_has_form => k_is)
    (case k_has_form => k_is)
    (case g_is_one_letter => k_is)
    (case l_is_one_letter => k_is)
    (case c_is_one_letter => k_is)
    (case k_is_one_letter => k_is)
    (case g__law_pool => k_is)
    (case l__law_pool => k_is)
    (case c__law_pool => k_is)
    (case k__law_pool => k_is)
    (case g__law_draw => k_is)
    (case l__law_draw => k_is)
    (case c__law_draw => k_is)
    (case k__law_draw => k_is)
    (case g__law_query => k_is)
    (case l__law_query => k_is)
    (case c__law_query => k_is)
    (case k__law_query => k_is)
    (case g__law_steep => k_is)
    (case l__law_steep => k_is)
    (case c__law_steep => k_is)
    (case k__law_steep => k_is)
    (case g__law_any_query => k_is)
    (case l__law_any_query => k_is)
    (case c__law_any_query => k_is)
    (case k__law_any_query => k_is)
    (case g__law_is_query => k_is)
    (case l__law_is_query => k_is)
    (case c__law_is_query => k_is)
    (case k__law_is_query => k_is)
    (case g__law_odd_thing => k_is)
    (case l__law_odd_thing => k_is)
    (case c__law_odd_thing => k_is)
    (case k__law_odd_thing => k_is)
    (case g__law_fits => k_is)
    (case l__law_fits => k_is)
    (case c__law_fits => k_is)
    (case k__law_fits => k_is)
    (case g_law => k_is)
    (case l_law => k_is)
    (case c_law => k_is)
    (case k_law => k_is)
    (case z_abs => k_is)
    (case z_int => k_is)
    (case z_isinstance => k_is)
    (case z_len => k_is)
    (case z_list => k_is)
    (case z_max => k_is)
    (case z_min => k_is)
    (case z_range => k_is)
    (case z_repr => k_is)
    (case z_str => k_is)
    (case z_tuple => k_is)
    (case g_SIZES => k_is)
    (case l_SIZES => k_is)
    (case h_SIZES => repeat (first | exact trivial | refine ⟨⟨_, _, rfl, rfl⟩, ?_⟩))
    (case o_SIZES => first | rfl | decide +kernel | k_is)
    (case v_SIZES => rfl)
end
