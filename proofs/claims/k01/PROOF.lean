import PyProof.Rows.All
import Wide.All
import OpenK.AllK
import Wide.FinOn
import HandS.ForMost
import HandS.Exc
import HandS.Wide
import HandS.Style
import HandS.Evl
import HandS.IsInst
import KE.IntBitsLaws
import KE.GoesEnum
import KE.KRevSl
import PyProof.ReprRoads
import PyProof.StrBlock2
import HandS.TupSets
import HandS.SetKeys
import HandS.Rev
import HandS.Strs
import HandS.SetFor
import HandS.Walk
import HandS.ExcInit
import KE.KExcIs
import PyProof.FitsInt
import PySem.Challenge.RW_pickdepths_k01_errors_made
section
set_option Elab.async false
set_option linter.all false
set_option maxRecDepth 100000
/-! my own base: rules that the hand layer lacks, and the words of my specs -/
namespace M
open PySem L2 Evl
open PyProof.Rows hiding St

/-! ### operators -/
def CPowW (i j : Int) : Prop := 0 ≤ j ∧ (Builtin.Int.intBits i : Int) * j ≤ 2 ^ 27
theorem op_powW {X : Cx} : OpR X (binaryOp .Pow) (rI CPowW fun i j => .int (i ^ j.toNat)) := opI fun _ _ _ _ _ _ _ hc q => pow_int hc.1 hc.2 q
theorem bits_le {i : Int} {n : Nat} (h : i.natAbs < 2 ^ n) : Builtin.Int.intBits i ≤ n := by
  unfold Builtin.Int.intBits
  by_cases e : i = 0
  · simp [e]
  · rw [if_neg (by simpa using e)]
    have h2 : i.natAbs.log2 < n := (Nat.log2_lt (by omega)).mpr h
    omega
theorem pow_w {i : Int} {j : Int} (n : Nat) (h : i.natAbs < 2 ^ n) (h0 : 0 ≤ j) (hj : j ≤ 100) (hn : n ≤ 1000) : CPowW i j := by
  refine ⟨h0, ?_⟩
  have e := bits_le h
  have h1 : ((Builtin.Int.intBits i : Nat) : Int) ≤ 1000 := by omega
  have h27 : (2 : Int) ^ 27 = 134217728 := by decide
  rw [h27]
  have h2 : ((Builtin.Int.intBits i : Nat) : Int) * j ≤ 1000 * 100 := Int.mul_le_mul h1 hj h0 (by decide)
  omega
theorem op_mul_str {X : Cx} : OpR X (binaryOp .Mult) (fun x y H Q => ∃ z i, x = .str z ∧ y = .int i ∧ MulOk z i ∧ Q (.str (Txt.mul z i)) H) := by
  intro pins s σ H x y v u Q I rx ry h
  obtain ⟨z, i, rfl, rfl, hc, q⟩ := h
  obtain ⟨t, rfl⟩ := rx
  obtain ⟨t', rfl⟩ := ry
  exact SB.mul hc fun t2 k => ⟨.str _, H, I.tok _, ⟨_, rfl⟩, q⟩

/-! ### repr of data, where no repr is running -/
def rRepr (K : PySem.W.Frag) : List V → Hp → VK → Prop := fun xs H Q => ∃ x d, xs = [x] ∧ Dp K H x d ∧ d.showable = true ∧ d.hasDict = false ∧ d.depth ≤ 50 ∧ d.shown.length ≤ sizeLine ∧ Q (.str d.shown) H
theorem call_repr {X : Cx} (hg : X.A.guards = some []) (hu : X.A.units + 64 < cLine) : CallR X (.builtin "repr") (rRepr X.K) := by
  intro pins s σ H vs us Q I r h
  obtain ⟨x, d, rfl, hd, hs, hn, hp, hz, q⟩ := h
  obtain ⟨u, rfl, ru⟩ := vals1 r
  obtain ⟨as, rd⟩ := Dp.reads I d x u hd ru
  have fin : ∀ t, EP X pins σ Q (.str d.shown t) { s with toks := s.toks + 1 } := fun t => ⟨.str _, H, I.tok _, ⟨_, rfl⟩, q⟩
  cases rd with
  | none => exact P.repr_of_none (fin _)
  | bool b => exact P.repr_of_bool (fin _)
  | int i t => exact P.repr_of_int (by simpa [PyData.showable] using hs) (fin _)
  | str z t => exact P.repr_of_str (fin _) hz
  | list h1 h2 h3 h4 =>
    refine repr_of_reads' (.list h1 h2 h3 h4) hs (PyData.noDict_hsm hn) hg (by omega) (fun _ _ e => e) (fun h' t tk k => ?_) hz
    exact ⟨.str _, H, I.kept (t' := tk) k, ⟨_, rfl⟩, q⟩
  | tuple h1 h2 h3 h4 =>
    refine repr_of_reads' (.tuple h1 h2 h3 h4) hs (PyData.noDict_hsm hn) hg (by omega) (fun _ _ e => e) (fun h' t tk k => ?_) hz
    exact ⟨.str _, H, I.kept (t' := tk) k, ⟨_, rfl⟩, q⟩
  | dict => cases hn

/-! ### a def whose body asks that no repr is running -/
structure FnG (P : Program) (w : World) (K : PySem.W.Frag) (mg : Str → Option Value) (base : Heap) (CX : CXT) (k : Nat) (f : Addr) (fd : FuncData) (ps : List Str) (sp : Sp) : Prop where
  len : ∀ vs H Q E, sp vs H Q E → vs.length = ps.length
  run : ∀ (A : Around), A.guards = some [] → ∀ (outer : List Env) (s : Shared) (H : Hp) (args : Args) (us : List Value) (vs : List V) (Q : VK) (E : XK), Room k A → Env0 P w K mg base A outer s H →
    BindsTo s fd args (ps.zip us) → Vals vs us → sp vs H Q E → codeAny (model P w) A (.call (.ref f) args) (CR CX outer P w H s Q E) s
section
variable {P : Program} {w : World} {K : PySem.W.Frag} {mg : Str → Option Value} {base : Heap} {CX : CXT} {k : Nat} {f : Addr} {fd : FuncData} {ps : List Str} {sp : Sp}
theorem FnG.of (F : FnOk P w K mg base CX k f fd ps sp) : FnG P w K mg base CX k f fd ps sp := ⟨F.len, fun A _ => F.run A⟩
theorem FnG.mono {j : Nat} (F : FnG P w K mg base CX j f fd ps sp) (h : j ≤ k) : FnG P w K mg base CX k f fd ps sp := ⟨F.len, fun A hg o s H ar us vs Q E hr => F.run A hg o s H ar us vs Q E (hr.mono h)⟩
theorem fnG_of {name qual : Str} {params : Arguments} {body : List Stmt} {scope : Scope} {dV kV doc pm cdv ct oc : Value} {an od : Option Addr} {osl : Array (Option Value)} {N : List Str}
    (lk : K.lookup f = some ⟨oc, od, .func (PySem.W.fnOf name qual params body scope dV kV doc pm an cdv ct), osl⟩) (hcd : PySem.W.codeIn K cdv qual = true) (S : FnScope N ps scope) (len : ∀ vs H Q E, sp vs H Q E → vs.length = ps.length)
    (hb : ∀ (A : Around), A.guards = some [] → ∀ (outer : List Env) (s : Shared) (H : Hp) (vs : List V) (Q : VK) (E : XK), Room k (A.deeper (envOfC qual scope s.heap.objs.size f cdv)) → sp vs H Q E →
      ∃ t, PSs (cxOf CX P w K mg base N qual scope f cdv A outer s H E) body t ∧ t { nx := fun _ H' => Q .non H', rt := Q } (start N vs) H) :
    FnG P w K mg base CX (k + 1) f (PySem.W.fnOf name qual params body scope dV kV doc pm an cdv ct) ps sp where
  len := len
  run := by
    intro A hgA outer s H args us vs Q E room env bind rel want
    have inK : K.In s.heap := env.mod.kin.keeps fun b o q => (env.bs b o q).1
    have free : s.heap.NoLimit := env.mod.nolimit.keeps fun b o q => (env.bs b o q).1
    have kinds : ∀ y ∈ ps.zip us, scope.names.lookup y.1 = some .local ∨ (scope.names.lookup y.1 = some .cell ∧ ((cellsFrom (s.heap.objs.size + 1) scope.names []).lookup y.1).isSome = true) := by
      rintro ⟨n, v⟩ hy
      exact (S.par n (List.of_mem_zip hy).1).imp id fun q => ⟨q, PySem.W.cellsFrom_some _ _ _ (.inl q)⟩
    refine codeAny_call_function room.depth (inK _ _ lk) rfl S.co S.gen rfl (PySem.W.codeRec_of inK hcd) (bind _ _ _ _ ?_)
    refine wpAny_newFunctionEnv_cells S.kind kinds fun env' he s1 x => ?_
    subst he
    refine ⟨free.keeps x.toInCall.keep, codeAny_func ?_⟩
    obtain ⟨t, ht, hq⟩ := hb A hgA outer s H vs Q E (room.deeper _) want
    have I := inv_start (CX := CX) (E := E) S room.hd env (len _ _ _ _ want) rel x
    refine wpAny_mono (ht.run [] s1 (start N vs) H _ I hq) (fun fl s' hs => ?_) fun e s' hs => hs
    cases fl with
    | ret u =>
      obtain ⟨v, τ, G, J, rv, q⟩ := hs
      exact ⟨v, G, J.os, J.bare, J.base, J.hok, rv, q⟩
    | next =>
      obtain ⟨τ, G, J, q⟩ := hs
      exact ⟨V.non, G, J.os, J.bare, J.base, J.hok, rfl, q⟩
    | brk => exact hs.elim fun _ z => z.elim fun _ z => z.2.elim
    | cont => exact hs.elim fun _ z => z.elim fun _ z => z.2.elim
theorem Fun.okG {x qual : Str} {st : Stmt} {N : List Str} (F : Fun K x qual st f fd) (S : FnScope N ps (defScope st)) (len : ∀ vs H Q E, sp vs H Q E → vs.length = ps.length)
    (hb : ∀ (cdv : Value) (A : Around), A.guards = some [] → ∀ (outer : List Env) (s : Shared) (H : Hp) (vs : List V) (Q : VK) (E : XK), Room k (A.deeper (envOfC qual (defScope st) s.heap.objs.size f cdv)) → sp vs H Q E →
      ∃ t, PSs (cxOf CX0 P w K mg base N qual (defScope st) f cdv A outer s H E).nox (defBody st) t ∧ t { nx := fun _ H' => Q .non H', rt := Q } (start N vs) H) : FnG P w K mg base CX0 (k + 1) f fd ps sp := by
  obtain ⟨oc, od, kV, doc, pm, an, cdv, ct, osl, rfl, lk, hcd⟩ := F.ex
  refine fnG_of lk hcd S len fun A hg outer s H vs Q E hr want => ?_
  obtain ⟨t, p, q⟩ := hb cdv A hg outer s H vs Q E hr want
  exact ⟨t, p.nox, q⟩
end
section
variable {X : Cx} {CX : CXT} {k : Nat} {f : Addr} {fd : FuncData} {ps ks : List Str} {sp : Sp} {dvs : List V} {ds : List Value} {E : XK} {x : Str} {p pos : Pos} {e : Expr} {es : List Expr} {t tk : TA} {kws : List Keyword}
  {g : List Value → List Value → List Value} {gV : List V → List V → List V}
theorem ended {pins : List (Addr × Obj)} {σ : St} {H : Hp} {s s' : Shared} {Q : VK} {r : Result} (hx : Passes CX X E) (I : Inv X pins σ H s) (hq : CR CX X.stack X.prog X.w H s Q E r s') :
    (match r with | .ok (.ret u) => EP X pins σ Q u s' | .ok _ => False | .error e => X.xe e s') := by
  rcases r with e | fl
  · exact hx pins σ H s e s' I hq
  · cases fl with
    | ret u => exact I.after hq
    | next => exact hq.elim
    | brk => exact hq.elim
    | cont => exact hq.elim
theorem pe_callG (F : FnG X.prog X.w X.K X.mg X.base CX k f fd ps sp) (hga : X.A.guards = some []) (hr : Room k X.A) (hg : Gl X x) (hm : X.mg x = some (.ref f)) (hk : PySem.W.keepIn X.K (.ref f) = true) (hb : Binds X.K fd ps ds)
    (hd : Vals dvs ds) (hx : Passes CX X E) (ha : PA X (e :: es) t) (hdb : (x == ("__debug__" : Str)) = false := by decide) (he : starEach (e :: es) X.env = (false, eval e X.env) :: starEach es X.env := by rfl)
    (hpl : (backTo pos (starEach es X.env)).any (·.1) = false := by rfl) : PE X (.Call (.Name x p) (e :: es) [] pos) (tCall sp dvs E t) := by
  constructor
  intro pins s σ H Q I h
  refine wpAny_Call_Name_kw (ld_glob I hg hm (PySem.W.callWith_K (h₀ := X.base) I.ok.mod.kin hk (thn (ha.run pos pins s σ H _ I h) ?_) he hpl) hdb)
  rintro us s1 ⟨vs, H1, I1, r, q⟩
  refine ⟨I1.kIn, ?_⟩
  have both : Vals (vs ++ dvs) (us ++ ds) := r.append hd
  refine wpAny_call (codeAny_mono (F.run X.A hga X.stack s1 H1 ⟨us, []⟩ (us ++ ds) (vs ++ dvs) Q E hr I1.env0 (hb s1 us I1.kIn (by rw [← both.length]; exact F.len _ _ _ _ q)) both q) fun r s' hq => ?_)
  have z := ended hx I1 hq
  cases r with
  | error _ => exact z
  | ok fl => cases fl <;> exact z
theorem keysRun {pins : List (Addr × Obj)} {σ : St} {H : Hp} {s : Shared} {Q : VK} {us ws : List Value} {vs zs : List V} (F : FnG X.prog X.w X.K X.mg X.base CX k f fd ps sp) (hga : X.A.guards = some []) (hr : Room k X.A)
    (hb : KBinds X.K fd ps ks g gV) (hx : Passes CX X E) (I : Inv X pins σ H s) (r : Vals vs us) (rz : Vals zs ws) (h : sp (gV vs zs) H Q E) : wpAny (model X.prog X.w) X.A (call (.ref f) us (ks.zip ws)) (EP X pins σ Q) X.xe s := by
  have both := hb.rel r rz
  refine wpAny_call (codeAny_mono (F.run X.A hga X.stack s H ⟨us, ks.zip ws⟩ (g us ws) (gV vs zs) Q E hr I.env0 (hb.to s us ws I.kIn (by rw [← both.length]; exact F.len _ _ _ _ h)) both h) fun r s' hq => ?_)
  have z := ended hx I hq
  cases r with
  | error _ => exact z
  | ok fl => cases fl <;> exact z
/-- f(k = v, ..): every argument by its name -/
theorem pe_callK0 (F : FnOk X.prog X.w X.K X.mg X.base CX k f fd ps sp) (hr : Room k X.A) (hg : Gl X x) (hm : X.mg x = some (.ref f)) (hk : PySem.W.keepIn X.K (.ref f) = true) (hb : KBinds X.K fd ps ks g gV) (hx : Passes CX X E)
    (hkw : PK X kws tk) (hall : (backToKw pos (keywordEach kws X.env)).all (·.1.isSome) = true := by rfl) (hks : (backToKw pos (keywordEach kws X.env)).filterMap (·.1) = ks := by rfl)
    (hdb : (x == ("__debug__" : Str)) = false := by decide) (hpl : ((backTo pos (starEach [] X.env)).any (·.1) || (backToKw pos (keywordEach kws X.env)).any (·.1.isNone)) = false := by rfl) :
    PE X (.Call (.Name x p) [] kws pos) (tCallK sp gV E tNil tk) := by
  constructor
  intro pins s σ H Q I h
  refine wpAny_Call_Name_kw (ld_glob I hg hm (PySem.W.callWith_KW0 (h₀ := X.base) I.ok.mod.kin hk hall (thn (hkw.run pos pins s σ H _ I h) ?_) hpl) hdb)
  rintro ws s2 ⟨zs, H2, I2, rz, q2⟩
  refine ⟨I2.kIn, ?_⟩
  rw [hks]
  exact run_fnk F hr hb hx I2 .nil rz q2
end

/-! ### the end of a law, where the law's def asks that no repr is running -/
theorem law_callG {P : Program} {w : World} {K : PySem.W.Frag} {mg mb : Str → Option Value} {CX : CXT} {k : Nat} {fa a : Addr} {fd : FuncData} {x : Str} {sp : Sp} {s1 : Shared} {vs : List Value} {ns : List Int}
    (KX : K.In s1.heap) (hns : s1.heap.Ns mainGlobals mg) (hb : s1.heap.Ns builtinsNs mb) (hbb : ∀ y : Str, y ≠ "__name__" → mb y = bootBuiltins y) (lim : s1.heap.NoLimit) (hg : s1.gens = #[])
    (ha : s1.heap.get? a = some { cls := .type "list", data := .seq vs.toArray }) (hi : IntsAre vs ns) (hl : ns.length ≤ sizeLine) (hr : Room k callerA)
    (F : ∀ base : Heap, K.In base → base.Ns mainGlobals mg → FnG P w K mg base CX k fa fd [x] sp) (hbind : ∀ (s : Shared) (u : Value), BindsTo s fd ⟨[u], []⟩ [(x, u)])
    (hsp : ∀ H : Hp, Only H → SqL K H a (ns.map V.int) → sp [.ref a] H (fun v _ => v = .bl true) fun _ _ _ => False)
    (hCX : ∀ H e s', CX [] H s1 (fun _ _ _ => False) e s' → False) :
    codeAny (model P w) callerA (.call (.ref fa) ⟨[.ref a], []⟩) (fun r s' => r = .ok (.ret (.bool true)) ∧ OldK s1.heap s'.heap ∧ s'.os = s1.os ∧ AllBare s'.gens) s1 := by
  have rel := vals_ints hi
  have len := hi.length
  have go : ∀ H : Hp, Only H → SqL K H a (ns.map V.int) → HOk P w H s1.heap → (∀ b, H b ≠ none → b = a ∧ K.lookup a = none) →
      codeAny (model P w) callerA (.call (.ref fa) ⟨[.ref a], []⟩) (fun r s' => r = .ok (.ret (.bool true)) ∧ OldK s1.heap s'.heap ∧ s'.os = s1.os ∧ AllBare s'.gens) s1 := by
    intro H only script held here
    have plain : ∀ {b : Addr} {m : Str → Option Value}, s1.heap.Ns b m → (hidT s1.heap H).Ns b m := by
      rintro b m ⟨o, es, ep, q, d, z⟩
      refine ⟨o, es, ep, hidT_get q ?_, d, z⟩
      rcases hH : H b with _ | u
      · rfl
      · obtain ⟨rfl, _⟩ := here b (by rw [hH]; simp)
        rw [ha] at q
        cases q
        exact nomatch (show Data.seq vs.toArray _ = Data.dict es ep from d)
    have inK : K.In (hidT s1.heap H) := by
      intro b o q
      refine hidT_get (KX b o q) ?_
      rcases hH : H b with _ | u
      · rfl
      · obtain ⟨rfl, z⟩ := here b (by rw [hH]; simp)
        rw [z] at q
        cases q
    obtain ⟨mc, l1, l2⟩ := lim
    have env : Env0 P w K mg (hidT s1.heap H) callerA [] s1 H :=
      ⟨rfl, ⟨inK, plain hns, ⟨mb, plain hb, hbb⟩, ⟨mc, plain l1, l2⟩⟩, fun b o q => of_hidT q, Nat.le_of_eq (hidT_size _ _), trivial, fun b z => absurd (show b ∈ ([] : List Addr) from z) (by simp), held, .of_eq hg⟩
    refine codeAny_mono ((F _ inK (plain hns)).run callerA rfl [] s1 H ⟨[.ref a], []⟩ [.ref a] [.ref a] _ _ hr env (hbind s1 (.ref a)) (.cons rfl .nil) (hsp H only script)) ?_
    rintro (e | fl) s' z
    · exact (hCX H e s' z).elim
    · cases fl with
      | ret u =>
        obtain ⟨v, G, os, bare, un, held', rv, ev⟩ := z
        subst ev
        cases (show u = Value.bool true from rv)
        refine ⟨rfl, OldK.of_keep fun b o q => ?_, os, bare⟩
        rcases only b with n | ⟨ob, xs, n⟩
        · exact un.keep b o q n (fun z => absurd (show b ∈ ([] : List Addr) from z) (by simp)) (by simp)
        · obtain ⟨e1, _⟩ := held b _ n
          obtain ⟨e2, _⟩ := held' b _ (un.frzs b ob _ n)
          rw [q] at e1
          cases e1
          exact e2
      | next => exact z.elim
      | brk => exact z.elim
      | cont => exact z.elim
  rcases hk : K.lookup a with _ | o
  · refine go (fun b => if b = a then some (.frz { cls := .type "list", data := .seq vs.toArray } (.lst (ns.map V.int))) else none) ?_ (.inl (.inr ⟨_, if_pos rfl⟩)) ?_ ?_
    · intro b
      by_cases q : b = a
      · exact .inr ⟨_, _, if_pos q⟩
      · exact .inl (if_neg q)
    · intro b u z
      by_cases q : b = a
      · subst q
        have z' := (if_pos (c := b = b) rfl).symm.trans z
        cases z'
        exact ⟨ha, by rw [List.length_map]; exact hl, vs, _, rel, ha⟩
      · exact nomatch (if_neg q).symm.trans z
    · intro b z
      by_cases q : b = a
      · exact ⟨q, hk⟩
      · exact absurd (if_neg q) z
  · have q := KX a o hk
    rw [ha] at q
    cases q
    exact go (fun _ => none) (fun _ => .inl rfl) (.inr ⟨_, vs.toArray, _, hk, rfl, rfl, rfl, by rw [List.size_toArray, len]; exact hl, by simpa using rel⟩) (fun b u z => nomatch (show (none : Option HO) = some u from z)) fun b z => absurd rfl z
theorem walk_ofG {l : PySem.W.OpenLaw} {n k : Nat} {q : Program} {loose : List Str} {XP : (Str → Option Value) → Heap → Prop} {YP : World → Heap → Prop} {d : DefRec} {K : Params → PySem.W.Frag} {sp : PySem.W.Frag → Sp} {x : Str}
    (hn : l.most = some n) (hn2 : n ≤ sizeLine) (hdf : d.params.defaults = []) (hr : Room k callerA) (hY : ∀ (w : World) (h : Heap), YP w h → (K w.params).In h)
    (F : ∀ (w : World) (mg : Str → Option Value) (fa : Addr) (h : Heap), (K w.params).In h → h.Ns mainGlobals mg → mg d.name = some (.ref fa) →
      ∃ fd : FuncData, (∀ (s : Shared) (u : Value), BindsTo s fd ⟨[u], []⟩ [(x, u)]) ∧ ∀ base : Heap, (K w.params).In base → base.Ns mainGlobals mg → FnG l.prog w (K w.params) mg base CX0 k fa fd [x] (sp (K w.params)))
    (hsp : ∀ (K : PySem.W.Frag) (H : Hp) (a : Addr) (ns : List Int), ns.length ≤ n → Only H → SqL K H a (ns.map V.int) → sp K [.ref a] H (fun v _ => v = .bl true) fun _ _ _ => False) :
    PySem.W.WalkO q loose XP YP l.row.toRowW d [] (fun f vs => PySem.call f vs) := by
  refine Att.attach_call hn hdf fun w s0 s1 mg mb fa o pm cd doc a vs ns G Y ho hd hcd hmg hobj hints hlen hg => ?_
  obtain ⟨fd, hb, hF⟩ := F w mg fa _ (hY w _ Y) G.T.g hmg
  exact law_callG (hY w _ Y) G.T.g G.T.b G.T.builtins G.T.nolimit hg hobj hints (Nat.le_trans hlen hn2) hr hF hb (fun H hO hS => hsp _ H a ns hlen hO hS) fun H e s' z => z.elim

/-! ### s[::-1] -/
theorem back_idx (n : Nat) : Builtin.Str.strSliceIndices none none (-1) n = (List.range n).reverse := by
  unfold Builtin.Str.strSliceIndices
  simp only [show ¬ ((-1 : Int) > 0) by decide, if_false]
  rw [PySem.W.krv_sliceRange, PySem.W.krv_range]
def revS (z : Str) : Str := ⟨z.cps.toList.reverse.toArray⟩
def tRevS (te : TE) : TE := fun σ H Q => te σ H fun x H1 => ∃ z, x = .str z ∧ z.length ≤ sizeLine ∧ Q (.str (revS z)) H1
theorem pe_revS {X : Cx} {e : Expr} {te : TE} {k : Nat} {p1 p2 p3 pos : Pos} (he : PE X e te) : PE X (.Subscript e (.Slice none none (some (.UnaryOp .USub (.Constant (.int 1) k p1) p2)) p3) pos) (tRevS te) := by
  constructor
  intro pins s σ H Q I h
  refine Subscript_ (thn (he.run pins s σ H _ I h) ?_)
  rintro v s1 ⟨x, H1, I1, r1, z, rfl, hz, q⟩
  obtain ⟨t, rfl⟩ := r1
  have one : PO X (some (.UnaryOp .USub (.Constant (.int 1) k p1) p2)) (tPart (tUn (rU fun i => .int (-i)) (tC (.int 1)))) := po_some (pe_un un_neg pe_int)
  refine wpAny_Slice (thn (po_none.run pins s1 σ H1 (fun o G => o = none ∧ G = H1) I1 ⟨rfl, rfl⟩) ?_)
  rintro vl s2 ⟨_, _, I2, pl, rfl, rfl⟩
  refine thn (po_none.run pins s2 σ _ (fun o G => o = none ∧ G = _) I2 ⟨rfl, rfl⟩) ?_
  rintro vu s3 ⟨_, _, I3, pu, rfl, rfl⟩
  refine thn (one.run pins s3 σ _ (fun o G => o = some (-1) ∧ G = _) I3 ⟨1, rfl, -1, rfl, rfl, rfl⟩) ?_
  rintro vs s4 ⟨_, _, I4, ps, rfl, rfl⟩
  obtain ⟨l, rfl, el⟩ := IsPart.raw pl
  obtain ⟨u, rfl, eu⟩ := IsPart.raw pu
  obtain ⟨st, rfl, es⟩ := IsPart.raw ps
  obtain rfl : l = none := by cases l <;> first | rfl | cases el
  obtain rfl : u = none := by cases u <;> first | rfl | cases eu
  obtain ⟨tm, rfl⟩ : ∃ tm, st = some (-1, tm) := by
    cases st with
    | none => cases es
    | some q => exact ⟨q.2, by cases q; cases es; rfl⟩
  have I5 : Inv X pins σ _ { s4 with heap := s4.heap.push { cls := .type "slice", data := .fields #[partValue none, partValue none, partValue (some (-1, tm))] } } := I4.kept (t' := s4.toks) fun b ob q => Heap.get?_push_of_some _ q
  show wpAny (model X.prog X.w) X.A (subscriptTail e (.Slice none none (some (.UnaryOp .USub (.Constant (.int 1) k p1) p2)) p3) (.str z t) (.ref s4.heap.objs.size)) (EP X pins σ Q) X.xe { s4 with heap := s4.heap.push { cls := .type "slice", data := .fields #[partValue none, partValue none, partValue (some (-1, tm))] } }
  refine tail_any (ops := [.str z t, .ref s4.heap.objs.size]) (typeIs_str _ z t) PySem.F.slot_str_getitem.lookup ?_ (by with_unfolding_all rfl)
  refine wpAny_getItem_str_slice (l := none) (u := none) (st := some (-1, tm)) ⟨_, Heap.get?_push_size _ rfl, rfl, rfl⟩ rfl ?_
  have e2 : sliceMade z t none none (some (-1, tm)) = Made.str (revS z) := by
    unfold sliceMade slicePicked
    rw [if_neg (by simp)]
    show Made.str ⟨((Builtin.Str.strSliceIndices none none (-1) z.length).filterMap (z.cps[·]?)).toArray⟩ = _
    rw [back_idx, List.filterMap_reverse, show z.length = z.cps.size from rfl, PySem.W.krv_all]
    rfl
  rw [e2]
  refine ⟨?_, .str _, _, I5.tok _, ⟨_, rfl⟩, q⟩
  show (z.cps.toList.reverse.toArray).size ≤ _
  rw [List.size_toArray, List.length_reverse, Array.length_toList]
  exact hz

/-! ### for i, c in enumerate(s), s a text -/
def Ites (x : Str) : It :=
  ⟨fun i _ => i < x.cps.size, fun i H v H' => ∃ T c, v = .ref T ∧ H T = none ∧ H' = upd H T (.tup [.int (i : Nat), .str ⟨#[c]⟩]) ∧ x.cps[i]? = some c, fun i _ => x.cps.size ≤ i⟩
theorem turn_enumS {P : Program} {w : World} {K : PySem.W.Frag} {elts : List Expr} {kk : Nat} {tpos : Pos} (x : Str) (t : Tok) (e it : Addr) :
    Turn P w K (.Tuple elts kk tpos) (Ites x) [e, it] e (fun i h => (∃ old, IsEnum h e it ((i : Nat) : Int) old) ∧ h.IsStrIter it (strIterType x) x t i ∧ e ≠ it ∧ i ≤ x.cps.size) where
  mem := List.mem_cons_self
  obj := by
    rintro i h ⟨⟨old, he⟩, ⟨o, ho, hc, hd⟩, _⟩ b hb
    rcases List.mem_cons.mp hb with rfl | hb
    · exact ⟨_, he, fun v q => nomatch q⟩
    · obtain rfl := List.mem_singleton.mp hb
      exact ⟨o, ho, fun v q => by rw [hd] at q; cases q⟩
  keep := by
    rintro i h h' ⟨⟨old, he⟩, ⟨o, ho, r⟩, ne, le⟩ k
    exact ⟨⟨old, k e (by simp) _ he⟩, ⟨o, k it (by simp) o ho, r⟩, ne, le⟩
  item := by
    intro X hP hw hK hc i pins s σ H E I hf st go
    subst hP hw hK
    obtain ⟨⟨old, he⟩, hit, ne, le⟩ := st
    have lte : e < s.heap.objs.size := Heap.lt_size he
    have lti : it < s.heap.objs.size := by obtain ⟨_, q, _⟩ := hit; exact Heap.lt_size q
    refine wpAny_pyNext_enum_itemC (Draws.text (A := X.A.in1) (I.ok.hd hc) it x t) he hit go ne (by simpa using ne) fun v h' tk hv ho hit' hT hsz hk => ?_
    obtain ⟨c, tc, hcx, rfl⟩ := hv
    refine ⟨_, rfl, wpAny_letOwnedTupleGo_enum (s := { s with heap := h', toks := tk + 1 }) ho fun h2 he2 sb => ?_⟩
    have hT2 : h2.get? s.heap.objs.size = some { cls := .type "tuple", data := .seq #[.int i tk, .str ⟨#[c]⟩ tc] } := (sb.2 _ (Nat.ne_of_gt lte)).trans hT
    have new : ObjOk X.prog X.w (upd H s.heap.objs.size (.tup [.int (i : Nat), .str ⟨#[c]⟩])) h2 s.heap.objs.size (.tup [.int (i : Nat), .str ⟨#[c]⟩]) :=
      ⟨by show 2 ≤ sizeLine; decide, [.int i tk, .str ⟨#[c]⟩ tc], .cons ⟨_, rfl⟩ (.cons ⟨_, rfl⟩ .nil), ⟨_, hT2, rfl, _, rfl⟩⟩
    have I1 := I.turnedNew (t' := tk + 1) (ch := [e, it]) (fun b ob hb q => (sb.2 b (fun z => hb (by simp [z]))).trans (hk b ob (fun z => hb (by simp [z])) (fun z => hb (by simp [z])) q)) hf (Nat.le_refl _) new
    refine ⟨.ref s.heap.objs.size, _, I1, rfl, ⟨_, c, rfl, I.hok.fresh (Nat.le_refl _), rfl, hcx⟩, ⟨⟨_, by simpa using he2⟩, ?_, ne, go⟩, ?_⟩
    · obtain ⟨o, ho, r⟩ := hit'
      exact ⟨o, (sb.2 it (Ne.symm ne)).trans ho, r⟩
    · intro b hb
      have small : b < s.heap.objs.size := by
        rcases List.mem_cons.mp hb with rfl | q
        · exact lte
        · rw [List.mem_singleton.mp q]; exact lti
      rw [upd_ne (Nat.ne_of_lt small)]
      exact (hf b hb).1
  done := by
    intro X hP hw hK hc i pins s σ H E I hf st stop
    subst hP hw hK
    obtain ⟨⟨old, he⟩, hit, ne, le⟩ := st
    obtain ⟨f0, f1, f2, f3, f4, f5⟩ := hf it (by simp)
    obtain rfl : i = x.cps.size := Nat.le_antisymm le stop
    refine wpAny_pyNext_enum_endD (Draws.text (A := X.A.in1) (I.ok.hd hc) it x t) he hit fun h' eb => ⟨rfl, I.turned (t' := s.toks) (fun b o hb q => eb b o hb q) f0 f1 f3 f4 f5⟩
  self := by
    rintro A i s Q E ⟨⟨_, he⟩, _⟩ h
    exact wpAny_pyIter_enum he h
def iEnumS (ta : TA) : TI := fun σ H R => ta σ H fun vs H1 => ∃ x, vs = [.str x] ∧ R (Ites x) H1
theorem pi_enumS {X : Cx} {e : Expr} {ta : TA} {p pos tpos : Pos} {elts : List Expr} {kk : Nat} (hg : Gl X "enumerate") (hm : X.mg "enumerate" = none) (ha : PA X [e] ta) (hs : starEach [e] X.env = [(false, eval e X.env)] := by rfl) :
    PI X (.Tuple elts kk tpos) (.Call (.Name "enumerate" p) [e] [] pos) (iEnumS ta) := by
  constructor
  intro pins s σ H R I h
  refine Call_ (ld_blt I hg hm boot_enumerate (PyProof.Rows.callWith_type1 (thn (ha.run pos pins s σ H _ I h) ?_) hs rfl))
  rintro us s1 ⟨vs, H1, I1, r1, x, rfl, q⟩
  obtain ⟨u, rfl, ru⟩ := vals1 r1
  obtain ⟨t, rfl⟩ := ru
  refine call_enumerate_str fun h' he hit hsz hk => wpAny_pyIter_enum he ?_
  refine ⟨s1.heap.objs.size + 1, [s1.heap.objs.size + 1, s1.heap.objs.size], _, _, H1, rfl, I1.kept (t' := s1.toks) hk, turn_enumS x t (s1.heap.objs.size + 1) s1.heap.objs.size, ⟨⟨.none, he⟩, hit, Nat.succ_ne_self _, Nat.zero_le _⟩, ?_, q⟩
  intro b hb
  have big : s1.heap.objs.size ≤ b := by
    rcases List.mem_cons.mp hb with rfl | z
    · exact Nat.le_add_right _ _
    · rw [List.mem_singleton.mp z]; exact Nat.le_refl _
  exact I1.fpOk big (I1.hok.fresh big)
/-- the loop over such: the invariant by the turn -/
theorem for_enumS {x : Str} {g : TG} {tb : TS} {D : Ends} {σ : St} {H : Hp} (Pv : Nat → St → Hp → Prop) (h0 : Pv 0 σ H)
    (hs : ∀ i c T σ H, x.cps[i]? = some c → H T = none → Pv i σ H → g (.ref T) σ (upd H T (.tup [.int (i : Nat), .str ⟨#[c]⟩])) fun σ2 H2 => tb { D with nx := Pv (i + 1), ct := Pv (i + 1), bk := D.nx } σ2 H2)
    (hd : ∀ σ H, Pv x.cps.size σ H → D.nx σ H) :
    ∃ W : Nat → Nat → St → Hp → Prop, (∃ m, W 0 m σ H) ∧ ∀ i m σ H, W i m σ H →
      ((Ites x).stop i H ∧ D.nx σ H) ∨ ((Ites x).go i H ∧ ∃ N : St → Hp → Prop, (∀ σ' H', N σ' H' → ∃ m', m' < m ∧ W (i + 1) m' σ' H') ∧ ∀ v H', (Ites x).yld i H v H' → g v σ H' fun σ2 H2 => tb { D with nx := N, ct := N, bk := D.nx } σ2 H2) := by
  refine ⟨fun i m σ H => m = x.cps.size - i ∧ i ≤ x.cps.size ∧ Pv i σ H, ⟨_, rfl, Nat.zero_le _, h0⟩, ?_⟩
  rintro i _ σ H ⟨rfl, le, p⟩
  rcases Nat.lt_or_ge i x.cps.size with lt | ge
  · right
    refine ⟨lt, Pv (i + 1), fun σ' H' q => ⟨_, by omega, rfl, lt, q⟩, ?_⟩
    rintro v H' ⟨T, c, rfl, free, rfl, hc⟩
    exact hs i c T σ H hc free p
  · obtain rfl : i = x.cps.size := Nat.le_antisymm le ge
    exact .inl ⟨Nat.le_refl _, hd _ _ p⟩
end M
end

section
set_option Elab.async false
set_option linter.all false
set_option maxRecDepth 100000
/-! the words of my specs: what stands, pools, questions as data -/
namespace M
open PySem L2 Evl
open PyProof.Rows hiding St

/-! ### data over a part of the heap -/
mutual
theorem dp_mono {K : PySem.W.Frag} {H H' : Hp} (x : Ex H H') : ∀ (d : PyData) (v : V), Dp K H v d → Dp K H' v d
  | .none, _, h => by cases h; exact .non
  | .bool b, _, h => by cases h; exact .bl b
  | .int i, _, h => by cases h; exact .int i
  | .str z, _, h => by cases h; exact .str z
  | .list ds, _, h => by
    cases h with
    | lst hs ha => exact .lst (ex_l x hs) (dpa_mono x ds _ ha)
  | .tuple ds, _, h => by
    cases h with
    | tup hs ha => exact .tup (ex_t x hs) (dpa_mono x ds _ ha)
  | .dict _, _, h => by cases h
theorem dpa_mono {K : PySem.W.Frag} {H H' : Hp} (x : Ex H H') : ∀ (ds : List PyData) (vs : List V), DpAll K H vs ds → DpAll K H' vs ds
  | [], _, h => by cases h; exact .nil
  | d :: ds, _, h => by
    cases h with
    | cons h1 h2 => exact .cons (dp_mono x d _ h1) (dpa_mono x ds _ h2)
end
theorem _root_.L2.Dp.up {K : PySem.W.Frag} {H H' : Hp} {v : V} {d : PyData} (h : Dp K H v d) (x : Ex H H') : Dp K H' v d := dp_mono x d v h

/-! ### the pool of draws: three ints at p, apart from what H0 knows; m bounds how many were mixed -/
structure Pl (H0 H : Hp) (p : Addr) (m : Nat) : Prop where
  ex : Ex H0 H
  out : H0 p = none
  at_ : ∃ a b c : Int, H p = some (.lst [.int a, .int b, .int c]) ∧ 0 ≤ a ∧ 0 ≤ b ∧ b < 2 ^ 62 ∧ 0 ≤ c ∧ c ≤ m
theorem Pl.mono {H0 H : Hp} {p : Addr} {m n : Nat} (h : Pl H0 H p m) (le : m ≤ n) : Pl H0 H p n := by
  obtain ⟨a, b, c, h1, h2, h3, h4, h5, h6⟩ := h.at_
  exact ⟨h.ex, h.out, a, b, c, h1, h2, h3, h4, h5, by omega⟩
/-- a new object that the data may know -/
theorem Pl.new {H0 H : Hp} {p q : Addr} {m : Nat} {o : HO} (h : Pl H0 H p m) (hq : H q = none) : Pl (upd H0 q o) (upd H q o) p m ∧ Ex H0 (upd H0 q o) ∧ (upd H0 q o) q = some o := by
  have q0 : H0 q = none := fresh_back h.ex hq
  obtain ⟨a, b, c, h1, r⟩ := h.at_
  have np : p ≠ q := ne_of_none h1 hq
  refine ⟨⟨fun b' u e => ?_, by rw [upd_ne np]; exact h.out, a, b, c, by rw [upd_ne np]; exact h1, r⟩, Ex.new q0, upd_same⟩
  by_cases e' : b' = q
  · subst e'
    rw [upd_same] at e ⊢
    exact e
  · rw [upd_ne e'] at e ⊢
    exact h.ex _ _ e
/-- a new object that stays ours -/
theorem Pl.mine {H0 H : Hp} {p q : Addr} {m : Nat} {o : HO} (h : Pl H0 H p m) (hq : H q = none) : Pl H0 (upd H q o) p m := by
  obtain ⟨a, b, c, h1, r⟩ := h.at_
  have np : p ≠ q := ne_of_none h1 hq
  exact ⟨h.ex.trans (Ex.new hq), h.out, a, b, c, by rw [upd_ne np]; exact h1, r⟩
theorem Pl.keep {H0 H H' : Hp} {p : Addr} {m : Nat} (h : Pl H0 H p m) (x : Ex H H') : Pl H0 H' p m := by
  obtain ⟨a, b, c, h1, r⟩ := h.at_
  exact ⟨h.ex.trans x, h.out, a, b, c, x _ _ h1, r⟩
/-- an object apart from the data and the pool changes -/
theorem Pl.touch {H0 H : Hp} {p q : Addr} {m : Nat} {o : HO} (h : Pl H0 H p m) (hq : H0 q = none) (np : q ≠ p) : Pl H0 (upd H q o) p m := by
  obtain ⟨a, b, c, h1, r⟩ := h.at_
  exact ⟨h.ex.mut hq, h.out, a, b, c, by rw [upd_ne (Ne.symm np)]; exact h1, r⟩

def sp_draw : Sp := fun vs H Q _ => ∃ (H0 : Hp) (p : Addr) (m : Nat) (n : Int), vs = [.ref p, .int n] ∧ Pl H0 H p m ∧ m ≤ 2 ^ 30 ∧ 0 < n ∧ n.natAbs < 2 ^ 200 ∧
  ∀ (k : Int) (H' : Hp), 0 ≤ k → k < n → Pl H0 H' p (m + 1) → (∀ b, b ≠ p → H' b = H b) → Q (.int k) H'
def sp_pool (K : PySem.W.Frag) : Sp := fun vs H Q _ => ∃ (a : Addr) (ns : List Int) (i : Int), vs = [.ref a, .int i] ∧ SqL K H a (ns.map V.int) ∧ 0 ≤ i ∧ i ≤ 100 ∧
  ∀ (p : Addr) (H' : Hp), Pl H H' p 0 → Q (.ref p) H'

/-! ### letters, questions -/
def Abc (z : Str) : Prop := ∀ c ∈ z.cps.toList, 97 ≤ c ∧ c ≤ 122
inductive Qn where
  | any
  | no (q : Qn)
  | both (a b : Qn)
  | some (a : Qn) (c : Nat) (b : Qn)
namespace Qn
def d : Qn → PyData
  | any => .tuple [.str "any"]
  | no q => .tuple [.str "not", q.d]
  | both a b => .tuple [.str "both", a.d, b.d]
  | some a c b => .tuple [.str "some", a.d, .str ⟨#[c]⟩, b.d]
/-- how far it nests -/
def hi : Qn → Nat
  | any => 1
  | no q => q.hi + 1
  | both a b => max a.hi b.hi + 1
  | some a _ b => max a.hi b.hi + 1
/-- its parts -/
def parts : Qn → Nat
  | any => 1
  | no q => q.parts + 1
  | both a b => a.parts + b.parts + 1
  | some a _ b => a.parts + b.parts + 1
def deep : Qn → Nat
  | any => 0
  | no q => q.deep
  | both a b => max a.deep b.deep
  | some a _ b => max a.deep b.deep + 1
/-- its letters lie in names, and from a to z -/
def In (z : Str) : Qn → Prop
  | any => True
  | no q => q.In z
  | both a b => a.In z ∧ b.In z
  | some a c b => a.In z ∧ c ∈ z.cps.toList ∧ b.In z
def Ok : Qn → Prop
  | any => True
  | no q => q.Ok
  | both a b => a.Ok ∧ b.Ok
  | some a c b => a.Ok ∧ (97 ≤ c ∧ c ≤ 122) ∧ b.Ok
theorem In.ok {z : Str} (h : Abc z) : ∀ {q : Qn}, q.In z → q.Ok
  | any, _ => trivial
  | no q, i => In.ok (q := q) h i
  | both _ _, i => ⟨In.ok h i.1, In.ok h i.2⟩
  | some _ _ _, i => ⟨In.ok h i.1, h _ i.2.1, In.ok h i.2.2⟩
theorem hi_le : ∀ q : Qn, q.hi ≤ q.parts
  | any => by simp [hi, parts]
  | no q => by have := hi_le q; simp [hi, parts]; omega
  | both a b => by have := hi_le a; have := hi_le b; simp [hi, parts]; omega
  | some a _ b => by have := hi_le a; have := hi_le b; simp [hi, parts]; omega
theorem parts_pos : ∀ q : Qn, 1 ≤ q.parts
  | any => by simp [parts]
  | no q => by simp [parts]
  | both a b => by simp [parts]
  | some a _ b => by simp [parts]
end Qn
section
variable {K : PySem.W.Frag} {H : Hp} {v : V}
/-- a tuple's data -/
theorem dp_tup {ds : List PyData} (h : Dp K H v (.tuple ds)) : ∃ a xs, v = .ref a ∧ SqT K H a xs ∧ DpAll K H xs ds := by
  cases h with
  | tup h1 h2 => exact ⟨_, _, rfl, h1, h2⟩
theorem dpa_len : ∀ {xs : List V} {ds : List PyData}, DpAll K H xs ds → xs.length = ds.length
  | _, _, .nil => rfl
  | _, _, .cons _ t => by rw [List.length_cons, List.length_cons, dpa_len t]
theorem dp_str {z : Str} (h : Dp K H v (.str z)) : v = .str z := by cases h; rfl
theorem dp_q {q : Qn} (h : Dp K H v q.d) : ∃ a xs, v = .ref a ∧ SqT K H a xs ∧
    match q with
    | .any => xs = [.str "any"]
    | .no r => ∃ x, xs = [.str "not", x] ∧ Dp K H x r.d
    | .both r t => ∃ x y, xs = [.str "both", x, y] ∧ Dp K H x r.d ∧ Dp K H y t.d
    | .some r c t => ∃ x y, xs = [.str "some", x, .str ⟨#[c]⟩, y] ∧ Dp K H x r.d ∧ Dp K H y t.d := by
  cases q with
  | any =>
    obtain ⟨a, xs, e, hs, ha⟩ := dp_tup h
    refine ⟨a, xs, e, hs, ?_⟩
    cases ha with
    | cons h1 t => cases t; rw [dp_str h1]
  | no r =>
    obtain ⟨a, xs, e, hs, ha⟩ := dp_tup h
    refine ⟨a, xs, e, hs, ?_⟩
    cases ha with
    | cons h1 t => cases t with
      | cons h2 t => cases t; rw [dp_str h1]; exact ⟨_, rfl, h2⟩
  | both r u =>
    obtain ⟨a, xs, e, hs, ha⟩ := dp_tup h
    refine ⟨a, xs, e, hs, ?_⟩
    cases ha with
    | cons h1 t => cases t with
      | cons h2 t => cases t with
        | cons h3 t => cases t; rw [dp_str h1]; exact ⟨_, _, rfl, h2, h3⟩
  | some r c u =>
    obtain ⟨a, xs, e, hs, ha⟩ := dp_tup h
    refine ⟨a, xs, e, hs, ?_⟩
    cases ha with
    | cons h1 t => cases t with
      | cons h2 t => cases t with
        | cons h3 t => cases t with
          | cons h4 t => cases t; rw [dp_str h1, dp_str h3]; exact ⟨_, _, rfl, h2, h4⟩
theorem q_any {a : Addr} (h : H a = Option.some (.tup [.str "any"])) : Dp K H (.ref a) Qn.any.d := .tup (st_of h) (.cons (.str _) .nil)
theorem q_no {a : Addr} {x : V} {r : Qn} (h : H a = Option.some (.tup [.str "not", x])) (hx : Dp K H x r.d) : Dp K H (.ref a) (Qn.no r).d := .tup (st_of h) (.cons (.str _) (.cons hx .nil))
theorem q_both {a : Addr} {x y : V} {r t : Qn} (h : H a = Option.some (.tup [.str "both", x, y])) (hx : Dp K H x r.d) (hy : Dp K H y t.d) : Dp K H (.ref a) (Qn.both r t).d := .tup (st_of h) (.cons (.str _) (.cons hx (.cons hy .nil)))
theorem q_some {a : Addr} {x y : V} {r t : Qn} {c : Nat} (h : H a = Option.some (.tup [.str "some", x, .str ⟨#[c]⟩, y])) (hx : Dp K H x r.d) (hy : Dp K H y t.d) : Dp K H (.ref a) (Qn.some r c t).d := .tup (st_of h) (.cons (.str _) (.cons hx (.cons (.str _) (.cons hy .nil))))
end

/-! ### tests whose answer is not known yet -/
theorem iteD {c A B : Prop} [Decidable c] (h1 : c → A) (h2 : ¬ c → B) : if decide c = true then A else B := by
  by_cases h : c
  · rw [if_pos (decide_eq_true h)]; exact h1 h
  · rw [if_neg (by simp [h])]; exact h2 h
theorem iteND {c A B : Prop} [Decidable c] (h1 : ¬ c → A) (h2 : c → B) : if (!decide c) = true then A else B := by
  by_cases h : c
  · rw [if_neg (by simp [h])]; exact h2 h
  · rw [if_pos (by simp [h])]; exact h1 h
theorem iteI {i j : Int} {A B : Prop} (h1 : i = j → A) (h2 : i ≠ j → B) : if decide (V.int i = V.int j) = true then A else B :=
  iteD (fun h => h1 (by injection h)) (fun h => h2 fun e => h (by rw [e]))
theorem iteNI {i j : Int} {A B : Prop} (h1 : i ≠ j → A) (h2 : i = j → B) : if (!decide (V.int i = V.int j)) = true then A else B :=
  iteND (fun h => h1 fun e => h (by rw [e])) (fun h => h2 (by injection h))
theorem iteS {i j : Str} {A B : Prop} (h1 : i = j → A) (h2 : i ≠ j → B) : if decide (V.str i = V.str j) = true then A else B :=
  iteD (fun h => h1 (by injection h)) (fun h => h2 fun e => h (by rw [e]))
theorem iteNS {i j : Str} {A B : Prop} (h1 : i ≠ j → A) (h2 : i = j → B) : if (!decide (V.str i = V.str j)) = true then A else B :=
  iteND (fun h => h1 fun e => h (by rw [e])) (fun h => h2 (by injection h))
theorem iteB {b : Bool} {A B : Prop} (h1 : b = true → A) (h2 : b = false → B) : if b = true then A else B := by
  cases b
  · exact h2 rfl
  · exact h1 rfl
/-- a promise that nobody can ask -/
theorem fn_void {P : Program} {w : World} {K : PySem.W.Frag} {mg : Str → Option Value} {base : Heap} {CX : CXT} {k : Nat} {f : Addr} {fd : FuncData} {ps : List Str} {sp : Sp} (h : ∀ vs H Q E, sp vs H Q E → False) : FnOk P w K mg base CX k f fd ps sp :=
  ⟨fun vs H Q E z => (h vs H Q E z).elim, fun _ _ _ _ _ _ vs Q E _ _ _ _ z => (h vs _ Q E z).elim⟩

/-! ### drawn questions -/
def Names (z : Str) : Prop := Abc z ∧ 1 ≤ z.length ∧ z.length ≤ 100
theorem Names.size {z : Str} (h : Names z) : z.length ≤ sizeLine := Nat.le_trans h.2.2 (by decide)
theorem Names.get {z : Str} (h : Names z) {k : Int} (h0 : 0 ≤ k) (h1 : k < z.length) : ∃ c, atI z.cps.toList k = some c ∧ c ∈ z.cps.toList := by
  obtain ⟨j, rfl⟩ : ∃ j : Nat, k = j := ⟨k.toNat, by omega⟩
  have lt : j < z.cps.toList.length := by
    rw [Array.length_toList]
    have : ((j : Nat) : Int) < z.cps.size := h1
    omega
  exact ⟨z.cps.toList[j], atI_nat (by simp [lt]), List.getElem_mem lt⟩
def sp_query (K : PySem.W.Frag) (n : Nat) : Sp := fun vs H Q _ => ∃ (H0 : Hp) (p : Addr) (m : Nat) (z : Str) (dp wd : Int), vs = [.ref p, .str z, .int dp, .int wd] ∧ Pl H0 H p m ∧ m + 2 * wd.toNat ≤ 2 ^ 20 ∧ 1 ≤ wd ∧ wd < n ∧ Names z ∧
  ∀ (q : Qn) (v : V) (H1 H' : Hp), Ex H0 H1 → Pl H1 H' p (m + 2 * wd.toNat) → Dp K H1 v q.d → q.In z → q.deep ≤ dp.toNat → (q.parts : Int) ≤ wd → Q v H'
def sp_steep (K : PySem.W.Frag) (n : Nat) : Sp := fun vs H Q _ => ∃ (H0 : Hp) (p : Addr) (m : Nat) (z : Str) (dp : Int), vs = [.ref p, .str z, .int dp] ∧ Pl H0 H p m ∧ m + 16 * dp.toNat ≤ 2 ^ 20 ∧ dp < n ∧ Names z ∧
  ∀ (q : Qn) (v : V) (H1 H' : Hp), Ex H0 H1 → Pl H1 H' p (m + 16 * dp.toNat) → Dp K H1 v q.d → q.In z → q.deep ≤ dp.toNat → q.parts ≤ 8 * dp.toNat + 1 → Q v H'
def sp_any_query (K : PySem.W.Frag) : Sp := fun vs H Q _ => ∃ (H0 : Hp) (p : Addr) (m : Nat) (z : Str) (dp wd : Int), vs = [.ref p, .str z, .int dp, .int wd] ∧ Pl H0 H p m ∧ m + 500 ≤ 2 ^ 20 ∧ 0 ≤ dp ∧ dp ≤ 6 ∧ 1 ≤ wd ∧ wd ≤ 60 ∧ Names z ∧
  ∀ (q : Qn) (v : V) (H1 H' : Hp), Ex H0 H1 → Pl H1 H' p (m + 500) → Dp K H1 v q.d → q.In z → q.deep ≤ dp.toNat → (q.parts : Int) ≤ max (8 * dp + 1) wd → Q v H'
end M
end

section
set_option Elab.async false
set_option linter.all false
set_option maxRecDepth 100000
/-! more rules: isinstance of data, a written dict's get, questions checked -/
namespace M
open PySem L2 Evl
open PyProof.Rows hiding St

/-! ### isinstance(x, T), T built in -/
theorem tyx_tup {K : PySem.W.Frag} {H : Hp} {a : Addr} {xs : List V} (h : SqT K H a xs) : TyX K H (.ref a) (.type "tuple") := by
  rcases h with (h | ⟨o, h⟩) | ⟨o, its, n, hk, hc, _⟩
  · exact .base (.tup h)
  · exact .fTuple h
  · exact .kTuple hk hc
theorem tyx_lst {K : PySem.W.Frag} {H : Hp} {a : Addr} {xs : List V} (h : SqL K H a xs) : TyX K H (.ref a) (.type "list") := by
  rcases h with (h | ⟨o, h⟩) | ⟨o, its, n, hk, hc, _⟩
  · exact .base (.lst h)
  · exact .base (.frz h)
  · exact .kList hk hc
def rIsT (K : PySem.W.Frag) : List V → Hp → VK → Prop := fun xs H Q => ∃ (x : V) (n t : String) (b : Bool), xs = [x, .ty n] ∧ TyX K H x (.type t) ∧ kitB t n = some b ∧ Q (.bl b) H
theorem call_isT {X : Cx} : CallR X (.builtin "isinstance") (rIsT X.K) := by
  intro pins s σ H xs us Q I r h
  obtain ⟨x, n, t, b, rfl, ty, k, q⟩ := h
  exact call_isi pins s σ H _ us Q I r ⟨x, .ty n, .type t, .type n, b, rfl, .ty n, ty, kit_ty k, q⟩
theorem k_tt : kitB "tuple" "tuple" = some true := by decide +kernel
theorem k_ss : kitB "str" "str" = some true := by decide +kernel
theorem k_ll : kitB "list" "list" = some true := by decide +kernel
theorem k_st : kitB "str" "tuple" = some false := by decide +kernel
theorem k_lt : kitB "list" "tuple" = some false := by decide +kernel
theorem k_it : kitB "int" "tuple" = some false := by decide +kernel
theorem k_bt : kitB "bool" "tuple" = some false := by decide +kernel
theorem k_nt : kitB "NoneType" "tuple" = some false := by decide +kernel
theorem k_dt : kitB "dict" "tuple" = some false := by decide +kernel
theorem k_ts : kitB "tuple" "str" = some false := by decide +kernel
theorem k_ls : kitB "list" "str" = some false := by decide +kernel
theorem k_is : kitB "int" "str" = some false := by decide +kernel
theorem k_bs : kitB "bool" "str" = some false := by decide +kernel
theorem k_ns : kitB "NoneType" "str" = some false := by decide +kernel
theorem k_ds : kitB "dict" "str" = some false := by decide +kernel
theorem k_tl : kitB "tuple" "list" = some false := by decide +kernel

/-! ### D.get(word, n), D a written dict of ints by texts -/
/-- what D holds at z: an int, or nothing -/
def KInts (K : PySem.W.Frag) (w : World) (d : Addr) (f : Str → Option Int) : Prop :=
  ∃ es n, KDict K w d es n ∧ ∀ z, (∃ i t, f z = some i ∧ PySem.W.nsIn K d z = some (some (.int i t))) ∨ (f z = none ∧ PySem.W.nsIn K d z = some none)
def tKGet (K : PySem.W.Frag) (w : World) (td ty tx : TE) : TE := fun σ H Q => td σ H fun x H1 => ∃ d f, x = .ref d ∧ KInts K w d f ∧ ty σ H1 fun y H2 => ∃ z, y = .str z ∧ tx σ H2 fun u H3 => ∃ j, u = .int j ∧ Q (.int ((f z).getD j)) H3
theorem pe_kget {X : Cx} {o e f : Expr} {apos cpos : Pos} {td ty tx : TE} (ho : PE X o td) (he : PE X e ty) (hf : PE X f tx) (m : M2 X o "get" apos e f cpos) : PE X (.Call (.Attribute o "get" apos) [e, f] [] cpos) (tKGet X.K X.w td ty tx) := by
  constructor
  intro pins s σ H Q I h
  refine wpAny_Call_method m.base m.few m.line PySem.F.plainAttrs_dict PySem.F.slot_dict_get PySem.F.type_dict_get (thn (ho.run pins s σ H _ I h) ?_)
  rintro u s1 ⟨x, H1, I1, rx, d, g, rfl, ⟨es, n, D, hg⟩, q1⟩
  cases (show u = Value.ref d from rx)
  have hm0 := PySem.W.mapOf_K (prog := X.prog) I1.kIn D.at_ D.lit
  refine ⟨hm0.typeIs, fun a ea => ?_, ?_⟩
  · cases ea
    exact ⟨_, I1.kIn _ _ D.at_, rfl⟩
  rw [m.trees]
  refine Calls.callWith_builtin rfl (Calls.evalArgs_plain (Calls.spliced_cons (thn (he.run pins s1 σ H1 _ I1 q1) ?_)))
  rintro v s2 ⟨y, H2, I2, ry, z, rfl, q2⟩
  obtain ⟨t, rfl⟩ := ry
  refine Calls.spliced_cons (thn (hf.run pins s2 σ H2 _ I2 q2) ?_)
  rintro v2 s3 ⟨y2, H3, I3, r3, j, rfl, q3⟩
  obtain ⟨t3, rfl⟩ := r3
  have hm := PySem.W.mapOf_K (prog := X.prog) I3.kIn D.at_ D.lit
  refine Calls.spliced_nil (call_meetsIn PySem.F.slot_dict_get hm.typeIs PySem.F.entry_dict_get (PySem.F.args_dict_get_3 _ _ _) (meets_dict_get_default (strKind X.prog X.w) d (PySem.strKind_is X.prog X.w z t) D.low (.int j t3)) ⟨_, hm, ?_⟩)
  rcases hg z with ⟨i, ti, e1, e2⟩ | ⟨e1, e2⟩
  · rw [e1] at q3
    rw [PySem.W.find_K D.at_ e2]
    exact ⟨.int i, H3, I3.tok _, ⟨ti, rfl⟩, q3⟩
  · rw [e1] at q3
    rw [PySem.W.find_K D.at_ e2]
    exact ⟨.int j, H3, I3.tok _, ⟨t3, rfl⟩, q3⟩

/-! ### values of any kind that a law makes: data, and empty dicts -/
mutual
inductive Da (K : PySem.W.Frag) (H : Hp) : V → PyData → Prop
  | non : Da K H .non .none
  | bl (b : Bool) : Da K H (.bl b) (.bool b)
  | int (i : Int) : Da K H (.int i) (.int i)
  | str (x : Str) : Da K H (.str x) (.str x)
  | dct {a : Addr} : H a = some (.dK []) → Da K H (.ref a) (.dict [])
  | lst {a : Addr} {xs : List V} {ds : List PyData} : SqL K H a xs → Das K H xs ds → Da K H (.ref a) (.list ds)
  | tup {a : Addr} {xs : List V} {ds : List PyData} : SqT K H a xs → Das K H xs ds → Da K H (.ref a) (.tuple ds)
inductive Das (K : PySem.W.Frag) (H : Hp) : List V → List PyData → Prop
  | nil : Das K H [] []
  | cons {v : V} {vs : List V} {d : PyData} {ds : List PyData} : Da K H v d → Das K H vs ds → Das K H (v :: vs) (d :: ds)
end
section
variable {K : PySem.W.Frag} {H H' : Hp}
mutual
theorem da_of : ∀ (d : PyData) (v : V), Dp K H v d → Da K H v d
  | .none, _, h => by cases h; exact .non
  | .bool b, _, h => by cases h; exact .bl b
  | .int i, _, h => by cases h; exact .int i
  | .str z, _, h => by cases h; exact .str z
  | .list ds, _, h => by cases h with | lst a b => exact .lst a (das_of ds _ b)
  | .tuple ds, _, h => by cases h with | tup a b => exact .tup a (das_of ds _ b)
  | .dict _, _, h => by cases h
theorem das_of : ∀ (ds : List PyData) (vs : List V), DpAll K H vs ds → Das K H vs ds
  | [], _, h => by cases h; exact .nil
  | d :: ds, _, h => by cases h with | cons a b => exact .cons (da_of d _ a) (das_of ds _ b)
end
mutual
theorem da_mono (x : Ex H H') : ∀ (d : PyData) (v : V), Da K H v d → Da K H' v d
  | .none, _, h => by cases h; exact .non
  | .bool b, _, h => by cases h; exact .bl b
  | .int i, _, h => by cases h; exact .int i
  | .str z, _, h => by cases h; exact .str z
  | .list ds, _, h => by cases h with | lst a b => exact .lst (ex_l x a) (das_mono x ds _ b)
  | .tuple ds, _, h => by cases h with | tup a b => exact .tup (ex_t x a) (das_mono x ds _ b)
  | .dict _, _, h => by cases h with | dct a => exact .dct (x _ _ a)
theorem das_mono (x : Ex H H') : ∀ (ds : List PyData) (vs : List V), Das K H vs ds → Das K H' vs ds
  | [], _, h => by cases h; exact .nil
  | d :: ds, _, h => by cases h with | cons a b => exact .cons (da_mono x d _ a) (das_mono x ds _ b)
end
theorem Da.up {v : V} {d : PyData} (h : Da K H v d) (x : Ex H H') : Da K H' v d := da_mono x d v h
theorem Das.up {v : List V} {d : List PyData} (h : Das K H v d) (x : Ex H H') : Das K H' v d := das_mono x d v h
theorem Das.len : ∀ {xs : List V} {ds : List PyData}, Das K H xs ds → xs.length = ds.length
  | _, _, .nil => rfl
  | _, _, .cons _ t => by rw [List.length_cons, List.length_cons, Das.len t]
theorem Das.app : ∀ {xs ys : List V} {ds es : List PyData}, Das K H xs ds → Das K H ys es → Das K H (xs ++ ys) (ds ++ es)
  | _, _, _, _, .nil, h => h
  | _, _, _, _, .cons a t, h => .cons a (Das.app t h)
/-- the last one -/
theorem Das.last : ∀ {xs : List V} {ds : List PyData}, Das K H xs ds → ds ≠ [] → ∃ x d, xs[xs.length - 1]? = some x ∧ Da K H x d ∧ Das K H xs.dropLast ds.dropLast ∧ ds = ds.dropLast ++ [d]
  | _, _, .nil, h => absurd rfl h
  | _, _, .cons a .nil, _ => ⟨_, _, rfl, a, .nil, rfl⟩
  | _, _, .cons a (.cons b t), _ => by
    obtain ⟨x, d, e1, e2, e3, e4⟩ := Das.last (.cons b t) (by simp)
    refine ⟨x, d, ?_, e2, .cons a e3, ?_⟩
    · simpa using e1
    · rw [List.dropLast_cons₂]
      show _ = _ :: (_ ++ [d])
      rw [← e4]
/-- the name of its type -/
def tyN : PyData → String
  | .none => "NoneType" | .bool _ => "bool" | .int _ => "int" | .str _ => "str" | .list _ => "list" | .tuple _ => "tuple" | .dict _ => "dict"
theorem Da.ty {v : V} {d : PyData} (h : Da K H v d) : TyX K H v (.type (tyN d)) := by
  cases h with
  | non => exact .base .non
  | bl b => exact .base (.bl b)
  | int i => exact .base (.int i)
  | str x => exact .base (.str x)
  | dct a => exact .base (.dK a)
  | lst a _ => exact tyx_lst a
  | tup a _ => exact tyx_tup a
def tupB : PyData → Bool
  | .tuple _ => true
  | _ => false
def strB : PyData → Bool
  | .str _ => true
  | _ => false
theorem isTup (d : PyData) : kitB (tyN d) "tuple" = some (tupB d) := by
  cases d with
  | tuple ds => exact k_tt
  | none => exact k_nt
  | bool b => exact k_bt
  | int b => exact k_it
  | str b => exact k_st
  | list b => exact k_lt
  | dict b => exact k_dt
theorem isStr (d : PyData) : kitB (tyN d) "str" = some (strB d) := by
  cases d with
  | str z => exact k_ss
  | none => exact k_ns
  | bool b => exact k_bs
  | int b => exact k_is
  | tuple b => exact k_ts
  | list b => exact k_ls
  | dict b => exact k_ds
end

/-! ### which data are questions -/
def IsQ (d : PyData) : Prop := ∃ q : Qn, q.Ok ∧ q.d = d
def OneLetter (z : Str) : Prop := ∃ c, z = ⟨#[c]⟩ ∧ 97 ≤ c ∧ c ≤ 122
def HasForm : PyData → Prop
  | .tuple [.str w] => w = "any"
  | .tuple [.str w, _] => w = "not"
  | .tuple [.str w, _, _] => w = "both"
  | .tuple [.str w, _, .str z, _] => w = "some" ∧ OneLetter z
  | _ => False
def inner : PyData → List PyData
  | .tuple [_, a] => [a]
  | .tuple [_, a, b] => [a, b]
  | .tuple [_, a, _, b] => [a, b]
  | _ => []
theorem isQ_form {d : PyData} : IsQ d ↔ HasForm d ∧ ∀ x ∈ inner d, IsQ x := by
  constructor
  · rintro ⟨q, ok, rfl⟩
    cases q with
    | any => exact ⟨rfl, by simp [Qn.d, inner]⟩
    | no a => exact ⟨rfl, by simp only [Qn.d, inner, List.mem_singleton, forall_eq]; exact ⟨a, ok, rfl⟩⟩
    | both a b =>
      refine ⟨rfl, fun x hx => ?_⟩
      simp only [Qn.d, inner, List.mem_cons, List.not_mem_nil, or_false] at hx
      rcases hx with rfl | rfl
      · exact ⟨a, ok.1, rfl⟩
      · exact ⟨b, ok.2, rfl⟩
    | some a c b =>
      refine ⟨⟨rfl, c, rfl, ok.2.1⟩, fun x hx => ?_⟩
      simp only [Qn.d, inner, List.mem_cons, List.not_mem_nil, or_false] at hx
      rcases hx with rfl | rfl
      · exact ⟨a, ok.1, rfl⟩
      · exact ⟨b, ok.2.2, rfl⟩
  · rintro ⟨hf, hi⟩
    unfold HasForm at hf
    split at hf
    · subst hf; exact ⟨.any, trivial, rfl⟩
    · subst hf
      obtain ⟨a, ha, ea⟩ := hi _ (by simp only [inner]; exact List.mem_cons_self)
      exact ⟨.no a, ha, by rw [← ea]; rfl⟩
    · subst hf
      obtain ⟨a, ha, ea⟩ := hi _ (by simp only [inner]; exact List.mem_cons_self)
      obtain ⟨b, hb, eb⟩ := hi _ (by simp only [inner]; exact List.mem_cons_of_mem _ List.mem_cons_self)
      exact ⟨.both a b, ⟨ha, hb⟩, by rw [← ea, ← eb]; rfl⟩
    · obtain ⟨rfl, c, rfl, hc⟩ := hf
      obtain ⟨a, ha, ea⟩ := hi _ (by simp only [inner]; exact List.mem_cons_self)
      obtain ⟨b, hb, eb⟩ := hi _ (by simp only [inner]; exact List.mem_cons_of_mem _ List.mem_cons_self)
      exact ⟨.some a c b, ⟨ha, hc, hb⟩, by rw [← ea, ← eb]; rfl⟩
    · exact hf.elim
/-- how big -/
noncomputable def sizes (ds : List PyData) : Nat := (ds.map sizeOf).sum
theorem inner_lt (d : PyData) : sizes (inner d) < sizeOf d := by
  unfold inner
  split <;> simp [sizes] <;> first | omega | (cases d <;> simp <;> omega)
theorem form_tup {d : PyData} (h : HasForm d) : ∃ z ds, d = .tuple (.str z :: ds) := by
  unfold HasForm at h
  split at h <;> first | exact ⟨_, _, rfl⟩ | exact h.elim

/-! ### texts within are short -/
mutual
def sm : PyData → Bool
  | .str z => decide (z.length ≤ 1000)
  | .list ds => sms ds
  | .tuple ds => sms ds
  | _ => true
def sms : List PyData → Bool
  | [] => true
  | d :: ds => sm d && sms ds
end
theorem sms_mem : ∀ {ds : List PyData}, sms ds = true → ∀ d ∈ ds, sm d = true
  | _ :: _, h, _, hd => by
    rw [sms, Bool.and_eq_true] at h
    rcases List.mem_cons.mp hd with rfl | hd
    · exact h.1
    · exact sms_mem h.2 _ hd
theorem sm_inner {d : PyData} (h : sm d = true) : ∀ x ∈ inner d, sm x = true := by
  intro x hx
  unfold inner at hx
  split at hx
  all_goals first
    | exact absurd hx (List.not_mem_nil)
    | (rw [sm] at h
       refine sms_mem h x ?_
       simp only [List.mem_cons, List.not_mem_nil, or_false] at hx ⊢
       first
        | exact .inr hx
        | (rcases hx with rfl | rfl
           · exact .inr (.inl rfl)
           · exact .inr (.inr (.inr rfl)))
        | (rcases hx with rfl | rfl
           · exact .inr (.inl rfl)
           · exact .inr (.inr rfl)))
theorem sm_q : ∀ q : Qn, sm q.d = true
  | .any => rfl
  | .no q => by simp only [Qn.d, sm, sms, sm_q q]; rfl
  | .both a b => by simp only [Qn.d, sm, sms, sm_q a, sm_q b]; rfl
  | .some a c b => by simp only [Qn.d, sm, sms, sm_q a, sm_q b]; rfl

/-! ### what the program's own defs promise -/
def sp_is_letter : Sp := fun vs H Q _ => ∃ c : Nat, vs = [.str ⟨#[c]⟩] ∧ Q (.bl (decide (97 ≤ c ∧ c ≤ 122))) H
def sp_is_one_letter (K : PySem.W.Frag) : Sp := fun vs H Q _ => ∃ (v : V) (d : PyData), vs = [v] ∧ Da K H v d ∧ sm d = true ∧ ∀ b : Bool, (b = true ↔ ∃ z, d = .str z ∧ OneLetter z) → Q (.bl b) H
def sp_has_form (K : PySem.W.Frag) : Sp := fun vs H Q _ => ∃ (v : V) (d : PyData), vs = [v] ∧ Da K H v d ∧ sm d = true ∧ ∀ b : Bool, (b = true ↔ HasForm d) → Q (.bl b) H
theorem one_cases (z : Str) (h : z.length = 1) : ∃ c, z = ⟨#[c]⟩ := by
  obtain ⟨⟨l⟩⟩ := z
  cases l with
  | nil => cases h
  | cons c t => cases t with
    | nil => exact ⟨c, rfl⟩
    | cons d t => simp [PySem.Str.length] at h
theorem at0 {α : Type} (x : α) (xs : List α) : atI (x :: xs) 0 = some x := atI_nat (j := 0) rfl
theorem at1 {α : Type} (x y : α) (xs : List α) : atI (x :: y :: xs) 1 = some y := atI_nat (j := 1) rfl
theorem at2 {α : Type} (x y z : α) (xs : List α) : atI (x :: y :: z :: xs) 2 = some z := atI_nat (j := 2) rfl
theorem at3 {α : Type} (x y z u : α) (xs : List α) : atI (x :: y :: z :: u :: xs) 3 = some u := atI_nat (j := 3) rfl
theorem look_cons {z k : Str} {n : Int} {l : List (Str × Int)} : List.lookup z ((k, n) :: l) = if z = k then some n else List.lookup z l := by
  by_cases e : z = k
  · rw [if_pos e, e]; simp [List.lookup]
  · rw [if_neg e]
    have : (z == k) = false := beq_eq_false_iff_ne.mpr e
    simp [List.lookup, this]
theorem sz_cases {z : Str} {n : Int} (h : (List.lookup z [(("any" : Str), (1 : Int)), (("not" : Str), 2), (("both" : Str), 3), (("some" : Str), 4)]).getD 0 = n) (hn : n ≠ 0) :
    (z = "any" ∧ n = 1) ∨ (z = "not" ∧ n = 2) ∨ (z = "both" ∧ n = 3) ∨ (z = "some" ∧ n = 4) := by
  rw [look_cons, look_cons, look_cons, look_cons] at h
  by_cases e1 : z = "any"
  · rw [if_pos e1] at h; exact .inl ⟨e1, h.symm⟩
  rw [if_neg e1] at h
  by_cases e2 : z = "not"
  · rw [if_pos e2] at h; exact .inr (.inl ⟨e2, h.symm⟩)
  rw [if_neg e2] at h
  by_cases e3 : z = "both"
  · rw [if_pos e3] at h; exact .inr (.inr (.inl ⟨e3, h.symm⟩))
  rw [if_neg e3] at h
  by_cases e4 : z = "some"
  · rw [if_pos e4] at h; exact .inr (.inr (.inr ⟨e4, h.symm⟩))
  rw [if_neg e4] at h
  exact absurd h.symm hn
theorem form_size {wd : Str} {ds : List PyData} (h : HasForm (.tuple (.str wd :: ds))) :
    (List.lookup wd [(("any" : Str), (1 : Int)), (("not" : Str), 2), (("both" : Str), 3), (("some" : Str), 4)]).getD 0 = ((ds.length + 1 : Nat) : Int) := by
  unfold HasForm at h
  split at h
  · rename_i e; cases e; subst h; exact (by decide +kernel : (List.lookup ("any" : Str) [(("any" : Str), (1 : Int)), (("not" : Str), 2), (("both" : Str), 3), (("some" : Str), 4)]).getD 0 = (1 : Int))
  · rename_i e; cases e; subst h; exact (by decide +kernel : (List.lookup ("not" : Str) [(("any" : Str), (1 : Int)), (("not" : Str), 2), (("both" : Str), 3), (("some" : Str), 4)]).getD 0 = (2 : Int))
  · rename_i e; cases e; subst h; exact (by decide +kernel : (List.lookup ("both" : Str) [(("any" : Str), (1 : Int)), (("not" : Str), 2), (("both" : Str), 3), (("some" : Str), 4)]).getD 0 = (3 : Int))
  · rename_i e; cases e; rw [h.1]; exact (by decide +kernel : (List.lookup ("some" : Str) [(("any" : Str), (1 : Int)), (("not" : Str), 2), (("both" : Str), 3), (("some" : Str), 4)]).getD 0 = (4 : Int))
  · exact h.elim
end M
end

section
set_option Elab.async false
set_option linter.all false
set_option maxRecDepth 100000
/-! stacks of data, questions walked part by part -/
namespace M
open PySem L2 Evl
open PyProof.Rows hiding St

/-! ### how many nodes -/
mutual
def nds : PyData → Nat
  | .list ds => ndss ds + 1
  | .tuple ds => ndss ds + 1
  | _ => 1
def ndss : List PyData → Nat
  | [] => 0
  | d :: ds => nds d + ndss ds
end
theorem nds_pos (d : PyData) : 1 ≤ nds d := by cases d <;> simp [nds]
theorem ndss_app : ∀ a b : List PyData, ndss (a ++ b) = ndss a + ndss b
  | [], b => by simp [ndss]
  | d :: a, b => by simp [ndss, ndss_app a b]; omega
theorem ndss_len : ∀ a : List PyData, a.length ≤ ndss a
  | [] => Nat.le_refl _
  | d :: a => by have := ndss_len a; have := nds_pos d; simp [ndss]; omega
theorem inner_nds (d : PyData) : ndss (inner d) < nds d := by
  unfold inner
  split <;> simp [nds, ndss] <;> first | omega | (cases d <;> simp [nds])
theorem sms_app : ∀ {a b : List PyData}, sms a = true → sms b = true → sms (a ++ b) = true
  | [], _, _, h => h
  | d :: a, b, h, h2 => by
    rw [sms, Bool.and_eq_true] at h
    show (sm d && sms (a ++ b)) = true
    rw [h.1, sms_app h.2 h2]; rfl
theorem sms_of : ∀ {a : List PyData}, (∀ d ∈ a, sm d = true) → sms a = true
  | [], _ => rfl
  | d :: a, h => by
    show (sm d && sms a) = true
    rw [h d List.mem_cons_self, sms_of fun x hx => h x (List.mem_cons_of_mem _ hx)]; rfl
theorem Das.ne {K : PySem.W.Frag} {H : Hp} {xs : List V} {ds : List PyData} (h : Das K H xs ds) : xs.isEmpty = ds.isEmpty := by cases h <;> rfl

def sp_inner (K : PySem.W.Frag) : Sp := fun vs H Q _ => ∃ (H0 : Hp) (v : V) (d : PyData), vs = [v] ∧ Ex H0 H ∧ Da K H0 v d ∧ HasForm d ∧
  ∀ (l : Addr) (xs : List V) (H' : Hp), Ex H H' → H l = none → H' l = some (.lst xs) → Das K H0 xs (inner d) → Q (.ref l) H'
def sp_is_question (K : PySem.W.Frag) : Sp := fun vs H Q _ => ∃ (H0 : Hp) (v : V) (d : PyData), vs = [v] ∧ Ex H0 H ∧ Da K H0 v d ∧ sm d = true ∧ nds d ≤ 10000 ∧
  ∀ (b : Bool) (H' : Hp), Ex H H' → (b = true ↔ IsQ d) → Q (.bl b) H'
theorem cut1_not (x : V) (xs : List V) : ¬ (HT.sIx (x :: xs).length 0 (some 1) = 0 ∧ HT.sIx (x :: xs).length (x :: xs).length none = (x :: xs).length) := by
  rintro ⟨h, _⟩
  simp [HT.sIx] at h
  try omega
theorem cut1 (x : V) (xs : List V) : cutV (x :: xs) (some 1) none = xs := by
  have e1 : HT.sIx (x :: xs).length 0 (some 1) = 1 := by
    simp [HT.sIx]
    try omega
  have e2 : HT.sIx (x :: xs).length (x :: xs).length none = (x :: xs).length := rfl
  unfold cutV
  rw [e1, e2]
  simp
section
variable {K : PySem.W.Frag} {H : Hp} {v : V} {xs : List V}
theorem da_str {z : Str} (h : Da K H v (.str z)) : v = .str z := by cases h; rfl
theorem da_tup {ds : List PyData} (h : Da K H v (.tuple ds)) : ∃ a xs, v = .ref a ∧ SqT K H a xs ∧ Das K H xs ds := by cases h with | tup a b => exact ⟨_, _, rfl, a, b⟩
theorem das0 (h : Das K H xs []) : xs = [] := by cases h; rfl
theorem dasc {a : PyData} {ds : List PyData} (h : Das K H xs (a :: ds)) : ∃ x ys, xs = x :: ys ∧ Da K H x a ∧ Das K H ys ds := by cases h with | cons a b => exact ⟨_, _, rfl, a, b⟩
theorem das1 {a : PyData} (h : Das K H xs [a]) : ∃ x, xs = [x] ∧ Da K H x a := by
  obtain ⟨x, ys, rfl, h1, h2⟩ := dasc h
  exact ⟨x, by rw [das0 h2], h1⟩
theorem das2 {a b : PyData} (h : Das K H xs [a, b]) : ∃ x y, xs = [x, y] ∧ Da K H x a ∧ Da K H y b := by
  obtain ⟨x, ys, rfl, h1, h2⟩ := dasc h
  obtain ⟨y, rfl, h3⟩ := das1 h2
  exact ⟨x, y, rfl, h1, h3⟩
theorem das3 {a b c : PyData} (h : Das K H xs [a, b, c]) : ∃ x y z, xs = [x, y, z] ∧ Da K H x a ∧ Da K H y b ∧ Da K H z c := by
  obtain ⟨x, ys, rfl, h1, h2⟩ := dasc h
  obtain ⟨y, z, rfl, h3⟩ := das2 h2
  exact ⟨x, y, z, rfl, h1, h3⟩
theorem das4 {a b c d : PyData} (h : Das K H xs [a, b, c, d]) : ∃ x y z u, xs = [x, y, z, u] ∧ Da K H x a ∧ Da K H y b ∧ Da K H z c ∧ Da K H u d := by
  obtain ⟨x, ys, rfl, h1, h2⟩ := dasc h
  obtain ⟨y, z, u, rfl, h3⟩ := das3 h2
  exact ⟨x, y, z, u, rfl, h1, h3⟩
/-- the shapes of what has form -/
theorem form_cases {d : PyData} (hd : Da K H v d) (hf : HasForm d) : ∃ a xs, v = .ref a ∧ SqT K H a xs ∧
    ((xs = [.str "any"] ∧ inner d = []) ∨ (∃ x r, xs = [.str "not", x] ∧ Da K H x r ∧ inner d = [r]) ∨ (∃ x y r t, xs = [.str "both", x, y] ∧ Da K H x r ∧ Da K H y t ∧ inner d = [r, t]) ∨
     (∃ x y r t c, xs = [.str "some", x, .str ⟨#[c]⟩, y] ∧ Da K H x r ∧ Da K H y t ∧ inner d = [r, t] ∧ 97 ≤ c ∧ c ≤ 122)) := by
  unfold HasForm at hf
  split at hf
  · obtain ⟨a, xs, rfl, hs, hx⟩ := da_tup hd
    obtain ⟨x, rfl, h⟩ := das1 hx
    rw [da_str h, hf] at hs
    exact ⟨a, _, rfl, hs, .inl ⟨rfl, rfl⟩⟩
  · obtain ⟨a, xs, rfl, hs, hx⟩ := da_tup hd
    obtain ⟨x, y, rfl, h, h2⟩ := das2 hx
    rw [da_str h, hf] at hs
    exact ⟨a, _, rfl, hs, .inr (.inl ⟨y, _, rfl, h2, rfl⟩)⟩
  · obtain ⟨a, xs, rfl, hs, hx⟩ := da_tup hd
    obtain ⟨x, y, z, rfl, h, h2, h3⟩ := das3 hx
    rw [da_str h, hf] at hs
    exact ⟨a, _, rfl, hs, .inr (.inr (.inl ⟨y, z, _, _, rfl, h2, h3, rfl⟩))⟩
  · obtain ⟨a, xs, rfl, hs, hx⟩ := da_tup hd
    obtain ⟨x, y, z, u, rfl, h, h2, h3, h4⟩ := das4 hx
    obtain ⟨e1, c, e2, hc⟩ := hf
    rw [da_str h, da_str h3, e1, e2] at hs
    exact ⟨a, _, rfl, hs, .inr (.inr (.inr ⟨y, u, _, _, c, rfl, h2, h4, rfl, hc⟩))⟩
  · exact hf.elim
end

def sp_check_question (K : PySem.W.Frag) : Sp := fun vs H Q _ => ∃ (H0 : Hp) (v : V) (q : Qn), vs = [v] ∧ Ex H0 H ∧ Dp K H0 v q.d ∧ q.Ok ∧ q.parts ≤ 1000 ∧ ∀ H' : Hp, Ex H H' → Q .non H'
theorem nds_q : ∀ q : Qn, nds q.d ≤ 4 * q.parts
  | .any => by simp [Qn.d, nds, ndss, Qn.parts]
  | .no q => by have := nds_q q; simp [Qn.d, nds, ndss, Qn.parts]; omega
  | .both a b => by have := nds_q a; have := nds_q b; simp [Qn.d, nds, ndss, Qn.parts]; omega
  | .some a c b => by have := nds_q a; have := nds_q b; simp [Qn.d, nds, ndss, Qn.parts]; omega
/-- its parts, itself first, each ahead of those within it -/
def Qn.all : Qn → List Qn
  | .any => [.any]
  | .no q => .no q :: q.all
  | .both a b => .both a b :: (a.all ++ b.all)
  | .some a c b => .some a c b :: (a.all ++ b.all)
def Qn.kids : Qn → List Qn
  | .any => []
  | .no q => [q]
  | .both a b => [a, b]
  | .some a _ b => [a, b]
theorem Qn.all_kids (q : Qn) : q.all = q :: q.kids.flatMap Qn.all := by cases q <;> simp [Qn.all, Qn.kids]
theorem Qn.all_len : ∀ q : Qn, q.all.length = q.parts
  | .any => rfl
  | .no q => by simp [Qn.all, Qn.parts, Qn.all_len q]
  | .both a b => by simp [Qn.all, Qn.parts, Qn.all_len a, Qn.all_len b]
  | .some a c b => by simp [Qn.all, Qn.parts, Qn.all_len a, Qn.all_len b]
theorem Qn.form : ∀ q : Qn, q.Ok → HasForm q.d
  | .any, _ => rfl
  | .no _, _ => rfl
  | .both _ _, _ => rfl
  | .some _ c _, h => ⟨rfl, c, rfl, h.2.1⟩
theorem Qn.inner (q : Qn) : M.inner q.d = q.kids.map Qn.d := by cases q <;> rfl
theorem Qn.kids_ok {q : Qn} (h : q.Ok) : ∀ r ∈ q.kids, r.Ok := by
  cases q with
  | any => intro r hr; cases hr
  | no a => intro r hr; simp [Qn.kids] at hr; subst hr; exact h
  | both a b => intro r hr; simp [Qn.kids] at hr; rcases hr with rfl | rfl; exact h.1; exact h.2
  | some a c b => intro r hr; simp [Qn.kids] at hr; rcases hr with rfl | rfl; exact h.1; exact h.2.2
/-- values that are the questions qs -/
def Qs (K : PySem.W.Frag) (H : Hp) (xs : List V) (qs : List Qn) : Prop := Das K H xs (qs.map Qn.d)
theorem Qs.last {K : PySem.W.Frag} {H : Hp} {xs : List V} {qs : List Qn} {q : Qn} (h : Qs K H xs (qs ++ [q])) : ∃ x, xs[xs.length - 1]? = some x ∧ Da K H x q.d ∧ Qs K H xs.dropLast qs := by
  obtain ⟨x, d, e1, e2, e3, e4⟩ := Das.last h (by simp)
  rw [List.map_append, List.map_singleton] at e4 e3
  rw [List.dropLast_concat] at e4 e3
  have e5 := List.append_cancel_left e4
  cases e5
  exact ⟨x, e1, e2, e3⟩
theorem Qs.app {K : PySem.W.Frag} {H : Hp} {xs ys : List V} {qs rs : List Qn} (h : Qs K H xs qs) (h2 : Qs K H ys rs) : Qs K H (xs ++ ys) (qs ++ rs) := by
  show Das _ _ _ (List.map _ _)
  rw [List.map_append]
  exact Das.app h h2
theorem Qs.len {K : PySem.W.Frag} {H : Hp} {xs : List V} {qs : List Qn} (h : Qs K H xs qs) : xs.length = qs.length := by
  have := Das.len h
  rw [List.length_map] at this
  exact this
theorem Das.rev {K : PySem.W.Frag} {H : Hp} : ∀ {xs : List V} {ds : List PyData}, Das K H xs ds → Das K H xs.reverse ds.reverse
  | _, _, .nil => .nil
  | _, _, .cons a t => by
    rw [List.reverse_cons, List.reverse_cons]
    exact Das.app (Das.rev t) (.cons a .nil)
theorem Qs.rev {K : PySem.W.Frag} {H : Hp} {xs : List V} {qs : List Qn} (h : Qs K H xs qs) : Qs K H xs.reverse qs.reverse := by
  show Das _ _ _ (List.map _ _)
  rw [List.map_reverse]
  exact Das.rev h
/-- how many parts of all -/
def ptss (qs : List Qn) : Nat := (qs.map Qn.parts).sum
theorem ptss_app (a b : List Qn) : ptss (a ++ b) = ptss a + ptss b := by simp [ptss]
theorem ptss_rev (a : List Qn) : ptss a.reverse = ptss a := by
  induction a with
  | nil => rfl
  | cons q a ih => rw [List.reverse_cons, ptss_app, ih]; simp [ptss]; omega
theorem ptss_kids (q : Qn) : ptss q.kids + 1 = q.parts := by cases q <;> simp [ptss, Qn.kids, Qn.parts]
theorem ptss_len : ∀ a : List Qn, a.length ≤ ptss a
  | [] => Nat.le_refl _
  | q :: a => by have := ptss_len a; have := q.parts_pos; simp [ptss] at *; omega
def sp_parts_of (K : PySem.W.Frag) : Sp := fun vs H Q _ => ∃ (H0 : Hp) (v : V) (q : Qn), vs = [v] ∧ Ex H0 H ∧ Dp K H0 v q.d ∧ q.Ok ∧ q.parts ≤ 1000 ∧
  ∀ (l : Addr) (xs : List V) (H' : Hp), Ex H H' → H l = none → H' l = some (.lst xs) → Qs K H0 xs q.all → Q (.ref l) H'
theorem all_flat : ∀ l : List Qn, (l.flatMap Qn.all).length = ptss l
  | [] => rfl
  | q :: l => by simp [List.flatMap_cons, Qn.all_len, all_flat l, ptss]

/-! ### turned about -/
def Qn.turn : Qn → Qn
  | .any => .any
  | .no q => .no q.turn
  | .both a b => .both a.turn b.turn
  | .some a c b => .some b.turn c a.turn
theorem Qn.turn_turn : ∀ q : Qn, q.turn.turn = q
  | .any => rfl
  | .no q => by simp [Qn.turn, Qn.turn_turn q]
  | .both a b => by simp [Qn.turn, Qn.turn_turn a, Qn.turn_turn b]
  | .some a c b => by simp [Qn.turn, Qn.turn_turn a, Qn.turn_turn b]
theorem Qn.turn_ok : ∀ {q : Qn}, q.Ok → q.turn.Ok
  | .any, _ => trivial
  | .no q, h => Qn.turn_ok (q := q) h
  | .both _ _, h => ⟨Qn.turn_ok h.1, Qn.turn_ok h.2⟩
  | .some _ _ _, h => ⟨Qn.turn_ok h.2.2, h.2.1, Qn.turn_ok h.1⟩
theorem Qn.turn_parts : ∀ q : Qn, q.turn.parts = q.parts
  | .any => rfl
  | .no q => by simp [Qn.turn, Qn.parts, Qn.turn_parts q]
  | .both a b => by simp [Qn.turn, Qn.parts, Qn.turn_parts a, Qn.turn_parts b]
  | .some a c b => by simp [Qn.turn, Qn.parts, Qn.turn_parts a, Qn.turn_parts b]; omega
theorem Qn.turn_deep : ∀ q : Qn, q.turn.deep = q.deep
  | .any => rfl
  | .no q => by simp [Qn.turn, Qn.deep, Qn.turn_deep q]
  | .both a b => by simp [Qn.turn, Qn.deep, Qn.turn_deep a, Qn.turn_deep b]
  | .some a c b => by simp [Qn.turn, Qn.deep, Qn.turn_deep a, Qn.turn_deep b, Nat.max_comm]
theorem Qn.all_ok : ∀ {q : Qn}, q.Ok → ∀ r ∈ q.all, r.Ok
  | .any, h, r, hr => by simp [Qn.all] at hr; subst hr; exact h
  | .no q, h, r, hr => by
    simp [Qn.all] at hr
    rcases hr with rfl | hr
    · exact h
    · exact Qn.all_ok (q := q) h r hr
  | .both a b, h, r, hr => by
    simp [Qn.all] at hr
    rcases hr with rfl | hr | hr
    · exact h
    · exact Qn.all_ok h.1 r hr
    · exact Qn.all_ok h.2 r hr
  | .some a c b, h, r, hr => by
    simp [Qn.all] at hr
    rcases hr with rfl | hr | hr
    · exact h
    · exact Qn.all_ok h.1 r hr
    · exact Qn.all_ok h.2.2 r hr
/-- behind a part stand the parts of what lies within it -/
theorem flat_split : ∀ (n : Nat) (qs : List Qn), ptss qs ≤ n → ∀ pre r S, qs.flatMap Qn.all = pre ++ r :: S → ∃ S', S = r.kids.flatMap Qn.all ++ S' ∧ ∃ rest : List Qn, S' = rest.flatMap Qn.all
  | n, [], _, pre, r, S, h => by simp at h
  | 0, q :: qs, hn, pre, r, S, h => by have := q.parts_pos; simp [ptss] at hn; omega
  | n + 1, q :: qs, hn, pre, r, S, h => by
    rw [List.flatMap_cons, Qn.all_kids] at h
    have e : q :: (q.kids.flatMap Qn.all ++ qs.flatMap Qn.all) = q :: (q.kids ++ qs).flatMap Qn.all := by rw [List.flatMap_append]
    rw [List.cons_append, e] at h
    cases pre with
    | nil =>
      rw [List.nil_append] at h
      injection h with h1 h2
      subst h1
      exact ⟨qs.flatMap Qn.all, by rw [← h2, List.flatMap_append], qs, rfl⟩
    | cons p pre =>
      rw [List.cons_append] at h
      injection h with h1 h2
      refine flat_split n (q.kids ++ qs) ?_ pre r S h2
      have k := ptss_kids q
      rw [ptss_app]
      have : ptss (q :: qs) = q.parts + ptss qs := by simp [ptss]
      omega
theorem flat_inj : ∀ (a b c : List Qn) (S : List Qn), a.flatMap Qn.all = b.flatMap Qn.all ++ c.flatMap Qn.all → ∃ rest, a = b ++ rest ∧ rest.flatMap Qn.all = c.flatMap Qn.all
  | a, [], c, S, h => ⟨a, rfl, by simpa using h⟩
  | [], q :: b, c, S, h => by
    rw [List.flatMap_cons, Qn.all_kids] at h
    simp at h
  | p :: a, q :: b, c, S, h => by
    rw [List.flatMap_cons, List.flatMap_cons, List.append_assoc] at h
    have e : p = q := by
      rw [Qn.all_kids p, Qn.all_kids q] at h
      injection h
    subst e
    obtain ⟨rest, e1, e2⟩ := flat_inj a b c S (List.append_cancel_left h)
    exact ⟨rest, by rw [e1]; rfl, e2⟩
def sp_turned_part (K : PySem.W.Frag) : Sp := fun vs H Q _ => ∃ (H0 : Hp) (v : V) (r : Qn) (l : Addr) (xs : List V) (rest : List Qn), vs = [v, .ref l] ∧ Ex H0 H ∧ H0 l = none ∧ Da K H0 v r.d ∧ r.Ok ∧ H l = some (.lst xs) ∧
  Qs K H0 xs (rest ++ (r.kids.map Qn.turn).reverse) ∧
  ∀ (v' : V) (ys : List V) (H1 H' : Hp), Ex H0 H1 → Ex H1 H' → H1 l = none → Da K H1 v' r.turn.d → H' l = some (.lst ys) → Qs K H1 ys rest → (∀ b o, b ≠ l → H b = some o → H' b = some o) → Q v' H'
def sp_turned_question (K : PySem.W.Frag) : Sp := fun vs H Q _ => ∃ (H0 : Hp) (v : V) (q : Qn), vs = [v] ∧ Ex H0 H ∧ Dp K H0 v q.d ∧ q.Ok ∧ q.parts ≤ 1000 ∧
  ∀ (v' : V) (H1 H' : Hp), Ex H0 H1 → Ex H1 H' → Ex H H' → Da K H1 v' q.turn.d → Q v' H'
section
variable {K : PySem.W.Frag} {H : Hp} {v : V}
theorem da_any (h : Da K H v Qn.any.d) : ∃ a, v = .ref a ∧ SqT K H a [.str "any"] := by
  obtain ⟨a, xs, e, hs, hx⟩ := da_tup h
  obtain ⟨x, rfl, h1⟩ := das1 hx
  rw [da_str h1] at hs
  exact ⟨a, e, hs⟩
theorem da_no {r : Qn} (h : Da K H v (Qn.no r).d) : ∃ a x, v = .ref a ∧ SqT K H a [.str "not", x] ∧ Da K H x r.d := by
  obtain ⟨a, xs, e, hs, hx⟩ := da_tup h
  obtain ⟨x, y, rfl, h1, h2⟩ := das2 hx
  rw [da_str h1] at hs
  exact ⟨a, y, e, hs, h2⟩
theorem da_both {r t : Qn} (h : Da K H v (Qn.both r t).d) : ∃ a x y, v = .ref a ∧ SqT K H a [.str "both", x, y] ∧ Da K H x r.d ∧ Da K H y t.d := by
  obtain ⟨a, xs, e, hs, hx⟩ := da_tup h
  obtain ⟨x, y, z, rfl, h1, h2, h3⟩ := das3 hx
  rw [da_str h1] at hs
  exact ⟨a, y, z, e, hs, h2, h3⟩
theorem da_some {r t : Qn} {c : Nat} (h : Da K H v (Qn.some r c t).d) : ∃ a x y, v = .ref a ∧ SqT K H a [.str "some", x, .str ⟨#[c]⟩, y] ∧ Da K H x r.d ∧ Da K H y t.d := by
  obtain ⟨a, xs, e, hs, hx⟩ := da_tup h
  obtain ⟨x, y, z, u, rfl, h1, h2, h3, h4⟩ := das4 hx
  rw [da_str h1, da_str h3] at hs
  exact ⟨a, y, u, e, hs, h2, h4⟩
theorem mk_any {a : Addr} (h : H a = Option.some (.tup [.str "any"])) : Da K H (.ref a) Qn.any.d := .tup (st_of h) (.cons (.str _) .nil)
theorem mk_no {a : Addr} {x : V} {r : Qn} (h : H a = Option.some (.tup [.str "not", x])) (hx : Da K H x r.d) : Da K H (.ref a) (Qn.no r).d := .tup (st_of h) (.cons (.str _) (.cons hx .nil))
theorem mk_both {a : Addr} {x y : V} {r t : Qn} (h : H a = Option.some (.tup [.str "both", x, y])) (hx : Da K H x r.d) (hy : Da K H y t.d) : Da K H (.ref a) (Qn.both r t).d := .tup (st_of h) (.cons (.str _) (.cons hx (.cons hy .nil)))
theorem mk_some {a : Addr} {x y : V} {r t : Qn} {c : Nat} (h : H a = Option.some (.tup [.str "some", x, .str ⟨#[c]⟩, y])) (hx : Da K H x r.d) (hy : Da K H y t.d) : Da K H (.ref a) (Qn.some r c t).d := .tup (st_of h) (.cons (.str _) (.cons hx (.cons (.str _) (.cons hy .nil))))
end
theorem Das.at {K : PySem.W.Frag} {H : Hp} : ∀ {xs : List V} {ds : List PyData}, Das K H xs ds → ∀ {j : Nat} {x : V} (hj : j < ds.length), xs[j]? = some x → Da K H x ds[j]
  | _, _, .nil, j, x, hj, _ => absurd hj (Nat.not_lt_zero _)
  | _, _, .cons a _, 0, x, _, e => by
    simp only [List.getElem?_cons_zero, Option.some.injEq] at e
    subst e
    exact a
  | _, _, .cons _ t, j + 1, x, hj, e => Das.at t (Nat.lt_of_succ_lt_succ hj) e
theorem Qs.at {K : PySem.W.Frag} {H : Hp} {xs : List V} {qs : List Qn} {j : Nat} {x : V} (h : Qs K H xs qs) (hj : j < qs.length) (e : xs[j]? = some x) : Da K H x qs[j].d := by
  have := Das.at h (j := j) (by rw [List.length_map]; exact hj) e
  rw [List.getElem_map] at this
  exact this
theorem flat_one {ts : List Qn} {q : Qn} (h : q.all = ts.flatMap Qn.all) : ts = [q] := by
  obtain ⟨rest, e1, e2⟩ := flat_inj ts [q] [] [] (by rw [← h]; simp)
  cases rest with
  | nil => exact e1
  | cons r rest => rw [List.flatMap_cons, Qn.all_kids] at e2; cases e2
end M
end

section
set_option Elab.async false
set_option linter.all false
set_option maxRecDepth 100000
/-! depths and letters of questions, part by part -/
namespace M
open PySem L2 Evl
open PyProof.Rows hiding St
def Qn.word : Qn → Str
  | .any => "any"
  | .no _ => "not"
  | .both _ _ => "both"
  | .some _ _ _ => "some"
def Qn.up : Qn → Nat
  | .some _ _ _ => 1
  | _ => 0
theorem Qn.word_some {q : Qn} : (q.word = "some" → q.up = 1) ∧ (q.word ≠ "some" → q.up = 0) := by
  cases q <;> simp [Qn.word, Qn.up] <;> decide
theorem da_word {K : PySem.W.Frag} {H : Hp} {v : V} {q : Qn} (h : Da K H v q.d) : ∃ a ws, v = .ref a ∧ SqT K H a (.str q.word :: ws) := by
  cases q with
  | any => obtain ⟨a, e, s⟩ := da_any h; exact ⟨a, _, e, s⟩
  | no r => obtain ⟨a, x, e, s, _⟩ := da_no h; exact ⟨a, _, e, s⟩
  | both r t => obtain ⟨a, x, y, e, s, _⟩ := da_both h; exact ⟨a, _, e, s⟩
  | some r c t => obtain ⟨a, x, y, e, s, _⟩ := da_some h; exact ⟨a, _, e, s⟩
/-! a pile of (part, depth) -/
def pd (p : Qn × Nat) : PyData := .tuple [p.1.d, .int p.2]
def Ds (K : PySem.W.Frag) (H : Hp) (xs : List V) (ts : List (Qn × Nat)) : Prop := Das K H xs (ts.map pd)
def mx : List (Qn × Nat) → Nat
  | [] => 0
  | p :: ts => max (p.2 + p.1.deep) (mx ts)
theorem mx_app : ∀ a b : List (Qn × Nat), mx (a ++ b) = max (mx a) (mx b)
  | [], b => by simp [mx]
  | p :: a, b => by simp [mx, mx_app a b, Nat.max_assoc]
theorem mx_kids (r : Qn) (d : Nat) : max (d + r.up) (mx (r.kids.map fun k => (k, d + r.up))) = d + r.deep := by
  cases r <;> simp [Qn.kids, mx, Qn.up, Qn.deep] <;> omega
theorem Ds.last {K : PySem.W.Frag} {H : Hp} {xs : List V} {ts : List (Qn × Nat)} {r : Qn} {d : Nat} (h : Ds K H xs (ts ++ [(r, d)])) : ∃ a y, xs[xs.length - 1]? = some (.ref a) ∧ SqT K H a [y, .int d] ∧ Da K H y r.d ∧ Ds K H xs.dropLast ts := by
  obtain ⟨x, d', e1, e2, e3, e4⟩ := Das.last h (by simp)
  rw [List.map_append, List.map_singleton] at e4 e3
  rw [List.dropLast_concat] at e4 e3
  have e5 := List.append_cancel_left e4
  cases e5
  obtain ⟨a, ys, rfl, hs, hy⟩ := da_tup e2
  obtain ⟨y, z, rfl, h1, h2⟩ := das2 hy
  cases h2
  exact ⟨a, y, e1, hs, h1, e3⟩
theorem Ds.app1 {K : PySem.W.Frag} {H : Hp} {xs : List V} {ts : List (Qn × Nat)} {r : Qn} {d : Nat} {a : Addr} {y : V} (h : Ds K H xs ts) (ha : H a = some (.tup [y, .int d])) (hy : Da K H y r.d) : Ds K H (xs ++ [.ref a]) (ts ++ [(r, d)]) := by
  show Das _ _ _ (List.map _ _)
  rw [List.map_append]
  exact Das.app h (.cons (.tup (st_of ha) (.cons hy (.cons (.int _) .nil))) .nil)
theorem Ds.len {K : PySem.W.Frag} {H : Hp} {xs : List V} {ts : List (Qn × Nat)} (h : Ds K H xs ts) : xs.length = ts.length := by
  have := Das.len h
  rw [List.length_map] at this
  exact this
theorem Ds.up {K : PySem.W.Frag} {H H' : Hp} {xs : List V} {ts : List (Qn × Nat)} (h : Ds K H xs ts) (x : Ex H H') : Ds K H' xs ts := Das.up h x
/-- how many parts a pile has -/
def pts2 (ts : List (Qn × Nat)) : Nat := ptss (ts.map Prod.fst)
theorem pts2_app (a b : List (Qn × Nat)) : pts2 (a ++ b) = pts2 a + pts2 b := by simp [pts2, ptss_app]
theorem pts2_len (a : List (Qn × Nat)) : a.length ≤ pts2 a := by
  have := ptss_len (a.map Prod.fst)
  simpa [pts2] using this
theorem pts2_kids (r : Qn) (d : Nat) : pts2 (r.kids.map fun k => (k, d)) + 1 = r.parts := by
  have := ptss_kids r
  simpa [pts2, Function.comp_def] using this
def sp_depth_of (K : PySem.W.Frag) : Sp := fun vs H Q _ => ∃ (H0 : Hp) (v : V) (q : Qn), vs = [v] ∧ Ex H0 H ∧ Dp K H0 v q.d ∧ q.Ok ∧ q.parts ≤ 1000 ∧ ∀ H' : Hp, Ex H H' → Q (.int (q.deep : Nat)) H'
theorem Ex.both {A B : Hp} (x : Ex A B) (t : Addr) (o : HO) : Ex (upd A t o) (upd B t o) := by
  intro b u e
  by_cases z : b = t
  · subst z; rw [upd_same] at e ⊢; exact e
  · rw [upd_ne z] at e ⊢; exact x b u e
theorem st6 {a c x o : Option V} {i i' j j' : Int} (h1 : i = i') (h2 : j = j') : [a, some (.int i), c, x, some (.int j), o] = [a, some (.int i'), c, x, some (.int j'), o] := by rw [h1, h2]
theorem take_succ' {α : Type} {xs : List α} {i : Nat} (h : i < xs.length) : xs.take (i + 1) = xs.take i ++ [xs[i]] := by rw [List.take_append_getElem h]
end M
end

section
set_option Elab.async false
set_option linter.all false
set_option maxRecDepth 100000
set_option maxHeartbeats 2000000
/-! sets of any scanned keys whose table can be walked; sorted(set of texts) -/
namespace M
open PySem PySem.Spec PyProof.Rows L2
section
variable {κ : Type} [DecidableEq κ] {P : Program} {w : World}
/-- no two rows hold one key -/
def Apart (knd : PySem.KeyKind P w κ) (p q : Int × Value) : Prop := ∀ k, knd.is k p.2 = true → knd.is k q.2 = true → False
theorem Apart.turn {knd : PySem.KeyKind P w κ} {p q : Int × Value} (x : Apart knd p q) : Apart knd q p := fun k u v => x k v u
/-- the set at a: its members by kind, how many, its table in order -/
def OSet (knd : PySem.KeyKind P w κ) (h : Heap) (a : Addr) (S : κ → Bool) (n : Nat) : Prop :=
  ∃ (ob : Obj) (rows : Array (Int × Value)) (age : Nat) (tab : SetTable), h.get? a = some ob ∧ ob.ExactSet ∧ ob.data = .set rows age tab ∧ ElemsOf knd rows.toList ∧ rows.toList.Pairwise (Apart knd) ∧
    (∀ k, S k = true ↔ ∃ p ∈ rows.toList, knd.is k p.2 = true) ∧ rows.size < scanBound ∧ tab.fits rows.size = true ∧ rows.size = n ∧ Ris tab.place.toList ∧ (w.params.followText "set-order" = true ∨ tab.led = true)
variable {knd : PySem.KeyKind P w κ} {h h' : Heap} {a : Addr} {S : κ → Bool} {n : Nat}
theorem OSet.keep (R : OSet knd h a S n) (z : ∀ u, h.get? a = some u → h'.get? a = some u) : OSet knd h' a S n := by
  rcases R with ⟨ob, rows, age, tab, at_, rest⟩
  exact ⟨ob, rows, age, tab, z ob at_, rest⟩
theorem OSet.plain (R : OSet knd h a S n) : h.SetOf knd a S n := by
  rcases R with ⟨ob, rows, age, tab, at_, ex, dat, el, _, me, few, fit, cnt, _⟩
  exact ⟨ob, rows, age, tab, at_, ex, dat, el, me, few, fit, cnt⟩
theorem OSet.alike {S' : κ → Bool} {n' : Nat} (R : OSet knd h a S n) (x : ∀ k, S' k = S k) (y : n' = n) : OSet knd h a S' n' := by
  rw [y, funext x]; exact R
end
section
variable {κ : Type} [DecidableEq κ] {P : Program} {w : World} {knd : PySem.KeyKind P w κ} {A : Around} {E : Value → Shared → Prop} {s : Shared} {a : Addr} {S : κ → Bool} {n : Nat}
/-- what is left behind the new row: stored, relaid if too full -/
theorem oset_tail {g : Bool → Sem Unit} (hg : ∀ (b : Bool) (s1 : Shared) (Q1 : Unit → Shared → Prop), Q1 () s1 → wpAny (model P w) A (g b) Q1 E s1)
    {ob : Obj} {old : Array (Int × Value)} {age : Nat} {tab : SetTable} (at_ : s.heap.get? a = some ob) (ex : ob.ExactSet) (dat : ob.data = .set old age tab)
    {rows : Array (Int × Value)} {tab2 : SetTable} {S' : κ → Bool} (el : ElemsOf knd rows.toList) (ap : rows.toList.Pairwise (Apart knd)) (me : ∀ k, S' k = true ↔ ∃ p ∈ rows.toList, knd.is k p.2 = true)
    (few : rows.size < scanBound) (fit : tab2.fits rows.size = true) (ris : Ris tab2.place.toList) (led : w.params.followText "set-order" = true ∨ tab2.led = true) {dummy : Bool} {R : Option Bool → Shared → Prop}
    (hR : ∀ hp, Heap.SameBut a s.heap hp → OSet knd hp a S' rows.size → R (some true) { s with heap := hp }) :
    wpAny (model P w) A (do
        storeSet a rows tab2
        if (!dummy && tab2.tooFull) = true then do
            g (relayAll tab2 rows (SetTable.grown rows.size)).2.2
            storeSet a (relayAll tab2 rows (SetTable.grown rows.size)).1 (relayAll tab2 rows (SetTable.grown rows.size)).2.1
            pure (some true)
          else pure (some true)) R E s := by
  have same := Heap.SameBut.update s.heap a (Obj.putSet rows tab2)
  have now := store_at (es' := rows) (t' := tab2) at_ dat
  refine wpAny_bind (wpAny_storeSet_of at_ dat ?_ (fits_of_scanBound few))
  by_cases full : (!dummy && tab2.tooFull) = true
  · rw [if_pos full]
    have perm := relayAll_perm tab2 rows (SetTable.grown rows.size)
    have fit3 := relayAll_fits tab2 rows (SetTable.grown rows.size)
    have ris3 := relayAll_ris tab2 rows (SetTable.grown rows.size)
    have led3 := relayAll_led tab2 rows (SetTable.grown rows.size)
    generalize relayAll tab2 rows (SetTable.grown rows.size) = out at perm fit3 ris3 led3 ⊢
    rcases out with ⟨rows3, tab3, flag⟩
    dsimp only at perm fit3 ris3 led3 ⊢
    have cnt : rows3.size = rows.size := by
      have := perm.length_eq
      rwa [Array.length_toList, Array.length_toList] at this
    have few3 : rows3.size < scanBound := cnt ▸ few
    refine wpAny_bind (hg flag _ _ ?_)
    refine wpAny_bind (wpAny_storeSet_of now rfl ?_ (fits_of_scanBound few3))
    have last := store_at (es' := rows3) (t' := tab3) now rfl
    refine wpAny_pure (hR _ (same.trans (Heap.SameBut.update _ a _)) ⟨_, rows3, _, tab3, last, ex, rfl, ?_, ?_, ?_, few3, fit3, cnt, ris3, ?_⟩)
    · exact fun p hp => el p (perm.mem_iff.mp hp)
    · exact (perm.pairwise_iff fun x => Apart.turn x).mpr ap
    · intro k
      rw [me k]
      exact ⟨fun ⟨p, hp, z⟩ => ⟨p, perm.mem_iff.mpr hp, z⟩, fun ⟨p, hp, z⟩ => ⟨p, perm.mem_iff.mp hp, z⟩⟩
    · rw [led3]; exact led
  · rw [if_neg full]
    exact wpAny_pure (hR _ same ⟨_, rows, _, tab2, now, ex, rfl, el, ap, me, few, fit, rfl, ris, led⟩)
theorem oset_put {k : κ} {u : Value} {Q : Bool → Shared → Prop} (hk : knd.is k u = true) (sc : u.scannable = true) (R : OSet knd s.heap a S n) (room : n + 1 < scanBound)
    (fin : ∀ hp, Heap.SameBut a s.heap hp → OSet knd hp a (fun j => S j || decide (j = k)) (if S k = true then n else n + 1) → Q (!S k) { s with heap := hp }) :
    wpAny (model P w) A (setAddHashed a u (knd.hash k)) Q E s := by
  rcases R with ⟨ob, rows, age, tab, at_, ex, dat, el, ap, me, few, fit, cnt, ris, led⟩
  unfold setAddHashed setAddHashedIn
  refine wpAny_holding (wpAny_bind (wpAny_setState_of at_ dat fit ?_))
  dsimp only
  rw [byScan_of sc few el]
  simp only [↓reduceIte]
  unfold setAddByScan
  refine wpAny_bind ?_
  refine wpAny_bind (wpAny_rule ?_)
  refine wpAny_bind (wpAny_setScan_of hk at_ dat fit el ?_)
  cases found : List.findIdx? (fun e => knd.is k e.2) rows.toList with
  | some j =>
    obtain ⟨inside, here, _⟩ := List.findIdx?_eq_some_iff_getElem.mp found
    have yes : S k = true := (me k).mpr ⟨rows.toList[j], List.getElem_mem inside, here⟩
    dsimp only
    refine wpAny_pure (wpAny_pure ?_)
    have goal := fin s.heap (Heap.SameBut.refl a s.heap) ⟨ob, rows, age, tab, at_, ex, dat, el, ap, fun i => ?_, few, fit, by rw [if_pos yes]; exact cnt, ris, led⟩
    · rw [yes] at goal
      exact goal
    · rw [← me i, Bool.or_eq_true, decide_eq_true_eq]
      constructor
      · rintro (z | rfl)
        · exact z
        · exact yes
      · exact .inl
  | none =>
    have gone : ∀ p ∈ rows.toList, knd.is k p.2 = true → False := fun p hp z => by
      have c := List.findIdx?_eq_none_iff.mp found p hp
      rw [z] at c
      cases c
    have no : S k = false := by
      rw [Bool.eq_false_iff]
      intro z
      obtain ⟨p, hp, e⟩ := (me k).mp z
      exact gone p hp e
    dsimp only
    have perm := layNew_perm tab rows (knd.hash k) u
    have fit1 := layNew_fits tab rows (knd.hash k) u
    have ris1 := layNew_ris tab rows (knd.hash k) u ris
    have led1 := layNew_led tab rows (knd.hash k) u
    generalize layNew tab rows (knd.hash k) u = out at perm fit1 ris1 led1 ⊢
    rcases out with ⟨rows1, tab1, dummy, flag⟩
    dsimp only at perm fit1 ris1 led1 ⊢
    rw [Array.toList_push] at perm
    have pc : rows1.toList.Perm ((knd.hash k, u) :: rows.toList) := perm.trans (List.perm_append_singleton _ _)
    have el1 : ElemsOf knd rows1.toList := fun p hp => by
      rcases List.mem_cons.mp (pc.mem_iff.mp hp) with rfl | z
      · exact ⟨⟨k, hk, rfl⟩, sc⟩
      · exact el p z
    have ap1 : rows1.toList.Pairwise (Apart knd) := by
      refine (pc.pairwise_iff fun x => Apart.turn x).mpr (List.pairwise_cons.mpr ⟨fun q hq i z1 z2 => ?_, ap⟩)
      have e : i = k := knd.inj _ _ _ z1 hk
      subst e
      exact gone q hq z2
    have me1 : ∀ i, (S i || decide (i = k)) = true ↔ ∃ p ∈ rows1.toList, knd.is i p.2 = true := fun i => by
      rw [Bool.or_eq_true, decide_eq_true_eq, me i]
      constructor
      · rintro (⟨p, hp, z⟩ | rfl)
        · exact ⟨p, pc.mem_iff.mpr (List.mem_cons_of_mem _ hp), z⟩
        · exact ⟨_, pc.mem_iff.mpr List.mem_cons_self, hk⟩
      · rintro ⟨p, hp, z⟩
        rcases List.mem_cons.mp (pc.mem_iff.mp hp) with rfl | y
        · exact .inr (knd.inj _ _ _ z hk)
        · exact .inl ⟨p, y, z⟩
    have cnt1 : rows1.size = n + 1 := by
      have := pc.length_eq
      rw [Array.length_toList, List.length_cons, Array.length_toList, cnt] at this
      exact this
    have few1 : rows1.size < scanBound := cnt1 ▸ room
    have ledN : w.params.followText "set-order" = true ∨ tab1.led = true := by rw [led1]; exact led
    have done : ∀ hp, Heap.SameBut a s.heap hp → OSet knd hp a (fun j => S j || decide (j = k)) rows1.size → Q true { s with heap := hp } := fun hp sb r => by
      have q := fin hp sb
      rw [no] at q
      rw [cnt1] at r
      exact q r
    have skip : ∀ (b : Bool) (s1 : Shared) (Q1 : Unit → Shared → Prop), Q1 () s1 → wpAny (model P w) A (match b with | true => rule "set.scan.the-table-gave-way" | false => pure ()) Q1 E s1 := by
      intro b s1 Q1 q
      cases b
      · exact wpAny_pure q
      · exact wpAny_rule q
    refine wpAny_bind (skip _ _ _ ?_)
    split
    · refine wpAny_bind ?_
      rw [hashByValue_scannable 8 sc]
      refine wpAny_pure ?_
      refine oset_tail (fun b s1 Q1 q => ?_) at_ ex dat el1 ap1 me1 few1 ?_ ?_ ?_ ?_
      · cases b <;> first | exact wpAny_pure q | exact wpAny_rule q
      · first | exact fit1 | (split <;> first | exact fit1 | exact SetTable.fits_plain_off fit1)
      · first | exact ris1 | (split <;> exact ris1)
      · first | exact ledN | (split <;> exact ledN)
      · intro hp sb r
        exact wpAny_pure (done hp sb r)
    · refine wpAny_bind (wpAny_pure ?_)
      simp only [↓reduceIte]
      refine oset_tail (fun b s1 Q1 q => ?_) at_ ex dat el1 ap1 me1 few1 fit1 ris1 ledN ?_
      · cases b <;> first | exact wpAny_pure q | exact wpAny_rule q
      · intro hp sb r
        exact wpAny_pure (done hp sb r)
theorem oset_add {k : κ} {u : Value} {Q : Value → Shared → Prop} (hk : knd.is k u = true) (sc : u.scannable = true) (R : OSet knd s.heap a S n) (room : n + 1 < scanBound)
    (fin : ∀ hp, Heap.SameBut a s.heap hp → OSet knd hp a (fun j => S j || decide (j = k)) (if S k = true then n else n + 1) → Q .none { s with heap := hp, toks := s.toks + 1 }) :
    wpAny (model P w) A (call (.builtin "set.add") [.ref a, u]) Q E s := by
  refine wpAny_call_entry F.slot_set_add R.plain.typeIs F.entry_set_add ?_ (F.args_set_add_2 _ _)
  unfold Builtin.«set.add» Builtin.Frozenset.oneOther
  simp only [List.isEmpty_nil, bind_assoc]
  unfold Builtin.Frozenset.addrOf setAdd
  refine wpAny_bind (wpAny_pure ?_)
  refine wpAny_bind (wpAny_pure ?_)
  refine wpAny_bind (wpAny_holding (wpAny_bind (knd.pyHash hk ?_)))
  refine oset_put (s := { s with toks := s.toks + 1 }) hk sc R room fun hp sb r => ?_
  show wpAny _ _ (ret Value.none) _ _ _
  exact wpAny_pure ⟨_, rfl, fin hp sb r⟩
theorem oset_fresh {P : Program} {w : World} (knd : PySem.KeyKind P w κ) {h : Heap} {a : Addr} {led : Bool} (hl : w.params.followText "set-order" = true ∨ led = true)
    (at_ : h.get? a = some { cls := .type "set", dict := none, data := .set #[] 0 (.fresh 0 0 led) }) : OSet knd h a (fun _ => false) 0 := by
  refine ⟨_, #[], 0, _, at_, ⟨rfl, rfl, rfl⟩, rfl, fun p hp => ?_, .nil, fun k => ?_, by decide, rfl, rfl, .nil, hl⟩
  · cases hp
  · constructor
    · intro z; cases z
    · rintro ⟨p, hp, _⟩; cases hp
end
end M
end

section
set_option Elab.async false
set_option linter.all false
set_option maxRecDepth 100000
set_option maxHeartbeats 4000000
/-! set(list of keys), sorted(set of texts), as rules -/
namespace M
open PySem PySem.Spec PyProof.Rows L2
section
variable {κ : Type} [DecidableEq κ] {P : Program} {w : World} {knd : PySem.KeyKind P w κ} {A : Around} {E : Value → Shared → Prop} {s : Shared}
/-- the loop that puts the items of a list into a set -/
theorem oset_loop {it a : Addr} {fp wr : List Addr} {G : Array GenState → Array GenState → Prop} {m : Nat} {Pv : Nat → Value → Prop} {St : Nat → Shared → Prop} {R : Result → Shared → Prop}
    (W : WalksS P w A.in1 it fp wr G m Pv St) (na : a ∉ fp) (ks : List κ) (len : m = ks.length) (few : m < 1000) (val : ∀ i v, Pv i v → ∃ k, ks[i]? = some k ∧ knd.is k v = true ∧ v.scannable = true) :
    ∀ (left i : Nat) (s : Shared), m - i = left → i ≤ m → St i s → (∃ n, n ≤ i ∧ OSet knd s.heap a (fun k => decide (k ∈ ks.take i)) n) →
      (∀ s' n, Moved (a :: wr) G s s' → n ≤ m → OSet knd s'.heap a (fun k => decide (k ∈ ks)) n → R (.ok (.ret .none)) s') →
      codeAny (model P w) A (.builtin "set.update.loop" ⟨[.ref a, .ref it], []⟩) R s := by
  have nw : a ∉ wr := fun z => na (W.sub _ z)
  have more : ∀ b ∈ wr, b ∈ a :: wr := fun b z => List.mem_cons_of_mem _ z
  intro left
  induction left with
  | zero =>
    intro i s e le st ⟨n, ni, S0⟩ out
    obtain rfl : i = m := by omega
    refine codeAny_builtin PyProof.Rows.F.entry_set_update_loop (by
      rw [Around.under_plainId PyProof.Rows.F.plain_set_update_loop _]
      show wpAny _ A.in1 (pyNext (.ref it) >>= _) _ _ s
      refine wpAny_bind (W.done s _ _ st fun s' mv => ?_)
      show wpAny _ A.in1 (ret Value.none) _ _ s'
      refine wpAny_pure (out s' n (mv.mono more) ni ((S0.keep fun u z => mv.heap a u nw z).alike (fun k => ?_) rfl))
      rw [len, List.take_length])
  | succ left ih =>
    intro i s e le st ⟨n, ni, S0⟩ out
    have lt : i < m := by omega
    refine codeAny_builtin PyProof.Rows.F.entry_set_update_loop (by
      rw [Around.under_plainId PyProof.Rows.F.plain_set_update_loop _]
      show wpAny _ A.in1 (pyNext (.ref it) >>= _) _ _ s
      refine wpAny_bind (W.item i s _ _ lt st fun v s' pv st' mv => ?_)
      obtain ⟨k, hk, ki, ks2⟩ := val i v pv
      have S1 := S0.keep fun u z => mv.heap a u nw z
      show wpAny _ A.in1 (holding [v] (setAdd a v) >>= _) _ _ s'
      refine wpAny_bind (wpAny_holding ?_)
      unfold setAdd
      refine wpAny_holding (wpAny_bind (knd.pyHash ki ?_))
      refine oset_put (s := { s' with toks := s'.toks + 1 }) ki ks2 S1 (by unfold scanBound; omega) fun hp sb S2 => ?_
      have nx : ks.take (i + 1) = ks.take i ++ [k] := by rw [List.take_succ, hk]; rfl
      have S3 : ∃ n', n' ≤ i + 1 ∧ OSet knd hp a (fun j => decide (j ∈ ks.take (i + 1))) n' := ⟨_, (by split <;> omega), S2.alike (fun j => by
        rw [nx]
        simp only [List.mem_append, List.mem_singleton, Bool.decide_or]) rfl⟩
      refine wpAny_pure ⟨plainId_quiet PyProof.Rows.F.plain_set_update_loop _, ih (i + 1) _ (by omega) lt (W.frame _ s' _ _ st' (Nat.le_succ _) fun b hb u z => ?_) S3 fun s'' n'' mv2 le2 S4 => ?_⟩
      · rw [sb.2 b fun y : b = a => na (y ▸ hb)]; exact z
      · refine out s'' n'' (Moved.trans W.gtrans ((mv.mono more).then_heap (Nat.le_succ _) fun b u nb z => ?_) mv2) le2 S4
        rw [sb.2 b fun y : b = a => nb (y ▸ List.mem_cons_self)]; exact z)
/-- the set object that set() and set(xs) begin with -/
abbrev bareSet (w : World) : Obj := { cls := .type "set", dict := none, data := .set #[] 0 (.fresh 0 0 (!w.params.followText "set-order")) }
theorem led_bare (w : World) : w.params.followText "set-order" = true ∨ (!w.params.followText "set-order") = true := by cases w.params.followText "set-order" <;> simp
/-- set(xs), xs a list of keys -/
theorem call_oset {l : Addr} {items : Array Value} {ks : List κ} {Q : Value → Shared → Prop} (calm : A.handled = none) (hl : s.heap.IsList l items) (len : items.size = ks.length) (few : ks.length < 1000)
    (val : ∀ (i : Nat) (v : Value), items[i]? = some v → ∃ k, ks[i]? = some k ∧ knd.is k v = true ∧ v.scannable = true)
    (fin : ∀ (hp : Heap) (tk : Nat) (n : Nat), n ≤ ks.length → OSet knd hp s.heap.objs.size (fun k => decide (k ∈ ks)) n → (∀ b u, s.heap.get? b = some u → hp.get? b = some u) → Q (.ref s.heap.objs.size) { s with heap := hp, toks := tk }) :
    wpAny (model P w) A (call (.type "set") [.ref l]) Q E s := by
  have made := PySem.F.called_set.made
  have subs := PySem.F.called_set.sub
  obtain ⟨_, _, order⟩ := PySem.F.called_set.mro
  refine wpAny_call (codeAny_of_tree (by
    show wpAny _ _ (callAny (.type "set") _) _ _ _
    refine wpAny_pure ⟨Code.quiet_builtin _ (by decide +kernel), codeAny_builtin PySem.F.entry_type_call ?_⟩
    rw [Around.under_plain (weight_type_call_type "set" [.ref l] []) rfl]
    have t1 := PySem.F.called_set.notType
    have t2 := PySem.F.called_set.canCreate
    have t3 := PySem.F.typeCall_set_1 (.ref l)
    repeat (any_goals (first | assumption | wp_step))
    refine codeAny_mono (code_set_led1 (.ref l) (E := E) (Q₁ := fun x s1 => x = .ref s.heap.objs.size ∧ s1 = { s with heap := s.heap.push (bareSet w) }) ⟨rfl, rfl⟩) fun r s1 got => ?_
    cases r with
    | error e => exact got
    | ok fl =>
      cases fl with
      | ret x =>
        obtain ⟨rfl, rfl⟩ := got
        have seen : (s.heap.push (bareSet w)).get? s.heap.objs.size = some (bareSet w) := Heap.get?_push_size _ rfl
        have typ : Shared.TypeIs { s with heap := s.heap.push (bareSet w) } (.ref s.heap.objs.size) "set" := ⟨_, seen, rfl⟩
        have i1 := PySem.F.called_set.init.lookup
        have i2 := PySem.F.called_set.init.bind (.ref s.heap.objs.size)
        repeat (any_goals (first | assumption | wp_step))
        refine codeAny_mono (codeAny_call_builtin (R := wants (fun y s2 => y = .none ∧ ∃ hp tk n, s2 = { s with heap := hp, toks := tk } ∧ n ≤ ks.length ∧ OSet knd hp s.heap.objs.size (fun k => decide (k ∈ ks)) n ∧ ∀ b u, s.heap.get? b = some u → hp.get? b = some u) E)
          PySem.F.called_set.init.plain PySem.F.entry_set_init (check_set_init_1 typ ?_)) fun r2 s2 got2 => ?_
        · obtain ⟨ob, at_, cls, num, dat⟩ := hl
          obtain ⟨oc, od, ot, os⟩ := ob
          simp only at cls dat
          subst cls; subst dat
          have at1 : (s.heap.push (bareSet w)).get? l = some { cls := .type "list", dict := od, data := .seq items num, slots := os } := Heap.get?_push_of_some _ at_
          have u1 := PySem.F.sub_list_set
          have u2 := PySem.F.sub_list_frozenset
          have u3 : (Value.type "list" == Value.type "dict") = false := by decide
          have isl : (s.heap.push (bareSet w)).IsList l items := ⟨_, at1, rfl, num, rfl⟩
          unfold Builtin.«set.__init__» noKeywords Builtin.Frozenset.updateFrom
          generalize gen : pyIter = PI
          wp_walk
          subst gen
          refine wpAny_pyIter_list isl (wpAny_bind (wpAny_runValue ?_))
          have below : l < s.heap.objs.size := Heap.lt_size at_
          have calm3 : A.in1.in1.in1.handled = none := by simp [calm]
          have apart : l ≠ (s.heap.push (bareSet w)).objs.size := by rw [Heap.size_push]; exact Nat.ne_of_lt (Nat.lt_succ_of_lt below)
          have out : s.heap.objs.size ∉ [(s.heap.push (bareSet w)).objs.size, l] := by
            rw [Heap.size_push]
            intro z
            rcases List.mem_cons.mp z with z | z
            · exact Nat.ne_of_lt (Nat.lt_succ_self _) z
            · exact Nat.ne_of_gt below (List.mem_singleton.mp z)
          refine oset_loop (knd := knd) ((Walks.list calm3 _ l apart items).toS) out ks len (by omega) val (items.size - 0) 0 _ (by omega) (Nat.zero_le _)
            ⟨⟨_, Heap.get?_push_size _ rfl, rfl, rfl⟩, (isl.push _)⟩ ⟨0, Nat.le_refl _, (oset_fresh knd (led_bare w) (Heap.get?_push_of_some _ seen)).alike (fun k => by simp) rfl⟩ fun s3 n mv le S3 => ?_
          obtain ⟨hp, g3, d3, tk, os3⟩ := s3
          have g0 : g3 = s.gens := mv.gens
          have d0 : d3 = s.drawn := mv.drawn
          have o0 : os3 = s.os := mv.os
          subst g0; subst d0; subst o0
          show wpAny _ _ _ _ _ _
          refine wpAny_pure (by
            show wpAny _ _ (ret Value.none) _ _ _
            refine wpAny_pure ⟨rfl, hp, tk, n, rfl, by omega, S3, fun b u z => ?_⟩
            have lb := Heap.lt_size z
            refine mv.heap b u ?_ (Heap.get?_push_of_some _ (Heap.get?_push_of_some _ z))
            rw [Heap.size_push]
            intro y
            rcases List.mem_cons.mp y with y | y
            · exact Nat.ne_of_lt lb y
            · exact Nat.ne_of_lt (Nat.lt_succ_of_lt lb) (List.mem_singleton.mp y))
        · cases r2 with
          | error e => exact got2
          | ok fl2 =>
            cases fl2 with
            | ret y =>
              obtain ⟨rfl, hp, tk, n, rfl, le, S3, old⟩ := got2
              repeat (any_goals (first | assumption | wp_step))
              exact fin _ _ _ le S3 old
            | _ => exact got2.elim
      | _ => exact got.elim))
end
end M
end

section
set_option Elab.async false
set_option linter.all false
set_option maxRecDepth 100000
set_option maxHeartbeats 2000000
/-! sorted(set of texts); the rules -/
namespace M
open PySem PySem.Spec L2
open PyProof.Rows hiding St
theorem str_is {P : Program} {w : World} {k : Str} {v : Value} (h : (PySem.strKind P w).is k v = true) : (∃ t, v = .str k t) ∧ PyProof.Rows.strOf v = k ∧ v.scannable = true := by
  obtain ⟨t, rfl⟩ := Value.isStrOf_shape h
  exact ⟨⟨t, rfl⟩, rfl, rfl⟩
/-- the texts of a set of texts, in some order -/
theorem oset_texts {P : Program} {w : World} {h : Heap} {a : Addr} {S : Str → Bool} {n : Nat} (R : OSet (PySem.strKind P w) h a S n) :
    ∃ ob rows age tab, h.get? a = some ob ∧ ob.cls = .type "set" ∧ ob.data = .set rows age tab ∧ rows.size < scanBound ∧ tab.fits rows.size = true ∧ Ris tab.place.toList ∧ (w.params.followText "set-order" = true ∨ tab.led = true) ∧
      (∀ v ∈ rows.toList.map (·.2), ∃ x t, v = .str x t) ∧ ((rows.toList.map (·.2)).map PyProof.Rows.strOf).Nodup ∧ (∀ k, k ∈ (rows.toList.map (·.2)).map PyProof.Rows.strOf ↔ S k = true) ∧ rows.size = n := by
  rcases R with ⟨ob, rows, age, tab, at_, ex, dat, el, ap, me, few, fit, cnt, ris, led⟩
  refine ⟨ob, rows, age, tab, at_, ex.1, dat, few, fit, ris, led, fun v hv => ?_, ?_, fun k => ?_, cnt⟩
  · obtain ⟨p, hp, rfl⟩ := List.mem_map.mp hv
    obtain ⟨k, hk, _⟩ := (el p hp).1
    obtain ⟨⟨t, e⟩, _⟩ := str_is hk
    exact ⟨k, t, e⟩
  · rw [List.map_map]
    refine List.pairwise_map.mpr (List.Pairwise.imp_of_mem (fun {p q} hp hq x e => ?_) ap)
    obtain ⟨k, hk, _⟩ := (el p hp).1
    obtain ⟨j, hj, _⟩ := (el q hq).1
    have e1 : PyProof.Rows.strOf p.2 = PyProof.Rows.strOf q.2 := e
    rw [(str_is hk).2.1, (str_is hj).2.1] at e1
    subst e1
    exact x k hk hj
  · rw [me k, List.map_map]
    constructor
    · intro z
      obtain ⟨p, hp, e⟩ := List.mem_map.mp z
      obtain ⟨j, hj, _⟩ := (el p hp).1
      have e1 : PyProof.Rows.strOf p.2 = k := e
      rw [(str_is hj).2.1] at e1
      subst e1
      exact ⟨p, hp, hj⟩
    · rintro ⟨p, hp, z⟩
      exact List.mem_map.mpr ⟨p, hp, (str_is z).2.1⟩
theorem nodup_le {α : Type} [DecidableEq α] : ∀ (l L : List α), l.Nodup → (∀ x ∈ l, x ∈ L) → l.length ≤ L.length
  | [], _, _, _ => Nat.zero_le _
  | x :: l, L, d, s => by
    obtain ⟨d1, d2⟩ := List.nodup_cons.mp d
    have hx : x ∈ L := s x List.mem_cons_self
    have q := nodup_le l (L.erase x) d2 fun y hy => (List.mem_erase_of_ne fun z : y = x => d1 (by rw [← z]; exact hy)).mpr (s y (List.mem_cons_of_mem _ hy))
    rw [List.length_erase_of_mem hx] at q
    have := List.length_pos_of_mem hx
    rw [List.length_cons]
    omega
theorem oset_count {P : Program} {w : World} {h : Heap} {a : Addr} {S : Str → Bool} {n : Nat} (R : OSet (PySem.strKind P w) h a S n) {L : List Str} (z : ∀ k, S k = true → k ∈ L) : n ≤ L.length := by
  obtain ⟨ob, rows, age, tab, _, _, _, _, _, _, _, _, nd, me, cnt⟩ := oset_texts R
  have q := nodup_le _ L nd fun x hx => z x ((me x).mp hx)
  rw [List.length_map, List.length_map, Array.length_toList, cnt] at q
  exact q
section
variable {P : Program} {w : World} {A : Around} {E : Value → Shared → Prop} {s : Shared} {a : Addr} {S : Str → Bool} {n : Nat}
theorem oset_sorted {Q : Value → Shared → Prop} (R : OSet (PySem.strKind P w) s.heap a S n) (calm : A.handled = none) (few : n < 64)
    (fin : ∀ (s' : Shared) (p : Addr) (out : Array Value) (c : Nat) (ss : List Str), (∀ b u, s.heap.get? b = some u → s'.heap.get? b = some u) → s'.gens = s.gens → s'.os = s.os → s.heap.objs.size ≤ p →
      s'.heap.get? p = some (seqObj "list" out c) → StrsAre out.toList ss → sortedS ss = true → ss.Nodup → (∀ k, k ∈ ss ↔ S k = true) → ss.length = n → Q (.ref p) s') :
    wpAny (model P w) A (call (.builtin "sorted") [.ref a]) Q E s := by
  obtain ⟨ob, rows, age, tab, at_, cls, dat, small, fit, ris, led, txs, nd, me, cnt⟩ := oset_texts R
  refine Calls.call_function_entry kind_sorted plain_sorted entry_sorted (args_sorted1 _) (by
    unfold Builtin.«sorted»
    refine wpAny_bind (m := checkCount "sorted" 1 1 _) (wpAny_pure (wpAny_bind (collect_set (A := A.in1) calm ⟨ob, at_, cls, dat⟩ fit small ris led fun s1 vs old grown gens os perm => ?_)))
    have len : vs.length = n := by rw [perm.length_eq, List.length_map, Array.length_toList]; exact cnt
    have all : StrsAre vs (vs.map PyProof.Rows.strOf) := PyProof.Rows.strsAre_map vs fun v hv => txs v (perm.mem_iff.mp hv)
    have pk := perm.map PyProof.Rows.strOf
    refine wpAny_bind (wpAny_newList ?_ (by rw [len, sizeLine_eq]; omega))
    have new : (s1.heap.push (seqObj "list" vs.toArray 0)).get? s1.heap.objs.size = some (seqObj "list" vs.toArray 0) := Heap.get?_push_size _ rfl
    refine wpAny_bind (wpAny_holding (wpAny_call_entry slot_list_sort ⟨_, new, rfl⟩ entry_list_sort (list_sort_treeK strKind_oneLt new all.keysOf (fun v1 v2 rest e => keyKind_strs (e ▸ all)) (by rw [len]; exact few) fun st hp hs => ⟨_, rfl, ?_⟩) (args_list_sort _)))
    obtain ⟨ss, s3, s4, s5⟩ := sorted_out_str all hp hs
    obtain ⟨c, at2⟩ := sortedHeap_at (vs := vs) (out := (arrOf st).map (·.2)) new
    have pp := s4.trans pk
    refine wpAny_pure ⟨_, rfl, fin _ s1.heap.objs.size _ c ss (fun b u z => ?_) gens os grown at2 s3 s5 (pp.nodup_iff.mpr nd) (fun k => by rw [pp.mem_iff, me k]) ?_⟩
    · have z1 := old b u z
      have lt := Heap.lt_size z1
      exact (sortedHeap_old (h := s1.heap.push (seqObj "list" vs.toArray 0)) (Nat.ne_of_lt lt) (by rw [size_push']; exact Nat.lt_succ_of_lt lt)).trans (Heap.get?_push_of_some _ z1)
    · rw [pp.length_eq, List.length_map, List.length_map, Array.length_toList]; exact cnt)
end
/-- the set of texts at a -/
def OsO (P : Program) (w : World) (a : Addr) (S : Str → Bool) : HO := .ext fun h => ∃ n, OSet (PySem.strKind P w) h a S n
section
variable {X : Cx}
theorem osO_new {P : Program} {w : World} {H : Hp} {h : Heap} {a : Addr} {S : Str → Bool} {n : Nat} (R : OSet (PySem.strKind P w) h a S n) : ObjOk P w H h a (OsO P w a S) := by
  have ⟨ob, _, _, _, at_, _⟩ := R
  exact ⟨⟨n, R⟩, ⟨ob, at_⟩, fun h1 h2 ⟨m, p⟩ z => ⟨m, p.keep z⟩⟩
theorem osO_get {pins : List (Addr × Obj)} {σ : St} {H : Hp} {s : Shared} {a : Addr} {S : Str → Bool} (I : Inv X pins σ H s) (ha : H a = some (OsO X.prog X.w a S)) : ∃ n, OSet (PySem.strKind X.prog X.w) s.heap a S n := (I.hok a _ ha).1
/-- set() -/
def rOset0 (P : Program) (w : World) : List V → Hp → VK → Prop := fun xs H Q => xs = [] ∧ ∀ p, H p = none → Q (.ref p) (upd H p (OsO P w p fun _ => false))
theorem cr_oset0 : CallR X (.type "set") (rOset0 X.prog X.w) := by
  intro pins s σ H xs us Q I r ⟨e, q⟩
  subst e
  cases r
  refine setR_new fun _ => ⟨.ref _, upd H s.heap.objs.size (OsO X.prog X.w s.heap.objs.size fun _ => false), ?_, rfl, q _ (I.hok.fresh (Nat.le_refl _))⟩
  exact I.laid (t' := s.toks) (fun b u z => Heap.get?_push_of_some _ z) (Nat.le_refl _) (osO_new (oset_fresh (PySem.strKind X.prog X.w) (led_bare X.w) (Heap.get?_push_size _ rfl)))
/-- set(xs), xs a list of texts -/
def rOsetL (K : PySem.W.Frag) (P : Program) (w : World) : List V → Hp → VK → Prop := fun xs H Q => ∃ (l : Addr) (ks : List Str), xs = [V.ref l] ∧ SqL K H l (ks.map V.str) ∧ ks.length < 1000 ∧ ∀ p, H p = none → Q (.ref p) (upd H p (OsO P w p fun k => decide (k ∈ ks)))
theorem cr_osetL (hc : X.calm = true) : CallR X (.type "set") (rOsetL X.K X.prog X.w) := by
  intro pins s σ H xs us Q I r ⟨l, ks, e, hl, few, q⟩
  subst e
  rw [Vals.ref1 r]
  obtain ⟨its, rv, pl, hz⟩ := I.list hl
  have all := rv.strs
  have hlen : its.length = ks.length := by rw [← rv.length, List.length_map]
  refine call_oset (knd := PySem.strKind X.prog X.w) (ks := ks) (I.ok.hd hc) pl.isList (by rw [List.size_toArray]; exact hlen) few (fun i v hv => ?_) fun hp tk n le R old => ?_
  · rw [List.getElem?_toArray] at hv
    have hi : i < its.length := (List.getElem?_eq_some_iff.mp hv).1
    obtain ⟨t, e⟩ := SS.strs_at all i v hv
    have hk : ks[i]? = some ks[i] := List.getElem?_eq_getElem (by omega)
    refine ⟨_, hk, ?_⟩
    rw [List.getD_eq_getElem?_getD, hk] at e
    subst e
    exact ⟨strKind_is _ _ _ _, rfl⟩
  · exact ⟨.ref s.heap.objs.size, upd H s.heap.objs.size (OsO X.prog X.w s.heap.objs.size fun k => decide (k ∈ ks)), I.laid (t' := tk) old (Nat.le_refl _) (osO_new R), rfl, q _ (I.hok.fresh (Nat.le_refl _))⟩
/-- found.add(k) -/
def rOadd (P : Program) (w : World) : V → List V → Hp → VK → Prop := fun x xs H Q => ∃ (a : Addr) (k : Str) (S : Str → Bool) (L : List Str), x = V.ref a ∧ xs = [V.str k] ∧ H a = some (OsO P w a S) ∧ (∀ j, S j = true → j ∈ L) ∧ L.length < 1000 ∧
  Q .non (upd H a (OsO P w a fun j => S j || decide (j = k)))
theorem mt_oadd : MtR X "set.add" (rOadd X.prog X.w) := by
  intro pins s σ H x xs v us Q I rx rxs ⟨a, k, S, L, e1, e2, ha, sub, few, q⟩
  subst e1; subst e2
  cases rx
  cases rxs with
  | cons ry rt =>
    cases rt
    obtain ⟨t, rfl⟩ := ry
    obtain ⟨n, R⟩ := osO_get I ha
    have := oset_count R sub
    refine oset_add (strKind_is _ _ _ _) rfl R (by unfold scanBound; omega) fun hp sb R2 => ⟨.non, upd H a (OsO X.prog X.w a fun j => S j || decide (j = k)), ?_, rfl, q⟩
    have ⟨ob, _, _, _, at_, _⟩ := R2
    exact I.write (e := a) (t' := s.toks + 1) (by rw [ha]; trivial) (.inl rfl) (fun b u hb hu => (sb.2 b hb).trans hu) ⟨ob, at_⟩ (osO_new R2)
def tOadd (P : Program) (w : World) (to : TE) (t : TA) : TE := fun σ H Q => to σ H fun x H1 => (∃ a S, x = V.ref a ∧ H1 a = some (OsO P w a S)) ∧ t σ H1 fun xs H2 => rOadd P w x xs H2 Q
variable {o e : Expr} {es : List Expr} {to : TE} {t : TA} {apos cpos : Pos}
theorem pe_oadd (ho : PE X o to) (ha : PA X (e :: es) t) (b1 : attributeBase o "add" X.env (eval o X.env) = eval o X.env := by rfl)
    (b2 : ((backTo cpos (starEach (e :: es) X.env)).all (fun x => !x.1) && (backToKw cpos (keywordEach [] X.env)).all (fun x => x.1.isSome) && decide ((e :: es).length + ([] : List Keyword).length + (if ([] : List Keyword).isEmpty then 0 else 1) < 30)) = true := by rfl)
    (b3 : (apos.endLine == cpos.line) = true := by rfl) (b4 : starEach (e :: es) X.env = (false, eval e X.env) :: starEach es X.env := by rfl) (b5 : (backTo cpos (starEach es X.env)).any (·.1) = false := by rfl) :
    PE X (.Call (.Attribute o "add" apos) (e :: es) [] cpos) (tOadd X.prog X.w to t) := by
  refine ⟨fun pins s σ H Q I h => wpAny_Call_method_late b1 b2 b3 rfl (thn (ho.run pins s σ H _ I h) fun v s1 ⟨x, H1, I1, r1, ty, q1⟩ => ?_)⟩
  obtain ⟨a, S, rfl, hka⟩ := ty
  obtain ⟨n, R⟩ := osO_get I1 hka
  cases r1
  have sp := R.plain
  refine ⟨"set", "set.add", F.plainAttrs_set, F.slot_set_add, F.type_set_add, sp.typeIs, sp.noDict, ?_⟩
  have hA := ha.run cpos pins s1 σ H1 _ I1 q1
  rw [b4] at hA ⊢
  exact Calls.callWith_builtin (by show (false || (backTo cpos (starEach es X.env)).any (·.1)) = false; rw [b5] <;> rfl) (Calls.evalArgs_plain (thn hA fun us s2 ⟨vs, H2, I2, r2, q2⟩ => mt_oadd pins s2 σ H2 (.ref a) vs (.ref a) us Q I2 rfl r2 q2))
/-- sorted(found) -/
def rOsorted (P : Program) (w : World) : List V → Hp → VK → Prop := fun xs H Q => ∃ (a : Addr) (S : Str → Bool) (L : List Str), xs = [V.ref a] ∧ H a = some (OsO P w a S) ∧ (∀ j, S j = true → j ∈ L) ∧ L.length < 64 ∧
  ∀ (ss : List Str) (p : Addr), sortedS ss = true → ss.Nodup → (∀ k, k ∈ ss ↔ S k = true) → H p = none → Q (.ref p) (upd H p (.lst (ss.map V.str)))
theorem cr_osorted (hc : X.calm = true) : CallR X (.builtin "sorted") (rOsorted X.prog X.w) := by
  intro pins s σ H xs us Q I r ⟨a, S, L, e, ha, sub, few, q⟩
  subst e
  rw [Vals.ref1 r]
  obtain ⟨n, R⟩ := osO_get I ha
  have cn := oset_count R sub
  refine oset_sorted R (I.ok.hd hc) (by omega) fun s' p out c ss old gens os above at_ txs sor nd me len => ?_
  have fresh : H p = none := I.hok.fresh above
  have size : (ss.map V.str).length ≤ sizeLine := by rw [List.length_map, len, sizeLine_eq]; omega
  have J : Inv X pins σ (upd H p (.lst (ss.map V.str))) { s with heap := s'.heap, gens := s'.gens, drawn := s'.drawn, toks := s'.toks } :=
    I.call (ch := []) (Un.laid old above fresh) (I.hok.laid old above ⟨size, out.toList, c, vals_of_strs txs, at_⟩) (by rw [gens]; exact I.bare) fun _ z => nomatch z
  have same : s' = { s with heap := s'.heap, gens := s'.gens, drawn := s'.drawn, toks := s'.toks } := by cases s'; cases s; cases os; rfl
  rw [same]
  exact ⟨.ref p, _, J, rfl, q ss p sor nd me fresh⟩
end
end M
end

section
set_option Elab.async false
set_option linter.all false
set_option maxRecDepth 100000
/-! letters, depths and turned questions by the law's own words -/
namespace M
open PySem L2 Evl
open PyProof.Rows hiding St
/-- the letter of a part, as a text -/
def Qn.own : Qn → List Str
  | .some _ c _ => [⟨#[c]⟩]
  | _ => []
/-- all letters of a question, in the sequence of its parts -/
def Qn.lets : Qn → List Str
  | .any => []
  | .no q => q.lets
  | .both a b => a.lets ++ b.lets
  | .some a c b => ⟨#[c]⟩ :: (a.lets ++ b.lets)
theorem Qn.lets_all : ∀ q : Qn, q.all.flatMap Qn.own = q.lets
  | .any => rfl
  | .no q => by rw [Qn.all, List.flatMap_cons, Qn.lets_all q]; rfl
  | .both a b => by rw [Qn.all, List.flatMap_cons, List.flatMap_append, Qn.lets_all a, Qn.lets_all b]; rfl
  | .some a c b => by rw [Qn.all, List.flatMap_cons, List.flatMap_append, Qn.lets_all a, Qn.lets_all b]; rfl
theorem Qn.lets_parts : ∀ q : Qn, q.lets.length ≤ q.parts
  | .any => Nat.zero_le _
  | .no q => by have := q.lets_parts; simp [Qn.lets, Qn.parts]; omega
  | .both a b => by have := a.lets_parts; have := b.lets_parts; simp [Qn.lets, Qn.parts]; omega
  | .some a c b => by have := a.lets_parts; have := b.lets_parts; simp [Qn.lets, Qn.parts]; omega
theorem Qn.turn_lets : ∀ (q : Qn) (z : Str), z ∈ q.turn.lets ↔ z ∈ q.lets
  | .any, z => Iff.rfl
  | .no q, z => q.turn_lets z
  | .both a b, z => by simp [Qn.turn, Qn.lets, a.turn_lets z, b.turn_lets z]
  | .some a c b, z => by simp [Qn.turn, Qn.lets, a.turn_lets z, b.turn_lets z, or_comm]
/-- the letters from a to z -/
def abc : List Str := (List.range 26).map fun i => ⟨#[97 + i]⟩
theorem mem_abc {c : Nat} (h : 97 ≤ c ∧ c ≤ 122) : (⟨#[c]⟩ : Str) ∈ abc := List.mem_map.mpr ⟨c - 97, List.mem_range.mpr (by omega), by rw [show 97 + (c - 97) = c by omega]⟩
theorem Qn.lets_abc : ∀ {q : Qn}, q.Ok → ∀ z ∈ q.lets, z ∈ abc
  | .any, _, z, hz => by cases hz
  | .no q, h, z, hz => Qn.lets_abc (q := q) h z hz
  | .both a b, h, z, hz => by
    rcases List.mem_append.mp hz with y | y
    · exact Qn.lets_abc h.1 z y
    · exact Qn.lets_abc h.2 z y
  | .some a c b, h, z, hz => by
    rcases List.mem_cons.mp hz with y | y
    · rw [y]; exact mem_abc h.2.1
    · rcases List.mem_append.mp y with y | y
      · exact Qn.lets_abc h.1 z y
      · exact Qn.lets_abc h.2.2 z y
/-- the sorted list of the texts of a list without repeats -/
def Srt (ss : List Str) (l : List Str) : Prop := sortedS ss = true ∧ ss.Nodup ∧ ∀ k, k ∈ ss ↔ k ∈ l
def sp_letters_in (K : PySem.W.Frag) : Sp := fun vs H Q _ => ∃ (H0 : Hp) (v : V) (q : Qn), vs = [v] ∧ Ex H0 H ∧ Dp K H0 v q.d ∧ q.Ok ∧ q.parts ≤ 900 ∧
  ∀ (ss : List Str) (p : Addr) (H' : Hp), Srt ss q.lets → Ex H H' → H p = none → H' p = some (.lst (ss.map V.str)) → Q (.ref p) H'
end M
namespace M
open PySem L2 Evl
open PyProof.Rows hiding St
theorem Qn.hi_kids {q r : Qn} (h : r ∈ q.kids) : r.hi < q.hi := by
  cases q with
  | any => cases h
  | no a => simp [Qn.kids] at h; subst h; simp [Qn.hi]
  | both a b => simp [Qn.kids] at h; rcases h with rfl | rfl <;> simp [Qn.hi] <;> omega
  | some a c b => simp [Qn.kids] at h; rcases h with rfl | rfl <;> simp [Qn.hi] <;> omega
theorem Qn.hi_pos : ∀ q : Qn, 1 ≤ q.hi := fun q => by cases q <;> simp [Qn.hi]
/-- the law's own depth, to a height -/
def sp_deep (K : PySem.W.Frag) (n : Nat) : Sp := fun vs H Q _ => ∃ (H0 : Hp) (v : V) (q : Qn), vs = [v] ∧ Ex H0 H ∧ Da K H0 v q.d ∧ q.hi ≤ n ∧ ∀ H' : Hp, Ex H H' → Q (.int (q.deep : Nat)) H'
/-- the depth of a question of another kind than "some" -/
theorem Qn.deep_max {q : Qn} {m : Int} (hn : q.up = 0) (h1 : m ∈ (0 : Int) :: q.kids.map fun r => ((r.deep : Nat) : Int)) (h2 : ∀ y ∈ (0 : Int) :: q.kids.map fun r => ((r.deep : Nat) : Int), y ≤ m) : m = ((q.deep : Nat) : Int) := by
  cases q with
  | any => simp [Qn.kids] at h1; simp [h1, Qn.deep]
  | no a =>
    simp only [Qn.kids, List.map_cons, List.map_nil, List.mem_cons, List.not_mem_nil, or_false, forall_eq_or_imp, forall_eq] at h1 h2
    simp only [Qn.deep]
    omega
  | both a b =>
    simp only [Qn.kids, List.map_cons, List.map_nil, List.mem_cons, List.not_mem_nil, or_false, forall_eq_or_imp, forall_eq] at h1 h2
    simp only [Qn.deep]
    omega
  | some a c b => simp [Qn.up] at hn
end M
namespace M
open PySem L2 Evl
open PyProof.Rows hiding St
theorem Qn.up_cases : ∀ q : Qn, (∃ r c u, q = .some r c u) ∨ q.up = 0
  | .any => .inr rfl
  | .no _ => .inr rfl
  | .both _ _ => .inr rfl
  | .some r c u => .inl ⟨r, c, u, rfl⟩
theorem da_kids {K : PySem.W.Frag} {H : Hp} {v : V} {q : Qn} (h : Da K H v q.d) (hn : q.up = 0) : ∃ a ws, v = .ref a ∧ SqT K H a (.str q.word :: ws) ∧ Qs K H ws q.kids := by
  cases q with
  | any => obtain ⟨a, e, s⟩ := da_any h; exact ⟨a, _, e, s, .nil⟩
  | no r => obtain ⟨a, x, e, s, hx⟩ := da_no h; exact ⟨a, _, e, s, .cons hx .nil⟩
  | both r t => obtain ⟨a, x, y, e, s, hx, hy⟩ := da_both h; exact ⟨a, _, e, s, .cons hx (.cons hy .nil)⟩
  | some r c t => cases hn
theorem Qn.kids_few (q : Qn) : q.kids.length ≤ 2 := by cases q <;> simp [Qn.kids]
end M
namespace M
open PySem L2 Evl
open PyProof.Rows hiding St
def sp_about (K : PySem.W.Frag) (n : Nat) : Sp := fun vs H Q _ => ∃ (H0 : Hp) (v : V) (q : Qn), vs = [v] ∧ Ex H0 H ∧ Da K H0 v q.d ∧ q.hi ≤ n ∧
  ∀ (v' : V) (H1 H' : Hp), Ex H0 H1 → Ex H1 H' → Ex H H' → (∀ b, H b ≠ none → H0 b = none → H1 b = none) → Da K H1 v' q.turn.d → Q v' H'
theorem Ex.nn {H H' : Hp} (x : Ex H H') {b : Addr} (h : H b ≠ none) : H' b ≠ none := by
  cases e : H b with
  | none => exact absurd e h
  | some o => rw [x _ _ e]; exact fun z => nomatch z
theorem Qn.turn_d {q : Qn} (hn : q.up = 0) : q.turn.d = .tuple (.str q.word :: (q.kids.map Qn.turn).map Qn.d) := by
  cases q with
  | some a c b => cases hn
  | _ => rfl
end M
namespace M
open PySem L2 Evl
open PyProof.Rows hiding St
/-- what stands behind the word of a question: questions and a letter -/
def Qn.ext : Qn → List (Sum Qn Str)
  | .any => []
  | .no a => [.inl a]
  | .both a b => [.inl a, .inl b]
  | .some a c b => [.inl a, .inr ⟨#[c]⟩, .inl b]
def xd : Sum Qn Str → PyData
  | .inl q => q.d
  | .inr z => .str z
def xl : Sum Qn Str → List Str
  | .inl q => q.lets
  | .inr _ => []
theorem Qn.lets_ext (q : Qn) : q.lets = q.own ++ q.ext.flatMap xl := by cases q <;> simp [Qn.lets, Qn.own, Qn.ext, xl]
theorem Qn.ext_hi {q r : Qn} (h : Sum.inl r ∈ q.ext) : r.hi < q.hi ∧ r.lets.length ≤ q.parts := by
  have hp := r.lets_parts
  cases q with
  | any => cases h
  | no a =>
    simp [Qn.ext] at h
    subst h
    simp [Qn.hi, Qn.parts]
    omega
  | both a b =>
    simp [Qn.ext] at h
    rcases h with rfl | rfl <;> simp [Qn.hi, Qn.parts] <;> omega
  | some a c b =>
    simp [Qn.ext] at h
    rcases h with rfl | rfl <;> simp [Qn.hi, Qn.parts] <;> omega
theorem Qn.ext_few (q : Qn) : q.ext.length ≤ 3 := by cases q <;> simp [Qn.ext]
theorem da_ext {K : PySem.W.Frag} {H : Hp} {v : V} {q : Qn} (h : Da K H v q.d) : ∃ a ws, v = .ref a ∧ SqT K H a (.str q.word :: ws) ∧ Das K H ws (q.ext.map xd) ∧ (∀ r c u, q = .some r c u → ws[1]? = some (.str ⟨#[c]⟩)) := by
  cases q with
  | any => obtain ⟨a, e, s⟩ := da_any h; exact ⟨a, _, e, s, .nil, fun r c u z => nomatch z⟩
  | no r => obtain ⟨a, x, e, s, hx⟩ := da_no h; exact ⟨a, _, e, s, .cons hx .nil, fun r c u z => nomatch z⟩
  | both r t => obtain ⟨a, x, y, e, s, hx, hy⟩ := da_both h; exact ⟨a, _, e, s, .cons hx (.cons hy .nil), fun r c u z => nomatch z⟩
  | some r c t =>
    obtain ⟨a, x, y, e, s, hx, hy⟩ := da_some h
    exact ⟨a, _, e, s, .cons hx (.cons (.str _) (.cons hy .nil)), fun r' c' u z => by cases z; rfl⟩
def sp_letters (K : PySem.W.Frag) (n : Nat) : Sp := fun vs H Q _ => ∃ (H0 : Hp) (v : V) (q : Qn), vs = [v] ∧ Ex H0 H ∧ Da K H0 v q.d ∧ q.hi ≤ n ∧ q.parts ≤ 900 ∧
  ∀ (l : Addr) (H' : Hp), Ex H H' → H l = none → H' l = some (.lst (q.lets.map V.str)) → Q (.ref l) H'
theorem isTup_q (q : Qn) : tupB q.d = true := by cases q <;> rfl
theorem Qn.ext_parts {q r : Qn} (h : Sum.inl r ∈ q.ext) : r.parts ≤ q.parts := by
  cases q with
  | any => cases h
  | no a => simp [Qn.ext] at h; subst h; simp [Qn.parts]
  | both a b => simp [Qn.ext] at h; rcases h with rfl | rfl <;> simp [Qn.parts] <;> omega
  | some a c b => simp [Qn.ext] at h; rcases h with rfl | rfl <;> simp [Qn.parts] <;> omega
end M
end

section
set_option Elab.async false
set_option linter.all false
set_option maxRecDepth 100000
/-! questions and lists of letters as data that is compared and shown -/
namespace M
open PySem L2 Evl
open PyProof.Rows hiding St
theorem dp_q2 {K : PySem.W.Frag} {H : Hp} : ∀ {q : Qn} {v : V}, Da K H v q.d → Dp K H v q.d
  | .any, _, h => by
    obtain ⟨a, rfl, s⟩ := da_any h
    exact .tup s (.cons (.str _) .nil)
  | .no q, _, h => by
    obtain ⟨a, x, rfl, s, hx⟩ := da_no h
    exact .tup s (.cons (.str _) (.cons (dp_q2 hx) .nil))
  | .both q r, _, h => by
    obtain ⟨a, x, y, rfl, s, hx, hy⟩ := da_both h
    exact .tup s (.cons (.str _) (.cons (dp_q2 hx) (.cons (dp_q2 hy) .nil)))
  | .some q c r, _, h => by
    obtain ⟨a, x, y, rfl, s, hx, hy⟩ := da_some h
    exact .tup s (.cons (.str _) (.cons (dp_q2 hx) (.cons (.str _) (.cons (dp_q2 hy) .nil))))
theorem Qn.lay : ∀ {q : Qn}, q.Ok → q.d.canLay0 = true
  | .any, _ => by decide +kernel
  | .no q, h => by
    have := Qn.lay (q := q) h
    simp only [Qn.d, PyData.canLay0, PyData.canLayAll0, this]
    decide +kernel
  | .both a b, h => by
    have h1 := Qn.lay h.1
    have h2 := Qn.lay h.2
    simp only [Qn.d, PyData.canLay0, PyData.canLayAll0, h1, h2]
    decide +kernel
  | .some a c b, h => by
    have h1 := Qn.lay h.1
    have h2 := Qn.lay h.2.2
    have h3 : PyData.strOk ⟨#[c]⟩ = true := by
      have := h.2.1.2
      show (#[c].all fun x => decide (x < 0x110000)) = true
      simp
      omega
    simp only [Qn.d, PyData.canLay0, PyData.canLayAll0, h1, h2, h3]
    decide +kernel
theorem Qn.high : ∀ q : Qn, q.d.depth = q.hi
  | .any => by simp [Qn.d, PyData.depth, PyData.depthAll, Qn.hi]
  | .no q => by simp [Qn.d, PyData.depth, PyData.depthAll, Qn.hi, Qn.high q]
  | .both a b => by simp [Qn.d, PyData.depth, PyData.depthAll, Qn.hi, Qn.high a, Qn.high b]
  | .some a c b => by simp [Qn.d, PyData.depth, PyData.depthAll, Qn.hi, Qn.high a, Qn.high b]
theorem Qn.turn_hi : ∀ q : Qn, q.turn.hi = q.hi
  | .any => rfl
  | .no q => by simp [Qn.turn, Qn.hi, Qn.turn_hi q]
  | .both a b => by simp [Qn.turn, Qn.hi, Qn.turn_hi a, Qn.turn_hi b]
  | .some a c b => by simp [Qn.turn, Qn.hi, Qn.turn_hi a, Qn.turn_hi b, Nat.max_comm]
theorem Qn.shp {q : Qn} (h : q.Ok) (h2 : q.hi ≤ 64) : SeqAt.shaped q.d = true := by
  unfold SeqAt.shaped
  rw [Qn.lay h, Qn.high]
  simpa using h2
theorem Qn.same {q : Qn} (h : q.Ok) : PyData.eqv q.d q.d = true := SeqAt.eqv_refl _ (Qn.lay h)
/-! ### sorted lists without repeats are determined by their members -/
theorem rising_pair : ∀ (p : Str) (l : List Str), risingS p l = true → l.Nodup → p ∉ l → ∀ x ∈ l, p.cps.toList < x.cps.toList := by
  intro p l
  induction l generalizing p with
  | nil => intro _ _ _ x hx; cases hx
  | cons y l ih =>
    intro h nd np x hx
    have h' : (!Spec.ltCps y.cps.toList p.cps.toList && risingS y l) = true := h
    rw [Bool.and_eq_true, ltCps_eq] at h'
    obtain ⟨n1, n2⟩ := List.nodup_cons.mp nd
    have le : ¬ y.cps.toList < p.cps.toList := by simpa using h'.1
    have ne : p ≠ y := fun z => np (z ▸ List.mem_cons_self)
    have lt : p.cps.toList < y.cps.toList := by
      rcases Std.lt_trichotomy p.cps.toList y.cps.toList with z | z | z
      · exact z
      · exact absurd (by cases p; cases y; congr; exact Array.toList_inj.mp z) ne
      · exact absurd z le
    rcases List.mem_cons.mp hx with rfl | z
    · exact lt
    · exact List.lt_trans lt (ih y h'.2 n2 n1 x z)
theorem srt_head {p : Str} {l : List Str} (h : sortedS (p :: l) = true) (nd : (p :: l).Nodup) : sortedS l = true ∧ l.Nodup ∧ p ∉ l ∧ ∀ x ∈ l, p.cps.toList < x.cps.toList := by
  obtain ⟨n1, n2⟩ := List.nodup_cons.mp nd
  refine ⟨?_, n2, n1, rising_pair p l h n2 n1⟩
  cases l with
  | nil => rfl
  | cons y l =>
    have h' : (!Spec.ltCps y.cps.toList p.cps.toList && risingS y l) = true := h
    rw [Bool.and_eq_true] at h'
    exact h'.2
theorem srt_one : ∀ (a b : List Str), sortedS a = true → a.Nodup → sortedS b = true → b.Nodup → (∀ x, x ∈ a ↔ x ∈ b) → a = b
  | [], [], _, _, _, _, _ => rfl
  | [], y :: b, _, _, _, _, h => absurd ((h y).mpr List.mem_cons_self) (fun z => by cases z)
  | x :: a, [], _, _, _, _, h => absurd ((h x).mp List.mem_cons_self) (fun z => by cases z)
  | x :: a, y :: b, s1, n1, s2, n2, h => by
    obtain ⟨p1, p2, p3, p4⟩ := srt_head s1 n1
    obtain ⟨q1, q2, q3, q4⟩ := srt_head s2 n2
    have e : x = y := by
      rcases List.mem_cons.mp ((h x).mp List.mem_cons_self) with z | z
      · exact z
      · rcases List.mem_cons.mp ((h y).mpr List.mem_cons_self) with z2 | z2
        · exact z2.symm
        · exact absurd (List.lt_trans (q4 x z) (p4 y z2)) (List.lt_irrefl _)
    subst e
    rw [srt_one a b p1 p2 q1 q2 fun u => ?_]
    constructor
    · intro hu
      rcases List.mem_cons.mp ((h u).mp (List.mem_cons_of_mem _ hu)) with z | z
      · exact absurd (z ▸ hu) p3
      · exact z
    · intro hu
      rcases List.mem_cons.mp ((h u).mpr (List.mem_cons_of_mem _ hu)) with z | z
      · exact absurd (z ▸ hu) q3
      · exact z
theorem Srt.one {a b l m : List Str} (h1 : Srt a l) (h2 : Srt b m) (e : ∀ z, z ∈ l ↔ z ∈ m) : a = b := srt_one a b h1.1 h1.2.1 h2.1 h2.2.1 fun x => by rw [h1.2.2, h2.2.2, e]
theorem Srt.few {a l : List Str} (h : Srt a l) (s : ∀ z ∈ l, z ∈ abc) : a.length ≤ 26 := nodup_le a abc h.2.1 fun x hx => s x ((h.2.2 x).mp hx)
end M
namespace M
open PySem L2 Evl
open PyProof.Rows hiding St
def sp_fits : Sp := fun vs H Q _ => ∃ (H0 : Hp) (p : Addr) (m : Nat), vs = [.ref p] ∧ Pl H0 H p m ∧ m + 600 ≤ 2 ^ 20 ∧ ∀ H' : Hp, Pl H0 H' p (m + 600) → Q (.bl true) H'
theorem names4 {k : Int} (h0 : 0 ≤ k) (h4 : k < 4) : ∃ z : Str, atI [V.str "ab", V.str "a", V.str "abcdefghijklmnopqrstuvwxyz", V.str "xqz"] k = some (.str z) ∧ Names z := by
  have n1 : Names "ab" := ⟨by unfold Abc; decide +kernel, by decide +kernel, by decide +kernel⟩
  have n2 : Names "a" := ⟨by unfold Abc; decide +kernel, by decide +kernel, by decide +kernel⟩
  have n3 : Names "abcdefghijklmnopqrstuvwxyz" := ⟨by unfold Abc; decide +kernel, by decide +kernel, by decide +kernel⟩
  have n4 : Names "xqz" := ⟨by unfold Abc; decide +kernel, by decide +kernel, by decide +kernel⟩
  rcases (by omega : k = 0 ∨ k = 1 ∨ k = 2 ∨ k = 3) with rfl | rfl | rfl | rfl
  · exact ⟨_, rfl, n1⟩
  · exact ⟨_, rfl, n2⟩
  · exact ⟨_, rfl, n3⟩
  · exact ⟨_, rfl, n4⟩
end M
namespace M
open PySem L2 Evl
open PyProof.Rows hiding St
/-- data that repr shows -/
def Shw (d : PyData) : Prop := d.showable = true ∧ d.hasDict = false ∧ d.depth ≤ 50 ∧ d.shown.length ≤ sizeLine
def dd (n : Nat) : PyData := .list [.int n, .int n]
theorem shw_dd {n : Nat} (h : n ≤ 6) : Shw (dd n) := by
  rcases (by omega : n = 0 ∨ n = 1 ∨ n = 2 ∨ n = 3 ∨ n = 4 ∨ n = 5 ∨ n = 6) with rfl | rfl | rfl | rfl | rfl | rfl | rfl <;> exact ⟨by decide +kernel, by decide +kernel, by decide +kernel, by decide +kernel⟩
def dl (ss : List Str) : PyData := .list (ss.map PyData.str)
theorem dps (K : PySem.W.Frag) (H : Hp) : ∀ ss : List Str, DpAll K H (ss.map V.str) (ss.map PyData.str)
  | [] => .nil
  | s :: ss => .cons (.str s) (dps K H ss)
theorem dp_l {K : PySem.W.Frag} {H : Hp} {a : Addr} {ss : List Str} (h : H a = some (.lst (ss.map V.str))) : Dp K H (.ref a) (dl ss) := .lst (SqL.of h) (dps K H ss)
/-- short texts -/
def Sh (ss : List Str) : Prop := ss.length ≤ 26 ∧ ∀ z ∈ ss, ∃ c, z = ⟨#[c]⟩ ∧ 97 ≤ c ∧ c ≤ 122
theorem abc_sh {z : Str} (h : z ∈ abc) : ∃ c, z = ⟨#[c]⟩ ∧ 97 ≤ c ∧ c ≤ 122 := by
  obtain ⟨i, hi, rfl⟩ := List.mem_map.mp h
  have := List.mem_range.mp hi
  exact ⟨97 + i, rfl, by omega, by omega⟩
theorem Srt.sh {a l : List Str} (h : Srt a l) (s : ∀ z ∈ l, z ∈ abc) : Sh a := ⟨h.few s, fun z hz => abc_sh (s z ((h.2.2 z).mp hz))⟩
theorem sh_lay : ∀ {ss : List Str}, (∀ z ∈ ss, ∃ c, z = ⟨#[c]⟩ ∧ 97 ≤ c ∧ c ≤ 122) → PyData.canLayAll0 (ss.map PyData.str) = true ∧ PyData.depthAll (ss.map PyData.str) = 0 ∧ PyData.showableAll (ss.map PyData.str) = true ∧ PyData.hasDictAll (ss.map PyData.str) = false ∧
    PyData.leavesShortAll 8 (ss.map PyData.str) = true ∧ PyData.bulkAll (ss.map PyData.str) = 2 * ss.length
  | [], _ => ⟨rfl, rfl, rfl, rfl, rfl, rfl⟩
  | z :: ss, h => by
    obtain ⟨c, rfl, h1, h2⟩ := h z List.mem_cons_self
    obtain ⟨a1, a2, a3, a4, a5, a6⟩ := sh_lay fun y hy => h y (List.mem_cons_of_mem _ hy)
    have b1 : PyData.strOk ⟨#[c]⟩ = true := by
      show (#[c].all fun x => decide (x < 0x110000)) = true
      simp
      omega
    have b2 : PyData.leavesShort 8 (.str ⟨#[c]⟩) = true := by
      show ([c].all fun c => decide (c < 16 ^ 8)) = true
      simp
      omega
    refine ⟨?_, ?_, ?_, ?_, ?_, ?_⟩
    · simp only [List.map_cons, PyData.canLayAll0, PyData.canLay0, b1, a1]; rfl
    · simp only [List.map_cons, PyData.depthAll, PyData.depth, a2]; rfl
    · simp only [List.map_cons, PyData.showableAll, PyData.showable, a3]; rfl
    · simp only [List.map_cons, PyData.hasDictAll, PyData.hasDict, a4]; rfl
    · simp only [List.map_cons, PyData.leavesShortAll, b2, a5]; rfl
    · simp only [List.map_cons, PyData.bulkAll, PyData.bulk, a6, List.length_cons]
      simp
      omega
theorem sh_shp {ss : List Str} (h : Sh ss) : SeqAt.shaped (dl ss) = true ∧ PyData.eqv (dl ss) (dl ss) = true := by
  obtain ⟨a1, a2, _⟩ := sh_lay h.2
  have lay : (dl ss).canLay0 = true := by show PyData.canLay0 (.list _) = true; rw [PyData.canLay0]; exact a1
  refine ⟨?_, SeqAt.eqv_refl _ lay⟩
  unfold SeqAt.shaped
  rw [lay]
  show (true && decide (PyData.depth (.list _) ≤ 64)) = true
  rw [PyData.depth, a2]
  decide
theorem shw_ll {ss : List Str} (h : Sh ss) : Shw (.list [dl ss, dl ss]) := by
  obtain ⟨a1, a2, a3, a4, a5, a6⟩ := sh_lay h.2
  have few := h.1
  refine ⟨?_, ?_, ?_, ?_⟩
  · simp only [PyData.showable, PyData.showableAll, dl, a3]; rfl
  · simp only [PyData.hasDict, PyData.hasDictAll, dl, a4]; rfl
  · simp only [PyData.depth, PyData.depthAll, dl, a2]; decide
  · refine PyData.shown_fits_bulk (B := 8) (by decide) (by decide) ?_ ?_
    · simp only [PyData.leavesShort, PyData.leavesShortAll, dl, a5]; rfl
    · simp only [PyData.bulk, PyData.bulkAll, dl, a6]
      omega
end M
namespace M
open PySem L2 Evl
open PyProof.Rows hiding St
def sp_law (K : PySem.W.Frag) : Sp := fun vs H Q _ => ∃ (a : Addr) (ns : List Int), vs = [.ref a] ∧ SqL K H a (ns.map V.int) ∧ ns.length ≤ 63 ∧ ∀ H' : Hp, Q (.bl true) H'
end M
namespace M
open PySem L2 Evl
open PyProof.Rows hiding St
def entI (e : DictEntry) : Option (Str × Int) := match e.key, e.val with
  | .str x _, .int i _ => some (x, i)
  | _, _ => none
theorem kints_of {K : PySem.W.Frag} {w : World} {a : Addr} {es : Array DictEntry} {n : Nat} {kvs : List (Str × Int)} (l : K.lookup a = some ⟨.type "dict", none, .dict es n, #[]⟩) (hk : PySem.W.KeysLit w.params es.toList) (lo : (a == sysModules) = false)
    (hf : es.toList.map entI = kvs.map some) : KInts K w a (fun z => kvs.lookup z) := by
  refine ⟨es, n, ⟨l, hk, lo⟩, fun z => ?_⟩
  have e : PySem.W.nsIn K a z = (match es.toList.find? (·.key.isStr z) with
      | some e => some (some e.val)
      | none => if es.toList.any (·.refKey) then none else some none) := by
    unfold PySem.W.nsIn
    rw [l]
    rfl
  rw [e]
  clear e l hk
  generalize es.toList = L at *
  have key : ∀ (L : List DictEntry) (kvs : List (Str × Int)), L.map entI = kvs.map some → (L.any (·.refKey) = false) ∧ ((∃ i t e, kvs.lookup z = some i ∧ L.find? (·.key.isStr z) = some e ∧ e.val = .int i t) ∨ (kvs.lookup z = none ∧ L.find? (·.key.isStr z) = none)) := by
    intro L
    induction L with
    | nil =>
      intro kvs h
      cases kvs with
      | nil => exact ⟨rfl, .inr ⟨rfl, rfl⟩⟩
      | cons q r => cases h
    | cons en L ih =>
      intro kvs h
      cases kvs with
      | nil => cases h
      | cons q r =>
        rw [List.map_cons, List.map_cons] at h
        injection h with h1 h2
        obtain ⟨i1, i2⟩ := ih r h2
        unfold entI at h1
        split at h1
        · rename_i x t i u ek ev
          cases h1
          refine ⟨?_, ?_⟩
          · rw [List.any_cons, i1]
            simp [DictEntry.refKey, ek]
          · by_cases hz : x = z
            · subst hz
              refine .inl ⟨i, u, en, ?_, ?_, ev⟩
              · simp [List.lookup]
              · rw [List.find?_cons_of_pos]
                simp [ek, Value.isStr]
            · have nz : (z == x) = false := by simpa using fun y : z = x => hz y.symm
              have hl : List.lookup z ((x, i) :: r) = List.lookup z r := by simp [List.lookup, nz]
              have hfd : List.find? (fun e => e.key.isStr z) (en :: L) = List.find? (fun e => e.key.isStr z) L := by
                rw [List.find?_cons_of_neg]
                simp [ek, Value.isStr, hz]
              rw [hl, hfd]
              exact i2
        · cases h1
  obtain ⟨k1, k2⟩ := key L kvs hf
  rcases k2 with ⟨i, t, e, h1, h2, h3⟩ | ⟨h1, h2⟩
  · refine .inl ⟨i, t, h1, ?_⟩
    rw [h2, ← h3]
  · refine .inr ⟨h1, ?_⟩
    rw [h2, k1]
    rfl
end M
namespace M
open PySem L2 Evl
open PyProof.Rows hiding St
theorem kb_one {K : PySem.W.Frag} {fd : FuncData} {x : Str} (hb : ∀ (s : Shared) (u : Value), BindsTo s fd ⟨[], [(x, u)]⟩ [(x, u)]) :
    KBinds K fd [x] [x] (fun us ws => match us, ws with | [], [w0] => [w0] | _, _ => []) (fun us ws => match us, ws with | [], [w0] => [w0] | _, _ => []) := by
  refine ⟨fun s us ws _ hl => ?_, fun {vs us zs ws} r1 r2 => ?_⟩
  · rcases us with _ | ⟨u, us⟩
    · rcases ws with _ | ⟨w0, _ | ⟨w1, ws⟩⟩
      · exact nomatch hl
      · exact hb s w0
      · exact nomatch hl
    · exact nomatch hl
  · cases r1 with
    | nil =>
      cases r2 with
      | nil => exact .nil
      | cons a b =>
        cases b with
        | nil => exact .cons a .nil
        | cons c d => exact .nil
    | cons a b => exact .nil
end M
end

section
set_option Elab.async false
set_option linter.all false
set_option maxRecDepth 100000
/-! any value: shown, not among texts; what k11's judge needs -/
namespace M
open PySem L2 Evl
open PyProof.Rows hiding St
mutual
/-- no list in it -/
def lf : PyData → Bool
  | .list _ => false
  | .tuple ds => lfs ds
  | _ => true
def lfs : List PyData → Bool
  | [] => true
  | d :: ds => lf d && lfs ds
end
section
variable {X : Cx} {pins : List (Addr × Obj)} {σ : L2.St} {H : Hp} {s : Shared}
mutual
theorem Da.reads (I : Inv X pins σ H s) : ∀ (d : PyData) (v : V) (u : Value), Da X.K H v d → RelV v u → ∃ as, Reads s.heap u d as ∧ (lf d = true → sysModules ∉ as)
  | .none, _, _, h, r => by
    cases h
    cases r
    exact ⟨_, Reads.none, by simp⟩
  | .bool b, _, _, h, r => by
    cases h
    cases r
    exact ⟨_, Reads.bool b, by simp⟩
  | .int i, _, _, h, r => by
    cases h
    obtain ⟨t, rfl⟩ := r
    exact ⟨_, Reads.int i t, by simp⟩
  | .str x, _, _, h, r => by
    cases h
    obtain ⟨t, rfl⟩ := r
    exact ⟨_, Reads.str x t, by simp⟩
  | .list ds, _, _, h, r => by
    cases h with
    | lst hs ha =>
      cases r
      obtain ⟨its, rv, ⟨o, n, ho, hc, _, hd⟩, _⟩ := I.list hs
      obtain ⟨as, hr, hm⟩ := Da.readsAll I ds _ its ha rv
      exact ⟨_, Reads.list ho hc hd hr, fun z => nomatch z⟩
  | .tuple ds, _, _, h, r => by
    cases h with
    | tup hs ha =>
      cases r
      obtain ⟨its, rv, ⟨o, ho, hc, n, hd⟩, _⟩ := I.tuple hs
      obtain ⟨as, hr, hm⟩ := Da.readsAll I ds _ its ha rv
      exact ⟨_, Reads.tuple ho hc hd hr, hm⟩
  | .dict kvs, _, _, h, r => by
    cases h with
    | dct ha =>
      cases r
      rename_i ad
      obtain ⟨_, hns, vs, rel, o, es, ep, ho, hx, hd, he1, he, he3⟩ := I.hok _ _ ha
      cases rel
      have e0 : es.toList = [] := by
        generalize es.toList = l at he
        cases he
        rfl
      refine ⟨_, Reads.dict (as := []) (bs := []) ho hx.1 hd (by rw [e0]; exact .nil) (by rw [e0]; exact .nil), fun _ z => ?_⟩
      simp at z
      rw [← z] at hns
      simp at hns
theorem Da.readsAll (I : Inv X pins σ H s) : ∀ (ds : List PyData) (vs : List V) (us : List Value), Das X.K H vs ds → Vals vs us → ∃ as, ReadsAll s.heap us ds as ∧ (lfs ds = true → sysModules ∉ as)
  | [], _, _, h, r => by
    cases h
    cases r
    exact ⟨_, ReadsAll.nil, by simp⟩
  | d :: ds, _, _, h, r => by
    cases h with
    | cons h1 h2 =>
      cases r with
      | cons r1 r2 =>
        obtain ⟨as, q1, m1⟩ := Da.reads I d _ _ h1 r1
        obtain ⟨bs, q2, m2⟩ := Da.readsAll I ds _ _ h2 r2
        exact ⟨_, ReadsAll.cons q1 q2, fun l z => by
          rw [lfs, Bool.and_eq_true] at l
          exact (List.mem_append.mp z).elim (m1 l.1) (m2 l.2)⟩
end
end
/-! ### repr of any value -/
def rReprA (K : PySem.W.Frag) : List V → Hp → VK → Prop := fun xs H Q => ∃ x d, xs = [x] ∧ Da K H x d ∧ d.showable = true ∧ d.depth ≤ 50 ∧ d.shown.length ≤ sizeLine ∧ (!d.hasDict || lf d) = true ∧ Q (.str d.shown) H
theorem call_reprA {X : Cx} (hg : X.A.guards = some []) (hu : X.A.units + 64 < cLine) : CallR X (.builtin "repr") (rReprA X.K) := by
  intro pins s σ H vs us Q I r h
  obtain ⟨x, d, rfl, hd, hs, hp, hz, hl, q⟩ := h
  obtain ⟨u, rfl, ru⟩ := vals1 r
  obtain ⟨as, rd, hm0⟩ := Da.reads I d x u hd ru
  have hm : d.hasDict = true → sysModules ∉ as := fun z => hm0 (by rw [z] at hl; exact hl)
  have fin : ∀ t, EP X pins σ Q (.str d.shown t) { s with toks := s.toks + 1 } := fun t => ⟨.str _, H, I.tok _, ⟨_, rfl⟩, q⟩
  cases rd with
  | none => exact P.repr_of_none (fin _)
  | bool b => exact P.repr_of_bool (fin _)
  | int i t => exact P.repr_of_int (by simpa [PyData.showable] using hs) (fin _)
  | str z t => exact P.repr_of_str (fin _) hz
  | list h1 h2 h3 h4 =>
    refine repr_of_reads' (.list h1 h2 h3 h4) hs hm hg (by omega) (fun _ _ e => e) (fun h' t tk k => ?_) hz
    exact ⟨.str _, H, I.kept (t' := tk) k, ⟨_, rfl⟩, q⟩
  | tuple h1 h2 h3 h4 =>
    refine repr_of_reads' (.tuple h1 h2 h3 h4) hs hm hg (by omega) (fun _ _ e => e) (fun h' t tk k => ?_) hz
    exact ⟨.str _, H, I.kept (t' := tk) k, ⟨_, rfl⟩, q⟩
  | dict h1 h2 h3 h4 h5 =>
    refine repr_of_reads' (.dict h1 h2 h3 h4 h5) hs hm hg (by omega) (fun _ _ e => e) (fun h' t tk k => ?_) hz
    exact ⟨.str _, H, I.kept (t' := tk) k, ⟨_, rfl⟩, q⟩
/-! ### x not in (texts) -/
def inT : PyData → List Str → Bool
  | .str z, zs => zs.any fun y => y == z
  | _, _ => false
def dctB : PyData → Bool
  | .dict _ => true
  | _ => false
def rNotInT (K : PySem.W.Frag) : R2 := fun x y H Q => ∃ p zs d, y = .ref p ∧ SqT K H p (zs.map V.str) ∧ Da K H x d ∧ dctB d = false ∧ Q (.bl (!inT d zs)) H
theorem flats : ∀ zs : List Str, (zs.map V.str).all flatV = true
  | [] => rfl
  | z :: zs => by rw [List.map_cons, List.all_cons, flats zs]; rfl
theorem vals_strs : ∀ {zs : List Str} {us : List Value}, Vals (zs.map V.str) us → ∀ u ∈ us, ∃ z t, u = .str z t
  | [], _, .nil, u, hu => by cases hu
  | z :: zs, _, .cons r t, u, hu => by
    rcases List.mem_cons.mp hu with rfl | hu
    · obtain ⟨t, rfl⟩ := r; exact ⟨_, _, rfl⟩
    · exact vals_strs t u hu
theorem inV_none (x : V) (h : ∀ z : Str, eqV (.str z) x = false) : ∀ zs : List Str, inV x (zs.map V.str) = false
  | [] => rfl
  | z :: zs => by
    show (eqV (.str z) x || inV x (zs.map V.str)) = false
    rw [h, inV_none x h zs]; rfl
theorem inV_str (y : Str) : ∀ zs : List Str, inV (.str y) (zs.map V.str) = zs.any fun z => z == y
  | [] => rfl
  | z :: zs => by
    show (eqV (.str z) (.str y) || inV (.str y) (zs.map V.str)) = _
    rw [inV_str y zs, List.any_cons]; rfl
theorem u1 {n : Nat} (h : n + 64 < cLine) : n + 1 < cLine := by omega
theorem op_notInT {X : Cx} (hu' : X.A.units + 64 < cLine) : OpR X (compareOp .NotIn) (rNotInT X.K) := by
  have hu : X.A.in1.units < cLine := u1 hu'
  intro pins s σ H x y v u Q I rx ry h
  obtain ⟨p, zs, d, rfl, hq, hd, hn, q⟩ := h
  have fl : flatV x = true → inV x (zs.map V.str) = inT d zs → wpAny (model X.prog X.w) X.A (compareOp .NotIn v u) (EP X pins σ Q) X.xe s := fun f e =>
    op_notIn_seq pins s σ H x _ v u Q I rx ry ⟨p, _, rfl, .inr hq, f, flats zs, by rw [e]; exact q⟩
  have sq : (∀ w ∈ s.heap.objs.toList, True) → inT d zs = false → (∀ (z : Str) (t : Tok), SeqAt.EqAt X.A.in1 s (.str z t) v false) → wpAny (model X.prog X.w) X.A (compareOp .NotIn v u) (EP X pins σ Q) X.xe s := fun _ e f => by
    cases ry
    obtain ⟨its, r, pl, hz⟩ := I.tuple hq
    refine SeqAt.notIn_tupleAt (fun _ => false) pl (fun w hw => ?_) ⟨.bl _, H, I, rfl, ?_⟩
    · obtain ⟨z, t, rfl⟩ := vals_strs r w (by simpa using hw)
      exact f z t
    · rw [show its.toArray.any (fun _ => false) = false by simp, ← e]
      exact q
  cases hd with
  | non => exact fl rfl (inV_none _ (fun _ => rfl) zs)
  | bl b => exact fl rfl (inV_none _ (fun _ => rfl) zs)
  | int i => exact fl rfl (inV_none _ (fun _ => rfl) zs)
  | str z => exact fl rfl (inV_str z zs)
  | dct a => cases hn
  | lst hs _ =>
    cases rx
    obtain ⟨its, r, pl, hz⟩ := I.list hs
    exact sq (fun _ _ => trivial) rfl fun z t => SeqAt.EqAt.str_list z t pl.isList hu
  | tup hs _ =>
    cases rx
    obtain ⟨its, r, pl, hz⟩ := I.tuple hs
    exact sq (fun _ _ => trivial) rfl fun z t => SeqAt.EqAt.str_tuple z t pl hu
end M
end

section
set_option Elab.async false
set_option linter.all false
set_option maxRecDepth 100000
/-! displays of data, walked in one step; what a value must be to be judged and shown -/
namespace M
open PySem L2 Evl
open PyProof.Rows hiding St
section
variable {X : Cx} {e : Expr} {es : List Expr} {t t' : TE} {ta ta' : TA}
theorem pe_weak (h : PE X e t) (w : ∀ σ H Q, t' σ H Q → t σ H Q) : PE X e t' := ⟨fun pins s σ H Q I q => h.run pins s σ H Q I (w σ H Q q)⟩
theorem pa_weak (h : PA X es ta) (w : ∀ σ H Q, ta' σ H Q → ta σ H Q) : PA X es ta' := ⟨fun pos pins s σ H Q I q => h.run pos pins s σ H Q I (w σ H Q q)⟩
end
/-- an expression that makes data and leaves the pool: S tells what the names hold, c what is known of them -/
def tD {γ : Type} (K : PySem.W.Frag) (S : γ → L2.St → Hp → Prop) (d : γ → PyData) : TE := fun σ H Q => ∃ (c : γ) (B : Hp) (p : Addr) (m : Nat), Pl B H p m ∧ S c σ B ∧ ∀ v B' H', Ex B B' → Pl B' H' p m → Da K B' v (d c) → Q v H'
def tDL {γ : Type} (K : PySem.W.Frag) (S : γ → L2.St → Hp → Prop) (ds : γ → List PyData) : TE := fun σ H Q => ∃ (c : γ) (B : Hp) (p : Addr) (m : Nat), Pl B H p m ∧ S c σ B ∧ ∀ a vs B' H', Ex B B' → Pl B' H' p m → B' a = some (.lst vs) → Das K B' vs (ds c) → Q (.ref a) H'
def tDs {γ : Type} (K : PySem.W.Frag) (S : γ → L2.St → Hp → Prop) (ds : γ → List PyData) : TA := fun σ H Q => ∃ (c : γ) (B : Hp) (p : Addr) (m : Nat), Pl B H p m ∧ S c σ B ∧ ∀ vs B' H', Ex B B' → Pl B' H' p m → Das K B' vs (ds c) → Q vs H'
def Up {γ : Type} (S : γ → L2.St → Hp → Prop) : Prop := ∀ c σ B B', Ex B B' → S c σ B → S c σ B'
section
variable {γ : Type} {X : Cx} {S : γ → L2.St → Hp → Prop} {d : γ → PyData} {ds : γ → List PyData} {e : Expr} {es : List Expr} {pos : Pos}
theorem pd_str {z : Str} {j} : PE X (.Constant (.str z) j pos) (tD X.K S fun _ => .str z) := pe_weak pe_str fun σ H Q ⟨c, B, p, m, hP, _, h⟩ => h _ B H (Ex.refl _) hP (.str z)
theorem pd_int {i : Int} {j} : PE X (.Constant (.int i) j pos) (tD X.K S fun _ => .int i) := pe_weak pe_int fun σ H Q ⟨c, B, p, m, hP, _, h⟩ => h _ B H (Ex.refl _) hP (.int i)
theorem pd_bl {b : Bool} {j} : PE X (.Constant (.bool b) j pos) (tD X.K S fun _ => .bool b) := pe_weak pe_bl fun σ H Q ⟨c, B, p, m, hP, _, h⟩ => h _ B H (Ex.refl _) hP (.bl b)
theorem pd_non {j} : PE X (.Constant .none j pos) (tD X.K S fun _ => .none) := pe_weak pe_non fun σ H Q ⟨c, B, p, m, hP, _, h⟩ => h _ B H (Ex.refl _) hP .non
theorem pd_tup {x1} (h : PA X es (tDs X.K S ds)) (hl : ∀ c, (ds c).length ≤ 1000 := by intro _; exact Nat.le_of_ble_eq_true rfl) : PE X (.Tuple es x1 pos) (tD X.K S fun c => .tuple (ds c)) :=
  pe_weak (pe_tup h) fun σ H Q ⟨c, B, p, m, hP, hs, k⟩ => ⟨c, B, p, m, hP, hs, fun vs B1 H1 x hP1 hd => ⟨by rw [hd.len]; exact Nat.le_trans (hl c) (by decide), fun a ha => by
    obtain ⟨hP2, x2, e2⟩ := hP1.new (o := .tup vs) ha
    exact k _ _ _ (x.trans x2) hP2 (.tup (st_of e2) (hd.up x2))⟩⟩
theorem pd_lst (h : PA X es (tDs X.K S ds)) (hl : ∀ c, (ds c).length ≤ 1000 := by intro _; exact Nat.le_of_ble_eq_true rfl) : PE X (.List es pos) (tD X.K S fun c => .list (ds c)) :=
  pe_weak (pe_lst h) fun σ H Q ⟨c, B, p, m, hP, hs, k⟩ => ⟨c, B, p, m, hP, hs, fun vs B1 H1 x hP1 hd => ⟨by rw [hd.len]; exact Nat.le_trans (hl c) (by decide), fun a ha => by
    obtain ⟨hP2, x2, e2⟩ := hP1.new (o := .lst vs) ha
    exact k _ _ _ (x.trans x2) hP2 (.lst (SqL.of e2) (hd.up x2))⟩⟩
theorem pd_lstL (h : PA X es (tDs X.K S ds)) (hl : ∀ c, (ds c).length ≤ 1000 := by intro _; exact Nat.le_of_ble_eq_true rfl) : PE X (.List es pos) (tDL X.K S ds) :=
  pe_weak (pe_lst h) fun σ H Q ⟨c, B, p, m, hP, hs, k⟩ => ⟨c, B, p, m, hP, hs, fun vs B1 H1 x hP1 hd => ⟨by rw [hd.len]; exact Nat.le_trans (hl c) (by decide), fun a ha => by
    obtain ⟨hP2, x2, e2⟩ := hP1.new (o := .lst vs) ha
    exact k _ _ _ _ (x.trans x2) hP2 e2 (hd.up x2)⟩⟩
theorem pd_dct : PE X (.Dict [] [] pos) (tD X.K S fun _ => .dict []) :=
  pe_weak pe_dnewK fun σ H Q ⟨c, B, p, m, hP, hs, k⟩ => fun a ha => by
    obtain ⟨hP2, x2, e2⟩ := hP.new (o := .dK []) ha
    exact k _ _ _ x2 hP2 (.dct e2)
theorem pd_nil : PA X [] (tDs X.K S fun _ => []) := pa_weak pa_nil fun σ H Q ⟨c, B, p, m, hP, _, k⟩ => k _ B H (Ex.refl _) hP .nil
theorem pd_cons (hS : Up S) (he : PE X e (tD X.K S d)) (hr : PA X es (tDs X.K S ds)) (hs : starEach (e :: es) X.env = (false, eval e X.env) :: starEach es X.env := by rfl) : PA X (e :: es) (tDs X.K S fun c => d c :: ds c) :=
  pa_weak (pa_cons he hr hs) fun σ H Q ⟨c, B, p, m, hP, hs, k⟩ => ⟨c, B, p, m, hP, hs, fun v B1 H1 x1 hP1 hv => ⟨c, B1, p, m, hP1, hS _ _ _ _ x1 hs, fun vs B2 H2 x2 hP2 hvs => k _ _ _ (x1.trans x2) hP2 (.cons (hv.up x2) hvs)⟩⟩
theorem pd_of {t : TE} (he : PE X e t) (h : ∀ σ H Q, tD X.K S d σ H Q → t σ H Q) : PE X e (tD X.K S d) := pe_weak he h
theorem pd_var {i : Nat} (he : PE X e (tVar i)) (h : ∀ c σ B, S c σ B → ∃ v, σ[i]? = some (some v) ∧ Da X.K B v (d c)) : PE X e (tD X.K S d) :=
  pe_weak he fun σ H Q ⟨c, B, p, m, hP, hs, k⟩ => by
    obtain ⟨v, e, hv⟩ := h c σ B hs
    exact ⟨v, e, k v B H (Ex.refl _) hP hv⟩
end
/-! ### what a value must be to be judged and shown -/
/-- a list and a dict are not both in it -/
def okr (d : PyData) : Bool := !d.hasDict || lf d
def hd0 : List PyData → Bool
  | .dict _ :: _ => false
  | _ => true
mutual
def hk : PyData → Bool
  | .tuple ds => hd0 ds && hks ds
  | _ => true
def hks : List PyData → Bool
  | [] => true
  | d :: ds => hk d && hks ds
end
theorem hks_mem : ∀ {ds : List PyData}, hks ds = true → ∀ d ∈ ds, hk d = true
  | _ :: _, h, _, hd => by
    rw [hks, Bool.and_eq_true] at h
    rcases List.mem_cons.mp hd with rfl | hd
    · exact h.1
    · exact hks_mem h.2 _ hd
theorem hk_q : ∀ q : Qn, hk q.d = true
  | .any => rfl
  | .no q => by simp only [Qn.d, hk, hks, hk_q q]; rfl
  | .both a b => by simp only [Qn.d, hk, hks, hk_q a, hk_q b]; rfl
  | .some a c b => by simp only [Qn.d, hk, hks, hk_q a, hk_q b]; rfl
structure Fit (n c : Nat) (d : PyData) : Prop where
  hk : M.hk d = true
  sm : M.sm d = true
  nds : M.nds d ≤ c
  dep : d.depth ≤ n
  shw : d.showable = true
  lv : PyData.leavesShort 8 d = true
  bk : d.bulk + 1 ≤ 20 * c
theorem q_shw : ∀ {q : Qn}, q.Ok → q.d.showable = true ∧ PyData.leavesShort 8 q.d = true ∧ q.d.bulk ≤ 40 * q.parts
  | .any, _ => ⟨rfl, rfl, by decide⟩
  | .no q, h => by
    obtain ⟨h1, h2, h3⟩ := q_shw (q := q) h
    have e1 : PyData.leavesShort 8 (.str "not") = true := rfl
    refine ⟨by simp only [Qn.d, PyData.showable, PyData.showableAll, h1]; rfl, by simp only [Qn.d, PyData.leavesShort, PyData.leavesShortAll, h2] at e1 ⊢; rw [e1]; rfl, ?_⟩
    have e2 : PyData.bulk (.str "not") ≤ 10 := by decide
    simp only [Qn.d, PyData.bulk, PyData.bulkAll, Qn.parts] at e2 ⊢
    omega
  | .both a b, h => by
    obtain ⟨h1, h2, h3⟩ := q_shw h.1
    obtain ⟨g1, g2, g3⟩ := q_shw h.2
    have e1 : PyData.leavesShort 8 (.str "both") = true := rfl
    refine ⟨by simp only [Qn.d, PyData.showable, PyData.showableAll, h1, g1]; rfl, by simp only [Qn.d, PyData.leavesShort, PyData.leavesShortAll, h2, g2] at e1 ⊢; rw [e1]; rfl, ?_⟩
    have e2 : PyData.bulk (.str "both") ≤ 10 := by decide
    simp only [Qn.d, PyData.bulk, PyData.bulkAll, Qn.parts] at e2 ⊢
    omega
  | .some a c b, h => by
    obtain ⟨h1, h2, h3⟩ := q_shw h.1
    obtain ⟨g1, g2, g3⟩ := q_shw h.2.2
    have e1 : PyData.leavesShort 8 (.str "some") = true := rfl
    have e3 : PyData.leavesShort 8 (.str ⟨#[c]⟩) = true := by
      have := h.2.1.2
      show ([c].all fun c => decide (c < 16 ^ 8)) = true
      simp
      omega
    refine ⟨by simp only [Qn.d, PyData.showable, PyData.showableAll, h1, g1]; rfl, by simp only [Qn.d, PyData.leavesShort, PyData.leavesShortAll, h2, g2] at e1 e3 ⊢; rw [e1, e3]; rfl, ?_⟩
    have e2 : PyData.bulk (.str "some") ≤ 10 := by decide
    have e4 : PyData.bulk (.str ⟨#[c]⟩) ≤ 10 := by simp [PyData.bulk]
    simp only [Qn.d, PyData.bulk, PyData.bulkAll, Qn.parts] at e2 e4 ⊢
    omega
theorem fit_q {q : Qn} (h : q.Ok) (hp : q.parts ≤ 40) : Fit 40 160 q.d := by
  obtain ⟨h1, h2, h3⟩ := q_shw h
  have h4 := nds_q q
  have h5 := q.hi_le
  exact ⟨hk_q q, sm_q q, by omega, by rw [Qn.high]; omega, h1, h2, by omega⟩
theorem Fit.shown {n c : Nat} {d : PyData} (h : Fit n c d) (hc : c ≤ 2000) : d.shown.length ≤ sizeLine :=
  PyData.shown_fits_bulk (B := 8) (by decide) (by decide) h.lv (by have := h.bk; omega)
theorem Fit.mono {n c n' c' : Nat} {d : PyData} (h : Fit n c d) (hn : n ≤ n') (hc : c ≤ c') : Fit n' c' d :=
  ⟨h.hk, h.sm, Nat.le_trans h.nds hc, Nat.le_trans h.dep hn, h.shw, h.lv, Nat.le_trans h.bk (Nat.mul_le_mul_left _ hc)⟩
/-! all of a list -/
structure Fits (n c : Nat) (ds : List PyData) : Prop where
  hk : M.hks ds = true
  sm : M.sms ds = true
  nds : M.ndss ds ≤ c
  dep : PyData.depthAll ds ≤ n
  shw : PyData.showableAll ds = true
  lv : PyData.leavesShortAll 8 ds = true
  bk : PyData.bulkAll ds ≤ 20 * c
theorem Fits.nil {n : Nat} : Fits n 0 [] := ⟨rfl, rfl, Nat.le_refl _, Nat.zero_le _, rfl, rfl, Nat.le_refl _⟩
theorem Fits.cons {n c c' : Nat} {d : PyData} {ds : List PyData} (h : Fit n c d) (t : Fits n c' ds) : Fits n (c + c') (d :: ds) :=
  ⟨by rw [M.hks, h.hk, t.hk]; rfl, by rw [M.sms, h.sm, t.sm]; rfl, Nat.add_le_add h.nds t.nds, by rw [PyData.depthAll]; exact Nat.max_le.mpr ⟨h.dep, t.dep⟩,
    by rw [PyData.showableAll, h.shw, t.shw]; rfl, by rw [PyData.leavesShortAll, h.lv, t.lv]; rfl, by have := h.bk; have := t.bk; simp only [PyData.bulkAll]; omega⟩
theorem Fit.tup {n c : Nat} {ds : List PyData} (h0 : hd0 ds = true) (t : Fits n c ds) : Fit (n + 1) (c + 1) (.tuple ds) :=
  ⟨by rw [M.hk, t.hk, Bool.and_true]; exact h0, by rw [M.sm]; exact t.sm, by rw [M.nds]; exact Nat.add_le_add_right t.nds 1, by rw [PyData.depth]; exact Nat.add_le_add_right t.dep 1, by rw [PyData.showable]; exact t.shw,
    by rw [PyData.leavesShort]; exact t.lv, by have := t.bk; rw [PyData.bulk]; omega⟩
theorem Fit.lst {n c : Nat} {ds : List PyData} (t : Fits n c ds) : Fit (n + 1) (c + 1) (.list ds) :=
  ⟨rfl, by rw [M.sm]; exact t.sm, by rw [M.nds]; exact Nat.add_le_add_right t.nds 1, by rw [PyData.depth]; exact Nat.add_le_add_right t.dep 1, by rw [PyData.showable]; exact t.shw,
    by rw [PyData.leavesShort]; exact t.lv, by have := t.bk; rw [PyData.bulk]; omega⟩
theorem fit_str {n : Nat} {z : Str} (h : z.cps.size ≤ 18) (h2 : PyData.leavesShort 8 (.str z) = true) : Fit n 1 (.str z) :=
  ⟨rfl, by rw [M.sm]; exact decide_eq_true (Nat.le_trans h (by decide)), Nat.le_refl _, Nat.zero_le _, rfl, h2, by rw [PyData.bulk]; omega⟩
theorem fit_non {n : Nat} : Fit n 1 .none := ⟨rfl, rfl, Nat.le_refl _, Nat.zero_le _, rfl, rfl, by decide⟩
theorem fit_bl {n : Nat} {b : Bool} : Fit n 1 (.bool b) := ⟨rfl, rfl, Nat.le_refl _, Nat.zero_le _, rfl, rfl, Nat.le_of_ble_eq_true rfl⟩
theorem fit_int {n : Nat} {i : Int} (h : PyData.showable (.int i) = true) (h2 : PyData.leavesShort 8 (.int i) = true) : Fit n 1 (.int i) := ⟨rfl, rfl, Nat.le_refl _, Nat.zero_le _, h, h2, Nat.le_of_ble_eq_true rfl⟩
theorem fit_dct {n : Nat} : Fit (n + 1) 1 (.dict []) := ⟨rfl, rfl, Nat.le_refl _, by simp [PyData.depth, PyData.depthKv], rfl, rfl, by decide⟩
theorem fit_qn {n : Nat} {q : Qn} (h : q.Ok) (hp : q.parts ≤ 40) (hn : 40 ≤ n) : Fit n 160 q.d := (fit_q h hp).mono hn (Nat.le_refl _)
/-! ### the things that are questions, or nearly so -/
def qItems : Qn → List PyData
  | .any => [.str "any"]
  | .no q => [.str "not", q.d]
  | .both a b => [.str "both", a.d, b.d]
  | .some a c b => [.str "some", a.d, .str ⟨#[c]⟩, b.d]
theorem q_items (q : Qn) : q.d = .tuple (qItems q) := by cases q <;> rfl
abbrev dAny : PyData := .tuple [.str "any"]
def odds1 : List PyData := [.none, .int 0, .bool true, .str "", .str "any", .list [], .list [.str "any"], .tuple [], .dict [], .tuple [.str "some"], .tuple [.str "any", dAny], .tuple [.str "not"], .tuple [.str "not", .str "any"]]
def odds2 : List PyData := [.tuple [.str "both", dAny], .tuple [.str "some", dAny, .str "a"], .tuple [.str "some", dAny, .str "A", dAny], .tuple [.str "all"], .tuple [.none]]
def odds3 : List PyData := [.tuple [.str "some", dAny, .str "ab", dAny], .tuple [.str "some", dAny, .int 1, dAny], .tuple [.str "some", .str "a", dAny, .str "b"]]
def odds4 (q : Qn) : List PyData := [.tuple [.str "not", .list [.str "any"]], .list [q.d], .tuple [q.d], .list (qItems q), .tuple (qItems q ++ [dAny]), .tuple [.str "both", q.d, .none]]
def odds5 (q : Qn) : List PyData := [.tuple [.str "not", .tuple [.str "not", .none]], .tuple [.str "some", q.d, .str "", q.d], .tuple [.str "some", q.d, .none, q.d]]
def odds (q : Qn) : List PyData := odds1 ++ odds2 ++ odds3 ++ odds4 q ++ odds5 q
def arounds1 (q : Qn) (i : PyData) : List PyData := [.tuple [.str "not", i], .tuple [.str "both", q.d, i], .tuple [.str "some", i, .str "b", q.d]]
def arounds2 (q : Qn) (i : PyData) : List PyData := [.tuple [.str "some", q.d, .str "b", i], q.d]
section
variable {γ : Type} {K : PySem.W.Frag} {S : γ → L2.St → Hp → Prop} {q : Qn} {σ : L2.St} {H : Hp} {Q : VK}
theorem items_ne (q : Qn) : qItems q ≠ [] := by cases q <;> simp [qItems]
theorem items_few (q : Qn) : (qItems q).length ≤ 4 := by cases q <;> simp [qItems]
theorem at_list (hS1 : ∀ c σ B, S c σ B → ∃ a xs, σ[1]? = some (some (.ref a)) ∧ SqT K B a xs ∧ Das K B xs (qItems q)) (h : tD K S (fun _ => .list (qItems q)) σ H Q) :
    tCB (fun xs H Q => ∃ p ys, xs = [.ref p] ∧ (SqL K H p ys ∨ SqT K H p ys) ∧ ∀ l, H l = none → Q (.ref l) (upd H l (.lst ys))) (tCons (tVar 1) tNil) σ H Q := by
  obtain ⟨c, B, p, m, hP, hs, k⟩ := h
  obtain ⟨a, xs, e1, e2, e3⟩ := hS1 c σ B hs
  refine ⟨_, e1, a, xs, rfl, .inr (ex_t hP.ex e2), fun l hl => ?_⟩
  obtain ⟨hP2, x2, e4⟩ := hP.new (o := .lst xs) hl
  exact k _ _ _ x2 hP2 (.lst (SqL.of e4) (e3.up x2))
theorem at_more (hS1 : ∀ c σ B, S c σ B → ∃ a xs, σ[1]? = some (some (.ref a)) ∧ SqT K B a xs ∧ Das K B xs (qItems q)) (h : tD K S (fun _ => .tuple (qItems q ++ [dAny])) σ H Q) :
    tOp (rCatT K) (tVar 1) (tTup (tCons (tTup (tCons (tC (.str "any")) tNil)) tNil)) σ H Q := by
  obtain ⟨c, B, p, m, hP, hs, k⟩ := h
  obtain ⟨a, xs, e1, e2, e3⟩ := hS1 c σ B hs
  have hl := e3.len
  have hn := items_ne q
  have hf := items_few q
  refine ⟨_, e1, by decide, fun l1 n1 => ?_⟩
  obtain ⟨hP1, x1, f1⟩ := hP.new (o := .tup [.str "any"]) n1
  refine ⟨Nat.le_trans (Nat.le_refl 1) (by decide), fun l2 n2 => ?_⟩
  obtain ⟨hP2, x2, f2⟩ := hP1.new (o := .tup [.ref l1]) n2
  refine ⟨a, l2, xs, [.ref l1], rfl, rfl, ex_t hP2.ex (ex_t x2 (ex_t x1 e2)), SqT.of (hP2.ex _ _ f2), fun z => by rw [z] at hl; exact hn (List.eq_nil_of_length_eq_zero hl.symm), ?_, (fun z => nomatch z), fun _ l3 n3 => ?_⟩
  · rw [hl]; exact Nat.le_trans (Nat.add_le_add_right hf 1) (by decide)
  · obtain ⟨hP3, x3, f3⟩ := hP2.new (o := .tup (xs ++ [.ref l1])) n3
    refine k _ _ _ ((x1.trans x2).trans x3) hP3 (.tup (st_of f3) (Das.app (e3.up ((x1.trans x2).trans x3)) (.cons (.tup (st_of (x3 _ _ (x2 _ _ f1))) (.cons (.str _) .nil)) .nil)))
end
theorem odds_len (q : Qn) : (odds q).length = 30 := rfl
def AllF (n c : Nat) (ds : List PyData) : Prop := ∀ d ∈ ds, Fit n c d
theorem AllF.nil {n c : Nat} : AllF n c [] := fun d h => by cases h
theorem AllF.cons {n c : Nat} {d : PyData} {ds : List PyData} (h : Fit n c d) (t : AllF n c ds) : AllF n c (d :: ds) := fun e he => by
  rcases List.mem_cons.mp he with rfl | he
  · exact h
  · exact t e he
theorem AllF.app {n c : Nat} {a b : List PyData} (h : AllF n c a) (t : AllF n c b) : AllF n c (a ++ b) := fun e he => (List.mem_append.mp he).elim (h e) (t e)
theorem Fits.app {n c c' : Nat} : ∀ {a b : List PyData}, Fits n c a → Fits n c' b → Fits n (c + c') (a ++ b)
  | a, b, ⟨h1, h2, h3, h4, h5, h6, h7⟩, ⟨g1, g2, g3, g4, g5, g6, g7⟩ => by
    have e1 : ∀ a : List PyData, M.hks (a ++ b) = (M.hks a && M.hks b) := fun a => by induction a with
      | nil => rfl
      | cons x a ih => simp only [List.cons_append, M.hks, ih, Bool.and_assoc]
    have e2 : ∀ a : List PyData, M.sms (a ++ b) = (M.sms a && M.sms b) := fun a => by induction a with
      | nil => rfl
      | cons x a ih => simp only [List.cons_append, M.sms, ih, Bool.and_assoc]
    have e4 : ∀ a : List PyData, PyData.depthAll (a ++ b) = max (PyData.depthAll a) (PyData.depthAll b) := fun a => by induction a with
      | nil => simp [PyData.depthAll]
      | cons x a ih => simp only [List.cons_append, PyData.depthAll, ih, Nat.max_assoc]
    have e5 : ∀ a : List PyData, PyData.showableAll (a ++ b) = (PyData.showableAll a && PyData.showableAll b) := fun a => by induction a with
      | nil => rfl
      | cons x a ih => simp only [List.cons_append, PyData.showableAll, ih, Bool.and_assoc]
    have e6 : ∀ a : List PyData, PyData.leavesShortAll 8 (a ++ b) = (PyData.leavesShortAll 8 a && PyData.leavesShortAll 8 b) := fun a => by induction a with
      | nil => rfl
      | cons x a ih => simp only [List.cons_append, PyData.leavesShortAll, ih, Bool.and_assoc]
    have e7 : ∀ a : List PyData, PyData.bulkAll (a ++ b) = PyData.bulkAll a + PyData.bulkAll b := fun a => by induction a with
      | nil => simp [PyData.bulkAll]
      | cons x a ih => simp only [List.cons_append, PyData.bulkAll, ih]; omega
    exact ⟨by rw [e1, h1, g1]; rfl, by rw [e2, h2, g2]; rfl, by rw [ndss_app]; omega, by rw [e4]; omega, by rw [e5, h5, g5]; rfl, by rw [e6, h6, g6]; rfl, by rw [e7]; omega⟩
theorem Fit.inv {n c : Nat} {ds : List PyData} (h : Fit (n + 1) c (.tuple ds)) : Fits n c ds := by
  obtain ⟨h1, h2, h3, h4, h5, h6, h7⟩ := h
  rw [M.hk, Bool.and_eq_true] at h1
  rw [M.sm] at h2
  rw [M.nds] at h3
  rw [PyData.depth] at h4
  rw [PyData.showable] at h5
  rw [PyData.leavesShort] at h6
  rw [PyData.bulk] at h7
  exact ⟨h1.2, h2, by omega, by omega, h5, h6, by omega⟩
theorem fits_items {n : Nat} {q : Qn} (h : q.Ok) (hp : q.parts ≤ 40) (hn : 40 ≤ n) : Fits n 160 (qItems q) := by
  have := fit_qn (n := n + 1) h hp (by omega)
  rw [q_items] at this
  exact this.inv
theorem odds_fit {q : Qn} (h : q.Ok) (hp : q.parts ≤ 40) : AllF 44 800 (odds q) := by
  have hq : ∀ n, 40 ≤ n → Fit n 160 q.d := fun n hn => fit_qn h hp hn
  have e0 : hd0 (qItems q ++ [dAny]) = true := by cases q <;> rfl
  have e1 : hd0 [q.d] = true := by cases q <;> rfl
  unfold odds odds1 odds2 odds3 odds4 odds5
  simp only [List.cons_append, List.nil_append]
  have sh : ∀ {d : PyData} {ds : List PyData}, (∃ c, Fit 44 c d ∧ c ≤ 800) → AllF 44 800 ds → AllF 44 800 (d :: ds) := fun ⟨c, h, hc⟩ t => .cons (h.mono (Nat.le_refl _) hc) t
  iterate 30 (refine sh ⟨_, by (repeat (first
    | exact fit_non | exact fit_bl | exact fit_int rfl (by decide +kernel) | exact fit_str (by decide) rfl | exact fit_dct | exact hq _ (by decide) | exact Fits.nil | exact fits_items h hp (by decide)
    | apply Fit.tup e0 | apply Fit.tup e1 | apply Fit.tup rfl | apply Fit.lst | apply Fits.app (fits_items h hp (by decide)) | apply Fits.cons)), by decide⟩ ?_)
  exact AllF.nil
end M
namespace M
open PySem L2 Evl
open PyProof.Rows hiding St
def sp_lisq (K : PySem.W.Frag) (n : Nat) : Sp := fun vs H Q _ => ∃ (H0 : Hp) (v : V) (d : PyData), vs = [v] ∧ Ex H0 H ∧ Da K H0 v d ∧ hk d = true ∧ sm d = true ∧ nds d ≤ 10000 ∧ d.depth < n ∧
  ∀ (b : Bool) (H' : Hp), Ex H H' → (b = true ↔ IsQ d) → Q (.bl b) H'
def sp_odd (K : PySem.W.Frag) : Sp := fun vs H Q _ => ∃ (H0 : Hp) (p : Addr) (m : Nat) (v : V) (q : Qn), vs = [.ref p, v] ∧ Pl H0 H p m ∧ m + 20 ≤ 2 ^ 20 ∧ Dp K H0 v q.d ∧ q.Ok ∧ q.parts ≤ 40 ∧
  ∀ (d : PyData) (v' : V) (H1 H' : Hp), Ex H0 H1 → Pl H1 H' p (m + 4) → Da K H1 v' d → Fit 48 2000 d → okr d = true → Q v' H'
end M
namespace M
open PySem L2 Evl
open PyProof.Rows hiding St
def Wd (z : Str) (j : Int) : Prop := (z = "any" ∧ j = 1) ∨ (z = "not" ∧ j = 2) ∨ (z = "both" ∧ j = 3) ∨ (z = "some" ∧ j = 4)
def words4 : List Str := ["any", "not", "both", "some"]
theorem form_in {d0 : PyData} {ds : List PyData} (h : HasForm (.tuple (d0 :: ds))) : inT d0 ["any", "not", "both", "some"] = true := by
  obtain ⟨z, es, e⟩ := form_tup h
  cases e
  unfold HasForm at h
  split at h
  · rename_i e; cases e; subst h; decide +kernel
  · rename_i e; cases e; subst h; decide +kernel
  · rename_i e; cases e; subst h; decide +kernel
  · rename_i e; cases e; rw [h.1]; decide +kernel
  · exact h.elim
def kv4 : List (Key × V) := [(.inr "any", .int 1), (.inr "not", .int 2), (.inr "both", .int 3), (.inr "some", .int 4)]
theorem inT_cases {d0 : PyData} (h : inT d0 ["any", "not", "both", "some"] = true) : ∃ (z : Str) (j : Int), d0 = .str z ∧ valV (mergeK [] kv4) (.inr z) = some (.int j) ∧ Wd z j := by
  cases d0 with
  | str z =>
    have h' : (("any" : Str) == z || (("not" : Str) == z || (("both" : Str) == z || (("some" : Str) == z || false)))) = true := h
    simp only [Bool.or_eq_true, beq_iff_eq, Bool.or_false] at h'
    rcases h' with rfl | rfl | rfl | rfl
    · exact ⟨_, 1, rfl, rfl, .inl ⟨rfl, rfl⟩⟩
    · exact ⟨_, 2, rfl, rfl, .inr (.inl ⟨rfl, rfl⟩)⟩
    · exact ⟨_, 3, rfl, rfl, .inr (.inr (.inl ⟨rfl, rfl⟩))⟩
    · exact ⟨_, 4, rfl, rfl, .inr (.inr (.inr ⟨rfl, rfl⟩))⟩
  | _ => cases h
end M
namespace M
open PySem L2 Evl
open PyProof.Rows hiding St
theorem form_len {z : Str} {j : Int} {ds : List PyData} (w : Wd z j) (h : HasForm (.tuple (.str z :: ds))) : ((ds.length : Nat) : Int) + 1 = j := by
  have e := form_size h
  have e2 : (((ds.length + 1 : Nat)) : Int) = (ds.length : Int) + 1 := by omega
  rw [← e2, ← e]
  rcases w with ⟨rfl, rfl⟩ | ⟨rfl, rfl⟩ | ⟨rfl, rfl⟩ | ⟨rfl, rfl⟩ <;> decide +kernel
theorem wd_some {j : Int} (w : Wd "some" j) : j = 4 := by
  rcases w with ⟨h, _⟩ | ⟨h, _⟩ | ⟨h, _⟩ | ⟨_, h⟩
  · exact absurd h (by decide +kernel)
  · exact absurd h (by decide +kernel)
  · exact absurd h (by decide +kernel)
  · exact h
theorem depth_mem : ∀ {ds : List PyData} {d : PyData}, d ∈ ds → d.depth ≤ PyData.depthAll ds
  | x :: ds, d, h => by
    rw [PyData.depthAll]
    rcases List.mem_cons.mp h with rfl | h
    · exact Nat.le_max_left _ _
    · exact Nat.le_trans (depth_mem h) (Nat.le_max_right _ _)
theorem nds_mem : ∀ {ds : List PyData} {d : PyData}, d ∈ ds → nds d ≤ ndss ds
  | x :: ds, d, h => by
    rw [ndss]
    rcases List.mem_cons.mp h with rfl | h
    · exact Nat.le_add_right _ _
    · exact Nat.le_trans (nds_mem h) (Nat.le_add_left _ _)
/-- what a part needs, to be judged -/
theorem part_ok {n : Nat} {ds : List PyData} (h1 : hk (.tuple ds) = true) (h2 : sm (.tuple ds) = true) (h3 : nds (.tuple ds) ≤ 10000) (h4 : (PyData.tuple ds).depth < n + 1) : ∀ d ∈ ds, hk d = true ∧ sm d = true ∧ nds d ≤ 10000 ∧ d.depth < n := by
  intro d hd
  rw [hk, Bool.and_eq_true] at h1
  rw [sm] at h2
  rw [nds] at h3
  rw [PyData.depth] at h4
  have := nds_mem hd
  have := depth_mem hd
  exact ⟨hks_mem h1.2 d hd, sms_mem h2 d hd, by omega, by omega⟩
theorem abc_mem (c : Nat) : c ∈ ("abcdefghijklmnopqrstuvwxyz" : Str).cps.toList ↔ 97 ≤ c ∧ c ≤ 122 := by
  have e : ("abcdefghijklmnopqrstuvwxyz" : Str).cps.toList = List.range' 97 26 := by decide +kernel
  rw [e, List.mem_range'_1]
  omega
theorem isQ_some {a b : PyData} {c : Nat} (h : 97 ≤ c ∧ c ≤ 122) : IsQ (.tuple [.str "some", a, .str ⟨#[c]⟩, b]) ↔ IsQ a ∧ IsQ b := by
  rw [isQ_form]
  constructor
  · rintro ⟨_, h⟩
    exact ⟨h _ (by simp [inner]), h _ (by simp [inner])⟩
  · rintro ⟨h1, h2⟩
    refine ⟨⟨rfl, c, rfl, h⟩, fun x hx => ?_⟩
    simp [inner] at hx
    rcases hx with rfl | rfl
    · exact h1
    · exact h2
theorem isQ_few {z : Str} {j : Int} {ds : List PyData} (w : Wd z j) (hn : z ≠ "some") (hl : ((ds.length : Nat) : Int) + 1 = j) : (IsQ (.tuple (.str z :: ds)) ↔ ∀ x ∈ ds, IsQ x) ∧ ds.length ≤ 2 := by
  rw [isQ_form]
  rcases w with ⟨rfl, rfl⟩ | ⟨rfl, rfl⟩ | ⟨rfl, rfl⟩ | ⟨rfl, rfl⟩
  · match ds, hl with
    | [], _ => exact ⟨⟨fun _ x hx => (nomatch hx), fun _ => ⟨rfl, fun x hx => (nomatch hx)⟩⟩, by decide⟩
    | _ :: _, h => simp only [List.length_cons] at h; omega
  · match ds, hl with
    | [a], _ => exact ⟨⟨fun h x hx => h.2 x hx, fun h => ⟨rfl, fun x hx => h x hx⟩⟩, by simp⟩
    | [], h | _ :: _ :: _, h => simp only [List.length_cons, List.length_nil] at h; omega
  · match ds, hl with
    | [a, b], _ => exact ⟨⟨fun h x hx => h.2 x hx, fun h => ⟨rfl, fun x hx => h x hx⟩⟩, by simp⟩
    | [], h | [_], h | _ :: _ :: _ :: _, h => simp only [List.length_cons, List.length_nil] at h; omega
  · exact absurd rfl hn
end M
namespace M
open PySem L2 Evl
open PyProof.Rows hiding St
theorem dpa_ones (K : PySem.W.Frag) (H : Hp) : ∀ c : Nat, DpAll K H (List.replicate c (.int 1)) (List.replicate c (.int 1))
  | 0 => .nil
  | c + 1 => .cons (.int 1) (dpa_ones K H c)
theorem ones_eq {c : Nat} (h : c ≤ 2) : SeqAt.shaped (.list (List.replicate c (.int 1))) = true ∧ PyData.eqv (.list (List.replicate c (.int 1))) (.list []) = decide (c = 0) := by
  rcases (by omega : c = 0 ∨ c = 1 ∨ c = 2) with rfl | rfl | rfl <;> exact ⟨by decide +kernel, by decide +kernel⟩
end M
namespace M
open PySem L2 Evl
open PyProof.Rows hiding St
theorem arounds_fit {q : Qn} {d : PyData} (h : q.Ok) (hp : q.parts ≤ 40) (hd : Fit 44 800 d) : AllF 48 2000 (arounds1 q d ++ arounds2 q d) := by
  have hq : ∀ n, 40 ≤ n → Fit n 160 q.d := fun n hn => fit_qn h hp hn
  have h0 : ∀ n, 44 ≤ n → Fit n 800 d := fun n hn => hd.mono hn (Nat.le_refl _)
  unfold arounds1 arounds2
  simp only [List.cons_append, List.nil_append]
  have sh : ∀ {d : PyData} {ds : List PyData}, (∃ c, Fit 48 c d ∧ c ≤ 2000) → AllF 48 2000 ds → AllF 48 2000 (d :: ds) := fun ⟨c, h, hc⟩ t => .cons (h.mono (Nat.le_refl _) hc) t
  iterate 5 (refine sh ⟨_, by (repeat (first
    | exact fit_str (by decide) rfl | exact hq _ (by decide) | exact h0 _ (by decide) | exact Fits.nil
    | apply Fit.tup rfl | apply Fits.cons)), by decide⟩ ?_)
  exact AllF.nil
end M
namespace M
open PySem L2 Evl
open PyProof.Rows hiding St
theorem iff_bool {a b : Bool} {p : Prop} (h1 : a = true ↔ p) (h2 : b = true ↔ p) : a = b := by
  cases a <;> cases b <;> simp_all
def db2 (b : Bool) : PyData := .list [.bool b, .bool b]
theorem shw_db (b : Bool) : Shw (db2 b) := by cases b <;> exact ⟨by decide +kernel, by decide +kernel, by decide +kernel, by decide +kernel⟩
def heads : List PyData := [.list [], .list [.str "any"], .dict [], .tuple [.str "any"], .int 0, .none, .bool true]
theorem heads_str : ∀ d ∈ heads, strB d = false := by
  intro d h
  simp only [heads, List.mem_cons, List.not_mem_nil, or_false] at h
  rcases h with rfl | rfl | rfl | rfl | rfl | rfl | rfl <;> rfl
theorem heads_sm : ∀ d ∈ heads, sm d = true ∧ nds d ≤ 10 := by
  intro d h
  simp only [heads, List.mem_cons, List.not_mem_nil, or_false] at h
  rcases h with rfl | rfl | rfl | rfl | rfl | rfl | rfl <;> exact ⟨by decide +kernel, by decide +kernel⟩
theorem not_isQ {d : PyData} {ds : List PyData} (h : strB d = false) : ¬ IsQ (.tuple (d :: ds)) := fun z => by
  obtain ⟨y, es, e⟩ := form_tup (isQ_form.mp z).1
  cases e
  cases h
theorem not_isQ2 {d : PyData} {ds : List PyData} (h : strB d = false) : ¬ IsQ (.tuple [.str "not", .tuple (d :: ds)]) := fun z => by
  have := (isQ_form.mp z).2 (.tuple (d :: ds)) (by show _ ∈ [PyData.tuple (d :: ds)]; exact List.mem_cons_self)
  exact not_isQ h this
end M
namespace M
open PySem L2 Evl
open PyProof.Rows hiding St
theorem q_plain : ∀ q : Qn, q.d.hasDict = false ∧ lf q.d = true
  | .any => ⟨rfl, rfl⟩
  | .no q => by
    obtain ⟨h1, h2⟩ := q_plain q
    exact ⟨by simp only [Qn.d, PyData.hasDict, PyData.hasDictAll, h1]; rfl, by simp only [Qn.d, lf, lfs, h2]; rfl⟩
  | .both a b => by
    obtain ⟨h1, h2⟩ := q_plain a
    obtain ⟨g1, g2⟩ := q_plain b
    exact ⟨by simp only [Qn.d, PyData.hasDict, PyData.hasDictAll, h1, g1]; rfl, by simp only [Qn.d, lf, lfs, h2, g2]; rfl⟩
  | .some a c b => by
    obtain ⟨h1, h2⟩ := q_plain a
    obtain ⟨g1, g2⟩ := q_plain b
    exact ⟨by simp only [Qn.d, PyData.hasDict, PyData.hasDictAll, h1, g1]; rfl, by simp only [Qn.d, lf, lfs, h2, g2]; rfl⟩
def AllO (ds : List PyData) : Prop := ∀ d ∈ ds, okr d = true
theorem AllO.nil : AllO [] := fun d h => by cases h
theorem AllO.cons {d : PyData} {ds : List PyData} (h : okr d = true) (t : AllO ds) : AllO (d :: ds) := fun e he => by
  rcases List.mem_cons.mp he with rfl | he
  · exact h
  · exact t e he
theorem odds_okr (q : Qn) : AllO (odds q) := by
  obtain ⟨h1, h2⟩ := q_plain q
  have h3 : PyData.hasDictAll (qItems q) = false := by
    rw [q_items] at h1
    simpa [PyData.hasDict] using h1
  have h5 : PyData.hasDictAll (qItems q ++ [dAny]) = false := by
    have : ∀ l : List PyData, PyData.hasDictAll l = false → PyData.hasDictAll (l ++ [dAny]) = false := fun l => by
      induction l with
      | nil => intro _; rfl
      | cons x l ih =>
        intro h
        simp only [PyData.hasDictAll, Bool.or_eq_false_iff, List.cons_append] at h ⊢
        exact ⟨h.1, ih h.2⟩
    exact this _ h3
  unfold odds odds1 odds2 odds3 odds4 odds5
  simp only [List.cons_append, List.nil_append]
  iterate 30 (refine AllO.cons (by first | rfl | (simp only [okr, PyData.hasDict, PyData.hasDictAll, h1, h3, h5]; rfl)) ?_)
  exact AllO.nil
theorem arounds_okr {q : Qn} {d : PyData} (hd : okr d = true) : AllO (arounds1 q d ++ arounds2 q d) := by
  obtain ⟨h1, h2⟩ := q_plain q
  have hd' : d.hasDict = false ∨ lf d = true := by
    unfold okr at hd
    cases h : d.hasDict with
    | false => exact .inl rfl
    | true => rw [h] at hd; exact .inr hd
  unfold arounds1 arounds2
  simp only [List.cons_append, List.nil_append]
  rcases hd' with h0 | h0
  · iterate 5 (refine AllO.cons (by simp only [okr, PyData.hasDict, PyData.hasDictAll, h1, h0]; rfl) ?_)
    exact AllO.nil
  · iterate 5 (refine AllO.cons (by simp only [okr, lf, lfs, h2, h0, Bool.and_self, Bool.or_true]) ?_)
    exact AllO.nil
end M
end

section
set_option Elab.async false
set_option linter.all false
set_option maxRecDepth 100000
set_option maxHeartbeats 4000000
/-! exceptions made by keyword, kept as values, asked for their class and value -/
namespace PySem
namespace M2
open PySem.W PySem.Calls PyProof.Rows PySem.HandSPX
section
variable {prog : Program} {w : World} {M : Model} {A : Around} {E : Value → Shared → Prop} {R : Result → Shared → Prop} {h : Heap} {g : Array GenState} {d : Drawn} {t : Nat} {os : OsState}
variable {nm q : Str} {C N : Addr} {bs bm bmB : List Value} {hdct : Bool} {sn : List Str} {sub : List Value} {ab : Bool} {col : Option Bool} {dd : Option Addr} {k0 k1 k2 k3 k5 : Option Value} {B newId initId : String}
theorem check_new_kw (F : ExcBaseFacts B newId initId bmB) (hT : ∀ X : String, bm.contains (.type X) = bmB.contains (.type X)) {rest : List Value} {kw : List (Str × Value)} {Q : Unit → Shared → Prop}
    (hC : h.get? C = some (excClassObj nm q C N bs bm hdct sn sub ab col dd k0 k1 k2 k3 k5 newId)) (hq : Q () ⟨h, g, d, t, os⟩) : wpAny M A (checkBuiltinCall newId ⟨.ref C :: rest, kw⟩) Q E ⟨h, g, d, t, os⟩ := by
  have hcont : (Value.ref C :: bm).contains (.type B) = true := by rw [List.contains_cons, hT, F.hasB, Bool.or_true]
  have hstar := F.noStar
  simp only [checkBuiltinCall, F.newKind, F.newSplit, F.newRow]
  repeat (first | refine wpAny_loadPart_at hC ?_ | (refine wpAny_isSubtype_exc hC ?_; rw [hcont]) | refine wpAny_staticBase_exc hC ?_ | refine wpAny_madeBy_exc hC ?_ | simp only [bne_self_eq_false, Bool.false_eq_true, if_false] | wp_step)
  exact hq
theorem check_tc_kw {rest : List Value} {kw : List (Str × Value)} {Q : Unit → Shared → Prop} (hC : h.get? C = some (excClassObj nm q C N bs bm hdct sn sub ab col dd k0 k1 k2 k3 k5 newId))
    (hq : Q () ⟨h, g, d, t, os⟩) : wpAny M A (checkBuiltinCall "type.__call__" ⟨.ref C :: rest, kw⟩) Q E ⟨h, g, d, t, os⟩ := by
  have f3 := tc_sub
  have hT : (⟨h, g, d, t, os⟩ : Shared).TypeIs (.ref C) "type" := ⟨_, hC, rfl⟩
  simp only [checkBuiltinCall, tc_kind, tc_split]
  repeat (any_goals (first | assumption | with_reducible refine wpAny_loadPart_at hC ?_ | with_reducible refine wpAny_onRaise ?_ | with_reducible refine wpAny_map ?_ | wp_step))
theorem new_kw (F : ExcBaseFacts B newId initId bmB) (hT : ∀ X : String, bm.contains (.type X) = bmB.contains (.type X)) {rest : List Value} {kw : List (Str × Value)}
    (hC : h.get? C = some (excClassObj nm q C N bs bm hdct sn sub ab col dd k0 k1 k2 k3 k5 newId))
    (hq : R (.ok (.ret (.ref (h.objs.size + 1)))) ⟨(h.push { cls := .type "tuple", data := .seq rest.toArray }).push
      { cls := .ref C, data := .fields #[.ref h.objs.size, .none, .none, .none, .bool false, .none] }, g, d, t, os⟩) (hrest : rest.length ≤ sizeLine) :
    codeAny (model prog w) A (.builtin newId ⟨.ref C :: rest, kw⟩) R ⟨h, g, d, t, os⟩ := by
  have hends := F.ends
  have hcB : (Value.ref C :: bm).contains (.type B) = true := by rw [List.contains_cons, hT, F.hasB, Bool.or_true]
  have hcA : (Value.ref C :: bm).contains (.type "AttributeError") = false := by rw [List.contains_cons, hT, F.noAttr]; rfl
  have hcN : (Value.ref C :: bm).contains (.type "NameError") = false := by rw [List.contains_cons, hT, F.noName]; rfl
  refine codeAny_builtinAt F.entry ?_
  unfold Builtin.«BaseException.__new__»
  refine wpAt_bind ?_
  show wpAt _ _ _ (stack >>= _) _ _ _
  refine wpAt_bind (wpAt_stack fun p below => wpAt_of_wpAny ?_)
  wp_walk
  refine wpAt_of_wpAny ?_
  rw [F.owner]
  repeat (first | with_reducible refine wpAny_madeHere_exc F.canon hC ?_ | with_reducible refine wpAny_loadPart_at hC ?_ | (with_reducible refine wpAny_isSubtype_exc hC ?_; first | rw [hcB] | rw [hcA] | rw [hcN]) | wp_step)
  show R _ _
  rw [Heap.size_push]
  exact hq
theorem type_call_kw (F : ExcBaseFacts B newId initId bmB) (hT : ∀ X : String, bm.contains (.type X) = bmB.contains (.type X)) {rest : List Value} {kw : List (Str × Value)} {fI : Addr} {Q : Fin → Shared → Prop}
    (hC : h.get? C = some (excClassObj nm q C N bs bm hdct sn sub ab col dd k0 k1 k2 k3 k5 newId))
    (hi : W.Looks (model prog w) h (typeLookup (.ref C) "__init__") (some (.ref fI))) (hb : ∀ self, W.Looks (model prog w) h (bindSpecial (.ref fI) self) (.ref fI, [self])) (hrest : rest.length ≤ sizeLine)
    (hq : codeAny (model prog w) A (.call (.ref fI) ⟨.ref (h.objs.size + 1) :: rest, kw⟩)
      (fun r s' => match r with | .ok (.ret v) => v = .none ∧ Q (.done (.ret (.ref (h.objs.size + 1)))) s' | .ok _ => False | .error e => E e s')
      ⟨(h.push (W.kdv_tup rest)).push (excO C h.objs.size), g, d, t, os⟩) :
    wpAny (model prog w) A (Builtin.«type.__call__» ⟨.ref C :: rest, kw⟩) Q E ⟨h, g, d, t, os⟩ := by
  repeat (first | with_reducible refine wpAny_loadPart_at hC ?_ | with_reducible refine wpAny_madeBy_exc hC ?_ | wp_step)
  refine codeAny_call_builtin_code (Code.quiet_builtin _ F.quiet) (check_new_kw F hT hC ?_)
  refine new_kw F hT hC ?_ hrest
  show wpAny _ _ _ _ _ _
  have k : ∀ b o, h.get? b = some o → ((h.push (W.kdv_tup rest)).push (excO C h.objs.size)).get? b = some o := fun b o e => Heap.get?_push_of_some _ (Heap.get?_push_of_some _ e)
  have hC₁ := k _ _ hC
  have hget : ((h.push (W.kdv_tup rest)).push (excO C h.objs.size)).get? (h.objs.size + 1) = some (excO C h.objs.size) := by heap_get
  have hcC : (Value.ref C :: bm).contains (.ref C) = true := by simp
  have i1 := hi.keeps k
  have b1 := (hb (.ref (h.objs.size + 1))).keeps k
  unfold isInstance
  repeat (first | with_reducible refine wpAny_loadPart_at hget ?_ | (with_reducible refine wpAny_isSubtype_exc hC₁ ?_; rw [hcC]) | wp_step)
  show wpAny _ _ (typeLookup (.ref C) _) _ _ _
  refine i1.at ?_
  refine wpAny_holding (wpAny_bind (b1.at ?_))
  refine wpAny_bind (wpAny_call (codeAny_mono hq fun r s' z => ?_))
  rcases r with e | (v | _ | _ | _) <;> first | exact z | exact z.elim | skip
  obtain ⟨rfl, z⟩ := z
  first
    | exact wpAny_pure (wpAny_pure z)
    | (wp_walk; exact z)
theorem call_kw (F : ExcBaseFacts B newId initId bmB) (hT : ∀ X : String, bm.contains (.type X) = bmB.contains (.type X)) {rest : List Value} {kw : List (Str × Value)} {fI : Addr}
    (hC : h.get? C = some (excClassObj nm q C N bs bm hdct sn sub ab col dd k0 k1 k2 k3 k5 newId))
    (hi : W.Looks (model prog w) h (typeLookup (.ref C) "__init__") (some (.ref fI))) (hb : ∀ self, W.Looks (model prog w) h (bindSpecial (.ref fI) self) (.ref fI, [self])) (hrest : rest.length ≤ sizeLine)
    (hq : codeAny (model prog w) (A.under (.builtin "type.__call__" ⟨.ref C :: rest, kw⟩)) (.call (.ref fI) ⟨.ref (h.objs.size + 1) :: rest, kw⟩) (W.InitBack (h.objs.size + 1) R)
      ⟨(h.push (W.kdv_tup rest)).push (excO C h.objs.size), g, d, t, os⟩) :
    codeAny (model prog w) A (.call (.ref C) ⟨rest, kw⟩) R ⟨h, g, d, t, os⟩ := by
  have f1 := tc_lookup
  have f2 := tc_bind (.ref C)
  have hTy : (⟨h, g, d, t, os⟩ : Shared).TypeIs (.ref C) "type" := ⟨_, hC, rfl⟩
  refine codeAny_of_tree ?_
  show wpAny _ _ (callAny (.ref C) _) _ _ _
  repeat (any_goals (first | assumption | with_reducible refine wpAny_loadPart_at hC ?_ | wp_step))
  refine ⟨rfl, ?_⟩
  refine codeAny_call_builtin_at (Code.quiet_builtin _ (by decide +kernel)) entry_typeCall (check_tc_kw hC (type_call_kw F hT hC hi hb hrest ?_))
  refine codeAny_mono hq fun r s' z => ?_
  rcases r with e | (v | _ | _ | _) <;> exact z
end
end M2
end PySem
end

section
set_option Elab.async false
set_option linter.all false
set_option maxRecDepth 100000
set_option maxHeartbeats 4000000
/-! .. as values: made, asked for their class, read -/
namespace M
open PySem L2 Evl
open PyProof.Rows hiding St
/-- what the constants say of an exception's class whose __init__ is the def at fI -/
structure XC (K : PySem.W.Frag) (C fI : Addr) : Prop where
  ox : OexC K C
  ini : PySem.W.findIn K (.ref C) "__init__" = some (some (.ref fI))
  fn : PySem.W.typeIn K (.ref fI) = some (.type "function")
  noV : PySem.W.findIn K (.ref C) "value" = some none
  cl : (PySem.W.clsIn K C).isSome = true
  ga : PySem.W.findIn K (.ref C) "__getattribute__" = some (some (.builtin "BaseException.__getattribute__"))
  gt : PySem.W.findIn K (.ref C) "__getattr__" = some none
  sb : PySem.W.subIn K (.ref C) (.type "BaseException") = some true
  hd : PySem.W.hasDictIn K C = true
  ca : PySem.W.findIn K (.ref C) "__class__" = some (some (.builtin "object.__class__"))
  ng : PySem.W.specialIn K (.builtin "object.__class__") "__get__" = some (some (.builtin "getset_descriptor.__get__"))
  tk : PySem.W.takesIn K (.builtin "object.__class__") = some true
  mr : PySem.W.mroIn K C (.type "object") = some true
/-- at a: an exception of the class at C that keeps x -/
def XAt (H : Hp) (a C : Addr) (x : V) : Prop := ∃ d, H a = some (exo a C (some d)) ∧ H d = some (exd d [("value", x)])
theorem XAt.up {H H' : Hp} {a C : Addr} {x : V} (h : XAt H a C x) (e : Ex H H') : XAt H' a C x := by
  obtain ⟨d, h1, h2⟩ := h
  exact ⟨d, e _ _ h1, e _ _ h2⟩
def sp_init (K : PySem.W.Frag) : Sp := fun vs H Q _ => ∃ (a C fI : Addr) (x : V), vs = [.ref a, x] ∧ XC K C fI ∧ H a = some (exo a C none) ∧
  ∀ d, H d = none → d ≠ a → Q .non (upd (upd H d (exd d [("value", x)])) a (exo a C (some d)))
/-- the exception's value -/
def tVal (K : PySem.W.Frag) (te : TE) : TE := fun σ H Q => te σ H fun v H1 => ∃ a C fI x, v = .ref a ∧ XC K C fI ∧ XAt H1 a C x ∧ Q x H1
section
variable {X : Cx} {pins : List (Addr × Obj)} {σ : L2.St} {H : Hp} {s : Shared} {a C fI : Addr} {x : V}
theorem xat_look (I : Inv X pins σ H s) (h : XAt H a C x) : ∃ (ox od : Obj) (u : Value), PySem.W.InstAt s.heap a ox C (some od) ∧ PySem.W.lookIn "value" od = some (some u) ∧ RelV x u := by
  obtain ⟨d, h1, h2⟩ := h
  obtain ⟨t1, ho⟩ := exo_at I.hok h1
  obtain ⟨mA, hn, rel⟩ := exd_at I.hok h2
  obtain ⟨od, e1, e2⟩ := lookIn_ns hn
  have r := rel "value"
  rw [show List.lookup ("value" : Str) [(("value" : Str), x)] = some x by simp [List.lookup]] at r
  obtain ⟨u, eu, ru⟩ := RelO.some_of r
  exact ⟨_, od, u, ⟨ho, rfl, rfl, e1⟩, by rw [e2, eu], ru⟩
theorem pe_val {e : Expr} {te : TE} {pos : Pos} (he : PE X e te) (hb : attributeBase e "value" X.env (eval e X.env) = eval e X.env) : PE X (.Attribute e "value" pos) (tVal X.K te) := by
  refine ⟨fun pins s σ H Q I h => ?_⟩
  refine attr_of hb (thn (he.run pins s σ H _ I h) fun u s1 ⟨v, H1, I1, rx, a, C, fI, x, ex, c, hx, q⟩ => ?_)
  subst ex
  obtain rfl : u = Value.ref a := rx
  obtain ⟨ox, od, w, J, l, r⟩ := xat_look I1 hx
  exact PySem.HandSPX.exc_get I1.kIn J c.ga c.gt c.sb (PySem.W.findObj_own c.hd c.noV rfl l) (handed_of r) ⟨x, H1, I1.tok _, r, q⟩
/-- isinstance(e, c), e an exception that is kept -/
def rIsX (K : PySem.W.Frag) : List V → Hp → VK → Prop := fun xs H Q => ∃ (a C fI : Addr) (x c : V) (cv : Value) (b : Bool), xs = [.ref a, c] ∧ XC K C fI ∧ XAt H a C x ∧ (∀ u, RelV c u → u = cv) ∧ PySem.W.kitOne K (.ref C) cv = some b ∧ Q (.bl b) H
theorem call_isX : CallR X (.builtin "isinstance") (rIsX X.K) := by
  intro pins s σ H xs us Q I r h
  obtain ⟨a, C, fI, x, c, cv, b, rfl, k, hx, hcv, e, q⟩ := h
  cases r with
  | cons ra rr =>
    cases rr with
    | cons rc rr =>
      cases rr
      cases ra
      obtain rfl := hcv _ rc
      obtain ⟨ox, od, w, J, _⟩ := xat_look I hx
      exact PySem.W.kia_one (PySem.W.kitx_exc k.cl k.ga k.gt k.sb k.ca k.ng k.tk k.mr) I.kIn J e (fun z => nomatch z) fun tk => ⟨.bl b, H, I.kept (t' := tk) fun _ _ z => z, rfl, q⟩
end
/-! ### C(x), C(value = x) -/
def tMk (C : Addr) (ta : TA) : TE := fun σ H Q => ta σ H fun vs H1 => ∃ x, vs = [x] ∧ ∀ a H2, H1 a = none → Ex H1 H2 → XAt H2 a C x → Q (.ref a) H2
section
variable {X : Cx} {CX : CXT} {k : Nat} {fI C : Addr} {fd : FuncData} {x : Str} {p pos : Pos} {e : Expr} {es : List Expr} {kws : List Keyword} {ta tk : TA} {g : List Value → List Value → List Value} {gV : List V → List V → List V}
theorem made {H : Hp} {a : Addr} {v : V} {Q : VK} (n : H a = none) (q : ∀ a H2, H a = none → Ex H H2 → XAt H2 a C v → Q (.ref a) H2) :
    ∀ d, upd H a (exo a C none) d = none → d ≠ a → (V.non = .non ∧ Q (.ref a) (upd (upd (upd H a (exo a C none)) d (exd d [("value", v)])) a (exo a C (some d)))) := fun d hd ne => by
  have hd0 : H d = none := by rwa [upd_ne ne] at hd
  refine ⟨rfl, q a _ n ?_ ⟨d, upd_same, by rw [upd_ne ne, upd_same]⟩⟩
  exact ((Ex.new n).trans (Ex.new hd)).mut n
theorem run_mk {pins : List (Addr × Obj)} {σ : L2.St} {H : Hp} {s : Shared} {Q : VK} {us ws : List Value} {ks : List Str} {v : V} (T : XC X.K C fI) (F1 : FnOk X.prog X.w X.K X.mg X.base CX k fI fd ["self", "value"] (sp_init X.K)) (hr : Room (k + 1) X.A)
    (hx : Passes CX X (fun _ _ _ => False)) (I : Inv X pins σ H s) (hl : us.length ≤ sizeLine)
    (bd : ∀ (s : Shared) (u : Value), X.K.In s.heap → BindsTo s fd ⟨u :: us, ks.zip ws⟩ ((["self", "value"] : List Str).zip (g (u :: us) ws))) (rel : ∀ (y : V) (u : Value), RelV y u → Vals [y, v] (g (u :: us) ws))
    (h : ∀ a H2, H a = none → Ex H H2 → XAt H2 a C v → Q (.ref a) H2) : wpAny (model X.prog X.w) X.A (call (.ref C) us (ks.zip ws)) (EP X pins σ Q) X.xe s := by
  obtain ⟨nm, q, N, bs, bm, sn, sub, ab, col, dd, k0, k1, k2, k3, k5, hC, hbm⟩ := T.ox.cls
  obtain ⟨hp, g1, dr, tk, os⟩ := s
  have hsz : hp.objs.size ≤ hp.objs.size + 1 := Nat.le_succ _
  have hn : H (hp.objs.size + 1) = none := I.hok.fresh hsz
  have get : ((hp.push (PySem.W.kdv_tup us)).push (PySem.HandSPX.excO C hp.objs.size)).get? (hp.objs.size + 1) = some (PySem.HandSPX.excO C hp.objs.size) := by heap_get
  have I2 : Inv X pins σ (upd H (hp.objs.size + 1) (exo (hp.objs.size + 1) C none)) ⟨(hp.push (PySem.W.kdv_tup us)).push (PySem.HandSPX.excO C hp.objs.size), g1, dr, tk, os⟩ :=
    I.laid (t' := tk) (a := hp.objs.size + 1) (fun b o z => Heap.get?_push_of_some _ (Heap.get?_push_of_some _ z)) hsz (exo_ok get)
  have vals := rel (V.ref (hp.objs.size + 1)) (Value.ref (hp.objs.size + 1)) rfl
  refine wpAny_call (PySem.M2.call_kw F.excBase_ValueError (fun Y => PySem.HandSPX.refsVE_contains Y bm hbm) (I.kIn _ _ hC) (PySem.W.looks_findIn I.kIn T.ini) (fun self => PySem.W.bind_fn I.kIn self T.fn) hl
    (codeAny_mono (F1.run _ X.stack _ _ ⟨Value.ref (hp.objs.size + 1) :: us, ks.zip ws⟩ (g (Value.ref (hp.objs.size + 1) :: us) ws) [V.ref (hp.objs.size + 1), v] (fun r H2 => r = .non ∧ Q (.ref (hp.objs.size + 1)) H2) (fun _ _ _ => False) (hr.make C us (ks.zip ws)) (I2.env0.make C us (ks.zip ws))
      (bd _ _ I2.kIn) vals ⟨_, C, fI, v, rfl, T, upd_same, made hn h⟩) fun r s' hq' => ?_))
  cases r with
  | error er => exact hx pins σ _ _ er s' I2 hq'
  | ok fl =>
    cases fl with
    | ret u =>
      obtain ⟨v2, H', I3, rv, ev, q3⟩ := I2.after hq'
      subst ev
      exact ⟨rv, ⟨V.ref (hp.objs.size + 1), H', I3, rfl, q3⟩⟩
    | next => exact False.elim hq'
    | brk => exact False.elim hq'
    | cont => exact False.elim hq'
theorem pe_mk (T : XC X.K C fI) (F1 : FnOk X.prog X.w X.K X.mg X.base CX k fI fd ["self", "value"] (sp_init X.K)) (hr : Room (k + 1) X.A) (hb : Binds X.K fd ["self", "value"] []) (hx : Passes CX X (fun _ _ _ => False)) (hg : Gl X x) (hm : X.mg x = some (.ref C))
    (ha : PA X (e :: es) ta) (hdb : (x == ("__debug__" : Str)) = false := by decide) (he : starEach (e :: es) X.env = (false, eval e X.env) :: starEach es X.env := by rfl) (hpl : (backTo pos (starEach es X.env)).any (·.1) = false := by rfl) :
    PE X (.Call (.Name x p) (e :: es) [] pos) (tMk C ta) := by
  refine ⟨fun pins s σ H Q I h => ?_⟩
  refine wpAny_Call_Name_kw (ld_glob I hg hm ?_ hdb)
  refine PySem.W.callWith_K (h₀ := X.base) I.ok.mod.kin T.ox.kC (thn (ha.run pos pins s σ H _ I h) fun us s1 ⟨vs, H1, I1, r1, v, ev, q1⟩ => ⟨I1.kIn, ?_⟩) he hpl
  subst ev
  obtain ⟨u, rfl, ru⟩ := vals1 r1
  exact run_mk (ks := []) (ws := []) (g := fun us _ => us) T F1 hr hx I1 (Nat.le_trans (Nat.le_refl 1) (by decide)) (fun s y X' => by have z := hb s [y, u] X' rfl; rw [List.append_nil] at z; exact z) (fun y w ry => .cons ry (.cons ru .nil)) q1
theorem pe_mkK (T : XC X.K C fI) (F1 : FnOk X.prog X.w X.K X.mg X.base CX k fI fd ["self", "value"] (sp_init X.K)) (hr : Room (k + 1) X.A) (hb : ∀ (s : Shared) (u y : Value), X.K.In s.heap → BindsTo s fd ⟨[u], [("value", y)]⟩ [("self", u), ("value", y)]) (hx : Passes CX X (fun _ _ _ => False)) (hg : Gl X x) (hm : X.mg x = some (.ref C))
    (hkw : PK X kws tk) (hall : (backToKw pos (keywordEach kws X.env)).all (·.1.isSome) = true := by rfl) (hks : (backToKw pos (keywordEach kws X.env)).filterMap (·.1) = [("value" : Str)] := by rfl)
    (hdb : (x == ("__debug__" : Str)) = false := by decide) (hpl : ((backTo pos (starEach [] X.env)).any (·.1) || (backToKw pos (keywordEach kws X.env)).any (·.1.isNone)) = false := by rfl) :
    PE X (.Call (.Name x p) [] kws pos) (tMk C tk) := by
  refine ⟨fun pins s σ H Q I h => ?_⟩
  refine wpAny_Call_Name_kw (ld_glob I hg hm (PySem.W.callWith_KW0 (h₀ := X.base) I.ok.mod.kin T.ox.kC hall (thn (hkw.run pos pins s σ H _ I h) ?_) hpl) hdb)
  rintro ws s2 ⟨zs, H2, I2, rz, v, ev, q2⟩
  subst ev
  obtain ⟨u, rfl, ru⟩ := vals1 rz
  refine ⟨I2.kIn, ?_⟩
  rw [hks]
  exact run_mk (us := []) (ks := [("value" : Str)]) (ws := [u]) (g := fun us ws => us ++ ws) T F1 hr hx I2 (Nat.zero_le _) (fun s y X' => hb s y u X') (fun y w ry => .cons ry (.cons ru .nil)) q2
end
end M
namespace M
open PySem L2 Evl
open PyProof.Rows hiding St
/-! ### lists of such, made of the def's first name -/
def tMs (C : Addr) : TE := fun σ H Q => ∃ x, σ[0]? = some (some x) ∧ ∀ a H2, Ex H H2 → XAt H2 a C x → Q (.ref a) H2
def XAll (H : Hp) (x : V) : List V → List Addr → Prop
  | [], [] => True
  | v :: vs, c :: cs => (∃ a, v = .ref a ∧ XAt H a c x) ∧ XAll H x vs cs
  | _, _ => False
theorem XAll.up {H H' : Hp} {x : V} (e : Ex H H') : ∀ {vs : List V} {cs : List Addr}, XAll H x vs cs → XAll H' x vs cs
  | [], [], h => h
  | v :: vs, c :: cs, ⟨⟨a, h1, h2⟩, t⟩ => ⟨⟨a, h1, h2.up e⟩, XAll.up e t⟩
  | [], _ :: _, h => h.elim
  | _ :: _, [], h => h.elim
theorem XAll.len {H : Hp} {x : V} : ∀ {vs : List V} {cs : List Addr}, XAll H x vs cs → vs.length = cs.length
  | [], [], _ => rfl
  | v :: vs, c :: cs, ⟨_, t⟩ => by rw [List.length_cons, List.length_cons, XAll.len t]
  | [], _ :: _, h => h.elim
  | _ :: _, [], h => h.elim
theorem XAll.app {H : Hp} {x : V} : ∀ {vs ws : List V} {cs ds : List Addr}, XAll H x vs cs → XAll H x ws ds → XAll H x (vs ++ ws) (cs ++ ds)
  | [], _, [], _, _, h => h
  | v :: vs, _, c :: cs, _, ⟨h, t⟩, g => ⟨h, XAll.app t g⟩
  | [], _, _ :: _, _, h, _ => h.elim
  | _ :: _, _, [], _, h, _ => h.elim
theorem XAll.at {H : Hp} {x : V} : ∀ {vs : List V} {cs : List Addr}, XAll H x vs cs → ∀ {i : Nat} {c : Addr}, cs[i]? = some c → ∃ a, vs[i]? = some (.ref a) ∧ XAt H a c x
  | [], [], _, i, c, e => by simp at e
  | v :: vs, c :: cs, ⟨⟨a, h1, h2⟩, t⟩, 0, c', e => by
    simp at e
    subst e
    exact ⟨a, by rw [h1]; rfl, h2⟩
  | v :: vs, c :: cs, ⟨_, t⟩, i + 1, c', e => by
    obtain ⟨a, h1, h2⟩ := XAll.at t (i := i) (c := c') (by simpa using e)
    exact ⟨a, by simpa using h1, h2⟩
  | [], _ :: _, h, _, _, _ => h.elim
  | _ :: _, [], h, _, _, _ => h.elim
def tMsL (cs : List Addr) : TA := fun σ H Q => ∃ x, σ[0]? = some (some x) ∧ ∀ vs H2, Ex H H2 → XAll H2 x vs cs → Q vs H2
def tMl (cs : List Addr) : TE := fun σ H Q => ∃ x, σ[0]? = some (some x) ∧ ∀ l vs H2, Ex H H2 → H l = none → H2 l = some (.lst vs) → XAll H2 x vs cs → Q (.ref l) H2
section
variable {X : Cx} {e : Expr} {es : List Expr} {c : Addr} {cs : List Addr} {pos : Pos}
theorem pm_one (h : PE X e (tMk c (tCons (tVar 0) tNil))) : PE X e (tMs c) := pe_weak h fun σ H Q ⟨x, e, k⟩ => ⟨x, e, x, rfl, fun a H2 _ x2 ha => k a H2 x2 ha⟩
theorem pm_nil : PA X [] (tMsL []) := pa_weak pa_nil fun σ H Q ⟨x, e, k⟩ => k [] H (Ex.refl _) trivial
theorem pm_cons (he : PE X e (tMs c)) (hr : PA X es (tMsL cs)) (hs : starEach (e :: es) X.env = (false, eval e X.env) :: starEach es X.env := by rfl) : PA X (e :: es) (tMsL (c :: cs)) :=
  pa_weak (pa_cons he hr hs) fun σ H Q ⟨x, e, k⟩ => ⟨x, e, fun a H1 x1 ha => ⟨x, e, fun vs H2 x2 hvs => k _ H2 (x1.trans x2) ⟨⟨a, rfl, ha.up x2⟩, hvs⟩⟩⟩
theorem pm_lst (h : PA X es (tMsL cs)) (hl : cs.length ≤ 1000 := by exact Nat.le_of_ble_eq_true rfl) : PE X (.List es pos) (tMl cs) :=
  pe_weak (pe_lst h) fun σ H Q ⟨x, e, k⟩ => ⟨x, e, fun vs H1 x1 hvs => ⟨by rw [hvs.len]; exact Nat.le_trans hl (by decide), fun l hn => k l vs _ (x1.trans (Ex.new hn)) (fresh_back x1 hn) upd_same (hvs.up (Ex.new hn))⟩⟩
end
def sp_made (cs : List Addr) : Sp := fun vs H Q _ => ∃ (x : V) (b : Bool), vs = [x, .bl b] ∧ ∀ l vs H', Ex H H' → H l = none → H' l = some (.lst vs) → XAll H' x vs cs → Q (.ref l) H'
/-- of which classes -/
def dues (i n : Nat) : List V := (List.range n).map fun (j : Nat) => .bl (decide (i = j))
def sp_kinds (cs : List Addr) : Sp := fun vs H Q _ => ∃ (a c : Addr) (i : Nat) (x : V), vs = [.ref a] ∧ cs[i]? = some c ∧ XAt H a c x ∧ ∀ l H', Ex H H' → H' l = some (.lst (dues i 11)) → Q (.ref l) H'
/-! ### the thing -/
def lstB : PyData → Bool
  | .list _ => true
  | _ => false
theorem k_nl : kitB "NoneType" "list" = some false := by decide +kernel
theorem k_bl2 : kitB "bool" "list" = some false := by decide +kernel
theorem k_il : kitB "int" "list" = some false := by decide +kernel
theorem k_sl : kitB "str" "list" = some false := by decide +kernel
theorem k_dl : kitB "dict" "list" = some false := by decide +kernel
theorem isLst (d : PyData) : kitB (tyN d) "list" = some (lstB d) := by
  cases d with
  | list ds => exact k_ll
  | none => exact k_nl
  | bool b => exact k_bl2
  | int b => exact k_il
  | str b => exact k_sl
  | tuple b => exact k_tl
  | dict b => exact k_dl
def sp_thing (K : PySem.W.Frag) : Sp := fun vs H Q _ => ∃ (H0 : Hp) (p : Addr) (m : Nat), vs = [.ref p] ∧ Pl H0 H p m ∧ m + 10 ≤ 2 ^ 20 ∧
  ∀ (v : V) (d : PyData) (H1 H' : Hp), Ex H0 H1 → Pl H1 H' p (m + 4) → Da K H' v d → Shw d →
    (lstB d = false ∧ Da K H1 v d ∨ ∃ (l : Addr) (ns : List Nat), v = .ref l ∧ d = .list (ns.map fun (n : Nat) => .int n) ∧ H' l = some (.lst (ns.map fun (n : Nat) => V.int n)) ∧ H1 l = none ∧ l ≠ p ∧ ns.length ≤ 1 ∧ ∀ n ∈ ns, n < 9) → Q v H'
end M
namespace M
open PySem L2 Evl
open PyProof.Rows hiding St
/-- two such lists, one behind the other -/
theorem cat_made {H1 H2 : Hp} {x : V} {l1 l2 : Addr} {vs1 vs2 : List V} {c1 c2 : List Addr} {Q : VK} (x2 : Ex H1 H2) (e1 : H1 l1 = some (.lst vs1)) (e2 : H2 l2 = some (.lst vs2)) (h1 : XAll H1 x vs1 c1) (h2 : XAll H2 x vs2 c2) (hl : c1.length + c2.length ≤ 100)
    (k : ∀ l vs H', Ex H1 H' → H1 l = none → H' l = some (.lst vs) → XAll H' x vs (c1 ++ c2) → Q (.ref l) H') : rCat (.ref l1) (.ref l2) H2 Q := by
  refine ⟨l1, l2, vs1, vs2, rfl, rfl, x2 _ _ e1, e2, ?_, fun p hp => ?_⟩
  · rw [h1.len, h2.len]
    exact Nat.le_trans hl (by decide)
  · exact k p _ _ (x2.trans (Ex.new hp)) (fresh_back x2 hp) upd_same (XAll.app (h1.up (x2.trans (Ex.new hp))) (h2.up (Ex.new hp)))
end M
namespace M
open PySem L2 Evl
open PyProof.Rows hiding St
theorem log_small {i : Int} (h : i.natAbs < 2 ^ 200) : i.natAbs.log2 < 1920 := by
  by_cases e : i.natAbs = 0
  · rw [e]; decide
  · exact Nat.lt_of_lt_of_le ((Nat.log2_lt e).mpr h) (by decide)
theorem shw_int {i : Int} (h : i.natAbs < 2 ^ 200) : Shw (.int i) := ⟨decide_eq_true (log_small h), rfl, Nat.zero_le _, int_text_fits (log_small h)⟩
theorem shw_non : Shw .none := ⟨rfl, rfl, by decide, by decide +kernel⟩
theorem shw_any : Shw (.tuple [.str "any"]) := ⟨by decide +kernel, by decide +kernel, by decide +kernel, by decide +kernel⟩
theorem leaf_of (s : String) : PyData.leavesShort 8 (.str (Str.ofString s)) = true := by
  show ((Str.ofString s).cps.toList.all fun c => decide (c < 16 ^ 8)) = true
  rw [Str.ofString_eq_toList, List.all_eq_true]
  intro c hc
  simp only [List.mem_map] at hc
  obtain ⟨ch, _, rfl⟩ := hc
  have := ch.valid
  apply decide_eq_true
  have h2 : ch.toNat < 0x110000 := by
    rcases ch.valid with h | h
    · exact Nat.lt_of_lt_of_le h (by decide)
    · exact h.2
  omega
theorem shw_row {i : Int} (h0 : 0 ≤ i) (h : i < 99) : Shw (.str ("row " ++ Str.ofString (toString i))) := by
  have hl : ("row " ++ Str.ofString (toString i) : Str).cps.size ≤ 110 := by
    have e : ("row " ++ Str.ofString (toString i) : Str).cps.size = 4 + (Str.ofString (toString i)).cps.size := by
      show (("row " : Str).cps ++ (Str.ofString (toString i)).cps).size = _
      rw [Array.size_append]
      rfl
    have := len_str_of_int i
    have e2 : (Str.ofString (toString i)).length = (Str.ofString (toString i)).cps.size := rfl
    omega
  refine ⟨rfl, rfl, Nat.zero_le _, PyData.shown_fits_bulk (B := 8) (by decide) (by decide) ?_ ?_⟩
  · show (("row " : Str).cps ++ (Str.ofString (toString i)).cps).toList.all _ = true
    rw [Array.toList_append, List.all_append]
    have h1 := leaf_of "row "
    have h2 := leaf_of (toString i)
    simp only [PyData.leavesShort] at h1 h2
    rw [h1, h2]; rfl
  · rw [PyData.bulk]; omega
theorem shw_l0 : Shw (.list []) := ⟨by decide +kernel, by decide +kernel, by decide +kernel, by decide +kernel⟩
theorem shw_l1 : ∀ n : Fin 9, Shw (.list [.int (n.val : Nat)]) := by
  have h1 : ∀ n : Fin 9, (PyData.list [.int (n.val : Nat)]).shown.length ≤ 100 := by decide +kernel
  have h2 : ∀ n : Fin 9, (PyData.list [.int (n.val : Nat)]).showable = true := by decide +kernel
  exact fun n => ⟨h2 n, rfl, Nat.le_of_ble_eq_true rfl, Nat.le_trans (h1 n) (by decide)⟩
theorem shw_l2 : ∀ n m : Fin 9, Shw (.list [.int (n.val : Nat), .int (m.val : Nat)]) := by
  have h1 : ∀ n m : Fin 9, (PyData.list [.int (n.val : Nat), .int (m.val : Nat)]).shown.length ≤ 100 := by decide +kernel
  have h2 : ∀ n m : Fin 9, (PyData.list [.int (n.val : Nat), .int (m.val : Nat)]).showable = true := by decide +kernel
  exact fun n m => ⟨h2 n m, rfl, Nat.le_of_ble_eq_true rfl, Nat.le_trans (h1 n m) (by decide)⟩
end M
namespace M
open PySem L2 Evl
open PyProof.Rows hiding St
theorem XAt.touch {H : Hp} {a c l : Addr} {x : V} {xs : List V} {o : HO} (h : XAt H a c x) (e : H l = some (.lst xs)) : XAt (upd H l o) a c x := by
  obtain ⟨d, h1, h2⟩ := h
  have n1 : a ≠ l := fun z => by
    rw [z, e] at h1
    have z2 := Option.some.inj h1
    exact absurd (show HO.ext _ = HO.lst xs from z2.symm) (fun y => nomatch y)
  have n2 : d ≠ l := fun z => by
    rw [z, e] at h2
    have z2 := Option.some.inj h2
    exact absurd (show HO.ext _ = HO.lst xs from z2.symm) (fun y => nomatch y)
  exact ⟨d, by rw [upd_ne n1]; exact h1, by rw [upd_ne n2]; exact h2⟩
theorem XAll.touch {H : Hp} {x : V} {l : Addr} {xs : List V} {o : HO} (e : H l = some (.lst xs)) : ∀ {vs : List V} {cs : List Addr}, XAll H x vs cs → XAll (upd H l o) x vs cs
  | [], [], h => h
  | v :: vs, c :: cs, ⟨⟨a, h1, h2⟩, t⟩ => ⟨⟨a, h1, h2.touch e⟩, XAll.touch e t⟩
  | [], _ :: _, h => h.elim
  | _ :: _, [], h => h.elim
def dueD (i n : Nat) : List PyData := (List.range n).map fun (j : Nat) => .bool (decide (i = j))
theorem dp_dues (K : PySem.W.Frag) (H : Hp) (i : Nat) : ∀ l : List Nat, DpAll K H (l.map fun (j : Nat) => .bl (decide (i = j))) (l.map fun (j : Nat) => .bool (decide (i = j)))
  | [] => .nil
  | j :: l => .cons (.bl _) (dp_dues K H i l)
theorem due_ok (i : Nat) : SeqAt.shaped (.list (dueD i 11)) = true ∧ PyData.eqv (.list (dueD i 11)) (.list (dueD i 11)) = true := by
  have h : ∀ l : List Nat, PyData.canLayAll0 (l.map fun (j : Nat) => PyData.bool (decide (i = j))) = true ∧ PyData.depthAll (l.map fun (j : Nat) => PyData.bool (decide (i = j))) = 0 := fun l => by
    induction l with
    | nil => exact ⟨rfl, rfl⟩
    | cons j l ih => exact ⟨by simp only [List.map_cons, PyData.canLayAll0, ih.1]; rfl, by simp only [List.map_cons, PyData.depthAll, ih.2]; rfl⟩
  obtain ⟨h1, h2⟩ := h (List.range 11)
  have lay : (PyData.list (dueD i 11)).canLay0 = true := by rw [PyData.canLay0]; exact h1
  refine ⟨?_, SeqAt.eqv_refl _ lay⟩
  unfold SeqAt.shaped
  rw [lay, PyData.depth]
  unfold dueD
  rw [h2]
  decide
theorem dues_succ (i j : Nat) : dues i (j + 1) = dues i j ++ [.bl (decide (i = j))] := by
  unfold dues
  rw [List.range_succ, List.map_append]
  rfl
theorem dues_len (i j : Nat) : (dues i j).length = j := by simp [dues]
theorem dec_at (i j : Nat) : decide (V.int (0 + (i : Int)) = V.int (0 + (j : Int))) = decide (i = j) := by
  by_cases h : i = j
  · subst h; simp
  · have : ¬ (V.int (0 + (i : Int)) = V.int (0 + (j : Int))) := fun z => by
      injection z with z
      omega
    rw [decide_eq_false this, decide_eq_false h]
theorem da_dp : ∀ {d : PyData}, d.hasDict = false → (!d.hasDict || lf d) = true := fun h => by rw [h]; rfl
end M
namespace M
open PySem L2 Evl
open PyProof.Rows hiding St
theorem XAt.keep {H H' : Hp} {a c p : Addr} {x : V} {xs : List V} (h : XAt H a c x) (e : H p = some (.lst xs)) (k : ∀ b, b ≠ p → H' b = H b) : XAt H' a c x := by
  obtain ⟨d, h1, h2⟩ := h
  have n1 : a ≠ p := fun z => by
    rw [z, e] at h1
    exact absurd (show HO.ext _ = HO.lst xs from (Option.some.inj h1).symm) (fun y => nomatch y)
  have n2 : d ≠ p := fun z => by
    rw [z, e] at h2
    exact absurd (show HO.ext _ = HO.lst xs from (Option.some.inj h2).symm) (fun y => nomatch y)
  exact ⟨d, by rw [k a n1]; exact h1, by rw [k d n2]; exact h2⟩
theorem XAll.keep {H H' : Hp} {x : V} {p : Addr} {xs : List V} (e : H p = some (.lst xs)) (k : ∀ b, b ≠ p → H' b = H b) : ∀ {vs : List V} {cs : List Addr}, XAll H x vs cs → XAll H' x vs cs
  | [], [], h => h
  | v :: vs, c :: cs, ⟨⟨a, h1, h2⟩, t⟩ => ⟨⟨a, h1, h2.keep e k⟩, XAll.keep e k t⟩
  | [], _ :: _, h => h.elim
  | _ :: _, [], h => h.elim
theorem das_ns (K : PySem.W.Frag) (H : Hp) : ∀ ns : List Nat, Das K H (ns.map fun (n : Nat) => V.int n) (ns.map fun (n : Nat) => PyData.int n)
  | [] => .nil
  | n :: ns => .cons (.int _) (das_ns K H ns)
theorem shw_ns {ns : List Nat} {j : Nat} (hf : ns.length ≤ 1) (hs : ∀ n ∈ ns, n < 9) (hj : j < 9) : Shw (.list ((ns ++ [j]).map fun (n : Nat) => .int n)) := by
  match ns, hf, hs with
  | [], _, _ => exact shw_l1 ⟨j, hj⟩
  | [n], _, hs => exact shw_l2 ⟨n, hs n (List.mem_singleton.mpr rfl)⟩ ⟨j, hj⟩
  | _ :: _ :: _, h, _ => simp at h
end M
namespace M
open PySem L2 Evl
open PyProof.Rows hiding St
def kitChk (K : PySem.W.Frag) (cs : List Addr) : Bool := cs.zipIdx.all fun p => cs.zipIdx.all fun q => PySem.W.kitOne K (.ref p.1) (.ref q.1) == some (decide (p.2 = q.2 ∨ q.2 = 11))
def kitChkV (K : PySem.W.Frag) (cs : List Addr) : Bool := cs.all fun c => PySem.W.kitOne K (.ref c) (.type "ValueError") == some true
theorem kit_of {K : PySem.W.Frag} {cs : List Addr} (h : kitChk K cs = true) (i j : Nat) (c d : Addr) (hi : cs[i]? = some c) (hj : cs[j]? = some d) : PySem.W.kitOne K (.ref c) (.ref d) = some (decide (i = j ∨ j = 11)) := by
  unfold kitChk at h
  have m1 : (c, i) ∈ cs.zipIdx := List.mem_zipIdx_iff_getElem?.mpr hi
  have m2 : (d, j) ∈ cs.zipIdx := List.mem_zipIdx_iff_getElem?.mpr hj
  have h1 := List.all_eq_true.mp h _ m1
  have h2 := List.all_eq_true.mp h1 _ m2
  exact beq_iff_eq.mp h2
theorem kitV_of {K : PySem.W.Frag} {cs : List Addr} (h : kitChkV K cs = true) (i : Nat) (c : Addr) (hi : cs[i]? = some c) : PySem.W.kitOne K (.ref c) (.type "ValueError") = some true := by
  unfold kitChkV at h
  exact beq_iff_eq.mp (List.all_eq_true.mp h _ (List.mem_of_getElem? hi))
theorem twelve {K : PySem.W.Frag} {f c0 c1 c2 c3 c4 c5 c6 c7 c8 c9 c10 c11 : Addr} (h0 : XC K c0 f) (h1 : XC K c1 f) (h2 : XC K c2 f) (h3 : XC K c3 f) (h4 : XC K c4 f) (h5 : XC K c5 f) (h6 : XC K c6 f) (h7 : XC K c7 f) (h8 : XC K c8 f) (h9 : XC K c9 f) (h10 : XC K c10 f) (h11 : XC K c11 f)
    (i : Nat) (c : Addr) (h : [c0, c1, c2, c3, c4, c5, c6, c7, c8, c9, c10, c11][i]? = some c) : XC K c f := by
  have m := List.mem_of_getElem? h
  simp only [List.mem_cons, List.not_mem_nil, or_false] at m
  rcases m with rfl | rfl | rfl | rfl | rfl | rfl | rfl | rfl | rfl | rfl | rfl | rfl <;> assumption
end M
end

section
set_option Elab.async false
set_option linter.all false
set_option maxRecDepth 100000
namespace Lw
open PySem L2 Evl M
open PyProof.Rows hiding St
def top (i : Nat) : Stmt := PySem.Challenge.pw_pickdepths_k01_errors_made.main.body.getD i (.Pass ⟨0, 0, 0, 0⟩)
abbrev s__law_pool : Stmt := top 14
theorem sc__law_pool : FnScope ["script", "spot", "cell"] ["script", "spot"] (defScope s__law_pool) := ⟨rfl, rfl, rfl, by decide +kernel, rfl, by decide +kernel, by decide +kernel⟩
abbrev s__law_draw : Stmt := top 15
theorem sc__law_draw : FnScope ["pool", "span", "drawn", "mixed"] ["pool", "span"] (defScope s__law_draw) := ⟨rfl, rfl, rfl, by decide +kernel, rfl, by decide +kernel, by decide +kernel⟩
abbrev s__law_thing : Stmt := top 16
theorem sc__law_thing : FnScope ["pool", "some"] ["pool"] (defScope s__law_thing) := ⟨rfl, rfl, rfl, by decide +kernel, rfl, by decide +kernel, by decide +kernel⟩
abbrev s__law_made_of : Stmt := top 17
theorem sc__law_made_of : FnScope ["thing", "is_named", "found"] ["thing", "is_named"] (defScope s__law_made_of) := ⟨rfl, rfl, rfl, by decide +kernel, rfl, by decide +kernel, by decide +kernel⟩
abbrev s__law_kinds_of : Stmt := top 18
theorem sc__law_kinds_of : FnScope ["e", "found"] ["e"] (defScope s__law_kinds_of) := ⟨rfl, rfl, rfl, by decide +kernel, rfl, by decide +kernel, by decide +kernel⟩
abbrev s__law_fits : Stmt := top 19
theorem sc__law_fits : FnScope ["pool", "is_named", "thing", "made", "spot", "due", "at"] ["pool"] (defScope s__law_fits) := ⟨rfl, rfl, rfl, by decide +kernel, rfl, by decide +kernel, by decide +kernel⟩
abbrev s_law : Stmt := top 20
theorem sc_law : FnScope ["script", "spot", "pool"] ["script"] (defScope s_law) := ⟨rfl, rfl, rfl, by decide +kernel, rfl, by decide +kernel, by decide +kernel⟩
abbrev s_init : Stmt := inClass (top 1) 0
theorem sc_init : FnScope ["self", "value"] ["self", "value"] (defScope s_init) := ⟨rfl, rfl, rfl, by decide +kernel, rfl, by decide +kernel, by decide +kernel⟩
structure Tx (w : World) (K : PySem.W.Frag) (mg : Str → Option Value) where
  a__law_pool : Addr
  d__law_pool : FuncData
  g__law_pool : mg "_law_pool" = some (.ref a__law_pool)
  F__law_pool : Fun K "_law_pool" "_law_pool" s__law_pool a__law_pool d__law_pool
  b__law_pool : Binds K d__law_pool ["script", "spot"] []
  a__law_draw : Addr
  d__law_draw : FuncData
  g__law_draw : mg "_law_draw" = some (.ref a__law_draw)
  F__law_draw : Fun K "_law_draw" "_law_draw" s__law_draw a__law_draw d__law_draw
  b__law_draw : Binds K d__law_draw ["pool", "span"] []
  a__law_thing : Addr
  d__law_thing : FuncData
  g__law_thing : mg "_law_thing" = some (.ref a__law_thing)
  F__law_thing : Fun K "_law_thing" "_law_thing" s__law_thing a__law_thing d__law_thing
  b__law_thing : Binds K d__law_thing ["pool"] []
  a__law_made_of : Addr
  d__law_made_of : FuncData
  g__law_made_of : mg "_law_made_of" = some (.ref a__law_made_of)
  F__law_made_of : Fun K "_law_made_of" "_law_made_of" s__law_made_of a__law_made_of d__law_made_of
  b__law_made_of : Binds K d__law_made_of ["thing", "is_named"] []
  a__law_kinds_of : Addr
  d__law_kinds_of : FuncData
  g__law_kinds_of : mg "_law_kinds_of" = some (.ref a__law_kinds_of)
  F__law_kinds_of : Fun K "_law_kinds_of" "_law_kinds_of" s__law_kinds_of a__law_kinds_of d__law_kinds_of
  b__law_kinds_of : Binds K d__law_kinds_of ["e"] []
  a__law_fits : Addr
  d__law_fits : FuncData
  g__law_fits : mg "_law_fits" = some (.ref a__law_fits)
  F__law_fits : Fun K "_law_fits" "_law_fits" s__law_fits a__law_fits d__law_fits
  b__law_fits : Binds K d__law_fits ["pool"] []
  a_law : Addr
  d_law : FuncData
  g_law : mg "law" = some (.ref a_law)
  F_law : Fun K "law" "law" s_law a_law d_law
  b_law : Binds K d_law ["script"] []
  b_abs : mg "abs" = none
  b_int : mg "int" = none
  b_isinstance : mg "isinstance" = none
  b_len : mg "len" = none
  b_list : mg "list" = none
  b_max : mg "max" = none
  b_min : mg "min" = none
  b_range : mg "range" = none
  b_repr : mg "repr" = none
  b_str : mg "str" = none
  a_init : Addr
  d_init : FuncData
  F_init : Fun K "__init__" "PickError.__init__" s_init a_init d_init
  b_init : Binds K d_init ["self", "value"] []
  kb_init : ∀ (s : Shared) (u y : Value), K.In s.heap → BindsTo s d_init ⟨[u], [("value", y)]⟩ [("self", u), ("value", y)]
  b_ValueError : mg "ValueError" = none
  vV : PySem.W.findCls K (.type "ValueError") (.type "type") "__init__" = some (.val (.builtin "ValueError.__init__"))
  a_InvalidRow : Addr
  g_InvalidRow : mg "InvalidRow" = some (.ref a_InvalidRow)
  x_InvalidRow : M.XC K a_InvalidRow a_init
  a_InvalidQuestion : Addr
  g_InvalidQuestion : mg "InvalidQuestion" = some (.ref a_InvalidQuestion)
  x_InvalidQuestion : M.XC K a_InvalidQuestion a_init
  a_InvalidNumber : Addr
  g_InvalidNumber : mg "InvalidNumber" = some (.ref a_InvalidNumber)
  x_InvalidNumber : M.XC K a_InvalidNumber a_init
  a_InvalidPlace : Addr
  g_InvalidPlace : mg "InvalidPlace" = some (.ref a_InvalidPlace)
  x_InvalidPlace : M.XC K a_InvalidPlace a_init
  a_InvalidScope : Addr
  g_InvalidScope : mg "InvalidScope" = some (.ref a_InvalidScope)
  x_InvalidScope : M.XC K a_InvalidScope a_init
  a_InvalidBlocks : Addr
  g_InvalidBlocks : mg "InvalidBlocks" = some (.ref a_InvalidBlocks)
  x_InvalidBlocks : M.XC K a_InvalidBlocks a_init
  a_InvalidAnswer : Addr
  g_InvalidAnswer : mg "InvalidAnswer" = some (.ref a_InvalidAnswer)
  x_InvalidAnswer : M.XC K a_InvalidAnswer a_init
  a_NotLet : Addr
  g_NotLet : mg "NotLet" = some (.ref a_NotLet)
  x_NotLet : M.XC K a_NotLet a_init
  a_NothingToUndo : Addr
  g_NothingToUndo : mg "NothingToUndo" = some (.ref a_NothingToUndo)
  x_NothingToUndo : M.XC K a_NothingToUndo a_init
  a_GameOver : Addr
  g_GameOver : mg "GameOver" = some (.ref a_GameOver)
  x_GameOver : M.XC K a_GameOver a_init
  a_Unreadable : Addr
  g_Unreadable : mg "Unreadable" = some (.ref a_Unreadable)
  x_Unreadable : M.XC K a_Unreadable a_init
  a_PickError : Addr
  g_PickError : mg "PickError" = some (.ref a_PickError)
  x_PickError : M.XC K a_PickError a_init
  kit : ∀ (i j : Nat) (c d : Addr), [a_InvalidRow, a_InvalidQuestion, a_InvalidNumber, a_InvalidPlace, a_InvalidScope, a_InvalidBlocks, a_InvalidAnswer, a_NotLet, a_NothingToUndo, a_GameOver, a_Unreadable, a_PickError][i]? = some c → [a_InvalidRow, a_InvalidQuestion, a_InvalidNumber, a_InvalidPlace, a_InvalidScope, a_InvalidBlocks, a_InvalidAnswer, a_NotLet, a_NothingToUndo, a_GameOver, a_Unreadable, a_PickError][j]? = some d → PySem.W.kitOne K (.ref c) (.ref d) = some (decide (i = j ∨ j = 11))
  kitV : ∀ (i : Nat) (c : Addr), [a_InvalidRow, a_InvalidQuestion, a_InvalidNumber, a_InvalidPlace, a_InvalidScope, a_InvalidBlocks, a_InvalidAnswer, a_NotLet, a_NothingToUndo, a_GameOver, a_Unreadable, a_PickError][i]? = some c → PySem.W.kitOne K (.ref c) (.type "ValueError") = some true
  xc : ∀ (i : Nat) (c : Addr), [a_InvalidRow, a_InvalidQuestion, a_InvalidNumber, a_InvalidPlace, a_InvalidScope, a_InvalidBlocks, a_InvalidAnswer, a_NotLet, a_NothingToUndo, a_GameOver, a_Unreadable, a_PickError][i]? = some c → M.XC K c a_init
  bl : ∀ (s : Shared) (u : Value), BindsTo s d_law ⟨[u], []⟩ [("script", u)]
def cls12 {w : World} {K : PySem.W.Frag} {mg : Str → Option Value} (T : Tx w K mg) : List Addr := [T.a_InvalidRow, T.a_InvalidQuestion, T.a_InvalidNumber, T.a_InvalidPlace, T.a_InvalidScope, T.a_InvalidBlocks, T.a_InvalidAnswer, T.a_NotLet, T.a_NothingToUndo, T.a_GameOver, T.a_Unreadable, T.a_PickError]
section
variable {P : Program} {w : World} {K : PySem.W.Frag} {mg : Str → Option Value} {base : Heap}
end
end Lw
end

section
set_option Elab.async false
set_option linter.all false
set_option maxRecDepth 100000
set_option maxHeartbeats 4000000
set_option pp.maxSteps 300
set_option pp.deepTerms false
namespace Lw
open PySem L2 Evl M
open PyProof.Rows hiding St
local macro_rules | `(tactic| walk_at "at") => `(tactic| first | assumption | exact upd_same)
local macro_rules | `(tactic| walk_at "sq") => `(tactic| first | assumption | exact SqL.of (by walk_at "at") | exact SqT.of (by walk_at "at"))
local macro_rules | `(tactic| walk_at "sd") => `(tactic| first | assumption | exact Names.size (by assumption) | omega | decide | exact Nat.le_of_ble_eq_true rfl | exact Or.inl ⟨by decide, by decide⟩ | exact wide_div (b := 200) (by first | assumption | decide) (by first | assumption | decide) (by decide) (by decide) | exact pow_w 10 (by decide) (by decide) (by decide) (by decide))
local macro_rules | `(tactic| walk_at "r1") => `(tactic| first
  | refine ⟨_, rfl, ?_⟩
  | refine ⟨_, _, rfl, rfl, ?_⟩
  | refine And.intro rfl ?_
  | refine ⟨_, _, _, _, rfl, rfl, (by walk_at "sq"), rfl, ?_⟩
  | refine ⟨_, _, _, _, rfl, rfl, (by walk_at "at"), rfl, ?_⟩
  | refine ⟨_, _, rfl, Or.inl (by walk_at "sq"), ?_⟩
  | refine ⟨_, _, rfl, Or.inr (by walk_at "sq"), ?_⟩
  | refine ⟨_, _, rfl, ?_⟩
  | refine Or.inl ⟨_, rfl, ?_⟩
  | refine And.intro (by walk_at "sd") ?_)
local macro_rules | `(tactic| walk_at "rd") => `(tactic| try (walk_at "r1"; walk_at "rd"))
section
variable {P : Program} {w : World} {K : PySem.W.Frag} {mg : Str → Option Value} {base : Heap}
theorem ok__law_draw (T : Tx w K mg) : FnOk P w K mg base CX0 1 T.a__law_draw T.d__law_draw ["pool", "span"] sp_draw := by
  refine T.F__law_draw.ok sc__law_draw (fun vs H Q E h => ?_) (fun cdv A outer s H vs Q E hr h => ?_)
  · obtain ⟨_, _, _, _, rfl, _⟩ := h
    rfl
  obtain ⟨H0, p, m, n, rfl, hP, hm, n0, nb, k⟩ := h
  obtain ⟨a, b, c, hp, a0, b0, b1, c0, c1⟩ := hP.at_
  refine ⟨_, (pss_cons (ps_if (pt_cmpR op_gt (pe_ix ix_list (pv 0) pe_int (fun _ _ => rfl)) pe_int (nomark _)) (pss_cons (ps_set (i := 2) sc__law_draw.nd rfl (Or.inl rfl) (pe_op op_mod (pe_callTy call_int1 (by rfl) T.b_int (by decide +kernel) (pa_cons (pe_ix ix_list (pv 0) pe_int (fun _ _ => rfl)) pa_nil)) (pv 1)))
   (pss_cons (ps_asg (pe_op op_fdivW (pe_ix ix_list (pv 0) pe_int (fun _ _ => rfl)) (pv 1)) (pg_sub (pv 0) pe_int set_list))
   (pss_one (ps_ret (pv 2))))) pss_nil)
   (pss_cons (ps_asg (pe_op op_add (pe_ix ix_list (pv 0) pe_int (fun _ _ => rfl)) pe_int) (pg_sub (pv 0) pe_int set_list))
   (pss_cons (ps_set (i := 3) sc__law_draw.nd rfl (Or.inl rfl) (pe_op op_mod (pe_callTy call_int1 (by rfl) T.b_int (by decide +kernel) (pa_cons (pe_op M.op_powW (pe_op op_add (pe_ix ix_list (pv 0) pe_int (fun _ _ => rfl)) (pe_op op_mul pe_int (pe_ix ix_list (pv 0) pe_int (fun _ _ => rfl)))) pe_int) pa_nil)) pe_int))
   (pss_cons (ps_set (i := 3) sc__law_draw.nd rfl (Or.inl rfl) (pe_op op_mod (pe_callTy call_int1 (by rfl) T.b_int (by decide +kernel) (pa_cons (pe_op M.op_powW (pe_op op_add (pv 3) (pe_op op_mul pe_int (pe_ix ix_list (pv 0) pe_int (fun _ _ => rfl)))) pe_int) pa_nil)) pe_int))
   (pss_one (ps_ret (pe_op op_mod (pe_callTy call_int1 (by rfl) T.b_int (by decide +kernel) (pa_cons (pe_op op_fdivW (pv 3) pe_int) pa_nil)) (pv 1)))))))), ?_⟩
  walk_at "rd"
  refine ite2 (fun q => ?_) (fun q => ?_)
  · walk_at "rd"
    have q1 : 0 < a := of_decide_eq_true q
    refine k _ _ (Int.emod_nonneg _ (by omega)) (Int.emod_lt_of_pos _ n0) ⟨hP.ex.mut hP.out, hP.out, a / n, b, c, ?_, Int.ediv_nonneg a0 (by omega), b0, b1, c0, by omega⟩ (fun b' h => upd_ne h)
    rw [upd_same]; rfl
  · walk_at "rd"
    refine ⟨pow_w 64 (by omega) (by decide) (by decide) (by decide), ?_⟩
    walk_at "rd"
    refine ⟨pow_w 128 ?_ (by decide) (by decide) (by decide), ?_⟩
    · have e := Int.emod_lt_of_pos ((b + 15485863 * (c + 1)) ^ Int.toNat 3) (show (0 : Int) < 162259276829213363391578010288127 by decide)
      have e0 := Int.emod_nonneg ((b + 15485863 * (c + 1)) ^ Int.toNat 3) (show (162259276829213363391578010288127 : Int) ≠ 0 by decide)
      generalize (b + 15485863 * (c + 1)) ^ Int.toNat 3 % 162259276829213363391578010288127 = x at e e0
      show (x + 32452843 * (c + 1)).natAbs < 2 ^ 128
      have : (2 : Nat) ^ 128 = 340282366920938463463374607431768211456 := by decide
      omega
    walk_at "rd"
    refine k _ _ (Int.emod_nonneg _ (by omega)) (Int.emod_lt_of_pos _ n0) ⟨hP.ex.mut hP.out, hP.out, a, b, c + 1, ?_, a0, b0, b1, by omega, by omega⟩ (fun b' h => upd_ne h)
    rw [upd_same]; rfl

end
end Lw
end

section
set_option Elab.async false
set_option linter.all false
set_option maxRecDepth 100000
set_option maxHeartbeats 4000000
set_option pp.maxSteps 300
set_option pp.deepTerms false
namespace Lw
open PySem L2 Evl M
open PyProof.Rows hiding St
local macro_rules | `(tactic| walk_at "at") => `(tactic| first | assumption | exact upd_same)
local macro_rules | `(tactic| walk_at "sq") => `(tactic| first | assumption | exact SqL.of (by walk_at "at") | exact SqT.of (by walk_at "at"))
local macro_rules | `(tactic| walk_at "sd") => `(tactic| first | assumption | exact Names.size (by assumption) | omega | decide | exact Nat.le_of_ble_eq_true rfl | exact Or.inl ⟨by decide, by decide⟩ | exact wide_div (b := 200) (by first | assumption | decide) (by first | assumption | decide) (by decide) (by decide) | exact pow_w 10 (by decide) (by decide) (by decide) (by decide))
local macro_rules | `(tactic| walk_at "r1") => `(tactic| first
  | refine ⟨_, rfl, ?_⟩
  | refine ⟨_, _, rfl, rfl, ?_⟩
  | refine And.intro rfl ?_
  | refine ⟨_, _, _, _, rfl, rfl, (by walk_at "sq"), rfl, ?_⟩
  | refine ⟨_, _, _, _, rfl, rfl, (by walk_at "at"), rfl, ?_⟩
  | refine ⟨_, _, rfl, Or.inl (by walk_at "sq"), ?_⟩
  | refine ⟨_, _, rfl, Or.inr (by walk_at "sq"), ?_⟩
  | refine ⟨_, _, rfl, ?_⟩
  | refine Or.inl ⟨_, rfl, ?_⟩
  | refine And.intro (by walk_at "sd") ?_)
local macro_rules | `(tactic| walk_at "rd") => `(tactic| try (walk_at "r1"; walk_at "rd"))
section
variable {P : Program} {w : World} {K : PySem.W.Frag} {mg : Str → Option Value} {base : Heap}
theorem ok__law_pool (T : Tx w K mg) : FnOk P w K mg base CX0 1 T.a__law_pool T.d__law_pool ["script", "spot"] (sp_pool K) := by
  refine T.F__law_pool.ok sc__law_pool (fun vs H Q E h => ?_) (fun cdv A outer s H vs Q E hr h => ?_)
  · obtain ⟨_, _, _, rfl, _⟩ := h
    rfl
  obtain ⟨a, ns, i, rfl, hS, i0, i1, k⟩ := h
  have fin : ∀ (c : Int) (p : Addr), H p = none → Pl H (upd H p (.lst [.int (if c.natAbs - 10 ^ 18 > (0 : Int) then c.natAbs - 10 ^ 18 else 0), .int (c % 2305843009213693951 + 7368787 * (i + 1)), .int 0])) p 0 := by
    intro c p hp
    have e := Int.emod_lt_of_pos c (show (0 : Int) < 2305843009213693951 by decide)
    have e0 := Int.emod_nonneg c (show (2305843009213693951 : Int) ≠ 0 by decide)
    refine ⟨Ex.new hp, hp, _, _, _, upd_same, ?_, by omega, ?_, by omega, by omega⟩
    · split <;> omega
    · have : (2 : Int) ^ 62 = 4611686018427387904 := by decide
      omega
  refine ⟨_, (pss_cons (ps_set (i := 2) sc__law_pool.nd rfl (Or.inl rfl) pe_int)
   (pss_cons (ps_if (pt_cmpR op_lt (pv 1) (pe_callB call_len_seq (by rfl) T.b_len (by decide +kernel) (pa_cons (pv 0) pa_nil)) (nomark _)) (pss_one (ps_set (i := 2) sc__law_pool.nd rfl (Or.inl rfl) (pe_ix ix_list (pv 0) (pv 1) (fun _ _ => rfl)))) pss_nil)
   (pss_one (ps_ret (pe_lst (pa_cons (pe_callB (call_max2 (by rfl)) (by rfl) T.b_max (by decide +kernel) (pa_cons pe_int (pa_cons (pe_op op_sub (pe_callB call_abs (by rfl) T.b_abs (by decide +kernel) (pa_cons (pv 2) pa_nil)) (pe_op M.op_powW pe_int pe_int)) pa_nil))) (pa_cons (pe_op op_add (pe_op op_mod (pe_callTy call_int1 (by rfl) T.b_int (by decide +kernel) (pa_cons (pv 2) pa_nil)) pe_int) (pe_op op_mul pe_int (pe_op op_add (pv 1) pe_int))) (pa_cons pe_int pa_nil)))))))), ?_⟩
  walk_at "rd"
  refine ite2 (fun q => ?_) (fun q => ?_)
  · have q1 : i < ns.length := by
      have q0 := of_decide_eq_true q
      rw [List.length_map] at q0
      exact q0
    obtain ⟨j, rfl⟩ : ∃ j : Nat, i = j := ⟨i.toNat, by omega⟩
    have q2 : j < ns.length := by omega
    walk_at "rd"
    refine ⟨_, _, _, V.int ns[j], rfl, rfl, hS, atI_nat (by simp [q2]), ?_⟩
    walk_at "rd"
    intro p hp
    refine k p _ ?_
    have e := fin ns[j] p hp
    have e2 : (if ns[j] < 0 then -ns[j] else ns[j]) = (ns[j].natAbs : Int) := by split <;> omega
    rw [← e2] at e
    exact e
  · walk_at "rd"
    exact fun p hp => k p _ (fin 0 p hp)

end
end Lw
end

section
set_option Elab.async false
set_option linter.all false
set_option maxRecDepth 100000
set_option maxHeartbeats 4000000
set_option pp.maxSteps 300
set_option pp.deepTerms false
namespace Lw
open PySem L2 Evl M
open PyProof.Rows hiding St
local macro_rules | `(tactic| walk_at "at") => `(tactic| first | assumption | exact upd_same)
local macro_rules | `(tactic| walk_at "sq") => `(tactic| first | assumption | exact SqL.of (by walk_at "at") | exact SqT.of (by walk_at "at"))
local macro_rules | `(tactic| walk_at "sd") => `(tactic| first | assumption | exact Names.size (by assumption) | omega | decide | exact Nat.le_of_ble_eq_true rfl | exact Or.inl ⟨by decide, by decide⟩ | exact wide_div (b := 200) (by first | assumption | decide) (by first | assumption | decide) (by decide) (by decide) | exact pow_w 10 (by decide) (by decide) (by decide) (by decide))
local macro_rules | `(tactic| walk_at "r1") => `(tactic| first
  | refine ⟨_, rfl, ?_⟩
  | refine ⟨_, _, rfl, rfl, ?_⟩
  | refine And.intro rfl ?_
  | refine ⟨_, _, _, _, rfl, rfl, (by walk_at "sq"), rfl, ?_⟩
  | refine ⟨_, _, _, _, rfl, rfl, (by walk_at "at"), rfl, ?_⟩
  | refine ⟨_, _, rfl, Or.inl (by walk_at "sq"), ?_⟩
  | refine ⟨_, _, rfl, Or.inr (by walk_at "sq"), ?_⟩
  | refine ⟨_, _, rfl, ?_⟩
  | refine Or.inl ⟨_, rfl, ?_⟩
  | refine And.intro (by walk_at "sd") ?_)
local macro_rules | `(tactic| walk_at "rd") => `(tactic| try (walk_at "r1"; walk_at "rd"))
section
variable {P : Program} {w : World} {K : PySem.W.Frag} {mg : Str → Option Value} {base : Heap}
theorem ok_init (T : Tx w K mg) : FnOk P w K mg base CX0 1 T.a_init T.d_init ["self", "value"] (sp_init K) := by
  refine T.F_init.ok sc_init (fun vs H Q E h => ?_) (fun cdv A outer s H vs Q E hr h => ?_)
  · obtain ⟨_, _, _, _, rfl, _⟩ := h
    rfl
  obtain ⟨a, C, fI, x, rfl, T', ha, k⟩ := h
  refine ⟨_, (pss_cons (ps_expr (pe_veinit (by rfl) T.b_ValueError T.vV (pa_cons (pv 0) (pa_cons (pv 1) pa_nil)))) (pss_one (ps_ost (pv 0) (pv 1)))), ?_⟩
  walk_at "rd"
  refine ⟨a, C, [x], rfl, Nat.le_of_ble_eq_true rfl, T'.ox, ha, ?_⟩
  walk_at "rd"
  refine ⟨a, C, rfl, T'.ox, T'.noV, .inl ⟨ha, fun d hd hne => ?_⟩⟩
  exact k d hd hne

end
end Lw
end

section
set_option Elab.async false
set_option linter.all false
set_option maxRecDepth 100000
set_option maxHeartbeats 4000000
set_option pp.maxSteps 300
set_option pp.deepTerms false
namespace Lw
open PySem L2 Evl M
open PyProof.Rows hiding St
local macro_rules | `(tactic| walk_at "at") => `(tactic| first | assumption | exact upd_same)
local macro_rules | `(tactic| walk_at "sq") => `(tactic| first | assumption | exact SqL.of (by walk_at "at") | exact SqT.of (by walk_at "at"))
local macro_rules | `(tactic| walk_at "sd") => `(tactic| first | assumption | exact Names.size (by assumption) | omega | decide | exact Nat.le_of_ble_eq_true rfl | exact Or.inl ⟨by decide, by decide⟩ | exact wide_div (b := 200) (by first | assumption | decide) (by first | assumption | decide) (by decide) (by decide) | exact pow_w 10 (by decide) (by decide) (by decide) (by decide))
local macro_rules | `(tactic| walk_at "r1") => `(tactic| first
  | refine ⟨_, rfl, ?_⟩
  | refine ⟨_, _, rfl, rfl, ?_⟩
  | refine And.intro rfl ?_
  | refine ⟨_, _, _, _, rfl, rfl, (by walk_at "sq"), rfl, ?_⟩
  | refine ⟨_, _, _, _, rfl, rfl, (by walk_at "at"), rfl, ?_⟩
  | refine ⟨_, _, rfl, Or.inl (by walk_at "sq"), ?_⟩
  | refine ⟨_, _, rfl, Or.inr (by walk_at "sq"), ?_⟩
  | refine ⟨_, _, rfl, ?_⟩
  | refine Or.inl ⟨_, rfl, ?_⟩
  | refine And.intro (by walk_at "sd") ?_)
local macro_rules | `(tactic| walk_at "rd") => `(tactic| try (walk_at "r1"; walk_at "rd"))
section
variable {P : Program} {w : World} {K : PySem.W.Frag} {mg : Str → Option Value} {base : Heap}
theorem ok__law_thing (T : Tx w K mg) (G__law_draw : FnOk P w K mg base CX0 1 T.a__law_draw T.d__law_draw ["pool", "span"] sp_draw) :
    FnOk P w K mg base CX0 2 T.a__law_thing T.d__law_thing ["pool"] (sp_thing K) := by
  refine T.F__law_thing.ok sc__law_thing (fun vs H Q E h => ?_) (fun cdv A outer s H vs Q E hr h => ?_)
  · obtain ⟨_, _, _, rfl, _⟩ := h
    rfl
  obtain ⟨H0, p, m, rfl, hP, hm, k⟩ := h
  refine ⟨_, (pss_cons (ps_set (i := 1) sc__law_thing.nd rfl (Or.inl rfl) (pe_lst (pa_cons (pe_op op_sub (pe_call G__law_draw (hr.mono (by omega)) (by rfl) T.g__law_draw T.F__law_draw.kp T.b__law_draw .nil pass0 (pa_cons (pv 0) (pa_cons (pe_op M.op_powW pe_int pe_int) pa_nil))) (pe_op M.op_powW pe_int pe_int)) (pa_cons (pe_tup (pa_cons pe_str pa_nil)) (pa_cons (pe_lst pa_nil) (pa_cons (pe_lst (pa_cons (pe_call G__law_draw (hr.mono (by omega)) (by rfl) T.g__law_draw T.F__law_draw.kp T.b__law_draw .nil pass0 (pa_cons (pv 0) (pa_cons pe_int pa_nil))) pa_nil)) (pa_cons pe_non pa_nil)))))))
   (pss_one (ps_ret (pe_ix ix_list (pe_op op_cat (pv 1) (pe_lst (pa_cons (pe_op op_add_str pe_str (pe_callTy call_str_int (by rfl) T.b_str (by decide +kernel) (pa_cons (pe_call G__law_draw (hr.mono (by omega)) (by rfl) T.g__law_draw T.F__law_draw.kp T.b__law_draw .nil pass0 (pa_cons (pv 0) (pa_cons pe_int pa_nil))) pa_nil))) pa_nil))) (pe_call G__law_draw (hr.mono (by omega)) (by rfl) T.g__law_draw T.F__law_draw.kp T.b__law_draw .nil pass0 (pa_cons (pv 0) (pa_cons pe_int pa_nil))) (fun _ _ => rfl))))), ?_⟩
  walk_at "rd"
  refine ⟨H0, p, m, _, rfl, hP, by omega, by decide, by decide, fun i H1 i0 i1 hP1 _ => ?_⟩
  walk_at "rd"
  intro t nt
  obtain ⟨hP2, x2, e2⟩ := hP1.new (o := .tup [.str "any"]) nt
  generalize upd H0 t (.tup [.str "any"]) = B2 at *
  generalize upd H1 t (.tup [.str "any"]) = H2 at *
  walk_at "rd"
  intro l1 n1
  have hP3 := hP2.mine (o := .lst []) n1
  have e3 : upd H2 l1 (.lst []) l1 = some (.lst []) := upd_same
  have b1 : B2 l1 = none := fresh_back hP2.ex n1
  have np1 : l1 ≠ p := by
    obtain ⟨a, b, c, e, _⟩ := hP2.at_
    exact Ne.symm (ne_of_none e n1)
  generalize upd H2 l1 (.lst []) = H3 at *
  walk_at "rd"
  refine ⟨B2, p, _, 9, rfl, hP3, by omega, by decide, by decide, fun j H4 j0 j1 hP4 keep4 => ?_⟩
  walk_at "rd"
  intro l2 n2
  have e4 := (keep4 l1 np1).trans e3
  have hP5 := hP4.mine (o := .lst [.int j]) n2
  have e5 : upd H4 l2 (.lst [.int j]) l2 = some (.lst [.int j]) := upd_same
  have e5' : upd H4 l2 (.lst [.int j]) l1 = some (.lst []) := by rw [upd_ne (ne_of_none e4 n2)]; exact e4
  have b2 : B2 l2 = none := fresh_back hP4.ex n2
  have np2 : l2 ≠ p := by
    obtain ⟨a, b, c, e, _⟩ := hP4.at_
    exact Ne.symm (ne_of_none e n2)
  generalize upd H4 l2 (.lst [.int j]) = H5 at *
  walk_at "rd"
  intro l3 n3
  generalize hG : upd H5 l3 _ = H6
  have hP6 : Pl B2 H6 p (m + 1 + 1) := by rw [← hG]; exact hP5.mine n3
  have e6 : H6 l3 = some (.lst [.int (i - 10 ^ 29), .ref t, .ref l1, .ref l2, .non]) := by rw [← hG]; exact upd_same
  have x6 : Ex H5 H6 := by rw [← hG]; exact Ex.new n3
  clear hG
  have np3 : l3 ≠ p := by
    obtain ⟨a, b, c, e, _⟩ := hP5.at_
    exact Ne.symm (ne_of_none e n3)
  walk_at "rd"
  refine ⟨B2, p, _, 99, rfl, hP6, by omega, by decide, by decide, fun r H7 r0 r1 hP7 keep7 => ?_⟩
  walk_at "rd"
  refine ⟨log_small (Nat.lt_of_lt_of_le (by omega : r.natAbs < 99) (by decide)), ?_⟩
  walk_at "rd"
  have hlen : (Str.ofString "row ").length + (Str.ofString (toString r)).length ≤ sizeLine := by
    have z := len_str_of_int r
    have z2 : (Str.ofString "row ").length = 4 := rfl
    have z3 : (Str.ofString "row ").length + (Str.ofString (toString r)).length ≤ 200 := by omega
    exact Nat.le_trans z3 (by decide)
  have hsr := shw_row r0 r1
  refine And.intro hlen ?_
  generalize (Str.ofString "row " ++ Str.ofString (toString r) : Str) = z at *
  walk_at "rd"
  intro l4 n4
  have hP8 := hP7.mine (o := .lst [.str z]) n4
  have x8 : Ex H7 (upd H7 l4 (.lst [.str z])) := Ex.new n4
  have e8 : upd H7 l4 (.lst [.str z]) l4 = some (.lst [.str z]) := upd_same
  generalize upd H7 l4 (.lst [.str z]) = H8 at *
  refine ⟨l3, l4, _, _, rfl, rfl, x8 _ _ ((keep7 l3 np3).trans e6), e8, Nat.le_trans (Nat.le_of_ble_eq_true rfl : _ ≤ 100) (by decide), fun l5 n5 => ?_⟩
  generalize hG : upd H8 l5 _ = H9
  have hP9 : Pl B2 H9 p (m + 1 + 1 + 1) := by rw [← hG]; exact hP8.mine n5
  have e9 : H9 l5 = some (.lst [.int (i - 10 ^ 29), .ref t, .ref l1, .ref l2, .non, .str z]) := by rw [← hG]; exact upd_same
  have x9 : Ex H8 H9 := by rw [← hG]; exact Ex.new n5
  have np5 : l5 ≠ p := by
    obtain ⟨a, b, c, e, _⟩ := hP8.at_
    exact Ne.symm (ne_of_none e n5)
  clear hG
  walk_at "rd"
  refine ⟨B2, p, _, 6, rfl, hP9, by omega, by decide, by decide, fun f H10 f0 f1 hP10 keep10 => ?_⟩
  have g1 : H10 l1 = some (.lst []) := (keep10 l1 np1).trans (x9 _ _ (x8 _ _ ((keep7 l1 np1).trans (x6 _ _ e5'))))
  have g2 : H10 l2 = some (.lst [.int j]) := (keep10 l2 np2).trans (x9 _ _ (x8 _ _ ((keep7 l2 np2).trans (x6 _ _ e5))))
  have g5 := (keep10 l5 np5).trans e9
  have hp := hP10.mono (by omega : m + 1 + 1 + 1 + 1 ≤ m + 4)
  rcases (by omega : f = 0 ∨ f = 1 ∨ f = 2 ∨ f = 3 ∨ f = 4 ∨ f = 5) with rfl | rfl | rfl | rfl | rfl | rfl
  · refine ⟨l5, _, _, .int (i - 10 ^ 29), rfl, rfl, SqL.of g5, rfl, ?_⟩
    have hi : (i - 10 ^ 29).natAbs < 2 ^ 200 := by
      have z1 : i < 10 ^ 30 := i1
      have z2 : (10 : Int) ^ 30 < 2 ^ 199 := by decide
      have z3 : (10 : Int) ^ 29 < 2 ^ 199 := by decide
      have z4 : (0 : Int) ≤ 10 ^ 29 := by decide
      have z5 : (i - 10 ^ 29).natAbs < 2 ^ 199 := by omega
      omega
    exact k _ (.int (i - 10 ^ 29)) B2 H10 x2 hp (.int _) (shw_int hi) (.inl ⟨rfl, .int _⟩)
  · refine ⟨l5, _, _, .ref t, rfl, rfl, SqL.of g5, rfl, ?_⟩
    exact k _ (.tuple [.str "any"]) B2 H10 x2 hp (.tup (st_of (hp.ex _ _ e2)) (.cons (.str _) .nil)) shw_any (.inl ⟨rfl, .tup (st_of e2) (.cons (.str _) .nil)⟩)
  · refine ⟨l5, _, _, .ref l1, rfl, rfl, SqL.of g5, rfl, ?_⟩
    exact k _ (.list []) B2 H10 x2 hp (.lst (SqL.of g1) .nil) shw_l0 (.inr ⟨l1, [], rfl, rfl, g1, b1, np1, Nat.zero_le _, fun n h => nomatch h⟩)
  · refine ⟨l5, _, _, .ref l2, rfl, rfl, SqL.of g5, rfl, ?_⟩
    obtain ⟨jn, rfl⟩ : ∃ jn : Nat, j = jn := ⟨j.toNat, by omega⟩
    have hj : jn < 9 := by omega
    exact k _ (.list [.int jn]) B2 H10 x2 hp (.lst (SqL.of g2) (.cons (.int _) .nil)) (shw_l1 ⟨jn, hj⟩) (.inr ⟨l2, [jn], rfl, rfl, g2, b2, np2, Nat.le_refl _, fun n h => by rw [List.mem_singleton.mp h]; exact hj⟩)
  · refine ⟨l5, _, _, .non, rfl, rfl, SqL.of g5, rfl, ?_⟩
    exact k _ .none B2 H10 x2 hp .non shw_non (.inl ⟨rfl, .non⟩)
  · refine ⟨l5, _, _, .str z, rfl, rfl, SqL.of g5, rfl, ?_⟩
    exact k _ (.str z) B2 H10 x2 hp (.str z) hsr (.inl ⟨rfl, .str z⟩)

end
end Lw
end

section
set_option Elab.async false
set_option linter.all false
set_option maxRecDepth 100000
set_option maxHeartbeats 4000000
set_option pp.maxSteps 300
set_option pp.deepTerms false
namespace Lw
open PySem L2 Evl M
open PyProof.Rows hiding St
local macro_rules | `(tactic| walk_at "at") => `(tactic| first | assumption | exact upd_same)
local macro_rules | `(tactic| walk_at "sq") => `(tactic| first | assumption | exact SqL.of (by walk_at "at") | exact SqT.of (by walk_at "at"))
local macro_rules | `(tactic| walk_at "sd") => `(tactic| first | assumption | exact Names.size (by assumption) | omega | decide | exact Nat.le_of_ble_eq_true rfl | exact Or.inl ⟨by decide, by decide⟩ | exact wide_div (b := 200) (by first | assumption | decide) (by first | assumption | decide) (by decide) (by decide) | exact pow_w 10 (by decide) (by decide) (by decide) (by decide))
local macro_rules | `(tactic| walk_at "r1") => `(tactic| first
  | refine ⟨_, rfl, ?_⟩
  | refine ⟨_, _, rfl, rfl, ?_⟩
  | refine And.intro rfl ?_
  | refine ⟨_, _, _, _, rfl, rfl, (by walk_at "sq"), rfl, ?_⟩
  | refine ⟨_, _, _, _, rfl, rfl, (by walk_at "at"), rfl, ?_⟩
  | refine ⟨_, _, rfl, Or.inl (by walk_at "sq"), ?_⟩
  | refine ⟨_, _, rfl, Or.inr (by walk_at "sq"), ?_⟩
  | refine ⟨_, _, rfl, ?_⟩
  | refine Or.inl ⟨_, rfl, ?_⟩
  | refine And.intro (by walk_at "sd") ?_)
local macro_rules | `(tactic| walk_at "rd") => `(tactic| try (walk_at "r1"; walk_at "rd"))
section
variable {P : Program} {w : World} {K : PySem.W.Frag} {mg : Str → Option Value} {base : Heap}
theorem ok__law_made_of (T : Tx w K mg) (G_init : FnOk P w K mg base CX0 1 T.a_init T.d_init ["self", "value"] (sp_init K)) :
    FnOk P w K mg base CX0 3 T.a__law_made_of T.d__law_made_of ["thing", "is_named"] (sp_made (cls12 T)) := by
  refine T.F__law_made_of.ok sc__law_made_of (fun vs H Q E h => ?_) (fun cdv A outer s H vs Q E hr h => ?_)
  · obtain ⟨_, _, rfl, _⟩ := h
    rfl
  obtain ⟨x, b, rfl, k⟩ := h
  refine ⟨_, (pss_cons (ps_if (pt_val (pv 1)) (pss_cons (ps_set (i := 2) sc__law_made_of.nd rfl (Or.inl rfl) (M.pm_lst (M.pm_cons (M.pm_one (M.pe_mkK T.x_InvalidRow G_init (hr.mono (by omega)) T.kb_init pass0 (by rfl) T.g_InvalidRow (pk_cons (pv 0) pk_nil))) (M.pm_cons (M.pm_one (M.pe_mkK T.x_InvalidQuestion G_init (hr.mono (by omega)) T.kb_init pass0 (by rfl) T.g_InvalidQuestion (pk_cons (pv 0) pk_nil))) (M.pm_cons (M.pm_one (M.pe_mkK T.x_InvalidNumber G_init (hr.mono (by omega)) T.kb_init pass0 (by rfl) T.g_InvalidNumber (pk_cons (pv 0) pk_nil))) M.pm_nil)))))
   (pss_cons (ps_set (i := 2) sc__law_made_of.nd rfl (Or.inl rfl) (pe_op op_cat (pv 2) (M.pm_lst (M.pm_cons (M.pm_one (M.pe_mkK T.x_InvalidPlace G_init (hr.mono (by omega)) T.kb_init pass0 (by rfl) T.g_InvalidPlace (pk_cons (pv 0) pk_nil))) (M.pm_cons (M.pm_one (M.pe_mkK T.x_InvalidScope G_init (hr.mono (by omega)) T.kb_init pass0 (by rfl) T.g_InvalidScope (pk_cons (pv 0) pk_nil))) (M.pm_cons (M.pm_one (M.pe_mkK T.x_InvalidBlocks G_init (hr.mono (by omega)) T.kb_init pass0 (by rfl) T.g_InvalidBlocks (pk_cons (pv 0) pk_nil))) M.pm_nil))))))
   (pss_cons (ps_set (i := 2) sc__law_made_of.nd rfl (Or.inl rfl) (pe_op op_cat (pv 2) (M.pm_lst (M.pm_cons (M.pm_one (M.pe_mkK T.x_InvalidAnswer G_init (hr.mono (by omega)) T.kb_init pass0 (by rfl) T.g_InvalidAnswer (pk_cons (pv 0) pk_nil))) (M.pm_cons (M.pm_one (M.pe_mkK T.x_NotLet G_init (hr.mono (by omega)) T.kb_init pass0 (by rfl) T.g_NotLet (pk_cons (pv 0) pk_nil))) (M.pm_cons (M.pm_one (M.pe_mkK T.x_NothingToUndo G_init (hr.mono (by omega)) T.kb_init pass0 (by rfl) T.g_NothingToUndo (pk_cons (pv 0) pk_nil))) M.pm_nil))))))
   (pss_one (ps_ret (pe_op op_cat (pv 2) (M.pm_lst (M.pm_cons (M.pm_one (M.pe_mkK T.x_GameOver G_init (hr.mono (by omega)) T.kb_init pass0 (by rfl) T.g_GameOver (pk_cons (pv 0) pk_nil))) (M.pm_cons (M.pm_one (M.pe_mkK T.x_Unreadable G_init (hr.mono (by omega)) T.kb_init pass0 (by rfl) T.g_Unreadable (pk_cons (pv 0) pk_nil))) (M.pm_cons (M.pm_one (M.pe_mkK T.x_PickError G_init (hr.mono (by omega)) T.kb_init pass0 (by rfl) T.g_PickError (pk_cons (pv 0) pk_nil))) M.pm_nil)))))))))) pss_nil)
   (pss_cons (ps_set (i := 2) sc__law_made_of.nd rfl (Or.inl rfl) (M.pm_lst (M.pm_cons (M.pm_one (M.pe_mk T.x_InvalidRow G_init (hr.mono (by omega)) T.b_init pass0 (by rfl) T.g_InvalidRow (pa_cons (pv 0) pa_nil))) (M.pm_cons (M.pm_one (M.pe_mk T.x_InvalidQuestion G_init (hr.mono (by omega)) T.b_init pass0 (by rfl) T.g_InvalidQuestion (pa_cons (pv 0) pa_nil))) (M.pm_cons (M.pm_one (M.pe_mk T.x_InvalidNumber G_init (hr.mono (by omega)) T.b_init pass0 (by rfl) T.g_InvalidNumber (pa_cons (pv 0) pa_nil))) (M.pm_cons (M.pm_one (M.pe_mk T.x_InvalidPlace G_init (hr.mono (by omega)) T.b_init pass0 (by rfl) T.g_InvalidPlace (pa_cons (pv 0) pa_nil))) M.pm_nil))))))
   (pss_cons (ps_set (i := 2) sc__law_made_of.nd rfl (Or.inl rfl) (pe_op op_cat (pv 2) (M.pm_lst (M.pm_cons (M.pm_one (M.pe_mk T.x_InvalidScope G_init (hr.mono (by omega)) T.b_init pass0 (by rfl) T.g_InvalidScope (pa_cons (pv 0) pa_nil))) (M.pm_cons (M.pm_one (M.pe_mk T.x_InvalidBlocks G_init (hr.mono (by omega)) T.b_init pass0 (by rfl) T.g_InvalidBlocks (pa_cons (pv 0) pa_nil))) (M.pm_cons (M.pm_one (M.pe_mk T.x_InvalidAnswer G_init (hr.mono (by omega)) T.b_init pass0 (by rfl) T.g_InvalidAnswer (pa_cons (pv 0) pa_nil))) (M.pm_cons (M.pm_one (M.pe_mk T.x_NotLet G_init (hr.mono (by omega)) T.b_init pass0 (by rfl) T.g_NotLet (pa_cons (pv 0) pa_nil))) M.pm_nil)))))))
   (pss_one (ps_ret (pe_op op_cat (pv 2) (M.pm_lst (M.pm_cons (M.pm_one (M.pe_mk T.x_NothingToUndo G_init (hr.mono (by omega)) T.b_init pass0 (by rfl) T.g_NothingToUndo (pa_cons (pv 0) pa_nil))) (M.pm_cons (M.pm_one (M.pe_mk T.x_GameOver G_init (hr.mono (by omega)) T.b_init pass0 (by rfl) T.g_GameOver (pa_cons (pv 0) pa_nil))) (M.pm_cons (M.pm_one (M.pe_mk T.x_Unreadable G_init (hr.mono (by omega)) T.b_init pass0 (by rfl) T.g_Unreadable (pa_cons (pv 0) pa_nil))) (M.pm_cons (M.pm_one (M.pe_mk T.x_PickError G_init (hr.mono (by omega)) T.b_init pass0 (by rfl) T.g_PickError (pa_cons (pv 0) pa_nil))) M.pm_nil))))))))))), ?_⟩
  walk_at "rd"
  refine iteB (fun e0 => ?_) (fun e0 => ?_)
  · walk_at "rd"
    intro l1 vs1 H1 x1 m1 e1 h1
    walk_at "rd"
    intro l2 vs2 H2 x2 m2 e2 h2
    refine cat_made x2 e1 e2 h1 h2 (Nat.le_of_ble_eq_true rfl) (fun l3 vs3 H3 x3 m3 e3 h3 => ?_)
    walk_at "rd"
    intro l4 vs4 H4 x4 m4 e4 h4
    refine cat_made x4 e3 e4 h3 h4 (Nat.le_of_ble_eq_true rfl) (fun l5 vs5 H5 x5 m5 e5 h5 => ?_)
    walk_at "rd"
    intro l6 vs6 H6 x6 m6 e6 h6
    refine cat_made x6 e5 e6 h5 h6 (Nat.le_of_ble_eq_true rfl) (fun l7 vs7 H7 x7 m7 e7 h7 => ?_)
    exact k l7 vs7 H7 (((x1.trans x3).trans x5).trans x7) (fresh_back ((x1.trans x3).trans x5) m7) e7 h7
  · walk_at "rd"
    intro l1 vs1 H1 x1 m1 e1 h1
    walk_at "rd"
    intro l2 vs2 H2 x2 m2 e2 h2
    refine cat_made x2 e1 e2 h1 h2 (Nat.le_of_ble_eq_true rfl) (fun l3 vs3 H3 x3 m3 e3 h3 => ?_)
    walk_at "rd"
    intro l4 vs4 H4 x4 m4 e4 h4
    refine cat_made x4 e3 e4 h3 h4 (Nat.le_of_ble_eq_true rfl) (fun l5 vs5 H5 x5 m5 e5 h5 => ?_)
    exact k l5 vs5 H5 ((x1.trans x3).trans x5) (fresh_back (x1.trans x3) m5) e5 h5

end
end Lw
end

section
set_option Elab.async false
set_option linter.all false
set_option maxRecDepth 100000
set_option maxHeartbeats 4000000
set_option pp.maxSteps 300
set_option pp.deepTerms false
namespace Lw
open PySem L2 Evl M
open PyProof.Rows hiding St
local macro_rules | `(tactic| walk_at "at") => `(tactic| first | assumption | exact upd_same)
local macro_rules | `(tactic| walk_at "sq") => `(tactic| first | assumption | exact SqL.of (by walk_at "at") | exact SqT.of (by walk_at "at"))
local macro_rules | `(tactic| walk_at "sd") => `(tactic| first | assumption | exact Names.size (by assumption) | omega | decide | exact Nat.le_of_ble_eq_true rfl | exact Or.inl ⟨by decide, by decide⟩ | exact wide_div (b := 200) (by first | assumption | decide) (by first | assumption | decide) (by decide) (by decide) | exact pow_w 10 (by decide) (by decide) (by decide) (by decide))
local macro_rules | `(tactic| walk_at "r1") => `(tactic| first
  | refine ⟨_, rfl, ?_⟩
  | refine ⟨_, _, rfl, rfl, ?_⟩
  | refine And.intro rfl ?_
  | refine ⟨_, _, _, _, rfl, rfl, (by walk_at "sq"), rfl, ?_⟩
  | refine ⟨_, _, _, _, rfl, rfl, (by walk_at "at"), rfl, ?_⟩
  | refine ⟨_, _, rfl, Or.inl (by walk_at "sq"), ?_⟩
  | refine ⟨_, _, rfl, Or.inr (by walk_at "sq"), ?_⟩
  | refine ⟨_, _, rfl, ?_⟩
  | refine Or.inl ⟨_, rfl, ?_⟩
  | refine And.intro (by walk_at "sd") ?_)
local macro_rules | `(tactic| walk_at "rd") => `(tactic| try (walk_at "r1"; walk_at "rd"))
section
variable {P : Program} {w : World} {K : PySem.W.Frag} {mg : Str → Option Value} {base : Heap}
theorem ok__law_kinds_of (T : Tx w K mg) : FnOk P w K mg base CX0 1 T.a__law_kinds_of T.d__law_kinds_of ["e"] (sp_kinds (cls12 T)) := by
  refine T.F__law_kinds_of.ok sc__law_kinds_of (fun vs H Q E h => ?_) (fun cdv A outer s H vs Q E hr h => ?_)
  · obtain ⟨_, _, _, _, rfl, _⟩ := h
    rfl
  obtain ⟨a, c, i, x, rfl, hc, hx, k⟩ := h
  refine ⟨_, (pss_cons (ps_set (i := 1) sc__law_kinds_of.nd rfl (Or.inl rfl) (pe_lst (pa_cons (pe_callB M.call_isX (by rfl) T.b_isinstance (by decide +kernel) (pa_cons (pv 0) (pa_cons (pe_glob (v := .ref T.a_InvalidRow) (by rfl) T.g_InvalidRow rfl) pa_nil))) (pa_cons (pe_callB M.call_isX (by rfl) T.b_isinstance (by decide +kernel) (pa_cons (pv 0) (pa_cons (pe_glob (v := .ref T.a_InvalidQuestion) (by rfl) T.g_InvalidQuestion rfl) pa_nil))) (pa_cons (pe_callB M.call_isX (by rfl) T.b_isinstance (by decide +kernel) (pa_cons (pv 0) (pa_cons (pe_glob (v := .ref T.a_InvalidNumber) (by rfl) T.g_InvalidNumber rfl) pa_nil))) pa_nil)))))
   (pss_cons (ps_set (i := 1) sc__law_kinds_of.nd rfl (Or.inl rfl) (pe_op op_cat (pv 1) (pe_lst (pa_cons (pe_callB M.call_isX (by rfl) T.b_isinstance (by decide +kernel) (pa_cons (pv 0) (pa_cons (pe_glob (v := .ref T.a_InvalidPlace) (by rfl) T.g_InvalidPlace rfl) pa_nil))) (pa_cons (pe_callB M.call_isX (by rfl) T.b_isinstance (by decide +kernel) (pa_cons (pv 0) (pa_cons (pe_glob (v := .ref T.a_InvalidScope) (by rfl) T.g_InvalidScope rfl) pa_nil))) (pa_cons (pe_callB M.call_isX (by rfl) T.b_isinstance (by decide +kernel) (pa_cons (pv 0) (pa_cons (pe_glob (v := .ref T.a_InvalidBlocks) (by rfl) T.g_InvalidBlocks rfl) pa_nil))) pa_nil))))))
   (pss_cons (ps_set (i := 1) sc__law_kinds_of.nd rfl (Or.inl rfl) (pe_op op_cat (pv 1) (pe_lst (pa_cons (pe_callB M.call_isX (by rfl) T.b_isinstance (by decide +kernel) (pa_cons (pv 0) (pa_cons (pe_glob (v := .ref T.a_InvalidAnswer) (by rfl) T.g_InvalidAnswer rfl) pa_nil))) (pa_cons (pe_callB M.call_isX (by rfl) T.b_isinstance (by decide +kernel) (pa_cons (pv 0) (pa_cons (pe_glob (v := .ref T.a_NotLet) (by rfl) T.g_NotLet rfl) pa_nil))) (pa_cons (pe_callB M.call_isX (by rfl) T.b_isinstance (by decide +kernel) (pa_cons (pv 0) (pa_cons (pe_glob (v := .ref T.a_NothingToUndo) (by rfl) T.g_NothingToUndo rfl) pa_nil))) pa_nil))))))
   (pss_one (ps_ret (pe_op op_cat (pv 1) (pe_lst (pa_cons (pe_callB M.call_isX (by rfl) T.b_isinstance (by decide +kernel) (pa_cons (pv 0) (pa_cons (pe_glob (v := .ref T.a_GameOver) (by rfl) T.g_GameOver rfl) pa_nil))) (pa_cons (pe_callB M.call_isX (by rfl) T.b_isinstance (by decide +kernel) (pa_cons (pv 0) (pa_cons (pe_glob (v := .ref T.a_Unreadable) (by rfl) T.g_Unreadable rfl) pa_nil))) pa_nil))))))))), ?_⟩
  have T' := T.xc i c hc
  have k0 : PySem.W.kitOne K (.ref c) (.ref T.a_InvalidRow) = some (decide (i = 0)) := by
    rw [T.kit i 0 c _ hc rfl]
    simp
  have k1 : PySem.W.kitOne K (.ref c) (.ref T.a_InvalidQuestion) = some (decide (i = 1)) := by
    rw [T.kit i 1 c _ hc rfl]
    simp
  have k2 : PySem.W.kitOne K (.ref c) (.ref T.a_InvalidNumber) = some (decide (i = 2)) := by
    rw [T.kit i 2 c _ hc rfl]
    simp
  have k3 : PySem.W.kitOne K (.ref c) (.ref T.a_InvalidPlace) = some (decide (i = 3)) := by
    rw [T.kit i 3 c _ hc rfl]
    simp
  have k4 : PySem.W.kitOne K (.ref c) (.ref T.a_InvalidScope) = some (decide (i = 4)) := by
    rw [T.kit i 4 c _ hc rfl]
    simp
  have k5 : PySem.W.kitOne K (.ref c) (.ref T.a_InvalidBlocks) = some (decide (i = 5)) := by
    rw [T.kit i 5 c _ hc rfl]
    simp
  have k6 : PySem.W.kitOne K (.ref c) (.ref T.a_InvalidAnswer) = some (decide (i = 6)) := by
    rw [T.kit i 6 c _ hc rfl]
    simp
  have k7 : PySem.W.kitOne K (.ref c) (.ref T.a_NotLet) = some (decide (i = 7)) := by
    rw [T.kit i 7 c _ hc rfl]
    simp
  have k8 : PySem.W.kitOne K (.ref c) (.ref T.a_NothingToUndo) = some (decide (i = 8)) := by
    rw [T.kit i 8 c _ hc rfl]
    simp
  have k9 : PySem.W.kitOne K (.ref c) (.ref T.a_GameOver) = some (decide (i = 9)) := by
    rw [T.kit i 9 c _ hc rfl]
    simp
  have k10 : PySem.W.kitOne K (.ref c) (.ref T.a_Unreadable) = some (decide (i = 10)) := by
    rw [T.kit i 10 c _ hc rfl]
    simp
  walk_at "rd"
  refine ⟨a, c, T.a_init, x, _, _, _, rfl, T', hx, (fun u z => z), k0, ?_⟩
  walk_at "rd"
  refine ⟨a, c, T.a_init, x, _, _, _, rfl, T', hx, (fun u z => z), k1, ?_⟩
  walk_at "rd"
  refine ⟨a, c, T.a_init, x, _, _, _, rfl, T', hx, (fun u z => z), k2, ?_⟩
  walk_at "rd"
  intro l0 n0
  have x0 : Ex H (upd H l0 (.lst [.bl (decide (i = 0)), .bl (decide (i = 1)), .bl (decide (i = 2))])) := Ex.new n0
  have e0 : upd H l0 (.lst [.bl (decide (i = 0)), .bl (decide (i = 1)), .bl (decide (i = 2))]) l0 = some (.lst [.bl (decide (i = 0)), .bl (decide (i = 1)), .bl (decide (i = 2))]) := upd_same
  generalize upd H l0 (.lst [.bl (decide (i = 0)), .bl (decide (i = 1)), .bl (decide (i = 2))]) = G0 at *
  have hx0 := hx.up x0
  walk_at "rd"
  have c0 : Ex H G0 := x0
  walk_at "rd"
  refine ⟨a, c, T.a_init, x, _, _, _, rfl, T', hx0, (fun u z => z), k3, ?_⟩
  walk_at "rd"
  refine ⟨a, c, T.a_init, x, _, _, _, rfl, T', hx0, (fun u z => z), k4, ?_⟩
  walk_at "rd"
  refine ⟨a, c, T.a_init, x, _, _, _, rfl, T', hx0, (fun u z => z), k5, ?_⟩
  walk_at "rd"
  intro l1 n1
  have x1 : Ex G0 (upd G0 l1 (.lst [.bl (decide (i = 3)), .bl (decide (i = 4)), .bl (decide (i = 5))])) := Ex.new n1
  have e1 : upd G0 l1 (.lst [.bl (decide (i = 3)), .bl (decide (i = 4)), .bl (decide (i = 5))]) l1 = some (.lst [.bl (decide (i = 3)), .bl (decide (i = 4)), .bl (decide (i = 5))]) := upd_same
  generalize upd G0 l1 (.lst [.bl (decide (i = 3)), .bl (decide (i = 4)), .bl (decide (i = 5))]) = G1 at *
  have hx1 := hx0.up x1
  refine ⟨l0, l1, _, _, rfl, rfl, x1 _ _ e0, e1, Nat.le_trans (Nat.le_of_ble_eq_true rfl : _ ≤ 100) (by decide), fun p1 m1 => ?_⟩
  have y1 : Ex G1 (upd G1 p1 (.lst ([.bl (decide (i = 0)), .bl (decide (i = 1)), .bl (decide (i = 2))] ++ [.bl (decide (i = 3)), .bl (decide (i = 4)), .bl (decide (i = 5))]))) := Ex.new m1
  have f1 : upd G1 p1 (.lst ([.bl (decide (i = 0)), .bl (decide (i = 1)), .bl (decide (i = 2))] ++ [.bl (decide (i = 3)), .bl (decide (i = 4)), .bl (decide (i = 5))])) p1 = some (.lst ([.bl (decide (i = 0)), .bl (decide (i = 1)), .bl (decide (i = 2))] ++ [.bl (decide (i = 3)), .bl (decide (i = 4)), .bl (decide (i = 5))])) := upd_same
  generalize upd G1 p1 (.lst ([.bl (decide (i = 0)), .bl (decide (i = 1)), .bl (decide (i = 2))] ++ [.bl (decide (i = 3)), .bl (decide (i = 4)), .bl (decide (i = 5))])) = J1 at *
  have c1 := (c0.trans x1).trans y1
  have hy1 := hx1.up y1
  walk_at "rd"
  refine ⟨a, c, T.a_init, x, _, _, _, rfl, T', hy1, (fun u z => z), k6, ?_⟩
  walk_at "rd"
  refine ⟨a, c, T.a_init, x, _, _, _, rfl, T', hy1, (fun u z => z), k7, ?_⟩
  walk_at "rd"
  refine ⟨a, c, T.a_init, x, _, _, _, rfl, T', hy1, (fun u z => z), k8, ?_⟩
  walk_at "rd"
  intro l2 n2
  have x2 : Ex J1 (upd J1 l2 (.lst [.bl (decide (i = 6)), .bl (decide (i = 7)), .bl (decide (i = 8))])) := Ex.new n2
  have e2 : upd J1 l2 (.lst [.bl (decide (i = 6)), .bl (decide (i = 7)), .bl (decide (i = 8))]) l2 = some (.lst [.bl (decide (i = 6)), .bl (decide (i = 7)), .bl (decide (i = 8))]) := upd_same
  generalize upd J1 l2 (.lst [.bl (decide (i = 6)), .bl (decide (i = 7)), .bl (decide (i = 8))]) = G2 at *
  have hx2 := hy1.up x2
  refine ⟨p1, l2, _, _, rfl, rfl, x2 _ _ f1, e2, Nat.le_trans (Nat.le_of_ble_eq_true rfl : _ ≤ 100) (by decide), fun p2 m2 => ?_⟩
  have y2 : Ex G2 (upd G2 p2 (.lst (([.bl (decide (i = 0)), .bl (decide (i = 1)), .bl (decide (i = 2))] ++ [.bl (decide (i = 3)), .bl (decide (i = 4)), .bl (decide (i = 5))]) ++ [.bl (decide (i = 6)), .bl (decide (i = 7)), .bl (decide (i = 8))]))) := Ex.new m2
  have f2 : upd G2 p2 (.lst (([.bl (decide (i = 0)), .bl (decide (i = 1)), .bl (decide (i = 2))] ++ [.bl (decide (i = 3)), .bl (decide (i = 4)), .bl (decide (i = 5))]) ++ [.bl (decide (i = 6)), .bl (decide (i = 7)), .bl (decide (i = 8))])) p2 = some (.lst (([.bl (decide (i = 0)), .bl (decide (i = 1)), .bl (decide (i = 2))] ++ [.bl (decide (i = 3)), .bl (decide (i = 4)), .bl (decide (i = 5))]) ++ [.bl (decide (i = 6)), .bl (decide (i = 7)), .bl (decide (i = 8))])) := upd_same
  generalize upd G2 p2 (.lst (([.bl (decide (i = 0)), .bl (decide (i = 1)), .bl (decide (i = 2))] ++ [.bl (decide (i = 3)), .bl (decide (i = 4)), .bl (decide (i = 5))]) ++ [.bl (decide (i = 6)), .bl (decide (i = 7)), .bl (decide (i = 8))])) = J2 at *
  have c2 := (c1.trans x2).trans y2
  have hy2 := hx2.up y2
  walk_at "rd"
  refine ⟨a, c, T.a_init, x, _, _, _, rfl, T', hy2, (fun u z => z), k9, ?_⟩
  walk_at "rd"
  refine ⟨a, c, T.a_init, x, _, _, _, rfl, T', hy2, (fun u z => z), k10, ?_⟩
  walk_at "rd"
  intro l3 n3
  have x3 : Ex J2 (upd J2 l3 (.lst [.bl (decide (i = 9)), .bl (decide (i = 10))])) := Ex.new n3
  have e3 : upd J2 l3 (.lst [.bl (decide (i = 9)), .bl (decide (i = 10))]) l3 = some (.lst [.bl (decide (i = 9)), .bl (decide (i = 10))]) := upd_same
  generalize upd J2 l3 (.lst [.bl (decide (i = 9)), .bl (decide (i = 10))]) = G3 at *
  have hx3 := hy2.up x3
  refine ⟨p2, l3, _, _, rfl, rfl, x3 _ _ f2, e3, Nat.le_trans (Nat.le_of_ble_eq_true rfl : _ ≤ 100) (by decide), fun p3 m3 => ?_⟩
  have y3 : Ex G3 (upd G3 p3 (.lst ((([.bl (decide (i = 0)), .bl (decide (i = 1)), .bl (decide (i = 2))] ++ [.bl (decide (i = 3)), .bl (decide (i = 4)), .bl (decide (i = 5))]) ++ [.bl (decide (i = 6)), .bl (decide (i = 7)), .bl (decide (i = 8))]) ++ [.bl (decide (i = 9)), .bl (decide (i = 10))]))) := Ex.new m3
  have f3 : upd G3 p3 (.lst ((([.bl (decide (i = 0)), .bl (decide (i = 1)), .bl (decide (i = 2))] ++ [.bl (decide (i = 3)), .bl (decide (i = 4)), .bl (decide (i = 5))]) ++ [.bl (decide (i = 6)), .bl (decide (i = 7)), .bl (decide (i = 8))]) ++ [.bl (decide (i = 9)), .bl (decide (i = 10))])) p3 = some (.lst ((([.bl (decide (i = 0)), .bl (decide (i = 1)), .bl (decide (i = 2))] ++ [.bl (decide (i = 3)), .bl (decide (i = 4)), .bl (decide (i = 5))]) ++ [.bl (decide (i = 6)), .bl (decide (i = 7)), .bl (decide (i = 8))]) ++ [.bl (decide (i = 9)), .bl (decide (i = 10))])) := upd_same
  generalize upd G3 p3 (.lst ((([.bl (decide (i = 0)), .bl (decide (i = 1)), .bl (decide (i = 2))] ++ [.bl (decide (i = 3)), .bl (decide (i = 4)), .bl (decide (i = 5))]) ++ [.bl (decide (i = 6)), .bl (decide (i = 7)), .bl (decide (i = 8))]) ++ [.bl (decide (i = 9)), .bl (decide (i = 10))])) = J3 at *
  have c3 := (c2.trans x3).trans y3
  have hy3 := hx3.up y3
  exact k p3 J3 c3 f3

end
end Lw
end

section
set_option Elab.async false
set_option linter.all false
set_option maxRecDepth 100000
set_option maxHeartbeats 4000000
set_option pp.maxSteps 300
set_option pp.deepTerms false
namespace Lw
open PySem L2 Evl M
open PyProof.Rows hiding St
local macro_rules | `(tactic| walk_at "at") => `(tactic| first | assumption | exact upd_same)
local macro_rules | `(tactic| walk_at "sq") => `(tactic| first | assumption | exact SqL.of (by walk_at "at") | exact SqT.of (by walk_at "at"))
local macro_rules | `(tactic| walk_at "sd") => `(tactic| first | assumption | exact Names.size (by assumption) | omega | decide | exact Nat.le_of_ble_eq_true rfl | exact Or.inl ⟨by decide, by decide⟩ | exact wide_div (b := 200) (by first | assumption | decide) (by first | assumption | decide) (by decide) (by decide) | exact pow_w 10 (by decide) (by decide) (by decide) (by decide))
local macro_rules | `(tactic| walk_at "r1") => `(tactic| first
  | refine ⟨_, rfl, ?_⟩
  | refine ⟨_, _, rfl, rfl, ?_⟩
  | refine And.intro rfl ?_
  | refine ⟨_, _, _, _, rfl, rfl, (by walk_at "sq"), rfl, ?_⟩
  | refine ⟨_, _, _, _, rfl, rfl, (by walk_at "at"), rfl, ?_⟩
  | refine ⟨_, _, rfl, Or.inl (by walk_at "sq"), ?_⟩
  | refine ⟨_, _, rfl, Or.inr (by walk_at "sq"), ?_⟩
  | refine ⟨_, _, rfl, ?_⟩
  | refine Or.inl ⟨_, rfl, ?_⟩
  | refine And.intro (by walk_at "sd") ?_)
local macro_rules | `(tactic| walk_at "rd") => `(tactic| try (walk_at "r1"; walk_at "rd"))
section
variable {P : Program} {w : World} {K : PySem.W.Frag} {mg : Str → Option Value} {base : Heap}
set_option hygiene false in
local macro_rules | `(tactic| walk_at "tl") => `(tactic| (
  walk_at "rd"
  obtain ⟨Pw, hPw⟩ : ∃ Pw : Nat → L2.St → Hp → Prop, ∀ j σ G, Pw j σ G ↔ ∃ (o4 o5 : Option V), σ = [some (.ref p), some (.bl b), some vt, some (.ref l), o4, o5, none] ∧ Ex Gc G := ⟨_, fun _ _ _ => Iff.rfl⟩
  refine for_range Pw ((hPw _ _ _).mpr ⟨_, _, rfl, Ex.refl _⟩) (fun s σ G hs h => ?_) (fun σ G h => ?_)
  · obtain ⟨o4, o5, rfl, xg⟩ := (hPw _ _ _).mp h
    have hs12 : s < 12 := hs
    obtain ⟨c, hcs⟩ : ∃ c, (cls12 T)[s]? = some c := ⟨_, List.getElem?_eq_getElem (show s < (cls12 T).length from hs12)⟩
    have T' := T.xc s c hcs
    have k11 : PySem.W.kitOne K (.ref c) (.ref T.a_PickError) = some true := by rw [T.kit s 11 c _ hcs rfl]; simp
    walk_at "rd"
    intro D nD
    obtain ⟨Pl2, hPl2⟩ : ∃ Pl2 : Nat → Hp → Prop, ∀ j J, Pl2 j J ↔ Ex G J ∧ J D = some (.lst (dues s j)) := ⟨_, fun _ _ => Iff.rfl⟩
    refine lc_range Pl2 ((hPl2 _ _).mpr ⟨Ex.new nD, upd_same⟩) (fun j J hj hJ => ?_) (fun J hJ => ?_)
    · obtain ⟨xj, ej⟩ := (hPl2 _ _).mp hJ
      walk_at "rd"
      refine ⟨_, ej, by rw [dues_len]; exact Nat.lt_of_lt_of_le hj (by decide), (hPl2 _ _).mpr ⟨xj.mut nD, ?_⟩⟩
      rw [upd_same, dec_at, dues_succ]
    · obtain ⟨xj, ej⟩ := (hPl2 _ _).mp hJ
      have xG := xg.trans xj
      obtain ⟨a, hva, hxa⟩ := hallc.at hcs
      have hat : atI vs (0 + (s : Int)) = some (.ref a) := by rw [Int.zero_add]; exact atI_nat hva
      have hxa1 := hxa.up xG
      walk_at "rd"
      refine ⟨l, vs, _, _, rfl, rfl, SqL.of (xG _ _ elc), hat, ?_⟩
      refine ⟨a, c, T.a_init, _, rfl, T', hxa1, ?_⟩
      walk_at "rd"
      refine ⟨_, _, rfl, hdc.up xG, hsh.1, hsh.2.2.1, hsh.2.2.2, da_dp hsh.2.1, ?_⟩
      walk_at "rd"
      refine ⟨_, _, rfl, hdc.up xG, hsh.1, hsh.2.2.1, hsh.2.2.2, da_dp hsh.2.1, ?_⟩
      walk_at "rd"
      refine iteNS (fun y => absurd rfl y) (fun _ => ?_)
      walk_at "rd"
      refine ⟨l, vs, _, _, rfl, rfl, SqL.of (xG _ _ elc), hat, ?_⟩
      walk_at "rd"
      refine ⟨a, c, s, _, rfl, hcs, hxa1, fun l5 J5 x5 e5 => ?_⟩
      walk_at "rd"
      obtain ⟨d1, d2⟩ := due_ok s
      refine ⟨.list (dueD s 11), .list (dueD s 11), .lst (SqL.of e5) (dp_dues _ _ s (List.range 11)), .lst (SqL.of (x5 _ _ ej)) (dp_dues _ _ s (List.range 11)), d1, d1, ?_⟩
      rw [d2]
      walk_at "rd"
      have xG5 := xG.trans x5
      refine ⟨l, vs, _, _, rfl, rfl, SqL.of (xG5 _ _ elc), hat, ?_⟩
      walk_at "rd"
      refine ⟨a, c, T.a_init, _, _, _, _, rfl, T', hxa.up xG5, (fun u z => z), k11, ?_⟩
      walk_at "rd"
      refine ⟨l, vs, _, _, rfl, rfl, SqL.of (xG5 _ _ elc), hat, ?_⟩
      walk_at "rd"
      refine ⟨a, c, T.a_init, _, _, _, _, rfl, T', hxa.up xG5, (fun u z => z), T.kitV s c hcs, ?_⟩
      walk_at "rd"
      refine iteF ?_
      exact (hPw _ _ _).mpr ⟨_, _, rfl, xG5⟩
  · obtain ⟨o4, o5, rfl, xg⟩ := (hPw _ _ _).mp h
    exact (hPv _ _ _).mpr ⟨_, _, _, _, _, B1, rfl, xb.trans x1, (hPc.keep xg).mono (by omega), hi⟩))
theorem ok__law_fits (T : Tx w K mg) (G__law_draw : FnOk P w K mg base CX0 1 T.a__law_draw T.d__law_draw ["pool", "span"] sp_draw)
    (G__law_thing : FnOk P w K mg base CX0 2 T.a__law_thing T.d__law_thing ["pool"] (sp_thing K))
    (G__law_made_of : FnOk P w K mg base CX0 3 T.a__law_made_of T.d__law_made_of ["thing", "is_named"] (sp_made (cls12 T)))
    (G__law_kinds_of : FnOk P w K mg base CX0 1 T.a__law_kinds_of T.d__law_kinds_of ["e"] (sp_kinds (cls12 T))) :
    FnG P w K mg base CX0 4 T.a__law_fits T.d__law_fits ["pool"] sp_fits := by
  refine M.Fun.okG T.F__law_fits sc__law_fits (fun vs H Q E h => ?_) (fun cdv A hg outer s H vs Q E hr h => ?_)
  · obtain ⟨_, _, _, rfl, _⟩ := h
    rfl
  obtain ⟨H0, p, m, rfl, hP, hm, k⟩ := h
  refine ⟨_, (pss_cons (ps_for PassesOwn.never (by rfl) (pi_tup (pe_tup (pa_cons pe_bl (pa_cons pe_bl pa_nil)))) (pg_name (i := 1) sc__law_fits.nd rfl (Or.inl rfl)) (pss_cons (ps_set (i := 2) sc__law_fits.nd rfl (Or.inl rfl) (pe_call G__law_thing (hr.mono (by omega)) (by rfl) T.g__law_thing T.F__law_thing.kp T.b__law_thing .nil pass0 (pa_cons (pv 0) pa_nil)))
   (pss_cons (ps_set (i := 3) sc__law_fits.nd rfl (Or.inl rfl) (pe_call G__law_made_of (hr.mono (by omega)) (by rfl) T.g__law_made_of T.F__law_made_of.kp T.b__law_made_of .nil pass0 (pa_cons (pv 2) (pa_cons (pv 1) pa_nil))))
   (pss_cons (ps_if (pt_val (pe_callB M.call_isT (by rfl) T.b_isinstance (by decide +kernel) (pa_cons (pv 2) (pa_cons (pe_bltn (v := .ty "list") (by rfl) T.b_list (by decide +kernel) rfl) pa_nil)))) (pss_one (ps_expr (pe_bm PySem.F.plainAttrs_list PySem.F.slot_list_append PySem.F.type_list_append mt_append (pv 2) (pa_cons (pe_call G__law_draw (hr.mono (by omega)) (by rfl) T.g__law_draw T.F__law_draw.kp T.b__law_draw .nil pass0 (pa_cons (pv 0) (pa_cons pe_int pa_nil))) pa_nil)))) pss_nil)
   (pss_one (ps_for PassesOwn.never (by rfl) (pi_range1 (by rfl) T.b_range (pa_cons pe_int pa_nil)) (pg_name (i := 4) sc__law_fits.nd rfl (Or.inr rfl)) (pss_cons (ps_setLc (i := 5) (own := [("at", 6)]) (g := gName 6) (tt := tYes) (by rfl) sc__law_fits.nd rfl rfl (sw_true rfl rfl rfl (by decide +kernel)) (pi_range1 (by rfl) T.b_range (pa_cons pe_int pa_nil)) (blkOk_by (own := [("at", 6)]) (N := ["pool", "is_named", "thing", "made", "spot", "due", "at"]) (sc := defScope s__law_fits) (by decide +kernel)) (fun _ _ _ _ _ => (pg_name (i := 6) sc__law_fits.nd rfl (Or.inl rfl))) (fun _ _ _ _ _ => pts_nil) (fun _ _ _ _ _ => (pe_cmpR op_eq (pv 4) (pv 6) (nomark _))))
   (pss_cons (ps_if (pw_or (pt_cmpR op_ne (pe_callB (M.call_reprA hg hr.units) (by rfl) T.b_repr (by decide +kernel) (pa_cons (M.pe_val (pe_ix ix_list (pv 3) (pv 4) (fun _ _ => rfl)) rfl) pa_nil)) (pe_callB (M.call_reprA hg hr.units) (by rfl) T.b_repr (by decide +kernel) (pa_cons (pv 2) pa_nil)) (nomark _)) (pw_or1 (pt_cmpR (op_neD hr.units) (pe_call G__law_kinds_of (hr.mono (by omega)) (by rfl) T.g__law_kinds_of T.F__law_kinds_of.kp T.b__law_kinds_of .nil pass0 (pa_cons (pe_ix ix_list (pv 3) (pv 4) (fun _ _ => rfl)) pa_nil)) (pv 5) (nomark _)))).pt (pss_one (ps_ret pe_bl)) pss_nil)
   (pss_one (ps_if (pw_or (pt_not (pt_val (pe_callB M.call_isX (by rfl) T.b_isinstance (by decide +kernel) (pa_cons (pe_ix ix_list (pv 3) (pv 4) (fun _ _ => rfl)) (pa_cons (pe_glob (v := .ref T.a_PickError) (by rfl) T.g_PickError rfl) pa_nil))))) (pw_or1 (pt_not (pt_val (pe_callB M.call_isX (by rfl) T.b_isinstance (by decide +kernel) (pa_cons (pe_ix ix_list (pv 3) (pv 4) (fun _ _ => rfl)) (pa_cons (pe_bltn (v := .ty "ValueError") (by rfl) T.b_ValueError (by decide +kernel) rfl) pa_nil))))))).pt (pss_one (ps_ret pe_bl)) pss_nil))))))))))
   (pss_one (ps_ret pe_bl))), ?_⟩
  walk_at "rd"
  intro t nt
  obtain ⟨hP0, x0, e0⟩ := hP.new (o := .tup [.bl true, .bl false]) nt
  generalize upd H0 t (.tup [.bl true, .bl false]) = B0 at *
  generalize upd H t (.tup [.bl true, .bl false]) = G0 at *
  refine ⟨t, rfl, ⟨_, st_of (hP0.ex _ _ e0)⟩, ?_⟩
  obtain ⟨Pv, hPv⟩ : ∃ Pv : Nat → L2.St → Hp → Prop, ∀ i σ G, Pv i σ G ↔ ∃ (o1 o2 o3 o4 o5 : Option V) (B : Hp), σ = [some (.ref p), o1, o2, o3, o4, o5, none] ∧ Ex B0 B ∧ Pl B G p (m + 20 * i) ∧ i ≤ 2 := ⟨_, fun _ _ _ => Iff.rfl⟩
  refine for_tup (xs := [.bl true, .bl false]) Pv ((hPv _ _ _).mpr ⟨_, _, _, _, _, B0, rfl, Ex.refl _, hP0, by decide⟩) (fun i σ G _ h => ?_) (fun i x σ G hx h => ?_) (fun σ G h => ?_)
  · obtain ⟨_, _, _, _, _, B, _, xb, hPB, _⟩ := (hPv _ _ _).mp h
    exact st_of (hPB.ex _ _ (xb _ _ e0))
  · obtain ⟨o1, o2, o3, o4, o5, B, rfl, xb, hPB, hi2⟩ := (hPv _ _ _).mp h
    have hi : i < 2 := (List.getElem?_eq_some_iff.mp hx).1
    obtain ⟨b, rfl⟩ : ∃ b, x = .bl b := by
      match i, hx with
      | 0, hx => cases hx; exact ⟨_, rfl⟩
      | 1, hx => cases hx; exact ⟨_, rfl⟩
      | n + 2, hx => simp at hx
    walk_at "rd"
    refine ⟨B, p, m + 20 * i, rfl, hPB, by omega, fun v d B1 G1 x1 hP1 hd hsh hc => ?_⟩
    walk_at "rd"
    intro l vs Gc x2 m2 elc hallc
    have hPc := hP1.keep x2
    have hdc := hd.up x2
    walk_at "rd"
    refine ⟨_, _, _, _, rfl, hdc.ty, isLst d, ?_⟩
    walk_at "rd"
    refine iteB (fun z1 => ?_) (fun z1 => ?_)
    · rcases hc with ⟨hc, _⟩ | ⟨l0, ns, rfl, rfl, g1, b1, np0, hfew, hsm⟩
      · rw [hc] at z1; cases z1
      walk_at "rd"
      refine ⟨.inl ⟨rfl, _, SqL.of (x2 _ _ g1)⟩, ?_⟩
      walk_at "rd"
      refine ⟨B1, p, _, 9, rfl, hPc, by omega, by decide, by decide, fun j G3 j0 j1 hP3 keep3 => ?_⟩
      walk_at "rd"
      have np1 := np0
      have g3 : G3 l0 = some (.lst (ns.map fun (n : Nat) => V.int n)) := (keep3 l0 np0).trans (x2 _ _ g1)
      have hl0 : l ≠ l0 := Ne.symm (ne_of_none g1 m2)
      have nl : G3 l = some (.lst vs) := (keep3 l (by
        obtain ⟨a, b', c', e, _⟩ := hP1.at_
        exact Ne.symm (ne_of_none e m2))).trans elc
      refine ⟨l0, _, _, rfl, rfl, g3, Nat.lt_of_le_of_lt (by rw [List.length_map]; exact hfew) (by decide), ?_⟩
      obtain ⟨jn, rfl⟩ : ∃ jn : Nat, j = jn := ⟨j.toNat, by omega⟩
      have hj9 : jn < 9 := by omega
      have hsh := shw_ns hfew hsm hj9
      have hall3 : XAll G3 (.ref l0) vs (cls12 T) := by
        obtain ⟨a, b', c', e, _⟩ := hPc.at_
        exact hallc.keep e keep3
      have eqn : (ns.map (fun (n : Nat) => V.int n)) ++ [V.int (jn : Nat)] = (ns ++ [jn]).map (fun (n : Nat) => V.int n) := by rw [List.map_append]; rfl
      rw [eqn]
      have hPd := hP3.touch (o := .lst ((ns ++ [jn]).map fun (n : Nat) => V.int n)) b1 np0
      have hall4 := XAll.touch (o := .lst ((ns ++ [jn]).map fun (n : Nat) => V.int n)) g3 hall3
      have el4 : upd G3 l0 (.lst ((ns ++ [jn]).map fun (n : Nat) => V.int n)) l = some (.lst vs) := by rw [upd_ne hl0]; exact nl
      have hd4 : Da K (upd G3 l0 (.lst ((ns ++ [jn]).map fun (n : Nat) => V.int n))) (.ref l0) (.list ((ns ++ [jn]).map fun (n : Nat) => .int n)) := .lst (SqL.of upd_same) (das_ns _ _ _)
      clear hallc hPc hdc elc
      generalize upd G3 l0 (.lst ((ns ++ [jn]).map fun (n : Nat) => V.int n)) = Gc at *
      have hallc := hall4
      have hPc := hPd
      have hdc := hd4
      have elc := el4
      generalize V.ref l0 = vt at *
      walk_at "tl"
    · obtain ⟨vt, hvt⟩ : ∃ vt, vt = v := ⟨_, rfl⟩
      subst hvt
      walk_at "tl"
  · obtain ⟨o1, o2, o3, o4, o5, B, rfl, xb, hPB, hi2⟩ := (hPv _ _ _).mp h
    walk_at "rd"
    exact k G (Pl.mono ⟨(x0.trans xb).trans hPB.ex, hP.out, hPB.at_⟩ (by simp only [List.length_cons, List.length_nil]; omega))

end
end Lw
end

section
set_option Elab.async false
set_option linter.all false
set_option maxRecDepth 100000
set_option maxHeartbeats 4000000
set_option pp.maxSteps 300
set_option pp.deepTerms false
namespace Lw
open PySem L2 Evl M
open PyProof.Rows hiding St
local macro_rules | `(tactic| walk_at "at") => `(tactic| first | assumption | exact upd_same)
local macro_rules | `(tactic| walk_at "sq") => `(tactic| first | assumption | exact SqL.of (by walk_at "at") | exact SqT.of (by walk_at "at"))
local macro_rules | `(tactic| walk_at "sd") => `(tactic| first | assumption | exact Names.size (by assumption) | omega | decide | exact Nat.le_of_ble_eq_true rfl | exact Or.inl ⟨by decide, by decide⟩ | exact wide_div (b := 200) (by first | assumption | decide) (by first | assumption | decide) (by decide) (by decide) | exact pow_w 10 (by decide) (by decide) (by decide) (by decide))
local macro_rules | `(tactic| walk_at "r1") => `(tactic| first
  | refine ⟨_, rfl, ?_⟩
  | refine ⟨_, _, rfl, rfl, ?_⟩
  | refine And.intro rfl ?_
  | refine ⟨_, _, _, _, rfl, rfl, (by walk_at "sq"), rfl, ?_⟩
  | refine ⟨_, _, _, _, rfl, rfl, (by walk_at "at"), rfl, ?_⟩
  | refine ⟨_, _, rfl, Or.inl (by walk_at "sq"), ?_⟩
  | refine ⟨_, _, rfl, Or.inr (by walk_at "sq"), ?_⟩
  | refine ⟨_, _, rfl, ?_⟩
  | refine Or.inl ⟨_, rfl, ?_⟩
  | refine And.intro (by walk_at "sd") ?_)
local macro_rules | `(tactic| walk_at "rd") => `(tactic| try (walk_at "r1"; walk_at "rd"))
section
variable {P : Program} {w : World} {K : PySem.W.Frag} {mg : Str → Option Value} {base : Heap}
theorem ok_law (T : Tx w K mg) (G__law_pool : FnOk P w K mg base CX0 1 T.a__law_pool T.d__law_pool ["script", "spot"] (sp_pool K))
    (G__law_fits : FnG P w K mg base CX0 4 T.a__law_fits T.d__law_fits ["pool"] sp_fits) :
    FnG P w K mg base CX0 65 T.a_law T.d_law ["script"] (sp_law K) := by
  refine M.Fun.okG T.F_law sc_law (fun vs H Q E h => ?_) (fun cdv A hg outer s H vs Q E hr h => ?_)
  · obtain ⟨_, _, rfl, _⟩ := h
    rfl
  obtain ⟨a, ns, rfl, hs, hl, k⟩ := h
  refine ⟨_, (pss_cons (ps_for PassesOwn.never (by rfl) (pi_range1 (by rfl) T.b_range (pa_cons (pe_callB (call_max2 (by rfl)) (by rfl) T.b_max (by decide +kernel) (pa_cons pe_int (pa_cons (pe_callB (call_min2 (by rfl)) (by rfl) T.b_min (by decide +kernel) (pa_cons pe_int (pa_cons (pe_callB call_len_seq (by rfl) T.b_len (by decide +kernel) (pa_cons (pv 0) pa_nil)) pa_nil))) pa_nil))) pa_nil)) (pg_name (i := 1) sc_law.nd rfl (Or.inl rfl)) (pss_cons (ps_set (i := 2) sc_law.nd rfl (Or.inl rfl) (pe_call G__law_pool (hr.mono (by omega)) (by rfl) T.g__law_pool T.F__law_pool.kp T.b__law_pool .nil pass0 (pa_cons (pv 0) (pa_cons (pv 1) pa_nil))))
   (pss_one (ps_if (pt_not (pt_val (M.pe_callG G__law_fits hg (hr.mono (by omega)) (by rfl) T.g__law_fits T.F__law_fits.kp T.b__law_fits .nil pass0 (pa_cons (pv 2) pa_nil)))) (pss_one (ps_ret pe_bl)) pss_nil))))
   (pss_one (ps_ret pe_bl))), ?_⟩
  walk_at "rd"
  have hb : (if (if (((ns.map V.int).length : Nat) : Int) < 6 then (((ns.map V.int).length : Nat) : Int) else 6) > 1 then (if (((ns.map V.int).length : Nat) : Int) < 6 then (((ns.map V.int).length : Nat) : Int) else 6) else 1).toNat ≤ 6 := by
    split <;> split <;> omega
  generalize Int.toNat _ = top at *
  obtain ⟨Po, hPo⟩ : ∃ Po : Nat → L2.St → Hp → Prop, ∀ i σ G, Po i σ G ↔ ∃ (o1 o2 : Option V), σ = [some (.ref a), o1, o2] ∧ Ex H G := ⟨_, fun _ _ _ => Iff.rfl⟩
  refine for_range Po ((hPo _ _ _).mpr ⟨_, _, rfl, Ex.refl _⟩) (fun i σ G hi h => ?_) (fun σ G h => ?_)
  · obtain ⟨o1, o2, rfl, xg⟩ := (hPo _ _ _).mp h
    have hs1 := ex_l xg hs
    walk_at "rd"
    refine ⟨a, ns, _, rfl, hs1, by omega, by omega, fun p G2 hP => ?_⟩
    walk_at "rd"
    refine ⟨G, p, 0, rfl, hP, by omega, fun G4 hP4 => ?_⟩
    walk_at "rd"
    exact (hPo _ _ _).mpr ⟨_, _, rfl, xg.trans hP4.ex⟩
  · obtain ⟨o1, o2, rfl, xg⟩ := (hPo _ _ _).mp h
    walk_at "rd"
    exact k G

end
end Lw
end

section
set_option Elab.async false
set_option linter.all false
set_option maxRecDepth 100000
set_option maxHeartbeats 4000000
namespace Lw
open PySem L2 Evl M
open PyProof.Rows hiding St
theorem all_mk {P : Program} {w : World} {K : PySem.W.Frag} {h : Heap} {mg : Str → Option Value} {fa : Addr} (X : K.In h) (G : h.Ns mainGlobals mg) (hfa : mg "law" = some (.ref fa))
  {f__law_pool : Addr} {od__law_pool an__law_pool : Option Addr} {sl__law_pool : Array (Option Value)} {oc__law_pool kV__law_pool dc__law_pool pm__law_pool cd__law_pool ct__law_pool : Value}
  {f__law_draw : Addr} {od__law_draw an__law_draw : Option Addr} {sl__law_draw : Array (Option Value)} {oc__law_draw kV__law_draw dc__law_draw pm__law_draw cd__law_draw ct__law_draw : Value}
  {f__law_thing : Addr} {od__law_thing an__law_thing : Option Addr} {sl__law_thing : Array (Option Value)} {oc__law_thing kV__law_thing dc__law_thing pm__law_thing cd__law_thing ct__law_thing : Value}
  {f__law_made_of : Addr} {od__law_made_of an__law_made_of : Option Addr} {sl__law_made_of : Array (Option Value)} {oc__law_made_of kV__law_made_of dc__law_made_of pm__law_made_of cd__law_made_of ct__law_made_of : Value}
  {f__law_kinds_of : Addr} {od__law_kinds_of an__law_kinds_of : Option Addr} {sl__law_kinds_of : Array (Option Value)} {oc__law_kinds_of kV__law_kinds_of dc__law_kinds_of pm__law_kinds_of cd__law_kinds_of ct__law_kinds_of : Value}
  {f__law_fits : Addr} {od__law_fits an__law_fits : Option Addr} {sl__law_fits : Array (Option Value)} {oc__law_fits kV__law_fits dc__law_fits pm__law_fits cd__law_fits ct__law_fits : Value}
  {f_law : Addr} {od_law an_law : Option Addr} {sl_law : Array (Option Value)} {oc_law kV_law dc_law pm_law cd_law ct_law : Value}
  {f_InvalidRow : Addr}
  {f_InvalidQuestion : Addr}
  {f_InvalidNumber : Addr}
  {f_InvalidPlace : Addr}
  {f_InvalidScope : Addr}
  {f_InvalidBlocks : Addr}
  {f_InvalidAnswer : Addr}
  {f_NotLet : Addr}
  {f_NothingToUndo : Addr}
  {f_GameOver : Addr}
  {f_Unreadable : Addr}
  {f_PickError : Addr}
  {f_init : Addr} {od_init an_init : Option Addr} {sl_init : Array (Option Value)} {oc_init kV_init dc_init pm_init cd_init ct_init : Value}
  (g__law_pool : PySem.W.nsIn K mainGlobals "_law_pool" = some (some (.ref f__law_pool)))
  (l__law_pool : K.lookup f__law_pool = some ⟨oc__law_pool, od__law_pool, .func (PySem.W.fnOf "_law_pool" "_law_pool" (defArgs s__law_pool) (defBody s__law_pool) (defScope s__law_pool) .none kV__law_pool dc__law_pool pm__law_pool an__law_pool cd__law_pool ct__law_pool), sl__law_pool⟩)
  (c__law_pool : PySem.W.codeIn K cd__law_pool "_law_pool" = true)
  (k__law_pool : PySem.W.keepIn K (.ref f__law_pool) = true)
  (g__law_draw : PySem.W.nsIn K mainGlobals "_law_draw" = some (some (.ref f__law_draw)))
  (l__law_draw : K.lookup f__law_draw = some ⟨oc__law_draw, od__law_draw, .func (PySem.W.fnOf "_law_draw" "_law_draw" (defArgs s__law_draw) (defBody s__law_draw) (defScope s__law_draw) .none kV__law_draw dc__law_draw pm__law_draw an__law_draw cd__law_draw ct__law_draw), sl__law_draw⟩)
  (c__law_draw : PySem.W.codeIn K cd__law_draw "_law_draw" = true)
  (k__law_draw : PySem.W.keepIn K (.ref f__law_draw) = true)
  (g__law_thing : PySem.W.nsIn K mainGlobals "_law_thing" = some (some (.ref f__law_thing)))
  (l__law_thing : K.lookup f__law_thing = some ⟨oc__law_thing, od__law_thing, .func (PySem.W.fnOf "_law_thing" "_law_thing" (defArgs s__law_thing) (defBody s__law_thing) (defScope s__law_thing) .none kV__law_thing dc__law_thing pm__law_thing an__law_thing cd__law_thing ct__law_thing), sl__law_thing⟩)
  (c__law_thing : PySem.W.codeIn K cd__law_thing "_law_thing" = true)
  (k__law_thing : PySem.W.keepIn K (.ref f__law_thing) = true)
  (g__law_made_of : PySem.W.nsIn K mainGlobals "_law_made_of" = some (some (.ref f__law_made_of)))
  (l__law_made_of : K.lookup f__law_made_of = some ⟨oc__law_made_of, od__law_made_of, .func (PySem.W.fnOf "_law_made_of" "_law_made_of" (defArgs s__law_made_of) (defBody s__law_made_of) (defScope s__law_made_of) .none kV__law_made_of dc__law_made_of pm__law_made_of an__law_made_of cd__law_made_of ct__law_made_of), sl__law_made_of⟩)
  (c__law_made_of : PySem.W.codeIn K cd__law_made_of "_law_made_of" = true)
  (k__law_made_of : PySem.W.keepIn K (.ref f__law_made_of) = true)
  (g__law_kinds_of : PySem.W.nsIn K mainGlobals "_law_kinds_of" = some (some (.ref f__law_kinds_of)))
  (l__law_kinds_of : K.lookup f__law_kinds_of = some ⟨oc__law_kinds_of, od__law_kinds_of, .func (PySem.W.fnOf "_law_kinds_of" "_law_kinds_of" (defArgs s__law_kinds_of) (defBody s__law_kinds_of) (defScope s__law_kinds_of) .none kV__law_kinds_of dc__law_kinds_of pm__law_kinds_of an__law_kinds_of cd__law_kinds_of ct__law_kinds_of), sl__law_kinds_of⟩)
  (c__law_kinds_of : PySem.W.codeIn K cd__law_kinds_of "_law_kinds_of" = true)
  (k__law_kinds_of : PySem.W.keepIn K (.ref f__law_kinds_of) = true)
  (g__law_fits : PySem.W.nsIn K mainGlobals "_law_fits" = some (some (.ref f__law_fits)))
  (l__law_fits : K.lookup f__law_fits = some ⟨oc__law_fits, od__law_fits, .func (PySem.W.fnOf "_law_fits" "_law_fits" (defArgs s__law_fits) (defBody s__law_fits) (defScope s__law_fits) .none kV__law_fits dc__law_fits pm__law_fits an__law_fits cd__law_fits ct__law_fits), sl__law_fits⟩)
  (c__law_fits : PySem.W.codeIn K cd__law_fits "_law_fits" = true)
  (k__law_fits : PySem.W.keepIn K (.ref f__law_fits) = true)
  (g_law : PySem.W.nsIn K mainGlobals "law" = some (some (.ref f_law)))
  (l_law : K.lookup f_law = some ⟨oc_law, od_law, .func (PySem.W.fnOf "law" "law" (defArgs s_law) (defBody s_law) (defScope s_law) .none kV_law dc_law pm_law an_law cd_law ct_law), sl_law⟩)
  (c_law : PySem.W.codeIn K cd_law "law" = true)
  (k_law : PySem.W.keepIn K (.ref f_law) = true)
  (z_abs : PySem.W.nsIn K mainGlobals "abs" = some none)
  (z_int : PySem.W.nsIn K mainGlobals "int" = some none)
  (z_isinstance : PySem.W.nsIn K mainGlobals "isinstance" = some none)
  (z_len : PySem.W.nsIn K mainGlobals "len" = some none)
  (z_list : PySem.W.nsIn K mainGlobals "list" = some none)
  (z_max : PySem.W.nsIn K mainGlobals "max" = some none)
  (z_min : PySem.W.nsIn K mainGlobals "min" = some none)
  (z_range : PySem.W.nsIn K mainGlobals "range" = some none)
  (z_repr : PySem.W.nsIn K mainGlobals "repr" = some none)
  (z_str : PySem.W.nsIn K mainGlobals "str" = some none)
  (g_InvalidRow : PySem.W.nsIn K mainGlobals "InvalidRow" = some (some (.ref f_InvalidRow)))
  (g_InvalidQuestion : PySem.W.nsIn K mainGlobals "InvalidQuestion" = some (some (.ref f_InvalidQuestion)))
  (g_InvalidNumber : PySem.W.nsIn K mainGlobals "InvalidNumber" = some (some (.ref f_InvalidNumber)))
  (g_InvalidPlace : PySem.W.nsIn K mainGlobals "InvalidPlace" = some (some (.ref f_InvalidPlace)))
  (g_InvalidScope : PySem.W.nsIn K mainGlobals "InvalidScope" = some (some (.ref f_InvalidScope)))
  (g_InvalidBlocks : PySem.W.nsIn K mainGlobals "InvalidBlocks" = some (some (.ref f_InvalidBlocks)))
  (g_InvalidAnswer : PySem.W.nsIn K mainGlobals "InvalidAnswer" = some (some (.ref f_InvalidAnswer)))
  (g_NotLet : PySem.W.nsIn K mainGlobals "NotLet" = some (some (.ref f_NotLet)))
  (g_NothingToUndo : PySem.W.nsIn K mainGlobals "NothingToUndo" = some (some (.ref f_NothingToUndo)))
  (g_GameOver : PySem.W.nsIn K mainGlobals "GameOver" = some (some (.ref f_GameOver)))
  (g_Unreadable : PySem.W.nsIn K mainGlobals "Unreadable" = some (some (.ref f_Unreadable)))
  (g_PickError : PySem.W.nsIn K mainGlobals "PickError" = some (some (.ref f_PickError)))
  (i_init : PySem.W.findIn K (.ref f_PickError) "__init__" = some (some (.ref f_init)))
  (l_init : K.lookup f_init = some ⟨oc_init, od_init, .func (PySem.W.fnOf "__init__" "PickError.__init__" (defArgs s_init) (defBody s_init) (defScope s_init) .none kV_init dc_init pm_init an_init cd_init ct_init), sl_init⟩)
  (c_init : PySem.W.codeIn K cd_init "PickError.__init__" = true)
  (k_init : PySem.W.keepIn K (.ref f_init) = true)
  (z_ValueError : PySem.W.nsIn K mainGlobals "ValueError" = some none)
  (vV : PySem.W.findCls K (.type "ValueError") (.type "type") "__init__" = some (.val (.builtin "ValueError.__init__")))
  (x_InvalidRow : M.XC K f_InvalidRow f_init)
  (x_InvalidQuestion : M.XC K f_InvalidQuestion f_init)
  (x_InvalidNumber : M.XC K f_InvalidNumber f_init)
  (x_InvalidPlace : M.XC K f_InvalidPlace f_init)
  (x_InvalidScope : M.XC K f_InvalidScope f_init)
  (x_InvalidBlocks : M.XC K f_InvalidBlocks f_init)
  (x_InvalidAnswer : M.XC K f_InvalidAnswer f_init)
  (x_NotLet : M.XC K f_NotLet f_init)
  (x_NothingToUndo : M.XC K f_NothingToUndo f_init)
  (x_GameOver : M.XC K f_GameOver f_init)
  (x_Unreadable : M.XC K f_Unreadable f_init)
  (x_PickError : M.XC K f_PickError f_init)
  (kc : M.kitChk K [f_InvalidRow, f_InvalidQuestion, f_InvalidNumber, f_InvalidPlace, f_InvalidScope, f_InvalidBlocks, f_InvalidAnswer, f_NotLet, f_NothingToUndo, f_GameOver, f_Unreadable, f_PickError] = true)
  (kv : M.kitChkV K [f_InvalidRow, f_InvalidQuestion, f_InvalidNumber, f_InvalidPlace, f_InvalidScope, f_InvalidBlocks, f_InvalidAnswer, f_NotLet, f_NothingToUndo, f_GameOver, f_Unreadable, f_PickError] = true) :
  ∃ fd : FuncData, (∀ (s : Shared) (u : Value), BindsTo s fd ⟨[u], []⟩ [("script", u)]) ∧ ∀ base : Heap, K.In base → base.Ns mainGlobals mg → FnG P w K mg base CX0 65 fa fd ["script"] (sp_law K) := by
  have e : f_law = fa := by
    have e1 := hfa.symm.trans (PySem.W.mg_of X G g_law)
    injection e1 with e1
    injection e1 with e1
    exact e1.symm
  subst e
  let T : Tx w K mg := {
    a__law_pool := f__law_pool,
    d__law_pool := PySem.W.fnOf "_law_pool" "_law_pool" (defArgs s__law_pool) (defBody s__law_pool) (defScope s__law_pool) .none kV__law_pool dc__law_pool pm__law_pool an__law_pool cd__law_pool ct__law_pool,
    g__law_pool := PySem.W.mg_of X G g__law_pool,
    F__law_pool := fun_mk (st := s__law_pool) l__law_pool c__law_pool k__law_pool,
    b__law_pool := (fun_mk (st := s__law_pool) l__law_pool c__law_pool k__law_pool).binds (ps := ["script", "spot"]) fun _ _ _ _ _ _ us hl => match us, hl with | [_, _], _ => rfl,
    a__law_draw := f__law_draw,
    d__law_draw := PySem.W.fnOf "_law_draw" "_law_draw" (defArgs s__law_draw) (defBody s__law_draw) (defScope s__law_draw) .none kV__law_draw dc__law_draw pm__law_draw an__law_draw cd__law_draw ct__law_draw,
    g__law_draw := PySem.W.mg_of X G g__law_draw,
    F__law_draw := fun_mk (st := s__law_draw) l__law_draw c__law_draw k__law_draw,
    b__law_draw := (fun_mk (st := s__law_draw) l__law_draw c__law_draw k__law_draw).binds (ps := ["pool", "span"]) fun _ _ _ _ _ _ us hl => match us, hl with | [_, _], _ => rfl,
    a__law_thing := f__law_thing,
    d__law_thing := PySem.W.fnOf "_law_thing" "_law_thing" (defArgs s__law_thing) (defBody s__law_thing) (defScope s__law_thing) .none kV__law_thing dc__law_thing pm__law_thing an__law_thing cd__law_thing ct__law_thing,
    g__law_thing := PySem.W.mg_of X G g__law_thing,
    F__law_thing := fun_mk (st := s__law_thing) l__law_thing c__law_thing k__law_thing,
    b__law_thing := (fun_mk (st := s__law_thing) l__law_thing c__law_thing k__law_thing).binds (ps := ["pool"]) fun _ _ _ _ _ _ us hl => match us, hl with | [_], _ => rfl,
    a__law_made_of := f__law_made_of,
    d__law_made_of := PySem.W.fnOf "_law_made_of" "_law_made_of" (defArgs s__law_made_of) (defBody s__law_made_of) (defScope s__law_made_of) .none kV__law_made_of dc__law_made_of pm__law_made_of an__law_made_of cd__law_made_of ct__law_made_of,
    g__law_made_of := PySem.W.mg_of X G g__law_made_of,
    F__law_made_of := fun_mk (st := s__law_made_of) l__law_made_of c__law_made_of k__law_made_of,
    b__law_made_of := (fun_mk (st := s__law_made_of) l__law_made_of c__law_made_of k__law_made_of).binds (ps := ["thing", "is_named"]) fun _ _ _ _ _ _ us hl => match us, hl with | [_, _], _ => rfl,
    a__law_kinds_of := f__law_kinds_of,
    d__law_kinds_of := PySem.W.fnOf "_law_kinds_of" "_law_kinds_of" (defArgs s__law_kinds_of) (defBody s__law_kinds_of) (defScope s__law_kinds_of) .none kV__law_kinds_of dc__law_kinds_of pm__law_kinds_of an__law_kinds_of cd__law_kinds_of ct__law_kinds_of,
    g__law_kinds_of := PySem.W.mg_of X G g__law_kinds_of,
    F__law_kinds_of := fun_mk (st := s__law_kinds_of) l__law_kinds_of c__law_kinds_of k__law_kinds_of,
    b__law_kinds_of := (fun_mk (st := s__law_kinds_of) l__law_kinds_of c__law_kinds_of k__law_kinds_of).binds (ps := ["e"]) fun _ _ _ _ _ _ us hl => match us, hl with | [_], _ => rfl,
    a__law_fits := f__law_fits,
    d__law_fits := PySem.W.fnOf "_law_fits" "_law_fits" (defArgs s__law_fits) (defBody s__law_fits) (defScope s__law_fits) .none kV__law_fits dc__law_fits pm__law_fits an__law_fits cd__law_fits ct__law_fits,
    g__law_fits := PySem.W.mg_of X G g__law_fits,
    F__law_fits := fun_mk (st := s__law_fits) l__law_fits c__law_fits k__law_fits,
    b__law_fits := (fun_mk (st := s__law_fits) l__law_fits c__law_fits k__law_fits).binds (ps := ["pool"]) fun _ _ _ _ _ _ us hl => match us, hl with | [_], _ => rfl,
    a_law := f_law,
    d_law := PySem.W.fnOf "law" "law" (defArgs s_law) (defBody s_law) (defScope s_law) .none kV_law dc_law pm_law an_law cd_law ct_law,
    g_law := PySem.W.mg_of X G g_law,
    F_law := fun_mk (st := s_law) l_law c_law k_law,
    b_law := (fun_mk (st := s_law) l_law c_law k_law).binds (ps := ["script"]) fun _ _ _ _ _ _ us hl => match us, hl with | [_], _ => rfl,
    b_abs := PySem.W.mg_none_of X G z_abs,
    b_int := PySem.W.mg_none_of X G z_int,
    b_isinstance := PySem.W.mg_none_of X G z_isinstance,
    b_len := PySem.W.mg_none_of X G z_len,
    b_list := PySem.W.mg_none_of X G z_list,
    b_max := PySem.W.mg_none_of X G z_max,
    b_min := PySem.W.mg_none_of X G z_min,
    b_range := PySem.W.mg_none_of X G z_range,
    b_repr := PySem.W.mg_none_of X G z_repr,
    b_str := PySem.W.mg_none_of X G z_str,
    a_InvalidRow := f_InvalidRow,
    g_InvalidRow := PySem.W.mg_of X G g_InvalidRow,
    x_InvalidRow := x_InvalidRow,
    a_InvalidQuestion := f_InvalidQuestion,
    g_InvalidQuestion := PySem.W.mg_of X G g_InvalidQuestion,
    x_InvalidQuestion := x_InvalidQuestion,
    a_InvalidNumber := f_InvalidNumber,
    g_InvalidNumber := PySem.W.mg_of X G g_InvalidNumber,
    x_InvalidNumber := x_InvalidNumber,
    a_InvalidPlace := f_InvalidPlace,
    g_InvalidPlace := PySem.W.mg_of X G g_InvalidPlace,
    x_InvalidPlace := x_InvalidPlace,
    a_InvalidScope := f_InvalidScope,
    g_InvalidScope := PySem.W.mg_of X G g_InvalidScope,
    x_InvalidScope := x_InvalidScope,
    a_InvalidBlocks := f_InvalidBlocks,
    g_InvalidBlocks := PySem.W.mg_of X G g_InvalidBlocks,
    x_InvalidBlocks := x_InvalidBlocks,
    a_InvalidAnswer := f_InvalidAnswer,
    g_InvalidAnswer := PySem.W.mg_of X G g_InvalidAnswer,
    x_InvalidAnswer := x_InvalidAnswer,
    a_NotLet := f_NotLet,
    g_NotLet := PySem.W.mg_of X G g_NotLet,
    x_NotLet := x_NotLet,
    a_NothingToUndo := f_NothingToUndo,
    g_NothingToUndo := PySem.W.mg_of X G g_NothingToUndo,
    x_NothingToUndo := x_NothingToUndo,
    a_GameOver := f_GameOver,
    g_GameOver := PySem.W.mg_of X G g_GameOver,
    x_GameOver := x_GameOver,
    a_Unreadable := f_Unreadable,
    g_Unreadable := PySem.W.mg_of X G g_Unreadable,
    x_Unreadable := x_Unreadable,
    a_PickError := f_PickError,
    g_PickError := PySem.W.mg_of X G g_PickError,
    x_PickError := x_PickError,
    a_init := f_init,
    d_init := PySem.W.fnOf "__init__" "PickError.__init__" (defArgs s_init) (defBody s_init) (defScope s_init) .none kV_init dc_init pm_init an_init cd_init ct_init,
    F_init := fun_mk (st := s_init) l_init c_init k_init,
    b_init := (fun_mk (st := s_init) l_init c_init k_init).binds (ps := ["self", "value"]) fun _ _ _ _ _ _ us hl => match us, hl with | [_, _], _ => rfl,
    kb_init := fun _ _ _ _ => .of_eq rfl,
    b_ValueError := PySem.W.mg_none_of X G z_ValueError,
    vV := vV,
    kit := M.kit_of kc,
    kitV := M.kitV_of kv,
    xc := M.twelve x_InvalidRow x_InvalidQuestion x_InvalidNumber x_InvalidPlace x_InvalidScope x_InvalidBlocks x_InvalidAnswer x_NotLet x_NothingToUndo x_GameOver x_Unreadable x_PickError,
    bl := fun s v => .of_eq rfl }
  refine ⟨PySem.W.fnOf "law" "law" (defArgs s_law) (defBody s_law) (defScope s_law) .none kV_law dc_law pm_law an_law cd_law ct_law, fun s v => .of_eq rfl, fun base _ _ => ?_⟩
  have G__law_draw := ok__law_draw (P := P) (base := base) T
  have G__law_pool := ok__law_pool (P := P) (base := base) T
  have G_init := ok_init (P := P) (base := base) T
  have G__law_thing := ok__law_thing T G__law_draw
  have G__law_made_of := ok__law_made_of T G_init
  have G__law_kinds_of := ok__law_kinds_of (P := P) (base := base) T
  have G__law_fits := ok__law_fits T G__law_draw G__law_thing G__law_made_of G__law_kinds_of
  have G_law := ok_law T G__law_pool G__law_fits
  exact G_law
end Lw
open PySem PySem.W PyProof.Rows in
set_option maxRecDepth 100000 in
set_option maxHeartbeats 0 in
theorem PySem.Challenge.cw_pickdepths_k01_errors_made_holds : PySem.Challenge.rw_pickdepths_k01_errors_made.Holds := by
  w_on; o_law; k_head; (case hw => w_witness2)
  k_fill
  refine M.walk_ofG (l := PySem.Challenge.rw_pickdepths_k01_errors_made) (n := 63) (k := 65) (x := "script") (sp := fun K => M.sp_law K) rfl (by decide) rfl ⟨rfl, by decide, by decide⟩ (fun w h Y => PySem.W.kIn_of Y) ?F (fun K H a ns hl _ hS => ⟨a, ns, rfl, hS, hl, fun _ => rfl⟩)
  case F =>
    intro w mg fa h KX G hmg
    refine' Lw.all_mk KX G hmg ?g__law_pool ?l__law_pool ?c__law_pool ?k__law_pool ?g__law_draw ?l__law_draw ?c__law_draw ?k__law_draw ?g__law_thing ?l__law_thing ?c__law_thing ?k__law_thing ?g__law_made_of ?l__law_made_of ?c__law_made_of ?k__law_made_of ?g__law_kinds_of ?l__law_kinds_of ?c__law_kinds_of ?k__law_kinds_of ?g__law_fits ?l__law_fits ?c__law_fits ?k__law_fits ?g_law ?l_law ?c_law ?k_law ?z_abs ?z_int ?z_isinstance ?z_len ?z_list ?z_max ?z_min ?z_range ?z_repr ?z_str ?g_InvalidRow ?g_InvalidQuestion ?g_InvalidNumber ?g_InvalidPlace ?g_InvalidScope ?g_InvalidBlocks ?g_InvalidAnswer ?g_NotLet ?g_NothingToUndo ?g_GameOver ?g_Unreadable ?g_PickError ?i_init ?l_init ?c_init ?k_init ?z_ValueError ?vV ?x_InvalidRow ?x_InvalidQuestion ?x_InvalidNumber ?x_InvalidPlace ?x_InvalidScope ?x_InvalidBlocks ?x_InvalidAnswer ?x_NotLet ?x_NothingToUndo ?x_GameOver ?x_Unreadable ?x_PickError ?kc ?kv
    (case g__law_pool => k_is)
    (case l__law_pool => k_is)
    (case c__law_pool => k_is)
    (case k__law_pool => k_is)
    (case g__law_draw => k_is)
    (case l__law_draw => k_is)
    (case c__law_draw => k_is)
    (case k__law_draw => k_is)
    (case g__law_thing => k_is)
    (case l__law_thing => k_is)
    (case c__law_thing => k_is)
    (case k__law_thing => k_is)
    (case g__law_made_of => k_is)
    (case l__law_made_of => k_is)
    (case c__law_made_of => k_is)
    (case k__law_made_of => k_is)
    (case g__law_kinds_of => k_is)
    (case l__law_kinds_of => k_is)
    (case c__law_kinds_of => k_is)
    (case k__law_kinds_of => k_is)
    (case g__law_fits => k_is)
    (case l__law_fits => k_is)
    (case c__law_fits => k_is)
    (case k__law_fits => k_is)
    (case g_law => k_is)
    (case l_law => k_is)
    (case c_law => k_is)
    (case k_law => k_is)
    (case z_abs => k_is)
    (case z_int => k_is)
    (case z_isinstance => k_is)
    (case z_len => k_is)
    (case z_list => k_is)
    (case z_max => k_is)
    (case z_min => k_is)
    (case z_range => k_is)
    (case z_repr => k_is)
    (case z_str => k_is)
    (case g_InvalidRow => k_is)
    (case g_InvalidQuestion => k_is)
    (case g_InvalidNumber => k_is)
    (case g_InvalidPlace => k_is)
    (case g_InvalidScope => k_is)
    (case g_InvalidBlocks => k_is)
    (case g_InvalidAnswer => k_is)
    (case g_NotLet => k_is)
    (case g_NothingToUndo => k_is)
    (case g_GameOver => k_is)
    (case g_Unreadable => k_is)
    (case g_PickError => k_is)
    (case i_init => k_is)
    (case l_init => k_is)
    (case c_init => k_is)
    (case k_init => k_is)
    (case z_ValueError => k_is)
    (case vV => k_is)
    (case x_InvalidRow => refine { ox := ⟨⟨_, _, _, _, _, _, _, _, _, _, _, _, _, _, _, rfl, rfl⟩, ?_, ?_, ?_, ?_⟩, ini := ?_, fn := ?_, noV := ?_, cl := ?_, ga := ?_, gt := ?_, sb := ?_, hd := ?_, ca := ?_, ng := ?_, tk := ?_, mr := ?_ } <;> first | rfl | k_is)
    (case x_InvalidQuestion => refine { ox := ⟨⟨_, _, _, _, _, _, _, _, _, _, _, _, _, _, _, rfl, rfl⟩, ?_, ?_, ?_, ?_⟩, ini := ?_, fn := ?_, noV := ?_, cl := ?_, ga := ?_, gt := ?_, sb := ?_, hd := ?_, ca := ?_, ng := ?_, tk := ?_, mr := ?_ } <;> first | rfl | k_is)
    (case x_InvalidNumber => refine { ox := ⟨⟨_, _, _, _, _, _, _, _, _, _, _, _, _, _, _, rfl, rfl⟩, ?_, ?_, ?_, ?_⟩, ini := ?_, fn := ?_, noV := ?_, cl := ?_, ga := ?_, gt := ?_, sb := ?_, hd := ?_, ca := ?_, ng := ?_, tk := ?_, mr := ?_ } <;> first | rfl | k_is)
    (case x_InvalidPlace => refine { ox := ⟨⟨_, _, _, _, _, _, _, _, _, _, _, _, _, _, _, rfl, rfl⟩, ?_, ?_, ?_, ?_⟩, ini := ?_, fn := ?_, noV := ?_, cl := ?_, ga := ?_, gt := ?_, sb := ?_, hd := ?_, ca := ?_, ng := ?_, tk := ?_, mr := ?_ } <;> first | rfl | k_is)
    (case x_InvalidScope => refine { ox := ⟨⟨_, _, _, _, _, _, _, _, _, _, _, _, _, _, _, rfl, rfl⟩, ?_, ?_, ?_, ?_⟩, ini := ?_, fn := ?_, noV := ?_, cl := ?_, ga := ?_, gt := ?_, sb := ?_, hd := ?_, ca := ?_, ng := ?_, tk := ?_, mr := ?_ } <;> first | rfl | k_is)
    (case x_InvalidBlocks => refine { ox := ⟨⟨_, _, _, _, _, _, _, _, _, _, _, _, _, _, _, rfl, rfl⟩, ?_, ?_, ?_, ?_⟩, ini := ?_, fn := ?_, noV := ?_, cl := ?_, ga := ?_, gt := ?_, sb := ?_, hd := ?_, ca := ?_, ng := ?_, tk := ?_, mr := ?_ } <;> first | rfl | k_is)
    (case x_InvalidAnswer => refine { ox := ⟨⟨_, _, _, _, _, _, _, _, _, _, _, _, _, _, _, rfl, rfl⟩, ?_, ?_, ?_, ?_⟩, ini := ?_, fn := ?_, noV := ?_, cl := ?_, ga := ?_, gt := ?_, sb := ?_, hd := ?_, ca := ?_, ng := ?_, tk := ?_, mr := ?_ } <;> first | rfl | k_is)
    (case x_NotLet => refine { ox := ⟨⟨_, _, _, _, _, _, _, _, _, _, _, _, _, _, _, rfl, rfl⟩, ?_, ?_, ?_, ?_⟩, ini := ?_, fn := ?_, noV := ?_, cl := ?_, ga := ?_, gt := ?_, sb := ?_, hd := ?_, ca := ?_, ng := ?_, tk := ?_, mr := ?_ } <;> first | rfl | k_is)
    (case x_NothingToUndo => refine { ox := ⟨⟨_, _, _, _, _, _, _, _, _, _, _, _, _, _, _, rfl, rfl⟩, ?_, ?_, ?_, ?_⟩, ini := ?_, fn := ?_, noV := ?_, cl := ?_, ga := ?_, gt := ?_, sb := ?_, hd := ?_, ca := ?_, ng := ?_, tk := ?_, mr := ?_ } <;> first | rfl | k_is)
    (case x_GameOver => refine { ox := ⟨⟨_, _, _, _, _, _, _, _, _, _, _, _, _, _, _, rfl, rfl⟩, ?_, ?_, ?_, ?_⟩, ini := ?_, fn := ?_, noV := ?_, cl := ?_, ga := ?_, gt := ?_, sb := ?_, hd := ?_, ca := ?_, ng := ?_, tk := ?_, mr := ?_ } <;> first | rfl | k_is)
    (case x_Unreadable => refine { ox := ⟨⟨_, _, _, _, _, _, _, _, _, _, _, _, _, _, _, rfl, rfl⟩, ?_, ?_, ?_, ?_⟩, ini := ?_, fn := ?_, noV := ?_, cl := ?_, ga := ?_, gt := ?_, sb := ?_, hd := ?_, ca := ?_, ng := ?_, tk := ?_, mr := ?_ } <;> first | rfl | k_is)
    (case x_PickError => refine { ox := ⟨⟨_, _, _, _, _, _, _, _, _, _, _, _, _, _, _, rfl, rfl⟩, ?_, ?_, ?_, ?_⟩, ini := ?_, fn := ?_, noV := ?_, cl := ?_, ga := ?_, gt := ?_, sb := ?_, hd := ?_, ca := ?_, ng := ?_, tk := ?_, mr := ?_ } <;> first | rfl | k_is)
    (case kc => first | kernel_rfl | rfl)
    (case kv => first | kernel_rfl | rfl)
end
