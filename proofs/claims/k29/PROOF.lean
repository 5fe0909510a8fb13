import PyProof.Rows.All
import Wide.All
import OpenK.AllK
import Wide.FinOn
import HandS.ForMost
import HandS.Exc
import HandS.Wide
import HandS.Style
import HandS.Evl
import HandS.IsInst
import KE.IntBitsLaws
import KE.GoesEnum
import KE.KRevSl
import PyProof.ReprRoads
import PyProof.StrBlock2
import HandS.TupSets
import HandS.SetKeys
import HandS.Rev
import HandS.Strs
import HandS.SetFor
import HandS.Walk
import HandS.ExcInit
import KE.KExcIs
import PyProof.FitsInt
import HandS.Text
import HandS.WideBits
import HandS.ExcOwn
import HandS.WordsExc
import HandS.ExcField
import PyProof.StrLawsTight
import PyProof.StrLawsIn
import PyProof.Rows.StrJoinRep
import KE.KDictKeyed
import HandS.More
import KE.KSortTupAny
import HandS.Replace
import HandS.Deep
import HandS.TupLen
import HandS.Conv
import HandS.TryOnly
import HandS.SortRule
import HandS.Sort
import KE.KDictList
import PySem.Challenge.RW_pickdepths_k29_kinds_of_scopes
section
set_option Elab.async false
set_option linter.all false
set_option maxRecDepth 100000
/-! my own base: rules that the hand layer lacks, and the words of my specs -/
namespace M
open PySem L2 Evl
open PyProof.Rows hiding St

/-! ### operators -/
def CPowW (i j : Int) : Prop := 0 ≤ j ∧ (Builtin.Int.intBits i : Int) * j ≤ 2 ^ 27
theorem op_powW {X : Cx} : OpR X (binaryOp .Pow) (rI CPowW fun i j => .int (i ^ j.toNat)) := opI fun _ _ _ _ _ _ _ hc q => pow_int hc.1 hc.2 q
theorem bits_le {i : Int} {n : Nat} (h : i.natAbs < 2 ^ n) : Builtin.Int.intBits i ≤ n := by
  unfold Builtin.Int.intBits
  by_cases e : i = 0
  · simp [e]
  · rw [if_neg (by simpa using e)]
    have h2 : i.natAbs.log2 < n := (Nat.log2_lt (by omega)).mpr h
    omega
theorem pow_w {i : Int} {j : Int} (n : Nat) (h : i.natAbs < 2 ^ n) (h0 : 0 ≤ j) (hj : j ≤ 100) (hn : n ≤ 1000) : CPowW i j := by
  refine ⟨h0, ?_⟩
  have e := bits_le h
  have h1 : ((Builtin.Int.intBits i : Nat) : Int) ≤ 1000 := by omega
  have h27 : (2 : Int) ^ 27 = 134217728 := by decide
  rw [h27]
  have h2 : ((Builtin.Int.intBits i : Nat) : Int) * j ≤ 1000 * 100 := Int.mul_le_mul h1 hj h0 (by decide)
  omega
theorem op_mul_str {X : Cx} : OpR X (binaryOp .Mult) (fun x y H Q => ∃ z i, x = .str z ∧ y = .int i ∧ MulOk z i ∧ Q (.str (Txt.mul z i)) H) := by
  intro pins s σ H x y v u Q I rx ry h
  obtain ⟨z, i, rfl, rfl, hc, q⟩ := h
  obtain ⟨t, rfl⟩ := rx
  obtain ⟨t', rfl⟩ := ry
  exact SB.mul hc fun t2 k => ⟨.str _, H, I.tok _, ⟨_, rfl⟩, q⟩

/-! ### repr of data, where no repr is running -/
def rRepr (K : PySem.W.Frag) : List V → Hp → VK → Prop := fun xs H Q => ∃ x d, xs = [x] ∧ Dp K H x d ∧ d.showable = true ∧ d.hasDict = false ∧ d.depth ≤ 50 ∧ d.shown.length ≤ sizeLine ∧ Q (.str d.shown) H
theorem call_repr {X : Cx} (hg : X.A.guards = some []) (hu : X.A.units + 64 < cLine) : CallR X (.builtin "repr") (rRepr X.K) := by
  intro pins s σ H vs us Q I r h
  obtain ⟨x, d, rfl, hd, hs, hn, hp, hz, q⟩ := h
  obtain ⟨u, rfl, ru⟩ := vals1 r
  obtain ⟨as, rd⟩ := Dp.reads I d x u hd ru
  have fin : ∀ t, EP X pins σ Q (.str d.shown t) { s with toks := s.toks + 1 } := fun t => ⟨.str _, H, I.tok _, ⟨_, rfl⟩, q⟩
  cases rd with
  | none => exact P.repr_of_none (fin _)
  | bool b => exact P.repr_of_bool (fin _)
  | int i t => exact P.repr_of_int (by simpa [PyData.showable] using hs) (fin _)
  | str z t => exact P.repr_of_str (fin _) hz
  | list h1 h2 h3 h4 =>
    refine repr_of_reads' (.list h1 h2 h3 h4) hs (PyData.noDict_hsm hn) hg (by omega) (fun _ _ e => e) (fun h' t tk k => ?_) hz
    exact ⟨.str _, H, I.kept (t' := tk) k, ⟨_, rfl⟩, q⟩
  | tuple h1 h2 h3 h4 =>
    refine repr_of_reads' (.tuple h1 h2 h3 h4) hs (PyData.noDict_hsm hn) hg (by omega) (fun _ _ e => e) (fun h' t tk k => ?_) hz
    exact ⟨.str _, H, I.kept (t' := tk) k, ⟨_, rfl⟩, q⟩
  | dict => cases hn

/-! ### a def whose body asks that no repr is running -/
structure FnG (P : Program) (w : World) (K : PySem.W.Frag) (mg : Str → Option Value) (base : Heap) (CX : CXT) (k : Nat) (f : Addr) (fd : FuncData) (ps : List Str) (sp : Sp) : Prop where
  len : ∀ vs H Q E, sp vs H Q E → vs.length = ps.length
  run : ∀ (A : Around), A.guards = some [] → ∀ (outer : List Env) (s : Shared) (H : Hp) (args : Args) (us : List Value) (vs : List V) (Q : VK) (E : XK), Room k A → Env0 P w K mg base A outer s H →
    BindsTo s fd args (ps.zip us) → Vals vs us → sp vs H Q E → codeAny (model P w) A (.call (.ref f) args) (CR CX outer P w H s Q E) s
section
variable {P : Program} {w : World} {K : PySem.W.Frag} {mg : Str → Option Value} {base : Heap} {CX : CXT} {k : Nat} {f : Addr} {fd : FuncData} {ps : List Str} {sp : Sp}
theorem FnG.of (F : FnOk P w K mg base CX k f fd ps sp) : FnG P w K mg base CX k f fd ps sp := ⟨F.len, fun A _ => F.run A⟩
theorem FnG.mono {j : Nat} (F : FnG P w K mg base CX j f fd ps sp) (h : j ≤ k) : FnG P w K mg base CX k f fd ps sp := ⟨F.len, fun A hg o s H ar us vs Q E hr => F.run A hg o s H ar us vs Q E (hr.mono h)⟩
theorem fnG_of {name qual : Str} {params : Arguments} {body : List Stmt} {scope : Scope} {dV kV doc pm cdv ct oc : Value} {an od : Option Addr} {osl : Array (Option Value)} {N : List Str}
    (lk : K.lookup f = some ⟨oc, od, .func (PySem.W.fnOf name qual params body scope dV kV doc pm an cdv ct), osl⟩) (hcd : PySem.W.codeIn K cdv qual = true) (S : FnScope N ps scope) (len : ∀ vs H Q E, sp vs H Q E → vs.length = ps.length)
    (hb : ∀ (A : Around), A.guards = some [] → ∀ (outer : List Env) (s : Shared) (H : Hp) (vs : List V) (Q : VK) (E : XK), Room k (A.deeper (envOfC qual scope s.heap.objs.size f cdv)) → sp vs H Q E →
      ∃ t, PSs (cxOf CX P w K mg base N qual scope f cdv A outer s H E) body t ∧ t { nx := fun _ H' => Q .non H', rt := Q } (start N vs) H) :
    FnG P w K mg base CX (k + 1) f (PySem.W.fnOf name qual params body scope dV kV doc pm an cdv ct) ps sp where
  len := len
  run := by
    intro A hgA outer s H args us vs Q E room env bind rel want
    have inK : K.In s.heap := env.mod.kin.keeps fun b o q => (env.bs b o q).1
    have free : s.heap.NoLimit := env.mod.nolimit.keeps fun b o q => (env.bs b o q).1
    have kinds : ∀ y ∈ ps.zip us, scope.names.lookup y.1 = some .local ∨ (scope.names.lookup y.1 = some .cell ∧ ((cellsFrom (s.heap.objs.size + 1) scope.names []).lookup y.1).isSome = true) := by
      rintro ⟨n, v⟩ hy
      exact (S.par n (List.of_mem_zip hy).1).imp id fun q => ⟨q, PySem.W.cellsFrom_some _ _ _ (.inl q)⟩
    refine codeAny_call_function room.depth (inK _ _ lk) rfl S.co S.gen rfl (PySem.W.codeRec_of inK hcd) (bind _ _ _ _ ?_)
    refine wpAny_newFunctionEnv_cells S.kind kinds fun env' he s1 x => ?_
    subst he
    refine ⟨free.keeps x.toInCall.keep, codeAny_func ?_⟩
    obtain ⟨t, ht, hq⟩ := hb A hgA outer s H vs Q E (room.deeper _) want
    have I := inv_start (CX := CX) (E := E) S room.hd env (len _ _ _ _ want) rel x
    refine wpAny_mono (ht.run [] s1 (start N vs) H _ I hq) (fun fl s' hs => ?_) fun e s' hs => hs
    cases fl with
    | ret u =>
      obtain ⟨v, τ, G, J, rv, q⟩ := hs
      exact ⟨v, G, J.os, J.bare, J.base, J.hok, rv, q⟩
    | next =>
      obtain ⟨τ, G, J, q⟩ := hs
      exact ⟨V.non, G, J.os, J.bare, J.base, J.hok, rfl, q⟩
    | brk => exact hs.elim fun _ z => z.elim fun _ z => z.2.elim
    | cont => exact hs.elim fun _ z => z.elim fun _ z => z.2.elim
theorem Fun.okG {x qual : Str} {st : Stmt} {N : List Str} (F : Fun K x qual st f fd) (S : FnScope N ps (defScope st)) (len : ∀ vs H Q E, sp vs H Q E → vs.length = ps.length)
    (hb : ∀ (cdv : Value) (A : Around), A.guards = some [] → ∀ (outer : List Env) (s : Shared) (H : Hp) (vs : List V) (Q : VK) (E : XK), Room k (A.deeper (envOfC qual (defScope st) s.heap.objs.size f cdv)) → sp vs H Q E →
      ∃ t, PSs (cxOf CX0 P w K mg base N qual (defScope st) f cdv A outer s H E).nox (defBody st) t ∧ t { nx := fun _ H' => Q .non H', rt := Q } (start N vs) H) : FnG P w K mg base CX0 (k + 1) f fd ps sp := by
  obtain ⟨oc, od, kV, doc, pm, an, cdv, ct, osl, rfl, lk, hcd⟩ := F.ex
  refine fnG_of lk hcd S len fun A hg outer s H vs Q E hr want => ?_
  obtain ⟨t, p, q⟩ := hb cdv A hg outer s H vs Q E hr want
  exact ⟨t, p.nox, q⟩
end
section
variable {X : Cx} {CX : CXT} {k : Nat} {f : Addr} {fd : FuncData} {ps ks : List Str} {sp : Sp} {dvs : List V} {ds : List Value} {E : XK} {x : Str} {p pos : Pos} {e : Expr} {es : List Expr} {t tk : TA} {kws : List Keyword}
  {g : List Value → List Value → List Value} {gV : List V → List V → List V}
theorem ended {pins : List (Addr × Obj)} {σ : St} {H : Hp} {s s' : Shared} {Q : VK} {r : Result} (hx : Passes CX X E) (I : Inv X pins σ H s) (hq : CR CX X.stack X.prog X.w H s Q E r s') :
    (match r with | .ok (.ret u) => EP X pins σ Q u s' | .ok _ => False | .error e => X.xe e s') := by
  rcases r with e | fl
  · exact hx pins σ H s e s' I hq
  · cases fl with
    | ret u => exact I.after hq
    | next => exact hq.elim
    | brk => exact hq.elim
    | cont => exact hq.elim
theorem pe_callG (F : FnG X.prog X.w X.K X.mg X.base CX k f fd ps sp) (hga : X.A.guards = some []) (hr : Room k X.A) (hg : Gl X x) (hm : X.mg x = some (.ref f)) (hk : PySem.W.keepIn X.K (.ref f) = true) (hb : Binds X.K fd ps ds)
    (hd : Vals dvs ds) (hx : Passes CX X E) (ha : PA X (e :: es) t) (hdb : (x == ("__debug__" : Str)) = false := by decide) (he : starEach (e :: es) X.env = (false, eval e X.env) :: starEach es X.env := by rfl)
    (hpl : (backTo pos (starEach es X.env)).any (·.1) = false := by rfl) : PE X (.Call (.Name x p) (e :: es) [] pos) (tCall sp dvs E t) := by
  constructor
  intro pins s σ H Q I h
  refine wpAny_Call_Name_kw (ld_glob I hg hm (PySem.W.callWith_K (h₀ := X.base) I.ok.mod.kin hk (thn (ha.run pos pins s σ H _ I h) ?_) he hpl) hdb)
  rintro us s1 ⟨vs, H1, I1, r, q⟩
  refine ⟨I1.kIn, ?_⟩
  have both : Vals (vs ++ dvs) (us ++ ds) := r.append hd
  refine wpAny_call (codeAny_mono (F.run X.A hga X.stack s1 H1 ⟨us, []⟩ (us ++ ds) (vs ++ dvs) Q E hr I1.env0 (hb s1 us I1.kIn (by rw [← both.length]; exact F.len _ _ _ _ q)) both q) fun r s' hq => ?_)
  have z := ended hx I1 hq
  cases r with
  | error _ => exact z
  | ok fl => cases fl <;> exact z
theorem keysRun {pins : List (Addr × Obj)} {σ : St} {H : Hp} {s : Shared} {Q : VK} {us ws : List Value} {vs zs : List V} (F : FnG X.prog X.w X.K X.mg X.base CX k f fd ps sp) (hga : X.A.guards = some []) (hr : Room k X.A)
    (hb : KBinds X.K fd ps ks g gV) (hx : Passes CX X E) (I : Inv X pins σ H s) (r : Vals vs us) (rz : Vals zs ws) (h : sp (gV vs zs) H Q E) : wpAny (model X.prog X.w) X.A (call (.ref f) us (ks.zip ws)) (EP X pins σ Q) X.xe s := by
  have both := hb.rel r rz
  refine wpAny_call (codeAny_mono (F.run X.A hga X.stack s H ⟨us, ks.zip ws⟩ (g us ws) (gV vs zs) Q E hr I.env0 (hb.to s us ws I.kIn (by rw [← both.length]; exact F.len _ _ _ _ h)) both h) fun r s' hq => ?_)
  have z := ended hx I hq
  cases r with
  | error _ => exact z
  | ok fl => cases fl <;> exact z
/-- f(k = v, ..): every argument by its name -/
theorem pe_callK0 (F : FnOk X.prog X.w X.K X.mg X.base CX k f fd ps sp) (hr : Room k X.A) (hg : Gl X x) (hm : X.mg x = some (.ref f)) (hk : PySem.W.keepIn X.K (.ref f) = true) (hb : KBinds X.K fd ps ks g gV) (hx : Passes CX X E)
    (hkw : PK X kws tk) (hall : (backToKw pos (keywordEach kws X.env)).all (·.1.isSome) = true := by rfl) (hks : (backToKw pos (keywordEach kws X.env)).filterMap (·.1) = ks := by rfl)
    (hdb : (x == ("__debug__" : Str)) = false := by decide) (hpl : ((backTo pos (starEach [] X.env)).any (·.1) || (backToKw pos (keywordEach kws X.env)).any (·.1.isNone)) = false := by rfl) :
    PE X (.Call (.Name x p) [] kws pos) (tCallK sp gV E tNil tk) := by
  constructor
  intro pins s σ H Q I h
  refine wpAny_Call_Name_kw (ld_glob I hg hm (PySem.W.callWith_KW0 (h₀ := X.base) I.ok.mod.kin hk hall (thn (hkw.run pos pins s σ H _ I h) ?_) hpl) hdb)
  rintro ws s2 ⟨zs, H2, I2, rz, q2⟩
  refine ⟨I2.kIn, ?_⟩
  rw [hks]
  exact run_fnk F hr hb hx I2 .nil rz q2
end

/-! ### the end of a law, where the law's def asks that no repr is running -/
theorem law_callG {P : Program} {w : World} {K : PySem.W.Frag} {mg mb : Str → Option Value} {CX : CXT} {k : Nat} {fa a : Addr} {fd : FuncData} {x : Str} {sp : Sp} {s1 : Shared} {vs : List Value} {ns : List Int}
    (KX : K.In s1.heap) (hns : s1.heap.Ns mainGlobals mg) (hb : s1.heap.Ns builtinsNs mb) (hbb : ∀ y : Str, y ≠ "__name__" → mb y = bootBuiltins y) (lim : s1.heap.NoLimit) (hg : s1.gens = #[])
    (ha : s1.heap.get? a = some { cls := .type "list", data := .seq vs.toArray }) (hi : IntsAre vs ns) (hl : ns.length ≤ sizeLine) (hr : Room k callerA)
    (F : ∀ base : Heap, K.In base → base.Ns mainGlobals mg → FnG P w K mg base CX k fa fd [x] sp) (hbind : ∀ (s : Shared) (u : Value), BindsTo s fd ⟨[u], []⟩ [(x, u)])
    (hsp : ∀ H : Hp, Only H → SqL K H a (ns.map V.int) → sp [.ref a] H (fun v _ => v = .bl true) fun _ _ _ => False)
    (hCX : ∀ H e s', CX [] H s1 (fun _ _ _ => False) e s' → False) :
    codeAny (model P w) callerA (.call (.ref fa) ⟨[.ref a], []⟩) (fun r s' => r = .ok (.ret (.bool true)) ∧ OldK s1.heap s'.heap ∧ s'.os = s1.os ∧ AllBare s'.gens) s1 := by
  have rel := vals_ints hi
  have len := hi.length
  have go : ∀ H : Hp, Only H → SqL K H a (ns.map V.int) → HOk P w H s1.heap → (∀ b, H b ≠ none → b = a ∧ K.lookup a = none) →
      codeAny (model P w) callerA (.call (.ref fa) ⟨[.ref a], []⟩) (fun r s' => r = .ok (.ret (.bool true)) ∧ OldK s1.heap s'.heap ∧ s'.os = s1.os ∧ AllBare s'.gens) s1 := by
    intro H only script held here
    have plain : ∀ {b : Addr} {m : Str → Option Value}, s1.heap.Ns b m → (hidT s1.heap H).Ns b m := by
      rintro b m ⟨o, es, ep, q, d, z⟩
      refine ⟨o, es, ep, hidT_get q ?_, d, z⟩
      rcases hH : H b with _ | u
      · rfl
      · obtain ⟨rfl, _⟩ := here b (by rw [hH]; simp)
        rw [ha] at q
        cases q
        exact nomatch (show Data.seq vs.toArray _ = Data.dict es ep from d)
    have inK : K.In (hidT s1.heap H) := by
      intro b o q
      refine hidT_get (KX b o q) ?_
      rcases hH : H b with _ | u
      · rfl
      · obtain ⟨rfl, z⟩ := here b (by rw [hH]; simp)
        rw [z] at q
        cases q
    obtain ⟨mc, l1, l2⟩ := lim
    have env : Env0 P w K mg (hidT s1.heap H) callerA [] s1 H :=
      ⟨rfl, ⟨inK, plain hns, ⟨mb, plain hb, hbb⟩, ⟨mc, plain l1, l2⟩⟩, fun b o q => of_hidT q, Nat.le_of_eq (hidT_size _ _), trivial, fun b z => absurd (show b ∈ ([] : List Addr) from z) (by simp), held, .of_eq hg⟩
    refine codeAny_mono ((F _ inK (plain hns)).run callerA rfl [] s1 H ⟨[.ref a], []⟩ [.ref a] [.ref a] _ _ hr env (hbind s1 (.ref a)) (.cons rfl .nil) (hsp H only script)) ?_
    rintro (e | fl) s' z
    · exact (hCX H e s' z).elim
    · cases fl with
      | ret u =>
        obtain ⟨v, G, os, bare, un, held', rv, ev⟩ := z
        subst ev
        cases (show u = Value.bool true from rv)
        refine ⟨rfl, OldK.of_keep fun b o q => ?_, os, bare⟩
        rcases only b with n | ⟨ob, xs, n⟩
        · exact un.keep b o q n (fun z => absurd (show b ∈ ([] : List Addr) from z) (by simp)) (by simp)
        · obtain ⟨e1, _⟩ := held b _ n
          obtain ⟨e2, _⟩ := held' b _ (un.frzs b ob _ n)
          rw [q] at e1
          cases e1
          exact e2
      | next => exact z.elim
      | brk => exact z.elim
      | cont => exact z.elim
  rcases hk : K.lookup a with _ | o
  · refine go (fun b => if b = a then some (.frz { cls := .type "list", data := .seq vs.toArray } (.lst (ns.map V.int))) else none) ?_ (.inl (.inr ⟨_, if_pos rfl⟩)) ?_ ?_
    · intro b
      by_cases q : b = a
      · exact .inr ⟨_, _, if_pos q⟩
      · exact .inl (if_neg q)
    · intro b u z
      by_cases q : b = a
      · subst q
        have z' := (if_pos (c := b = b) rfl).symm.trans z
        cases z'
        exact ⟨ha, by rw [List.length_map]; exact hl, vs, _, rel, ha⟩
      · exact nomatch (if_neg q).symm.trans z
    · intro b z
      by_cases q : b = a
      · exact ⟨q, hk⟩
      · exact absurd (if_neg q) z
  · have q := KX a o hk
    rw [ha] at q
    cases q
    exact go (fun _ => none) (fun _ => .inl rfl) (.inr ⟨_, vs.toArray, _, hk, rfl, rfl, rfl, by rw [List.size_toArray, len]; exact hl, by simpa using rel⟩) (fun b u z => nomatch (show (none : Option HO) = some u from z)) fun b z => absurd rfl z
theorem walk_ofG {l : PySem.W.OpenLaw} {n k : Nat} {q : Program} {loose : List Str} {XP : (Str → Option Value) → Heap → Prop} {YP : World → Heap → Prop} {d : DefRec} {K : Params → PySem.W.Frag} {sp : PySem.W.Frag → Sp} {x : Str}
    (hn : l.most = some n) (hn2 : n ≤ sizeLine) (hdf : d.params.defaults = []) (hr : Room k callerA) (hY : ∀ (w : World) (h : Heap), YP w h → (K w.params).In h)
    (F : ∀ (w : World) (mg : Str → Option Value) (fa : Addr) (h : Heap), (K w.params).In h → h.Ns mainGlobals mg → mg d.name = some (.ref fa) →
      ∃ fd : FuncData, (∀ (s : Shared) (u : Value), BindsTo s fd ⟨[u], []⟩ [(x, u)]) ∧ ∀ base : Heap, (K w.params).In base → base.Ns mainGlobals mg → FnG l.prog w (K w.params) mg base CX0 k fa fd [x] (sp (K w.params)))
    (hsp : ∀ (K : PySem.W.Frag) (H : Hp) (a : Addr) (ns : List Int), ns.length ≤ n → Only H → SqL K H a (ns.map V.int) → sp K [.ref a] H (fun v _ => v = .bl true) fun _ _ _ => False) :
    PySem.W.WalkO q loose XP YP l.row.toRowW d [] (fun f vs => PySem.call f vs) := by
  refine Att.attach_call hn hdf fun w s0 s1 mg mb fa o pm cd doc a vs ns G Y ho hd hcd hmg hobj hints hlen hg => ?_
  obtain ⟨fd, hb, hF⟩ := F w mg fa _ (hY w _ Y) G.T.g hmg
  exact law_callG (hY w _ Y) G.T.g G.T.b G.T.builtins G.T.nolimit hg hobj hints (Nat.le_trans hlen hn2) hr hF hb (fun H hO hS => hsp _ H a ns hlen hO hS) fun H e s' z => z.elim

/-! ### s[::-1] -/
theorem back_idx (n : Nat) : Builtin.Str.strSliceIndices none none (-1) n = (List.range n).reverse := by
  unfold Builtin.Str.strSliceIndices
  simp only [show ¬ ((-1 : Int) > 0) by decide, if_false]
  rw [PySem.W.krv_sliceRange, PySem.W.krv_range]
def revS (z : Str) : Str := ⟨z.cps.toList.reverse.toArray⟩
def tRevS (te : TE) : TE := fun σ H Q => te σ H fun x H1 => ∃ z, x = .str z ∧ z.length ≤ sizeLine ∧ Q (.str (revS z)) H1
theorem pe_revS {X : Cx} {e : Expr} {te : TE} {k : Nat} {p1 p2 p3 pos : Pos} (he : PE X e te) : PE X (.Subscript e (.Slice none none (some (.UnaryOp .USub (.Constant (.int 1) k p1) p2)) p3) pos) (tRevS te) := by
  constructor
  intro pins s σ H Q I h
  refine Subscript_ (thn (he.run pins s σ H _ I h) ?_)
  rintro v s1 ⟨x, H1, I1, r1, z, rfl, hz, q⟩
  obtain ⟨t, rfl⟩ := r1
  have one : PO X (some (.UnaryOp .USub (.Constant (.int 1) k p1) p2)) (tPart (tUn (rU fun i => .int (-i)) (tC (.int 1)))) := po_some (pe_un un_neg pe_int)
  refine wpAny_Slice (thn (po_none.run pins s1 σ H1 (fun o G => o = none ∧ G = H1) I1 ⟨rfl, rfl⟩) ?_)
  rintro vl s2 ⟨_, _, I2, pl, rfl, rfl⟩
  refine thn (po_none.run pins s2 σ _ (fun o G => o = none ∧ G = _) I2 ⟨rfl, rfl⟩) ?_
  rintro vu s3 ⟨_, _, I3, pu, rfl, rfl⟩
  refine thn (one.run pins s3 σ _ (fun o G => o = some (-1) ∧ G = _) I3 ⟨1, rfl, -1, rfl, rfl, rfl⟩) ?_
  rintro vs s4 ⟨_, _, I4, ps, rfl, rfl⟩
  obtain ⟨l, rfl, el⟩ := IsPart.raw pl
  obtain ⟨u, rfl, eu⟩ := IsPart.raw pu
  obtain ⟨st, rfl, es⟩ := IsPart.raw ps
  obtain rfl : l = none := by cases l <;> first | rfl | cases el
  obtain rfl : u = none := by cases u <;> first | rfl | cases eu
  obtain ⟨tm, rfl⟩ : ∃ tm, st = some (-1, tm) := by
    cases st with
    | none => cases es
    | some q => exact ⟨q.2, by cases q; cases es; rfl⟩
  have I5 : Inv X pins σ _ { s4 with heap := s4.heap.push { cls := .type "slice", data := .fields #[partValue none, partValue none, partValue (some (-1, tm))] } } := I4.kept (t' := s4.toks) fun b ob q => Heap.get?_push_of_some _ q
  show wpAny (model X.prog X.w) X.A (subscriptTail e (.Slice none none (some (.UnaryOp .USub (.Constant (.int 1) k p1) p2)) p3) (.str z t) (.ref s4.heap.objs.size)) (EP X pins σ Q) X.xe { s4 with heap := s4.heap.push { cls := .type "slice", data := .fields #[partValue none, partValue none, partValue (some (-1, tm))] } }
  refine tail_any (ops := [.str z t, .ref s4.heap.objs.size]) (typeIs_str _ z t) PySem.F.slot_str_getitem.lookup ?_ (by with_unfolding_all rfl)
  refine wpAny_getItem_str_slice (l := none) (u := none) (st := some (-1, tm)) ⟨_, Heap.get?_push_size _ rfl, rfl, rfl⟩ rfl ?_
  have e2 : sliceMade z t none none (some (-1, tm)) = Made.str (revS z) := by
    unfold sliceMade slicePicked
    rw [if_neg (by simp)]
    show Made.str ⟨((Builtin.Str.strSliceIndices none none (-1) z.length).filterMap (z.cps[·]?)).toArray⟩ = _
    rw [back_idx, List.filterMap_reverse, show z.length = z.cps.size from rfl, PySem.W.krv_all]
    rfl
  rw [e2]
  refine ⟨?_, .str _, _, I5.tok _, ⟨_, rfl⟩, q⟩
  show (z.cps.toList.reverse.toArray).size ≤ _
  rw [List.size_toArray, List.length_reverse, Array.length_toList]
  exact hz

/-! ### for i, c in enumerate(s), s a text -/
def Ites (x : Str) : It :=
  ⟨fun i _ => i < x.cps.size, fun i H v H' => ∃ T c, v = .ref T ∧ H T = none ∧ H' = upd H T (.tup [.int (i : Nat), .str ⟨#[c]⟩]) ∧ x.cps[i]? = some c, fun i _ => x.cps.size ≤ i⟩
theorem turn_enumS {P : Program} {w : World} {K : PySem.W.Frag} {elts : List Expr} {kk : Nat} {tpos : Pos} (x : Str) (t : Tok) (e it : Addr) :
    Turn P w K (.Tuple elts kk tpos) (Ites x) [e, it] e (fun i h => (∃ old, IsEnum h e it ((i : Nat) : Int) old) ∧ h.IsStrIter it (strIterType x) x t i ∧ e ≠ it ∧ i ≤ x.cps.size) where
  mem := List.mem_cons_self
  obj := by
    rintro i h ⟨⟨old, he⟩, ⟨o, ho, hc, hd⟩, _⟩ b hb
    rcases List.mem_cons.mp hb with rfl | hb
    · exact ⟨_, he, fun v q => nomatch q⟩
    · obtain rfl := List.mem_singleton.mp hb
      exact ⟨o, ho, fun v q => by rw [hd] at q; cases q⟩
  keep := by
    rintro i h h' ⟨⟨old, he⟩, ⟨o, ho, r⟩, ne, le⟩ k
    exact ⟨⟨old, k e (by simp) _ he⟩, ⟨o, k it (by simp) o ho, r⟩, ne, le⟩
  item := by
    intro X hP hw hK hc i pins s σ H E I hf st go
    subst hP hw hK
    obtain ⟨⟨old, he⟩, hit, ne, le⟩ := st
    have lte : e < s.heap.objs.size := Heap.lt_size he
    have lti : it < s.heap.objs.size := by obtain ⟨_, q, _⟩ := hit; exact Heap.lt_size q
    refine wpAny_pyNext_enum_itemC (Draws.text (A := X.A.in1) (I.ok.hd hc) it x t) he hit go ne (by simpa using ne) fun v h' tk hv ho hit' hT hsz hk => ?_
    obtain ⟨c, tc, hcx, rfl⟩ := hv
    refine ⟨_, rfl, wpAny_letOwnedTupleGo_enum (s := { s with heap := h', toks := tk + 1 }) ho fun h2 he2 sb => ?_⟩
    have hT2 : h2.get? s.heap.objs.size = some { cls := .type "tuple", data := .seq #[.int i tk, .str ⟨#[c]⟩ tc] } := (sb.2 _ (Nat.ne_of_gt lte)).trans hT
    have new : ObjOk X.prog X.w (upd H s.heap.objs.size (.tup [.int (i : Nat), .str ⟨#[c]⟩])) h2 s.heap.objs.size (.tup [.int (i : Nat), .str ⟨#[c]⟩]) :=
      ⟨by show 2 ≤ sizeLine; decide, [.int i tk, .str ⟨#[c]⟩ tc], .cons ⟨_, rfl⟩ (.cons ⟨_, rfl⟩ .nil), ⟨_, hT2, rfl, _, rfl⟩⟩
    have I1 := I.turnedNew (t' := tk + 1) (ch := [e, it]) (fun b ob hb q => (sb.2 b (fun z => hb (by simp [z]))).trans (hk b ob (fun z => hb (by simp [z])) (fun z => hb (by simp [z])) q)) hf (Nat.le_refl _) new
    refine ⟨.ref s.heap.objs.size, _, I1, rfl, ⟨_, c, rfl, I.hok.fresh (Nat.le_refl _), rfl, hcx⟩, ⟨⟨_, by simpa using he2⟩, ?_, ne, go⟩, ?_⟩
    · obtain ⟨o, ho, r⟩ := hit'
      exact ⟨o, (sb.2 it (Ne.symm ne)).trans ho, r⟩
    · intro b hb
      have small : b < s.heap.objs.size := by
        rcases List.mem_cons.mp hb with rfl | q
        · exact lte
        · rw [List.mem_singleton.mp q]; exact lti
      rw [upd_ne (Nat.ne_of_lt small)]
      exact (hf b hb).1
  done := by
    intro X hP hw hK hc i pins s σ H E I hf st stop
    subst hP hw hK
    obtain ⟨⟨old, he⟩, hit, ne, le⟩ := st
    obtain ⟨f0, f1, f2, f3, f4, f5⟩ := hf it (by simp)
    obtain rfl : i = x.cps.size := Nat.le_antisymm le stop
    refine wpAny_pyNext_enum_endD (Draws.text (A := X.A.in1) (I.ok.hd hc) it x t) he hit fun h' eb => ⟨rfl, I.turned (t' := s.toks) (fun b o hb q => eb b o hb q) f0 f1 f3 f4 f5⟩
  self := by
    rintro A i s Q E ⟨⟨_, he⟩, _⟩ h
    exact wpAny_pyIter_enum he h
def iEnumS (ta : TA) : TI := fun σ H R => ta σ H fun vs H1 => ∃ x, vs = [.str x] ∧ R (Ites x) H1
theorem pi_enumS {X : Cx} {e : Expr} {ta : TA} {p pos tpos : Pos} {elts : List Expr} {kk : Nat} (hg : Gl X "enumerate") (hm : X.mg "enumerate" = none) (ha : PA X [e] ta) (hs : starEach [e] X.env = [(false, eval e X.env)] := by rfl) :
    PI X (.Tuple elts kk tpos) (.Call (.Name "enumerate" p) [e] [] pos) (iEnumS ta) := by
  constructor
  intro pins s σ H R I h
  refine Call_ (ld_blt I hg hm boot_enumerate (PyProof.Rows.callWith_type1 (thn (ha.run pos pins s σ H _ I h) ?_) hs rfl))
  rintro us s1 ⟨vs, H1, I1, r1, x, rfl, q⟩
  obtain ⟨u, rfl, ru⟩ := vals1 r1
  obtain ⟨t, rfl⟩ := ru
  refine call_enumerate_str fun h' he hit hsz hk => wpAny_pyIter_enum he ?_
  refine ⟨s1.heap.objs.size + 1, [s1.heap.objs.size + 1, s1.heap.objs.size], _, _, H1, rfl, I1.kept (t' := s1.toks) hk, turn_enumS x t (s1.heap.objs.size + 1) s1.heap.objs.size, ⟨⟨.none, he⟩, hit, Nat.succ_ne_self _, Nat.zero_le _⟩, ?_, q⟩
  intro b hb
  have big : s1.heap.objs.size ≤ b := by
    rcases List.mem_cons.mp hb with rfl | z
    · exact Nat.le_add_right _ _
    · rw [List.mem_singleton.mp z]; exact Nat.le_refl _
  exact I1.fpOk big (I1.hok.fresh big)
/-- the loop over such: the invariant by the turn -/
theorem for_enumS {x : Str} {g : TG} {tb : TS} {D : Ends} {σ : St} {H : Hp} (Pv : Nat → St → Hp → Prop) (h0 : Pv 0 σ H)
    (hs : ∀ i c T σ H, x.cps[i]? = some c → H T = none → Pv i σ H → g (.ref T) σ (upd H T (.tup [.int (i : Nat), .str ⟨#[c]⟩])) fun σ2 H2 => tb { D with nx := Pv (i + 1), ct := Pv (i + 1), bk := D.nx } σ2 H2)
    (hd : ∀ σ H, Pv x.cps.size σ H → D.nx σ H) :
    ∃ W : Nat → Nat → St → Hp → Prop, (∃ m, W 0 m σ H) ∧ ∀ i m σ H, W i m σ H →
      ((Ites x).stop i H ∧ D.nx σ H) ∨ ((Ites x).go i H ∧ ∃ N : St → Hp → Prop, (∀ σ' H', N σ' H' → ∃ m', m' < m ∧ W (i + 1) m' σ' H') ∧ ∀ v H', (Ites x).yld i H v H' → g v σ H' fun σ2 H2 => tb { D with nx := N, ct := N, bk := D.nx } σ2 H2) := by
  refine ⟨fun i m σ H => m = x.cps.size - i ∧ i ≤ x.cps.size ∧ Pv i σ H, ⟨_, rfl, Nat.zero_le _, h0⟩, ?_⟩
  rintro i _ σ H ⟨rfl, le, p⟩
  rcases Nat.lt_or_ge i x.cps.size with lt | ge
  · right
    refine ⟨lt, Pv (i + 1), fun σ' H' q => ⟨_, by omega, rfl, lt, q⟩, ?_⟩
    rintro v H' ⟨T, c, rfl, free, rfl, hc⟩
    exact hs i c T σ H hc free p
  · obtain rfl : i = x.cps.size := Nat.le_antisymm le ge
    exact .inl ⟨Nat.le_refl _, hd _ _ p⟩
end M
end

section
set_option Elab.async false
set_option linter.all false
set_option maxRecDepth 100000
/-! the words of my specs: what stands, pools, questions as data -/
namespace M
open PySem L2 Evl
open PyProof.Rows hiding St

/-! ### data over a part of the heap -/
mutual
theorem dp_mono {K : PySem.W.Frag} {H H' : Hp} (x : Ex H H') : ∀ (d : PyData) (v : V), Dp K H v d → Dp K H' v d
  | .none, _, h => by cases h; exact .non
  | .bool b, _, h => by cases h; exact .bl b
  | .int i, _, h => by cases h; exact .int i
  | .str z, _, h => by cases h; exact .str z
  | .list ds, _, h => by
    cases h with
    | lst hs ha => exact .lst (ex_l x hs) (dpa_mono x ds _ ha)
  | .tuple ds, _, h => by
    cases h with
    | tup hs ha => exact .tup (ex_t x hs) (dpa_mono x ds _ ha)
  | .dict _, _, h => by cases h
theorem dpa_mono {K : PySem.W.Frag} {H H' : Hp} (x : Ex H H') : ∀ (ds : List PyData) (vs : List V), DpAll K H vs ds → DpAll K H' vs ds
  | [], _, h => by cases h; exact .nil
  | d :: ds, _, h => by
    cases h with
    | cons h1 h2 => exact .cons (dp_mono x d _ h1) (dpa_mono x ds _ h2)
end
theorem _root_.L2.Dp.up {K : PySem.W.Frag} {H H' : Hp} {v : V} {d : PyData} (h : Dp K H v d) (x : Ex H H') : Dp K H' v d := dp_mono x d v h

/-! ### the pool of draws: three ints at p, apart from what H0 knows; m bounds how many were mixed -/
structure Pl (H0 H : Hp) (p : Addr) (m : Nat) : Prop where
  ex : Ex H0 H
  out : H0 p = none
  at_ : ∃ a b c : Int, H p = some (.lst [.int a, .int b, .int c]) ∧ 0 ≤ a ∧ 0 ≤ b ∧ b < 2 ^ 62 ∧ 0 ≤ c ∧ c ≤ m
theorem Pl.mono {H0 H : Hp} {p : Addr} {m n : Nat} (h : Pl H0 H p m) (le : m ≤ n) : Pl H0 H p n := by
  obtain ⟨a, b, c, h1, h2, h3, h4, h5, h6⟩ := h.at_
  exact ⟨h.ex, h.out, a, b, c, h1, h2, h3, h4, h5, by omega⟩
/-- a new object that the data may know -/
theorem Pl.new {H0 H : Hp} {p q : Addr} {m : Nat} {o : HO} (h : Pl H0 H p m) (hq : H q = none) : Pl (upd H0 q o) (upd H q o) p m ∧ Ex H0 (upd H0 q o) ∧ (upd H0 q o) q = some o := by
  have q0 : H0 q = none := fresh_back h.ex hq
  obtain ⟨a, b, c, h1, r⟩ := h.at_
  have np : p ≠ q := ne_of_none h1 hq
  refine ⟨⟨fun b' u e => ?_, by rw [upd_ne np]; exact h.out, a, b, c, by rw [upd_ne np]; exact h1, r⟩, Ex.new q0, upd_same⟩
  by_cases e' : b' = q
  · subst e'
    rw [upd_same] at e ⊢
    exact e
  · rw [upd_ne e'] at e ⊢
    exact h.ex _ _ e
/-- a new object that stays ours -/
theorem Pl.mine {H0 H : Hp} {p q : Addr} {m : Nat} {o : HO} (h : Pl H0 H p m) (hq : H q = none) : Pl H0 (upd H q o) p m := by
  obtain ⟨a, b, c, h1, r⟩ := h.at_
  have np : p ≠ q := ne_of_none h1 hq
  exact ⟨h.ex.trans (Ex.new hq), h.out, a, b, c, by rw [upd_ne np]; exact h1, r⟩
theorem Pl.keep {H0 H H' : Hp} {p : Addr} {m : Nat} (h : Pl H0 H p m) (x : Ex H H') : Pl H0 H' p m := by
  obtain ⟨a, b, c, h1, r⟩ := h.at_
  exact ⟨h.ex.trans x, h.out, a, b, c, x _ _ h1, r⟩
/-- an object apart from the data and the pool changes -/
theorem Pl.touch {H0 H : Hp} {p q : Addr} {m : Nat} {o : HO} (h : Pl H0 H p m) (hq : H0 q = none) (np : q ≠ p) : Pl H0 (upd H q o) p m := by
  obtain ⟨a, b, c, h1, r⟩ := h.at_
  exact ⟨h.ex.mut hq, h.out, a, b, c, by rw [upd_ne (Ne.symm np)]; exact h1, r⟩

def sp_draw : Sp := fun vs H Q _ => ∃ (H0 : Hp) (p : Addr) (m : Nat) (n : Int), vs = [.ref p, .int n] ∧ Pl H0 H p m ∧ m ≤ 2 ^ 30 ∧ 0 < n ∧ n.natAbs < 2 ^ 200 ∧
  ∀ (k : Int) (H' : Hp), 0 ≤ k → k < n → Pl H0 H' p (m + 1) → (∀ b, b ≠ p → H' b = H b) → Q (.int k) H'
def sp_pool (K : PySem.W.Frag) : Sp := fun vs H Q _ => ∃ (a : Addr) (ns : List Int) (i : Int), vs = [.ref a, .int i] ∧ SqL K H a (ns.map V.int) ∧ 0 ≤ i ∧ i ≤ 100 ∧
  ∀ (p : Addr) (H' : Hp), Pl H H' p 0 → Q (.ref p) H'

/-! ### letters, questions -/
def Abc (z : Str) : Prop := ∀ c ∈ z.cps.toList, 97 ≤ c ∧ c ≤ 122
inductive Qn where
  | any
  | no (q : Qn)
  | both (a b : Qn)
  | some (a : Qn) (c : Nat) (b : Qn)
namespace Qn
def d : Qn → PyData
  | any => .tuple [.str "any"]
  | no q => .tuple [.str "not", q.d]
  | both a b => .tuple [.str "both", a.d, b.d]
  | some a c b => .tuple [.str "some", a.d, .str ⟨#[c]⟩, b.d]
/-- how far it nests -/
def hi : Qn → Nat
  | any => 1
  | no q => q.hi + 1
  | both a b => max a.hi b.hi + 1
  | some a _ b => max a.hi b.hi + 1
/-- its parts -/
def parts : Qn → Nat
  | any => 1
  | no q => q.parts + 1
  | both a b => a.parts + b.parts + 1
  | some a _ b => a.parts + b.parts + 1
def deep : Qn → Nat
  | any => 0
  | no q => q.deep
  | both a b => max a.deep b.deep
  | some a _ b => max a.deep b.deep + 1
/-- its letters lie in names, and from a to z -/
def In (z : Str) : Qn → Prop
  | any => True
  | no q => q.In z
  | both a b => a.In z ∧ b.In z
  | some a c b => a.In z ∧ c ∈ z.cps.toList ∧ b.In z
def Ok : Qn → Prop
  | any => True
  | no q => q.Ok
  | both a b => a.Ok ∧ b.Ok
  | some a c b => a.Ok ∧ (97 ≤ c ∧ c ≤ 122) ∧ b.Ok
theorem In.ok {z : Str} (h : Abc z) : ∀ {q : Qn}, q.In z → q.Ok
  | any, _ => trivial
  | no q, i => In.ok (q := q) h i
  | both _ _, i => ⟨In.ok h i.1, In.ok h i.2⟩
  | some _ _ _, i => ⟨In.ok h i.1, h _ i.2.1, In.ok h i.2.2⟩
theorem hi_le : ∀ q : Qn, q.hi ≤ q.parts
  | any => by simp [hi, parts]
  | no q => by have := hi_le q; simp [hi, parts]; omega
  | both a b => by have := hi_le a; have := hi_le b; simp [hi, parts]; omega
  | some a _ b => by have := hi_le a; have := hi_le b; simp [hi, parts]; omega
theorem parts_pos : ∀ q : Qn, 1 ≤ q.parts
  | any => by simp [parts]
  | no q => by simp [parts]
  | both a b => by simp [parts]
  | some a _ b => by simp [parts]
end Qn
section
variable {K : PySem.W.Frag} {H : Hp} {v : V}
/-- a tuple's data -/
theorem dp_tup {ds : List PyData} (h : Dp K H v (.tuple ds)) : ∃ a xs, v = .ref a ∧ SqT K H a xs ∧ DpAll K H xs ds := by
  cases h with
  | tup h1 h2 => exact ⟨_, _, rfl, h1, h2⟩
theorem dpa_len : ∀ {xs : List V} {ds : List PyData}, DpAll K H xs ds → xs.length = ds.length
  | _, _, .nil => rfl
  | _, _, .cons _ t => by rw [List.length_cons, List.length_cons, dpa_len t]
theorem dp_str {z : Str} (h : Dp K H v (.str z)) : v = .str z := by cases h; rfl
theorem dp_q {q : Qn} (h : Dp K H v q.d) : ∃ a xs, v = .ref a ∧ SqT K H a xs ∧
    match q with
    | .any => xs = [.str "any"]
    | .no r => ∃ x, xs = [.str "not", x] ∧ Dp K H x r.d
    | .both r t => ∃ x y, xs = [.str "both", x, y] ∧ Dp K H x r.d ∧ Dp K H y t.d
    | .some r c t => ∃ x y, xs = [.str "some", x, .str ⟨#[c]⟩, y] ∧ Dp K H x r.d ∧ Dp K H y t.d := by
  cases q with
  | any =>
    obtain ⟨a, xs, e, hs, ha⟩ := dp_tup h
    refine ⟨a, xs, e, hs, ?_⟩
    cases ha with
    | cons h1 t => cases t; rw [dp_str h1]
  | no r =>
    obtain ⟨a, xs, e, hs, ha⟩ := dp_tup h
    refine ⟨a, xs, e, hs, ?_⟩
    cases ha with
    | cons h1 t => cases t with
      | cons h2 t => cases t; rw [dp_str h1]; exact ⟨_, rfl, h2⟩
  | both r u =>
    obtain ⟨a, xs, e, hs, ha⟩ := dp_tup h
    refine ⟨a, xs, e, hs, ?_⟩
    cases ha with
    | cons h1 t => cases t with
      | cons h2 t => cases t with
        | cons h3 t => cases t; rw [dp_str h1]; exact ⟨_, _, rfl, h2, h3⟩
  | some r c u =>
    obtain ⟨a, xs, e, hs, ha⟩ := dp_tup h
    refine ⟨a, xs, e, hs, ?_⟩
    cases ha with
    | cons h1 t => cases t with
      | cons h2 t => cases t with
        | cons h3 t => cases t with
          | cons h4 t => cases t; rw [dp_str h1, dp_str h3]; exact ⟨_, _, rfl, h2, h4⟩
theorem q_any {a : Addr} (h : H a = Option.some (.tup [.str "any"])) : Dp K H (.ref a) Qn.any.d := .tup (st_of h) (.cons (.str _) .nil)
theorem q_no {a : Addr} {x : V} {r : Qn} (h : H a = Option.some (.tup [.str "not", x])) (hx : Dp K H x r.d) : Dp K H (.ref a) (Qn.no r).d := .tup (st_of h) (.cons (.str _) (.cons hx .nil))
theorem q_both {a : Addr} {x y : V} {r t : Qn} (h : H a = Option.some (.tup [.str "both", x, y])) (hx : Dp K H x r.d) (hy : Dp K H y t.d) : Dp K H (.ref a) (Qn.both r t).d := .tup (st_of h) (.cons (.str _) (.cons hx (.cons hy .nil)))
theorem q_some {a : Addr} {x y : V} {r t : Qn} {c : Nat} (h : H a = Option.some (.tup [.str "some", x, .str ⟨#[c]⟩, y])) (hx : Dp K H x r.d) (hy : Dp K H y t.d) : Dp K H (.ref a) (Qn.some r c t).d := .tup (st_of h) (.cons (.str _) (.cons hx (.cons (.str _) (.cons hy .nil))))
end

/-! ### tests whose answer is not known yet -/
theorem iteD {c A B : Prop} [Decidable c] (h1 : c → A) (h2 : ¬ c → B) : if decide c = true then A else B := by
  by_cases h : c
  · rw [if_pos (decide_eq_true h)]; exact h1 h
  · rw [if_neg (by simp [h])]; exact h2 h
theorem iteND {c A B : Prop} [Decidable c] (h1 : ¬ c → A) (h2 : c → B) : if (!decide c) = true then A else B := by
  by_cases h : c
  · rw [if_neg (by simp [h])]; exact h2 h
  · rw [if_pos (by simp [h])]; exact h1 h
theorem iteI {i j : Int} {A B : Prop} (h1 : i = j → A) (h2 : i ≠ j → B) : if decide (V.int i = V.int j) = true then A else B :=
  iteD (fun h => h1 (by injection h)) (fun h => h2 fun e => h (by rw [e]))
theorem iteNI {i j : Int} {A B : Prop} (h1 : i ≠ j → A) (h2 : i = j → B) : if (!decide (V.int i = V.int j)) = true then A else B :=
  iteND (fun h => h1 fun e => h (by rw [e])) (fun h => h2 (by injection h))
theorem iteS {i j : Str} {A B : Prop} (h1 : i = j → A) (h2 : i ≠ j → B) : if decide (V.str i = V.str j) = true then A else B :=
  iteD (fun h => h1 (by injection h)) (fun h => h2 fun e => h (by rw [e]))
theorem iteNS {i j : Str} {A B : Prop} (h1 : i ≠ j → A) (h2 : i = j → B) : if (!decide (V.str i = V.str j)) = true then A else B :=
  iteND (fun h => h1 fun e => h (by rw [e])) (fun h => h2 (by injection h))
theorem iteB {b : Bool} {A B : Prop} (h1 : b = true → A) (h2 : b = false → B) : if b = true then A else B := by
  cases b
  · exact h2 rfl
  · exact h1 rfl
/-- a promise that nobody can ask -/
theorem fn_void {P : Program} {w : World} {K : PySem.W.Frag} {mg : Str → Option Value} {base : Heap} {CX : CXT} {k : Nat} {f : Addr} {fd : FuncData} {ps : List Str} {sp : Sp} (h : ∀ vs H Q E, sp vs H Q E → False) : FnOk P w K mg base CX k f fd ps sp :=
  ⟨fun vs H Q E z => (h vs H Q E z).elim, fun _ _ _ _ _ _ vs Q E _ _ _ _ z => (h vs _ Q E z).elim⟩

/-! ### drawn questions -/
def Names (z : Str) : Prop := Abc z ∧ 1 ≤ z.length ∧ z.length ≤ 100
theorem Names.size {z : Str} (h : Names z) : z.length ≤ sizeLine := Nat.le_trans h.2.2 (by decide)
theorem Names.get {z : Str} (h : Names z) {k : Int} (h0 : 0 ≤ k) (h1 : k < z.length) : ∃ c, atI z.cps.toList k = some c ∧ c ∈ z.cps.toList := by
  obtain ⟨j, rfl⟩ : ∃ j : Nat, k = j := ⟨k.toNat, by omega⟩
  have lt : j < z.cps.toList.length := by
    rw [Array.length_toList]
    have : ((j : Nat) : Int) < z.cps.size := h1
    omega
  exact ⟨z.cps.toList[j], atI_nat (by simp [lt]), List.getElem_mem lt⟩
def sp_query (K : PySem.W.Frag) (n : Nat) : Sp := fun vs H Q _ => ∃ (H0 : Hp) (p : Addr) (m : Nat) (z : Str) (dp wd : Int), vs = [.ref p, .str z, .int dp, .int wd] ∧ Pl H0 H p m ∧ m + 2 * wd.toNat ≤ 2 ^ 20 ∧ 1 ≤ wd ∧ wd < n ∧ Names z ∧
  ∀ (q : Qn) (v : V) (H1 H' : Hp), Ex H0 H1 → Pl H1 H' p (m + 2 * wd.toNat) → Dp K H1 v q.d → q.In z → q.deep ≤ dp.toNat → (q.parts : Int) ≤ wd → Q v H'
def sp_steep (K : PySem.W.Frag) (n : Nat) : Sp := fun vs H Q _ => ∃ (H0 : Hp) (p : Addr) (m : Nat) (z : Str) (dp : Int), vs = [.ref p, .str z, .int dp] ∧ Pl H0 H p m ∧ m + 16 * dp.toNat ≤ 2 ^ 20 ∧ dp < n ∧ Names z ∧
  ∀ (q : Qn) (v : V) (H1 H' : Hp), Ex H0 H1 → Pl H1 H' p (m + 16 * dp.toNat) → Dp K H1 v q.d → q.In z → q.deep ≤ dp.toNat → q.parts ≤ 8 * dp.toNat + 1 → Q v H'
def sp_any_query (K : PySem.W.Frag) : Sp := fun vs H Q _ => ∃ (H0 : Hp) (p : Addr) (m : Nat) (z : Str) (dp wd : Int), vs = [.ref p, .str z, .int dp, .int wd] ∧ Pl H0 H p m ∧ m + 500 ≤ 2 ^ 20 ∧ 0 ≤ dp ∧ dp ≤ 6 ∧ 1 ≤ wd ∧ wd ≤ 60 ∧ Names z ∧
  ∀ (q : Qn) (v : V) (H1 H' : Hp), Ex H0 H1 → Pl H1 H' p (m + 500) → Dp K H1 v q.d → q.In z → q.deep ≤ dp.toNat → (q.parts : Int) ≤ max (8 * dp + 1) wd → Q v H'
end M
end

section
set_option Elab.async false
set_option linter.all false
set_option maxRecDepth 100000
/-! more rules: isinstance of data, a written dict's get, questions checked -/
namespace M
open PySem L2 Evl
open PyProof.Rows hiding St

/-! ### isinstance(x, T), T built in -/
theorem tyx_tup {K : PySem.W.Frag} {H : Hp} {a : Addr} {xs : List V} (h : SqT K H a xs) : TyX K H (.ref a) (.type "tuple") := by
  rcases h with (h | ⟨o, h⟩) | ⟨o, its, n, hk, hc, _⟩
  · exact .base (.tup h)
  · exact .fTuple h
  · exact .kTuple hk hc
theorem tyx_lst {K : PySem.W.Frag} {H : Hp} {a : Addr} {xs : List V} (h : SqL K H a xs) : TyX K H (.ref a) (.type "list") := by
  rcases h with (h | ⟨o, h⟩) | ⟨o, its, n, hk, hc, _⟩
  · exact .base (.lst h)
  · exact .base (.frz h)
  · exact .kList hk hc
def rIsT (K : PySem.W.Frag) : List V → Hp → VK → Prop := fun xs H Q => ∃ (x : V) (n t : String) (b : Bool), xs = [x, .ty n] ∧ TyX K H x (.type t) ∧ kitB t n = some b ∧ Q (.bl b) H
theorem call_isT {X : Cx} : CallR X (.builtin "isinstance") (rIsT X.K) := by
  intro pins s σ H xs us Q I r h
  obtain ⟨x, n, t, b, rfl, ty, k, q⟩ := h
  exact call_isi pins s σ H _ us Q I r ⟨x, .ty n, .type t, .type n, b, rfl, .ty n, ty, kit_ty k, q⟩
theorem k_tt : kitB "tuple" "tuple" = some true := by decide +kernel
theorem k_ss : kitB "str" "str" = some true := by decide +kernel
theorem k_ll : kitB "list" "list" = some true := by decide +kernel
theorem k_st : kitB "str" "tuple" = some false := by decide +kernel
theorem k_lt : kitB "list" "tuple" = some false := by decide +kernel
theorem k_it : kitB "int" "tuple" = some false := by decide +kernel
theorem k_bt : kitB "bool" "tuple" = some false := by decide +kernel
theorem k_nt : kitB "NoneType" "tuple" = some false := by decide +kernel
theorem k_dt : kitB "dict" "tuple" = some false := by decide +kernel
theorem k_ts : kitB "tuple" "str" = some false := by decide +kernel
theorem k_ls : kitB "list" "str" = some false := by decide +kernel
theorem k_is : kitB "int" "str" = some false := by decide +kernel
theorem k_bs : kitB "bool" "str" = some false := by decide +kernel
theorem k_ns : kitB "NoneType" "str" = some false := by decide +kernel
theorem k_ds : kitB "dict" "str" = some false := by decide +kernel
theorem k_tl : kitB "tuple" "list" = some false := by decide +kernel

/-! ### D.get(word, n), D a written dict of ints by texts -/
/-- what D holds at z: an int, or nothing -/
def KInts (K : PySem.W.Frag) (w : World) (d : Addr) (f : Str → Option Int) : Prop :=
  ∃ es n, KDict K w d es n ∧ ∀ z, (∃ i t, f z = some i ∧ PySem.W.nsIn K d z = some (some (.int i t))) ∨ (f z = none ∧ PySem.W.nsIn K d z = some none)
def tKGet (K : PySem.W.Frag) (w : World) (td ty tx : TE) : TE := fun σ H Q => td σ H fun x H1 => ∃ d f, x = .ref d ∧ KInts K w d f ∧ ty σ H1 fun y H2 => ∃ z, y = .str z ∧ tx σ H2 fun u H3 => ∃ j, u = .int j ∧ Q (.int ((f z).getD j)) H3
theorem pe_kget {X : Cx} {o e f : Expr} {apos cpos : Pos} {td ty tx : TE} (ho : PE X o td) (he : PE X e ty) (hf : PE X f tx) (m : M2 X o "get" apos e f cpos) : PE X (.Call (.Attribute o "get" apos) [e, f] [] cpos) (tKGet X.K X.w td ty tx) := by
  constructor
  intro pins s σ H Q I h
  refine wpAny_Call_method m.base m.few m.line PySem.F.plainAttrs_dict PySem.F.slot_dict_get PySem.F.type_dict_get (thn (ho.run pins s σ H _ I h) ?_)
  rintro u s1 ⟨x, H1, I1, rx, d, g, rfl, ⟨es, n, D, hg⟩, q1⟩
  cases (show u = Value.ref d from rx)
  have hm0 := PySem.W.mapOf_K (prog := X.prog) I1.kIn D.at_ D.lit
  refine ⟨hm0.typeIs, fun a ea => ?_, ?_⟩
  · cases ea
    exact ⟨_, I1.kIn _ _ D.at_, rfl⟩
  rw [m.trees]
  refine Calls.callWith_builtin rfl (Calls.evalArgs_plain (Calls.spliced_cons (thn (he.run pins s1 σ H1 _ I1 q1) ?_)))
  rintro v s2 ⟨y, H2, I2, ry, z, rfl, q2⟩
  obtain ⟨t, rfl⟩ := ry
  refine Calls.spliced_cons (thn (hf.run pins s2 σ H2 _ I2 q2) ?_)
  rintro v2 s3 ⟨y2, H3, I3, r3, j, rfl, q3⟩
  obtain ⟨t3, rfl⟩ := r3
  have hm := PySem.W.mapOf_K (prog := X.prog) I3.kIn D.at_ D.lit
  refine Calls.spliced_nil (call_meetsIn PySem.F.slot_dict_get hm.typeIs PySem.F.entry_dict_get (PySem.F.args_dict_get_3 _ _ _) (meets_dict_get_default (strKind X.prog X.w) d (PySem.strKind_is X.prog X.w z t) D.low (.int j t3)) ⟨_, hm, ?_⟩)
  rcases hg z with ⟨i, ti, e1, e2⟩ | ⟨e1, e2⟩
  · rw [e1] at q3
    rw [PySem.W.find_K D.at_ e2]
    exact ⟨.int i, H3, I3.tok _, ⟨ti, rfl⟩, q3⟩
  · rw [e1] at q3
    rw [PySem.W.find_K D.at_ e2]
    exact ⟨.int j, H3, I3.tok _, ⟨t3, rfl⟩, q3⟩

/-! ### values of any kind that a law makes: data, and empty dicts -/
mutual
inductive Da (K : PySem.W.Frag) (H : Hp) : V → PyData → Prop
  | non : Da K H .non .none
  | bl (b : Bool) : Da K H (.bl b) (.bool b)
  | int (i : Int) : Da K H (.int i) (.int i)
  | str (x : Str) : Da K H (.str x) (.str x)
  | dct {a : Addr} : H a = some (.dK []) → Da K H (.ref a) (.dict [])
  | lst {a : Addr} {xs : List V} {ds : List PyData} : SqL K H a xs → Das K H xs ds → Da K H (.ref a) (.list ds)
  | tup {a : Addr} {xs : List V} {ds : List PyData} : SqT K H a xs → Das K H xs ds → Da K H (.ref a) (.tuple ds)
inductive Das (K : PySem.W.Frag) (H : Hp) : List V → List PyData → Prop
  | nil : Das K H [] []
  | cons {v : V} {vs : List V} {d : PyData} {ds : List PyData} : Da K H v d → Das K H vs ds → Das K H (v :: vs) (d :: ds)
end
section
variable {K : PySem.W.Frag} {H H' : Hp}
mutual
theorem da_of : ∀ (d : PyData) (v : V), Dp K H v d → Da K H v d
  | .none, _, h => by cases h; exact .non
  | .bool b, _, h => by cases h; exact .bl b
  | .int i, _, h => by cases h; exact .int i
  | .str z, _, h => by cases h; exact .str z
  | .list ds, _, h => by cases h with | lst a b => exact .lst a (das_of ds _ b)
  | .tuple ds, _, h => by cases h with | tup a b => exact .tup a (das_of ds _ b)
  | .dict _, _, h => by cases h
theorem das_of : ∀ (ds : List PyData) (vs : List V), DpAll K H vs ds → Das K H vs ds
  | [], _, h => by cases h; exact .nil
  | d :: ds, _, h => by cases h with | cons a b => exact .cons (da_of d _ a) (das_of ds _ b)
end
mutual
theorem da_mono (x : Ex H H') : ∀ (d : PyData) (v : V), Da K H v d → Da K H' v d
  | .none, _, h => by cases h; exact .non
  | .bool b, _, h => by cases h; exact .bl b
  | .int i, _, h => by cases h; exact .int i
  | .str z, _, h => by cases h; exact .str z
  | .list ds, _, h => by cases h with | lst a b => exact .lst (ex_l x a) (das_mono x ds _ b)
  | .tuple ds, _, h => by cases h with | tup a b => exact .tup (ex_t x a) (das_mono x ds _ b)
  | .dict _, _, h => by cases h with | dct a => exact .dct (x _ _ a)
theorem das_mono (x : Ex H H') : ∀ (ds : List PyData) (vs : List V), Das K H vs ds → Das K H' vs ds
  | [], _, h => by cases h; exact .nil
  | d :: ds, _, h => by cases h with | cons a b => exact .cons (da_mono x d _ a) (das_mono x ds _ b)
end
theorem Da.up {v : V} {d : PyData} (h : Da K H v d) (x : Ex H H') : Da K H' v d := da_mono x d v h
theorem Das.up {v : List V} {d : List PyData} (h : Das K H v d) (x : Ex H H') : Das K H' v d := das_mono x d v h
theorem Das.len : ∀ {xs : List V} {ds : List PyData}, Das K H xs ds → xs.length = ds.length
  | _, _, .nil => rfl
  | _, _, .cons _ t => by rw [List.length_cons, List.length_cons, Das.len t]
theorem Das.app : ∀ {xs ys : List V} {ds es : List PyData}, Das K H xs ds → Das K H ys es → Das K H (xs ++ ys) (ds ++ es)
  | _, _, _, _, .nil, h => h
  | _, _, _, _, .cons a t, h => .cons a (Das.app t h)
/-- the last one -/
theorem Das.last : ∀ {xs : List V} {ds : List PyData}, Das K H xs ds → ds ≠ [] → ∃ x d, xs[xs.length - 1]? = some x ∧ Da K H x d ∧ Das K H xs.dropLast ds.dropLast ∧ ds = ds.dropLast ++ [d]
  | _, _, .nil, h => absurd rfl h
  | _, _, .cons a .nil, _ => ⟨_, _, rfl, a, .nil, rfl⟩
  | _, _, .cons a (.cons b t), _ => by
    obtain ⟨x, d, e1, e2, e3, e4⟩ := Das.last (.cons b t) (by simp)
    refine ⟨x, d, ?_, e2, .cons a e3, ?_⟩
    · simpa using e1
    · rw [List.dropLast_cons₂]
      show _ = _ :: (_ ++ [d])
      rw [← e4]
/-- the name of its type -/
def tyN : PyData → String
  | .none => "NoneType" | .bool _ => "bool" | .int _ => "int" | .str _ => "str" | .list _ => "list" | .tuple _ => "tuple" | .dict _ => "dict"
theorem Da.ty {v : V} {d : PyData} (h : Da K H v d) : TyX K H v (.type (tyN d)) := by
  cases h with
  | non => exact .base .non
  | bl b => exact .base (.bl b)
  | int i => exact .base (.int i)
  | str x => exact .base (.str x)
  | dct a => exact .base (.dK a)
  | lst a _ => exact tyx_lst a
  | tup a _ => exact tyx_tup a
def tupB : PyData → Bool
  | .tuple _ => true
  | _ => false
def strB : PyData → Bool
  | .str _ => true
  | _ => false
theorem isTup (d : PyData) : kitB (tyN d) "tuple" = some (tupB d) := by
  cases d with
  | tuple ds => exact k_tt
  | none => exact k_nt
  | bool b => exact k_bt
  | int b => exact k_it
  | str b => exact k_st
  | list b => exact k_lt
  | dict b => exact k_dt
theorem isStr (d : PyData) : kitB (tyN d) "str" = some (strB d) := by
  cases d with
  | str z => exact k_ss
  | none => exact k_ns
  | bool b => exact k_bs
  | int b => exact k_is
  | tuple b => exact k_ts
  | list b => exact k_ls
  | dict b => exact k_ds
end

/-! ### which data are questions -/
def IsQ (d : PyData) : Prop := ∃ q : Qn, q.Ok ∧ q.d = d
def OneLetter (z : Str) : Prop := ∃ c, z = ⟨#[c]⟩ ∧ 97 ≤ c ∧ c ≤ 122
def HasForm : PyData → Prop
  | .tuple [.str w] => w = "any"
  | .tuple [.str w, _] => w = "not"
  | .tuple [.str w, _, _] => w = "both"
  | .tuple [.str w, _, .str z, _] => w = "some" ∧ OneLetter z
  | _ => False
def inner : PyData → List PyData
  | .tuple [_, a] => [a]
  | .tuple [_, a, b] => [a, b]
  | .tuple [_, a, _, b] => [a, b]
  | _ => []
theorem isQ_form {d : PyData} : IsQ d ↔ HasForm d ∧ ∀ x ∈ inner d, IsQ x := by
  constructor
  · rintro ⟨q, ok, rfl⟩
    cases q with
    | any => exact ⟨rfl, by simp [Qn.d, inner]⟩
    | no a => exact ⟨rfl, by simp only [Qn.d, inner, List.mem_singleton, forall_eq]; exact ⟨a, ok, rfl⟩⟩
    | both a b =>
      refine ⟨rfl, fun x hx => ?_⟩
      simp only [Qn.d, inner, List.mem_cons, List.not_mem_nil, or_false] at hx
      rcases hx with rfl | rfl
      · exact ⟨a, ok.1, rfl⟩
      · exact ⟨b, ok.2, rfl⟩
    | some a c b =>
      refine ⟨⟨rfl, c, rfl, ok.2.1⟩, fun x hx => ?_⟩
      simp only [Qn.d, inner, List.mem_cons, List.not_mem_nil, or_false] at hx
      rcases hx with rfl | rfl
      · exact ⟨a, ok.1, rfl⟩
      · exact ⟨b, ok.2.2, rfl⟩
  · rintro ⟨hf, hi⟩
    unfold HasForm at hf
    split at hf
    · subst hf; exact ⟨.any, trivial, rfl⟩
    · subst hf
      obtain ⟨a, ha, ea⟩ := hi _ (by simp only [inner]; exact List.mem_cons_self)
      exact ⟨.no a, ha, by rw [← ea]; rfl⟩
    · subst hf
      obtain ⟨a, ha, ea⟩ := hi _ (by simp only [inner]; exact List.mem_cons_self)
      obtain ⟨b, hb, eb⟩ := hi _ (by simp only [inner]; exact List.mem_cons_of_mem _ List.mem_cons_self)
      exact ⟨.both a b, ⟨ha, hb⟩, by rw [← ea, ← eb]; rfl⟩
    · obtain ⟨rfl, c, rfl, hc⟩ := hf
      obtain ⟨a, ha, ea⟩ := hi _ (by simp only [inner]; exact List.mem_cons_self)
      obtain ⟨b, hb, eb⟩ := hi _ (by simp only [inner]; exact List.mem_cons_of_mem _ List.mem_cons_self)
      exact ⟨.some a c b, ⟨ha, hc, hb⟩, by rw [← ea, ← eb]; rfl⟩
    · exact hf.elim
/-- how big -/
noncomputable def sizes (ds : List PyData) : Nat := (ds.map sizeOf).sum
theorem inner_lt (d : PyData) : sizes (inner d) < sizeOf d := by
  unfold inner
  split <;> simp [sizes] <;> first | omega | (cases d <;> simp <;> omega)
theorem form_tup {d : PyData} (h : HasForm d) : ∃ z ds, d = .tuple (.str z :: ds) := by
  unfold HasForm at h
  split at h <;> first | exact ⟨_, _, rfl⟩ | exact h.elim

/-! ### texts within are short -/
mutual
def sm : PyData → Bool
  | .str z => decide (z.length ≤ 1000)
  | .list ds => sms ds
  | .tuple ds => sms ds
  | _ => true
def sms : List PyData → Bool
  | [] => true
  | d :: ds => sm d && sms ds
end
theorem sms_mem : ∀ {ds : List PyData}, sms ds = true → ∀ d ∈ ds, sm d = true
  | _ :: _, h, _, hd => by
    rw [sms, Bool.and_eq_true] at h
    rcases List.mem_cons.mp hd with rfl | hd
    · exact h.1
    · exact sms_mem h.2 _ hd
theorem sm_inner {d : PyData} (h : sm d = true) : ∀ x ∈ inner d, sm x = true := by
  intro x hx
  unfold inner at hx
  split at hx
  all_goals first
    | exact absurd hx (List.not_mem_nil)
    | (rw [sm] at h
       refine sms_mem h x ?_
       simp only [List.mem_cons, List.not_mem_nil, or_false] at hx ⊢
       first
        | exact .inr hx
        | (rcases hx with rfl | rfl
           · exact .inr (.inl rfl)
           · exact .inr (.inr (.inr rfl)))
        | (rcases hx with rfl | rfl
           · exact .inr (.inl rfl)
           · exact .inr (.inr rfl)))
theorem sm_q : ∀ q : Qn, sm q.d = true
  | .any => rfl
  | .no q => by simp only [Qn.d, sm, sms, sm_q q]; rfl
  | .both a b => by simp only [Qn.d, sm, sms, sm_q a, sm_q b]; rfl
  | .some a c b => by simp only [Qn.d, sm, sms, sm_q a, sm_q b]; rfl

/-! ### what the program's own defs promise -/
def sp_is_letter : Sp := fun vs H Q _ => ∃ c : Nat, vs = [.str ⟨#[c]⟩] ∧ Q (.bl (decide (97 ≤ c ∧ c ≤ 122))) H
def sp_is_one_letter (K : PySem.W.Frag) : Sp := fun vs H Q _ => ∃ (v : V) (d : PyData), vs = [v] ∧ Da K H v d ∧ sm d = true ∧ ∀ b : Bool, (b = true ↔ ∃ z, d = .str z ∧ OneLetter z) → Q (.bl b) H
def sp_has_form (K : PySem.W.Frag) : Sp := fun vs H Q _ => ∃ (v : V) (d : PyData), vs = [v] ∧ Da K H v d ∧ sm d = true ∧ ∀ b : Bool, (b = true ↔ HasForm d) → Q (.bl b) H
theorem one_cases (z : Str) (h : z.length = 1) : ∃ c, z = ⟨#[c]⟩ := by
  obtain ⟨⟨l⟩⟩ := z
  cases l with
  | nil => cases h
  | cons c t => cases t with
    | nil => exact ⟨c, rfl⟩
    | cons d t => simp [PySem.Str.length] at h
theorem at0 {α : Type} (x : α) (xs : List α) : atI (x :: xs) 0 = some x := atI_nat (j := 0) rfl
theorem at1 {α : Type} (x y : α) (xs : List α) : atI (x :: y :: xs) 1 = some y := atI_nat (j := 1) rfl
theorem at2 {α : Type} (x y z : α) (xs : List α) : atI (x :: y :: z :: xs) 2 = some z := atI_nat (j := 2) rfl
theorem at3 {α : Type} (x y z u : α) (xs : List α) : atI (x :: y :: z :: u :: xs) 3 = some u := atI_nat (j := 3) rfl
theorem look_cons {z k : Str} {n : Int} {l : List (Str × Int)} : List.lookup z ((k, n) :: l) = if z = k then some n else List.lookup z l := by
  by_cases e : z = k
  · rw [if_pos e, e]; simp [List.lookup]
  · rw [if_neg e]
    have : (z == k) = false := beq_eq_false_iff_ne.mpr e
    simp [List.lookup, this]
theorem sz_cases {z : Str} {n : Int} (h : (List.lookup z [(("any" : Str), (1 : Int)), (("not" : Str), 2), (("both" : Str), 3), (("some" : Str), 4)]).getD 0 = n) (hn : n ≠ 0) :
    (z = "any" ∧ n = 1) ∨ (z = "not" ∧ n = 2) ∨ (z = "both" ∧ n = 3) ∨ (z = "some" ∧ n = 4) := by
  rw [look_cons, look_cons, look_cons, look_cons] at h
  by_cases e1 : z = "any"
  · rw [if_pos e1] at h; exact .inl ⟨e1, h.symm⟩
  rw [if_neg e1] at h
  by_cases e2 : z = "not"
  · rw [if_pos e2] at h; exact .inr (.inl ⟨e2, h.symm⟩)
  rw [if_neg e2] at h
  by_cases e3 : z = "both"
  · rw [if_pos e3] at h; exact .inr (.inr (.inl ⟨e3, h.symm⟩))
  rw [if_neg e3] at h
  by_cases e4 : z = "some"
  · rw [if_pos e4] at h; exact .inr (.inr (.inr ⟨e4, h.symm⟩))
  rw [if_neg e4] at h
  exact absurd h.symm hn
theorem form_size {wd : Str} {ds : List PyData} (h : HasForm (.tuple (.str wd :: ds))) :
    (List.lookup wd [(("any" : Str), (1 : Int)), (("not" : Str), 2), (("both" : Str), 3), (("some" : Str), 4)]).getD 0 = ((ds.length + 1 : Nat) : Int) := by
  unfold HasForm at h
  split at h
  · rename_i e; cases e; subst h; exact (by decide +kernel : (List.lookup ("any" : Str) [(("any" : Str), (1 : Int)), (("not" : Str), 2), (("both" : Str), 3), (("some" : Str), 4)]).getD 0 = (1 : Int))
  · rename_i e; cases e; subst h; exact (by decide +kernel : (List.lookup ("not" : Str) [(("any" : Str), (1 : Int)), (("not" : Str), 2), (("both" : Str), 3), (("some" : Str), 4)]).getD 0 = (2 : Int))
  · rename_i e; cases e; subst h; exact (by decide +kernel : (List.lookup ("both" : Str) [(("any" : Str), (1 : Int)), (("not" : Str), 2), (("both" : Str), 3), (("some" : Str), 4)]).getD 0 = (3 : Int))
  · rename_i e; cases e; rw [h.1]; exact (by decide +kernel : (List.lookup ("some" : Str) [(("any" : Str), (1 : Int)), (("not" : Str), 2), (("both" : Str), 3), (("some" : Str), 4)]).getD 0 = (4 : Int))
  · exact h.elim
end M
end

section
set_option Elab.async false
set_option linter.all false
set_option maxRecDepth 100000
/-! stacks of data, questions walked part by part -/
namespace M
open PySem L2 Evl
open PyProof.Rows hiding St

/-! ### how many nodes -/
mutual
def nds : PyData → Nat
  | .list ds => ndss ds + 1
  | .tuple ds => ndss ds + 1
  | _ => 1
def ndss : List PyData → Nat
  | [] => 0
  | d :: ds => nds d + ndss ds
end
theorem nds_pos (d : PyData) : 1 ≤ nds d := by cases d <;> simp [nds]
theorem ndss_app : ∀ a b : List PyData, ndss (a ++ b) = ndss a + ndss b
  | [], b => by simp [ndss]
  | d :: a, b => by simp [ndss, ndss_app a b]; omega
theorem ndss_len : ∀ a : List PyData, a.length ≤ ndss a
  | [] => Nat.le_refl _
  | d :: a => by have := ndss_len a; have := nds_pos d; simp [ndss]; omega
theorem inner_nds (d : PyData) : ndss (inner d) < nds d := by
  unfold inner
  split <;> simp [nds, ndss] <;> first | omega | (cases d <;> simp [nds])
theorem sms_app : ∀ {a b : List PyData}, sms a = true → sms b = true → sms (a ++ b) = true
  | [], _, _, h => h
  | d :: a, b, h, h2 => by
    rw [sms, Bool.and_eq_true] at h
    show (sm d && sms (a ++ b)) = true
    rw [h.1, sms_app h.2 h2]; rfl
theorem sms_of : ∀ {a : List PyData}, (∀ d ∈ a, sm d = true) → sms a = true
  | [], _ => rfl
  | d :: a, h => by
    show (sm d && sms a) = true
    rw [h d List.mem_cons_self, sms_of fun x hx => h x (List.mem_cons_of_mem _ hx)]; rfl
theorem Das.ne {K : PySem.W.Frag} {H : Hp} {xs : List V} {ds : List PyData} (h : Das K H xs ds) : xs.isEmpty = ds.isEmpty := by cases h <;> rfl

def sp_inner (K : PySem.W.Frag) : Sp := fun vs H Q _ => ∃ (H0 : Hp) (v : V) (d : PyData), vs = [v] ∧ Ex H0 H ∧ Da K H0 v d ∧ HasForm d ∧
  ∀ (l : Addr) (xs : List V) (H' : Hp), Ex H H' → H l = none → H' l = some (.lst xs) → Das K H0 xs (inner d) → Q (.ref l) H'
def sp_is_question (K : PySem.W.Frag) : Sp := fun vs H Q _ => ∃ (H0 : Hp) (v : V) (d : PyData), vs = [v] ∧ Ex H0 H ∧ Da K H0 v d ∧ sm d = true ∧ nds d ≤ 10000 ∧
  ∀ (b : Bool) (H' : Hp), Ex H H' → (b = true ↔ IsQ d) → Q (.bl b) H'
theorem cut1_not (x : V) (xs : List V) : ¬ (HT.sIx (x :: xs).length 0 (some 1) = 0 ∧ HT.sIx (x :: xs).length (x :: xs).length none = (x :: xs).length) := by
  rintro ⟨h, _⟩
  simp [HT.sIx] at h
  try omega
theorem cut1 (x : V) (xs : List V) : cutV (x :: xs) (some 1) none = xs := by
  have e1 : HT.sIx (x :: xs).length 0 (some 1) = 1 := by
    simp [HT.sIx]
    try omega
  have e2 : HT.sIx (x :: xs).length (x :: xs).length none = (x :: xs).length := rfl
  unfold cutV
  rw [e1, e2]
  simp
section
variable {K : PySem.W.Frag} {H : Hp} {v : V} {xs : List V}
theorem da_str {z : Str} (h : Da K H v (.str z)) : v = .str z := by cases h; rfl
theorem da_tup {ds : List PyData} (h : Da K H v (.tuple ds)) : ∃ a xs, v = .ref a ∧ SqT K H a xs ∧ Das K H xs ds := by cases h with | tup a b => exact ⟨_, _, rfl, a, b⟩
theorem das0 (h : Das K H xs []) : xs = [] := by cases h; rfl
theorem dasc {a : PyData} {ds : List PyData} (h : Das K H xs (a :: ds)) : ∃ x ys, xs = x :: ys ∧ Da K H x a ∧ Das K H ys ds := by cases h with | cons a b => exact ⟨_, _, rfl, a, b⟩
theorem das1 {a : PyData} (h : Das K H xs [a]) : ∃ x, xs = [x] ∧ Da K H x a := by
  obtain ⟨x, ys, rfl, h1, h2⟩ := dasc h
  exact ⟨x, by rw [das0 h2], h1⟩
theorem das2 {a b : PyData} (h : Das K H xs [a, b]) : ∃ x y, xs = [x, y] ∧ Da K H x a ∧ Da K H y b := by
  obtain ⟨x, ys, rfl, h1, h2⟩ := dasc h
  obtain ⟨y, rfl, h3⟩ := das1 h2
  exact ⟨x, y, rfl, h1, h3⟩
theorem das3 {a b c : PyData} (h : Das K H xs [a, b, c]) : ∃ x y z, xs = [x, y, z] ∧ Da K H x a ∧ Da K H y b ∧ Da K H z c := by
  obtain ⟨x, ys, rfl, h1, h2⟩ := dasc h
  obtain ⟨y, z, rfl, h3⟩ := das2 h2
  exact ⟨x, y, z, rfl, h1, h3⟩
theorem das4 {a b c d : PyData} (h : Das K H xs [a, b, c, d]) : ∃ x y z u, xs = [x, y, z, u] ∧ Da K H x a ∧ Da K H y b ∧ Da K H z c ∧ Da K H u d := by
  obtain ⟨x, ys, rfl, h1, h2⟩ := dasc h
  obtain ⟨y, z, u, rfl, h3⟩ := das3 h2
  exact ⟨x, y, z, u, rfl, h1, h3⟩
/-- the shapes of what has form -/
theorem form_cases {d : PyData} (hd : Da K H v d) (hf : HasForm d) : ∃ a xs, v = .ref a ∧ SqT K H a xs ∧
    ((xs = [.str "any"] ∧ inner d = []) ∨ (∃ x r, xs = [.str "not", x] ∧ Da K H x r ∧ inner d = [r]) ∨ (∃ x y r t, xs = [.str "both", x, y] ∧ Da K H x r ∧ Da K H y t ∧ inner d = [r, t]) ∨
     (∃ x y r t c, xs = [.str "some", x, .str ⟨#[c]⟩, y] ∧ Da K H x r ∧ Da K H y t ∧ inner d = [r, t] ∧ 97 ≤ c ∧ c ≤ 122)) := by
  unfold HasForm at hf
  split at hf
  · obtain ⟨a, xs, rfl, hs, hx⟩ := da_tup hd
    obtain ⟨x, rfl, h⟩ := das1 hx
    rw [da_str h, hf] at hs
    exact ⟨a, _, rfl, hs, .inl ⟨rfl, rfl⟩⟩
  · obtain ⟨a, xs, rfl, hs, hx⟩ := da_tup hd
    obtain ⟨x, y, rfl, h, h2⟩ := das2 hx
    rw [da_str h, hf] at hs
    exact ⟨a, _, rfl, hs, .inr (.inl ⟨y, _, rfl, h2, rfl⟩)⟩
  · obtain ⟨a, xs, rfl, hs, hx⟩ := da_tup hd
    obtain ⟨x, y, z, rfl, h, h2, h3⟩ := das3 hx
    rw [da_str h, hf] at hs
    exact ⟨a, _, rfl, hs, .inr (.inr (.inl ⟨y, z, _, _, rfl, h2, h3, rfl⟩))⟩
  · obtain ⟨a, xs, rfl, hs, hx⟩ := da_tup hd
    obtain ⟨x, y, z, u, rfl, h, h2, h3, h4⟩ := das4 hx
    obtain ⟨e1, c, e2, hc⟩ := hf
    rw [da_str h, da_str h3, e1, e2] at hs
    exact ⟨a, _, rfl, hs, .inr (.inr (.inr ⟨y, u, _, _, c, rfl, h2, h4, rfl, hc⟩))⟩
  · exact hf.elim
end

def sp_check_question (K : PySem.W.Frag) : Sp := fun vs H Q _ => ∃ (H0 : Hp) (v : V) (q : Qn), vs = [v] ∧ Ex H0 H ∧ Dp K H0 v q.d ∧ q.Ok ∧ q.parts ≤ 1000 ∧ ∀ H' : Hp, Ex H H' → Q .non H'
theorem nds_q : ∀ q : Qn, nds q.d ≤ 4 * q.parts
  | .any => by simp [Qn.d, nds, ndss, Qn.parts]
  | .no q => by have := nds_q q; simp [Qn.d, nds, ndss, Qn.parts]; omega
  | .both a b => by have := nds_q a; have := nds_q b; simp [Qn.d, nds, ndss, Qn.parts]; omega
  | .some a c b => by have := nds_q a; have := nds_q b; simp [Qn.d, nds, ndss, Qn.parts]; omega
/-- its parts, itself first, each ahead of those within it -/
def Qn.all : Qn → List Qn
  | .any => [.any]
  | .no q => .no q :: q.all
  | .both a b => .both a b :: (a.all ++ b.all)
  | .some a c b => .some a c b :: (a.all ++ b.all)
def Qn.kids : Qn → List Qn
  | .any => []
  | .no q => [q]
  | .both a b => [a, b]
  | .some a _ b => [a, b]
theorem Qn.all_kids (q : Qn) : q.all = q :: q.kids.flatMap Qn.all := by cases q <;> simp [Qn.all, Qn.kids]
theorem Qn.all_len : ∀ q : Qn, q.all.length = q.parts
  | .any => rfl
  | .no q => by simp [Qn.all, Qn.parts, Qn.all_len q]
  | .both a b => by simp [Qn.all, Qn.parts, Qn.all_len a, Qn.all_len b]
  | .some a c b => by simp [Qn.all, Qn.parts, Qn.all_len a, Qn.all_len b]
theorem Qn.form : ∀ q : Qn, q.Ok → HasForm q.d
  | .any, _ => rfl
  | .no _, _ => rfl
  | .both _ _, _ => rfl
  | .some _ c _, h => ⟨rfl, c, rfl, h.2.1⟩
theorem Qn.inner (q : Qn) : M.inner q.d = q.kids.map Qn.d := by cases q <;> rfl
theorem Qn.kids_ok {q : Qn} (h : q.Ok) : ∀ r ∈ q.kids, r.Ok := by
  cases q with
  | any => intro r hr; cases hr
  | no a => intro r hr; simp [Qn.kids] at hr; subst hr; exact h
  | both a b => intro r hr; simp [Qn.kids] at hr; rcases hr with rfl | rfl; exact h.1; exact h.2
  | some a c b => intro r hr; simp [Qn.kids] at hr; rcases hr with rfl | rfl; exact h.1; exact h.2.2
/-- values that are the questions qs -/
def Qs (K : PySem.W.Frag) (H : Hp) (xs : List V) (qs : List Qn) : Prop := Das K H xs (qs.map Qn.d)
theorem Qs.last {K : PySem.W.Frag} {H : Hp} {xs : List V} {qs : List Qn} {q : Qn} (h : Qs K H xs (qs ++ [q])) : ∃ x, xs[xs.length - 1]? = some x ∧ Da K H x q.d ∧ Qs K H xs.dropLast qs := by
  obtain ⟨x, d, e1, e2, e3, e4⟩ := Das.last h (by simp)
  rw [List.map_append, List.map_singleton] at e4 e3
  rw [List.dropLast_concat] at e4 e3
  have e5 := List.append_cancel_left e4
  cases e5
  exact ⟨x, e1, e2, e3⟩
theorem Qs.app {K : PySem.W.Frag} {H : Hp} {xs ys : List V} {qs rs : List Qn} (h : Qs K H xs qs) (h2 : Qs K H ys rs) : Qs K H (xs ++ ys) (qs ++ rs) := by
  show Das _ _ _ (List.map _ _)
  rw [List.map_append]
  exact Das.app h h2
theorem Qs.len {K : PySem.W.Frag} {H : Hp} {xs : List V} {qs : List Qn} (h : Qs K H xs qs) : xs.length = qs.length := by
  have := Das.len h
  rw [List.length_map] at this
  exact this
theorem Das.rev {K : PySem.W.Frag} {H : Hp} : ∀ {xs : List V} {ds : List PyData}, Das K H xs ds → Das K H xs.reverse ds.reverse
  | _, _, .nil => .nil
  | _, _, .cons a t => by
    rw [List.reverse_cons, List.reverse_cons]
    exact Das.app (Das.rev t) (.cons a .nil)
theorem Qs.rev {K : PySem.W.Frag} {H : Hp} {xs : List V} {qs : List Qn} (h : Qs K H xs qs) : Qs K H xs.reverse qs.reverse := by
  show Das _ _ _ (List.map _ _)
  rw [List.map_reverse]
  exact Das.rev h
/-- how many parts of all -/
def ptss (qs : List Qn) : Nat := (qs.map Qn.parts).sum
theorem ptss_app (a b : List Qn) : ptss (a ++ b) = ptss a + ptss b := by simp [ptss]
theorem ptss_rev (a : List Qn) : ptss a.reverse = ptss a := by
  induction a with
  | nil => rfl
  | cons q a ih => rw [List.reverse_cons, ptss_app, ih]; simp [ptss]; omega
theorem ptss_kids (q : Qn) : ptss q.kids + 1 = q.parts := by cases q <;> simp [ptss, Qn.kids, Qn.parts]
theorem ptss_len : ∀ a : List Qn, a.length ≤ ptss a
  | [] => Nat.le_refl _
  | q :: a => by have := ptss_len a; have := q.parts_pos; simp [ptss] at *; omega
def sp_parts_of (K : PySem.W.Frag) : Sp := fun vs H Q _ => ∃ (H0 : Hp) (v : V) (q : Qn), vs = [v] ∧ Ex H0 H ∧ Dp K H0 v q.d ∧ q.Ok ∧ q.parts ≤ 1000 ∧
  ∀ (l : Addr) (xs : List V) (H' : Hp), Ex H H' → H l = none → H' l = some (.lst xs) → Qs K H0 xs q.all → Q (.ref l) H'
theorem all_flat : ∀ l : List Qn, (l.flatMap Qn.all).length = ptss l
  | [] => rfl
  | q :: l => by simp [List.flatMap_cons, Qn.all_len, all_flat l, ptss]

/-! ### turned about -/
def Qn.turn : Qn → Qn
  | .any => .any
  | .no q => .no q.turn
  | .both a b => .both a.turn b.turn
  | .some a c b => .some b.turn c a.turn
theorem Qn.turn_turn : ∀ q : Qn, q.turn.turn = q
  | .any => rfl
  | .no q => by simp [Qn.turn, Qn.turn_turn q]
  | .both a b => by simp [Qn.turn, Qn.turn_turn a, Qn.turn_turn b]
  | .some a c b => by simp [Qn.turn, Qn.turn_turn a, Qn.turn_turn b]
theorem Qn.turn_ok : ∀ {q : Qn}, q.Ok → q.turn.Ok
  | .any, _ => trivial
  | .no q, h => Qn.turn_ok (q := q) h
  | .both _ _, h => ⟨Qn.turn_ok h.1, Qn.turn_ok h.2⟩
  | .some _ _ _, h => ⟨Qn.turn_ok h.2.2, h.2.1, Qn.turn_ok h.1⟩
theorem Qn.turn_parts : ∀ q : Qn, q.turn.parts = q.parts
  | .any => rfl
  | .no q => by simp [Qn.turn, Qn.parts, Qn.turn_parts q]
  | .both a b => by simp [Qn.turn, Qn.parts, Qn.turn_parts a, Qn.turn_parts b]
  | .some a c b => by simp [Qn.turn, Qn.parts, Qn.turn_parts a, Qn.turn_parts b]; omega
theorem Qn.turn_deep : ∀ q : Qn, q.turn.deep = q.deep
  | .any => rfl
  | .no q => by simp [Qn.turn, Qn.deep, Qn.turn_deep q]
  | .both a b => by simp [Qn.turn, Qn.deep, Qn.turn_deep a, Qn.turn_deep b]
  | .some a c b => by simp [Qn.turn, Qn.deep, Qn.turn_deep a, Qn.turn_deep b, Nat.max_comm]
theorem Qn.all_ok : ∀ {q : Qn}, q.Ok → ∀ r ∈ q.all, r.Ok
  | .any, h, r, hr => by simp [Qn.all] at hr; subst hr; exact h
  | .no q, h, r, hr => by
    simp [Qn.all] at hr
    rcases hr with rfl | hr
    · exact h
    · exact Qn.all_ok (q := q) h r hr
  | .both a b, h, r, hr => by
    simp [Qn.all] at hr
    rcases hr with rfl | hr | hr
    · exact h
    · exact Qn.all_ok h.1 r hr
    · exact Qn.all_ok h.2 r hr
  | .some a c b, h, r, hr => by
    simp [Qn.all] at hr
    rcases hr with rfl | hr | hr
    · exact h
    · exact Qn.all_ok h.1 r hr
    · exact Qn.all_ok h.2.2 r hr
/-- behind a part stand the parts of what lies within it -/
theorem flat_split : ∀ (n : Nat) (qs : List Qn), ptss qs ≤ n → ∀ pre r S, qs.flatMap Qn.all = pre ++ r :: S → ∃ S', S = r.kids.flatMap Qn.all ++ S' ∧ ∃ rest : List Qn, S' = rest.flatMap Qn.all
  | n, [], _, pre, r, S, h => by simp at h
  | 0, q :: qs, hn, pre, r, S, h => by have := q.parts_pos; simp [ptss] at hn; omega
  | n + 1, q :: qs, hn, pre, r, S, h => by
    rw [List.flatMap_cons, Qn.all_kids] at h
    have e : q :: (q.kids.flatMap Qn.all ++ qs.flatMap Qn.all) = q :: (q.kids ++ qs).flatMap Qn.all := by rw [List.flatMap_append]
    rw [List.cons_append, e] at h
    cases pre with
    | nil =>
      rw [List.nil_append] at h
      injection h with h1 h2
      subst h1
      exact ⟨qs.flatMap Qn.all, by rw [← h2, List.flatMap_append], qs, rfl⟩
    | cons p pre =>
      rw [List.cons_append] at h
      injection h with h1 h2
      refine flat_split n (q.kids ++ qs) ?_ pre r S h2
      have k := ptss_kids q
      rw [ptss_app]
      have : ptss (q :: qs) = q.parts + ptss qs := by simp [ptss]
      omega
theorem flat_inj : ∀ (a b c : List Qn) (S : List Qn), a.flatMap Qn.all = b.flatMap Qn.all ++ c.flatMap Qn.all → ∃ rest, a = b ++ rest ∧ rest.flatMap Qn.all = c.flatMap Qn.all
  | a, [], c, S, h => ⟨a, rfl, by simpa using h⟩
  | [], q :: b, c, S, h => by
    rw [List.flatMap_cons, Qn.all_kids] at h
    simp at h
  | p :: a, q :: b, c, S, h => by
    rw [List.flatMap_cons, List.flatMap_cons, List.append_assoc] at h
    have e : p = q := by
      rw [Qn.all_kids p, Qn.all_kids q] at h
      injection h
    subst e
    obtain ⟨rest, e1, e2⟩ := flat_inj a b c S (List.append_cancel_left h)
    exact ⟨rest, by rw [e1]; rfl, e2⟩
def sp_turned_part (K : PySem.W.Frag) : Sp := fun vs H Q _ => ∃ (H0 : Hp) (v : V) (r : Qn) (l : Addr) (xs : List V) (rest : List Qn), vs = [v, .ref l] ∧ Ex H0 H ∧ H0 l = none ∧ Da K H0 v r.d ∧ r.Ok ∧ H l = some (.lst xs) ∧
  Qs K H0 xs (rest ++ (r.kids.map Qn.turn).reverse) ∧
  ∀ (v' : V) (ys : List V) (H1 H' : Hp), Ex H0 H1 → Ex H1 H' → H1 l = none → Da K H1 v' r.turn.d → H' l = some (.lst ys) → Qs K H1 ys rest → (∀ b o, b ≠ l → H b = some o → H' b = some o) → Q v' H'
def sp_turned_question (K : PySem.W.Frag) : Sp := fun vs H Q _ => ∃ (H0 : Hp) (v : V) (q : Qn), vs = [v] ∧ Ex H0 H ∧ Dp K H0 v q.d ∧ q.Ok ∧ q.parts ≤ 1000 ∧
  ∀ (v' : V) (H1 H' : Hp), Ex H0 H1 → Ex H1 H' → Ex H H' → Da K H1 v' q.turn.d → Q v' H'
section
variable {K : PySem.W.Frag} {H : Hp} {v : V}
theorem da_any (h : Da K H v Qn.any.d) : ∃ a, v = .ref a ∧ SqT K H a [.str "any"] := by
  obtain ⟨a, xs, e, hs, hx⟩ := da_tup h
  obtain ⟨x, rfl, h1⟩ := das1 hx
  rw [da_str h1] at hs
  exact ⟨a, e, hs⟩
theorem da_no {r : Qn} (h : Da K H v (Qn.no r).d) : ∃ a x, v = .ref a ∧ SqT K H a [.str "not", x] ∧ Da K H x r.d := by
  obtain ⟨a, xs, e, hs, hx⟩ := da_tup h
  obtain ⟨x, y, rfl, h1, h2⟩ := das2 hx
  rw [da_str h1] at hs
  exact ⟨a, y, e, hs, h2⟩
theorem da_both {r t : Qn} (h : Da K H v (Qn.both r t).d) : ∃ a x y, v = .ref a ∧ SqT K H a [.str "both", x, y] ∧ Da K H x r.d ∧ Da K H y t.d := by
  obtain ⟨a, xs, e, hs, hx⟩ := da_tup h
  obtain ⟨x, y, z, rfl, h1, h2, h3⟩ := das3 hx
  rw [da_str h1] at hs
  exact ⟨a, y, z, e, hs, h2, h3⟩
theorem da_some {r t : Qn} {c : Nat} (h : Da K H v (Qn.some r c t).d) : ∃ a x y, v = .ref a ∧ SqT K H a [.str "some", x, .str ⟨#[c]⟩, y] ∧ Da K H x r.d ∧ Da K H y t.d := by
  obtain ⟨a, xs, e, hs, hx⟩ := da_tup h
  obtain ⟨x, y, z, u, rfl, h1, h2, h3, h4⟩ := das4 hx
  rw [da_str h1, da_str h3] at hs
  exact ⟨a, y, u, e, hs, h2, h4⟩
theorem mk_any {a : Addr} (h : H a = Option.some (.tup [.str "any"])) : Da K H (.ref a) Qn.any.d := .tup (st_of h) (.cons (.str _) .nil)
theorem mk_no {a : Addr} {x : V} {r : Qn} (h : H a = Option.some (.tup [.str "not", x])) (hx : Da K H x r.d) : Da K H (.ref a) (Qn.no r).d := .tup (st_of h) (.cons (.str _) (.cons hx .nil))
theorem mk_both {a : Addr} {x y : V} {r t : Qn} (h : H a = Option.some (.tup [.str "both", x, y])) (hx : Da K H x r.d) (hy : Da K H y t.d) : Da K H (.ref a) (Qn.both r t).d := .tup (st_of h) (.cons (.str _) (.cons hx (.cons hy .nil)))
theorem mk_some {a : Addr} {x y : V} {r t : Qn} {c : Nat} (h : H a = Option.some (.tup [.str "some", x, .str ⟨#[c]⟩, y])) (hx : Da K H x r.d) (hy : Da K H y t.d) : Da K H (.ref a) (Qn.some r c t).d := .tup (st_of h) (.cons (.str _) (.cons hx (.cons (.str _) (.cons hy .nil))))
end
theorem Das.at {K : PySem.W.Frag} {H : Hp} : ∀ {xs : List V} {ds : List PyData}, Das K H xs ds → ∀ {j : Nat} {x : V} (hj : j < ds.length), xs[j]? = some x → Da K H x ds[j]
  | _, _, .nil, j, x, hj, _ => absurd hj (Nat.not_lt_zero _)
  | _, _, .cons a _, 0, x, _, e => by
    simp only [List.getElem?_cons_zero, Option.some.injEq] at e
    subst e
    exact a
  | _, _, .cons _ t, j + 1, x, hj, e => Das.at t (Nat.lt_of_succ_lt_succ hj) e
theorem Qs.at {K : PySem.W.Frag} {H : Hp} {xs : List V} {qs : List Qn} {j : Nat} {x : V} (h : Qs K H xs qs) (hj : j < qs.length) (e : xs[j]? = some x) : Da K H x qs[j].d := by
  have := Das.at h (j := j) (by rw [List.length_map]; exact hj) e
  rw [List.getElem_map] at this
  exact this
theorem flat_one {ts : List Qn} {q : Qn} (h : q.all = ts.flatMap Qn.all) : ts = [q] := by
  obtain ⟨rest, e1, e2⟩ := flat_inj ts [q] [] [] (by rw [← h]; simp)
  cases rest with
  | nil => exact e1
  | cons r rest => rw [List.flatMap_cons, Qn.all_kids] at e2; cases e2
end M
end

section
set_option Elab.async false
set_option linter.all false
set_option maxRecDepth 100000
/-! depths and letters of questions, part by part -/
namespace M
open PySem L2 Evl
open PyProof.Rows hiding St
def Qn.word : Qn → Str
  | .any => "any"
  | .no _ => "not"
  | .both _ _ => "both"
  | .some _ _ _ => "some"
def Qn.up : Qn → Nat
  | .some _ _ _ => 1
  | _ => 0
theorem Qn.word_some {q : Qn} : (q.word = "some" → q.up = 1) ∧ (q.word ≠ "some" → q.up = 0) := by
  cases q <;> simp [Qn.word, Qn.up] <;> decide
theorem da_word {K : PySem.W.Frag} {H : Hp} {v : V} {q : Qn} (h : Da K H v q.d) : ∃ a ws, v = .ref a ∧ SqT K H a (.str q.word :: ws) := by
  cases q with
  | any => obtain ⟨a, e, s⟩ := da_any h; exact ⟨a, _, e, s⟩
  | no r => obtain ⟨a, x, e, s, _⟩ := da_no h; exact ⟨a, _, e, s⟩
  | both r t => obtain ⟨a, x, y, e, s, _⟩ := da_both h; exact ⟨a, _, e, s⟩
  | some r c t => obtain ⟨a, x, y, e, s, _⟩ := da_some h; exact ⟨a, _, e, s⟩
/-! a pile of (part, depth) -/
def pd (p : Qn × Nat) : PyData := .tuple [p.1.d, .int p.2]
def Ds (K : PySem.W.Frag) (H : Hp) (xs : List V) (ts : List (Qn × Nat)) : Prop := Das K H xs (ts.map pd)
def mx : List (Qn × Nat) → Nat
  | [] => 0
  | p :: ts => max (p.2 + p.1.deep) (mx ts)
theorem mx_app : ∀ a b : List (Qn × Nat), mx (a ++ b) = max (mx a) (mx b)
  | [], b => by simp [mx]
  | p :: a, b => by simp [mx, mx_app a b, Nat.max_assoc]
theorem mx_kids (r : Qn) (d : Nat) : max (d + r.up) (mx (r.kids.map fun k => (k, d + r.up))) = d + r.deep := by
  cases r <;> simp [Qn.kids, mx, Qn.up, Qn.deep] <;> omega
theorem Ds.last {K : PySem.W.Frag} {H : Hp} {xs : List V} {ts : List (Qn × Nat)} {r : Qn} {d : Nat} (h : Ds K H xs (ts ++ [(r, d)])) : ∃ a y, xs[xs.length - 1]? = some (.ref a) ∧ SqT K H a [y, .int d] ∧ Da K H y r.d ∧ Ds K H xs.dropLast ts := by
  obtain ⟨x, d', e1, e2, e3, e4⟩ := Das.last h (by simp)
  rw [List.map_append, List.map_singleton] at e4 e3
  rw [List.dropLast_concat] at e4 e3
  have e5 := List.append_cancel_left e4
  cases e5
  obtain ⟨a, ys, rfl, hs, hy⟩ := da_tup e2
  obtain ⟨y, z, rfl, h1, h2⟩ := das2 hy
  cases h2
  exact ⟨a, y, e1, hs, h1, e3⟩
theorem Ds.app1 {K : PySem.W.Frag} {H : Hp} {xs : List V} {ts : List (Qn × Nat)} {r : Qn} {d : Nat} {a : Addr} {y : V} (h : Ds K H xs ts) (ha : H a = some (.tup [y, .int d])) (hy : Da K H y r.d) : Ds K H (xs ++ [.ref a]) (ts ++ [(r, d)]) := by
  show Das _ _ _ (List.map _ _)
  rw [List.map_append]
  exact Das.app h (.cons (.tup (st_of ha) (.cons hy (.cons (.int _) .nil))) .nil)
theorem Ds.len {K : PySem.W.Frag} {H : Hp} {xs : List V} {ts : List (Qn × Nat)} (h : Ds K H xs ts) : xs.length = ts.length := by
  have := Das.len h
  rw [List.length_map] at this
  exact this
theorem Ds.up {K : PySem.W.Frag} {H H' : Hp} {xs : List V} {ts : List (Qn × Nat)} (h : Ds K H xs ts) (x : Ex H H') : Ds K H' xs ts := Das.up h x
/-- how many parts a pile has -/
def pts2 (ts : List (Qn × Nat)) : Nat := ptss (ts.map Prod.fst)
theorem pts2_app (a b : List (Qn × Nat)) : pts2 (a ++ b) = pts2 a + pts2 b := by simp [pts2, ptss_app]
theorem pts2_len (a : List (Qn × Nat)) : a.length ≤ pts2 a := by
  have := ptss_len (a.map Prod.fst)
  simpa [pts2] using this
theorem pts2_kids (r : Qn) (d : Nat) : pts2 (r.kids.map fun k => (k, d)) + 1 = r.parts := by
  have := ptss_kids r
  simpa [pts2, Function.comp_def] using this
def sp_depth_of (K : PySem.W.Frag) : Sp := fun vs H Q _ => ∃ (H0 : Hp) (v : V) (q : Qn), vs = [v] ∧ Ex H0 H ∧ Dp K H0 v q.d ∧ q.Ok ∧ q.parts ≤ 1000 ∧ ∀ H' : Hp, Ex H H' → Q (.int (q.deep : Nat)) H'
theorem Ex.both {A B : Hp} (x : Ex A B) (t : Addr) (o : HO) : Ex (upd A t o) (upd B t o) := by
  intro b u e
  by_cases z : b = t
  · subst z; rw [upd_same] at e ⊢; exact e
  · rw [upd_ne z] at e ⊢; exact x b u e
theorem st6 {a c x o : Option V} {i i' j j' : Int} (h1 : i = i') (h2 : j = j') : [a, some (.int i), c, x, some (.int j), o] = [a, some (.int i'), c, x, some (.int j'), o] := by rw [h1, h2]
theorem take_succ' {α : Type} {xs : List α} {i : Nat} (h : i < xs.length) : xs.take (i + 1) = xs.take i ++ [xs[i]] := by rw [List.take_append_getElem h]
end M
end

section
set_option Elab.async false
set_option linter.all false
set_option maxRecDepth 100000
set_option maxHeartbeats 2000000
/-! sets of any scanned keys whose table can be walked; sorted(set of texts) -/
namespace M
open PySem PySem.Spec PyProof.Rows L2
section
variable {κ : Type} [DecidableEq κ] {P : Program} {w : World}
/-- no two rows hold one key -/
def Apart (knd : PySem.KeyKind P w κ) (p q : Int × Value) : Prop := ∀ k, knd.is k p.2 = true → knd.is k q.2 = true → False
theorem Apart.turn {knd : PySem.KeyKind P w κ} {p q : Int × Value} (x : Apart knd p q) : Apart knd q p := fun k u v => x k v u
/-- the set at a: its members by kind, how many, its table in order -/
def OSet (knd : PySem.KeyKind P w κ) (h : Heap) (a : Addr) (S : κ → Bool) (n : Nat) : Prop :=
  ∃ (ob : Obj) (rows : Array (Int × Value)) (age : Nat) (tab : SetTable), h.get? a = some ob ∧ ob.ExactSet ∧ ob.data = .set rows age tab ∧ ElemsOf knd rows.toList ∧ rows.toList.Pairwise (Apart knd) ∧
    (∀ k, S k = true ↔ ∃ p ∈ rows.toList, knd.is k p.2 = true) ∧ rows.size < scanBound ∧ tab.fits rows.size = true ∧ rows.size = n ∧ Ris tab.place.toList ∧ (w.params.followText "set-order" = true ∨ tab.led = true)
variable {knd : PySem.KeyKind P w κ} {h h' : Heap} {a : Addr} {S : κ → Bool} {n : Nat}
theorem OSet.keep (R : OSet knd h a S n) (z : ∀ u, h.get? a = some u → h'.get? a = some u) : OSet knd h' a S n := by
  rcases R with ⟨ob, rows, age, tab, at_, rest⟩
  exact ⟨ob, rows, age, tab, z ob at_, rest⟩
theorem OSet.plain (R : OSet knd h a S n) : h.SetOf knd a S n := by
  rcases R with ⟨ob, rows, age, tab, at_, ex, dat, el, _, me, few, fit, cnt, _⟩
  exact ⟨ob, rows, age, tab, at_, ex, dat, el, me, few, fit, cnt⟩
theorem OSet.alike {S' : κ → Bool} {n' : Nat} (R : OSet knd h a S n) (x : ∀ k, S' k = S k) (y : n' = n) : OSet knd h a S' n' := by
  rw [y, funext x]; exact R
end
section
variable {κ : Type} [DecidableEq κ] {P : Program} {w : World} {knd : PySem.KeyKind P w κ} {A : Around} {E : Value → Shared → Prop} {s : Shared} {a : Addr} {S : κ → Bool} {n : Nat}
/-- what is left behind the new row: stored, relaid if too full -/
theorem oset_tail {g : Bool → Sem Unit} (hg : ∀ (b : Bool) (s1 : Shared) (Q1 : Unit → Shared → Prop), Q1 () s1 → wpAny (model P w) A (g b) Q1 E s1)
    {ob : Obj} {old : Array (Int × Value)} {age : Nat} {tab : SetTable} (at_ : s.heap.get? a = some ob) (ex : ob.ExactSet) (dat : ob.data = .set old age tab)
    {rows : Array (Int × Value)} {tab2 : SetTable} {S' : κ → Bool} (el : ElemsOf knd rows.toList) (ap : rows.toList.Pairwise (Apart knd)) (me : ∀ k, S' k = true ↔ ∃ p ∈ rows.toList, knd.is k p.2 = true)
    (few : rows.size < scanBound) (fit : tab2.fits rows.size = true) (ris : Ris tab2.place.toList) (led : w.params.followText "set-order" = true ∨ tab2.led = true) {dummy : Bool} {R : Option Bool → Shared → Prop}
    (hR : ∀ hp, Heap.SameBut a s.heap hp → OSet knd hp a S' rows.size → R (some true) { s with heap := hp }) :
    wpAny (model P w) A (do
        storeSet a rows tab2
        if (!dummy && tab2.tooFull) = true then do
            g (relayAll tab2 rows (SetTable.grown rows.size)).2.2
            storeSet a (relayAll tab2 rows (SetTable.grown rows.size)).1 (relayAll tab2 rows (SetTable.grown rows.size)).2.1
            pure (some true)
          else pure (some true)) R E s := by
  have same := Heap.SameBut.update s.heap a (Obj.putSet rows tab2)
  have now := store_at (es' := rows) (t' := tab2) at_ dat
  refine wpAny_bind (wpAny_storeSet_of at_ dat ?_ (fits_of_scanBound few))
  by_cases full : (!dummy && tab2.tooFull) = true
  · rw [if_pos full]
    have perm := relayAll_perm tab2 rows (SetTable.grown rows.size)
    have fit3 := relayAll_fits tab2 rows (SetTable.grown rows.size)
    have ris3 := relayAll_ris tab2 rows (SetTable.grown rows.size)
    have led3 := relayAll_led tab2 rows (SetTable.grown rows.size)
    generalize relayAll tab2 rows (SetTable.grown rows.size) = out at perm fit3 ris3 led3 ⊢
    rcases out with ⟨rows3, tab3, flag⟩
    dsimp only at perm fit3 ris3 led3 ⊢
    have cnt : rows3.size = rows.size := by
      have := perm.length_eq
      rwa [Array.length_toList, Array.length_toList] at this
    have few3 : rows3.size < scanBound := cnt ▸ few
    refine wpAny_bind (hg flag _ _ ?_)
    refine wpAny_bind (wpAny_storeSet_of now rfl ?_ (fits_of_scanBound few3))
    have last := store_at (es' := rows3) (t' := tab3) now rfl
    refine wpAny_pure (hR _ (same.trans (Heap.SameBut.update _ a _)) ⟨_, rows3, _, tab3, last, ex, rfl, ?_, ?_, ?_, few3, fit3, cnt, ris3, ?_⟩)
    · exact fun p hp => el p (perm.mem_iff.mp hp)
    · exact (perm.pairwise_iff fun x => Apart.turn x).mpr ap
    · intro k
      rw [me k]
      exact ⟨fun ⟨p, hp, z⟩ => ⟨p, perm.mem_iff.mpr hp, z⟩, fun ⟨p, hp, z⟩ => ⟨p, perm.mem_iff.mp hp, z⟩⟩
    · rw [led3]; exact led
  · rw [if_neg full]
    exact wpAny_pure (hR _ same ⟨_, rows, _, tab2, now, ex, rfl, el, ap, me, few, fit, rfl, ris, led⟩)
theorem oset_put {k : κ} {u : Value} {Q : Bool → Shared → Prop} (hk : knd.is k u = true) (sc : u.scannable = true) (R : OSet knd s.heap a S n) (room : n + 1 < scanBound)
    (fin : ∀ hp, Heap.SameBut a s.heap hp → OSet knd hp a (fun j => S j || decide (j = k)) (if S k = true then n else n + 1) → Q (!S k) { s with heap := hp }) :
    wpAny (model P w) A (setAddHashed a u (knd.hash k)) Q E s := by
  rcases R with ⟨ob, rows, age, tab, at_, ex, dat, el, ap, me, few, fit, cnt, ris, led⟩
  unfold setAddHashed setAddHashedIn
  refine wpAny_holding (wpAny_bind (wpAny_setState_of at_ dat fit ?_))
  dsimp only
  rw [byScan_of sc few el]
  simp only [↓reduceIte]
  unfold setAddByScan
  refine wpAny_bind ?_
  refine wpAny_bind (wpAny_rule ?_)
  refine wpAny_bind (wpAny_setScan_of hk at_ dat fit el ?_)
  cases found : List.findIdx? (fun e => knd.is k e.2) rows.toList with
  | some j =>
    obtain ⟨inside, here, _⟩ := List.findIdx?_eq_some_iff_getElem.mp found
    have yes : S k = true := (me k).mpr ⟨rows.toList[j], List.getElem_mem inside, here⟩
    dsimp only
    refine wpAny_pure (wpAny_pure ?_)
    have goal := fin s.heap (Heap.SameBut.refl a s.heap) ⟨ob, rows, age, tab, at_, ex, dat, el, ap, fun i => ?_, few, fit, by rw [if_pos yes]; exact cnt, ris, led⟩
    · rw [yes] at goal
      exact goal
    · rw [← me i, Bool.or_eq_true, decide_eq_true_eq]
      constructor
      · rintro (z | rfl)
        · exact z
        · exact yes
      · exact .inl
  | none =>
    have gone : ∀ p ∈ rows.toList, knd.is k p.2 = true → False := fun p hp z => by
      have c := List.findIdx?_eq_none_iff.mp found p hp
      rw [z] at c
      cases c
    have no : S k = false := by
      rw [Bool.eq_false_iff]
      intro z
      obtain ⟨p, hp, e⟩ := (me k).mp z
      exact gone p hp e
    dsimp only
    have perm := layNew_perm tab rows (knd.hash k) u
    have fit1 := layNew_fits tab rows (knd.hash k) u
    have ris1 := layNew_ris tab rows (knd.hash k) u ris
    have led1 := layNew_led tab rows (knd.hash k) u
    generalize layNew tab rows (knd.hash k) u = out at perm fit1 ris1 led1 ⊢
    rcases out with ⟨rows1, tab1, dummy, flag⟩
    dsimp only at perm fit1 ris1 led1 ⊢
    rw [Array.toList_push] at perm
    have pc : rows1.toList.Perm ((knd.hash k, u) :: rows.toList) := perm.trans (List.perm_append_singleton _ _)
    have el1 : ElemsOf knd rows1.toList := fun p hp => by
      rcases List.mem_cons.mp (pc.mem_iff.mp hp) with rfl | z
      · exact ⟨⟨k, hk, rfl⟩, sc⟩
      · exact el p z
    have ap1 : rows1.toList.Pairwise (Apart knd) := by
      refine (pc.pairwise_iff fun x => Apart.turn x).mpr (List.pairwise_cons.mpr ⟨fun q hq i z1 z2 => ?_, ap⟩)
      have e : i = k := knd.inj _ _ _ z1 hk
      subst e
      exact gone q hq z2
    have me1 : ∀ i, (S i || decide (i = k)) = true ↔ ∃ p ∈ rows1.toList, knd.is i p.2 = true := fun i => by
      rw [Bool.or_eq_true, decide_eq_true_eq, me i]
      constructor
      · rintro (⟨p, hp, z⟩ | rfl)
        · exact ⟨p, pc.mem_iff.mpr (List.mem_cons_of_mem _ hp), z⟩
        · exact ⟨_, pc.mem_iff.mpr List.mem_cons_self, hk⟩
      · rintro ⟨p, hp, z⟩
        rcases List.mem_cons.mp (pc.mem_iff.mp hp) with rfl | y
        · exact .inr (knd.inj _ _ _ z hk)
        · exact .inl ⟨p, y, z⟩
    have cnt1 : rows1.size = n + 1 := by
      have := pc.length_eq
      rw [Array.length_toList, List.length_cons, Array.length_toList, cnt] at this
      exact this
    have few1 : rows1.size < scanBound := cnt1 ▸ room
    have ledN : w.params.followText "set-order" = true ∨ tab1.led = true := by rw [led1]; exact led
    have done : ∀ hp, Heap.SameBut a s.heap hp → OSet knd hp a (fun j => S j || decide (j = k)) rows1.size → Q true { s with heap := hp } := fun hp sb r => by
      have q := fin hp sb
      rw [no] at q
      rw [cnt1] at r
      exact q r
    have skip : ∀ (b : Bool) (s1 : Shared) (Q1 : Unit → Shared → Prop), Q1 () s1 → wpAny (model P w) A (match b with | true => rule "set.scan.the-table-gave-way" | false => pure ()) Q1 E s1 := by
      intro b s1 Q1 q
      cases b
      · exact wpAny_pure q
      · exact wpAny_rule q
    refine wpAny_bind (skip _ _ _ ?_)
    split
    · refine wpAny_bind ?_
      rw [hashByValue_scannable 8 sc]
      refine wpAny_pure ?_
      refine oset_tail (fun b s1 Q1 q => ?_) at_ ex dat el1 ap1 me1 few1 ?_ ?_ ?_ ?_
      · cases b <;> first | exact wpAny_pure q | exact wpAny_rule q
      · first | exact fit1 | (split <;> first | exact fit1 | exact SetTable.fits_plain_off fit1)
      · first | exact ris1 | (split <;> exact ris1)
      · first | exact ledN | (split <;> exact ledN)
      · intro hp sb r
        exact wpAny_pure (done hp sb r)
    · refine wpAny_bind (wpAny_pure ?_)
      simp only [↓reduceIte]
      refine oset_tail (fun b s1 Q1 q => ?_) at_ ex dat el1 ap1 me1 few1 fit1 ris1 ledN ?_
      · cases b <;> first | exact wpAny_pure q | exact wpAny_rule q
      · intro hp sb r
        exact wpAny_pure (done hp sb r)
theorem oset_add {k : κ} {u : Value} {Q : Value → Shared → Prop} (hk : knd.is k u = true) (sc : u.scannable = true) (R : OSet knd s.heap a S n) (room : n + 1 < scanBound)
    (fin : ∀ hp, Heap.SameBut a s.heap hp → OSet knd hp a (fun j => S j || decide (j = k)) (if S k = true then n else n + 1) → Q .none { s with heap := hp, toks := s.toks + 1 }) :
    wpAny (model P w) A (call (.builtin "set.add") [.ref a, u]) Q E s := by
  refine wpAny_call_entry F.slot_set_add R.plain.typeIs F.entry_set_add ?_ (F.args_set_add_2 _ _)
  unfold Builtin.«set.add» Builtin.Frozenset.oneOther
  simp only [List.isEmpty_nil, bind_assoc]
  unfold Builtin.Frozenset.addrOf setAdd
  refine wpAny_bind (wpAny_pure ?_)
  refine wpAny_bind (wpAny_pure ?_)
  refine wpAny_bind (wpAny_holding (wpAny_bind (knd.pyHash hk ?_)))
  refine oset_put (s := { s with toks := s.toks + 1 }) hk sc R room fun hp sb r => ?_
  show wpAny _ _ (ret Value.none) _ _ _
  exact wpAny_pure ⟨_, rfl, fin hp sb r⟩
theorem oset_fresh {P : Program} {w : World} (knd : PySem.KeyKind P w κ) {h : Heap} {a : Addr} {led : Bool} (hl : w.params.followText "set-order" = true ∨ led = true)
    (at_ : h.get? a = some { cls := .type "set", dict := none, data := .set #[] 0 (.fresh 0 0 led) }) : OSet knd h a (fun _ => false) 0 := by
  refine ⟨_, #[], 0, _, at_, ⟨rfl, rfl, rfl⟩, rfl, fun p hp => ?_, .nil, fun k => ?_, by decide, rfl, rfl, .nil, hl⟩
  · cases hp
  · constructor
    · intro z; cases z
    · rintro ⟨p, hp, _⟩; cases hp
end
end M
end

section
set_option Elab.async false
set_option linter.all false
set_option maxRecDepth 100000
set_option maxHeartbeats 4000000
/-! set(list of keys), sorted(set of texts), as rules -/
namespace M
open PySem PySem.Spec PyProof.Rows L2
section
variable {κ : Type} [DecidableEq κ] {P : Program} {w : World} {knd : PySem.KeyKind P w κ} {A : Around} {E : Value → Shared → Prop} {s : Shared}
/-- the loop that puts the items of a list into a set -/
theorem oset_loop {it a : Addr} {fp wr : List Addr} {G : Array GenState → Array GenState → Prop} {m : Nat} {Pv : Nat → Value → Prop} {St : Nat → Shared → Prop} {R : Result → Shared → Prop}
    (W : WalksS P w A.in1 it fp wr G m Pv St) (na : a ∉ fp) (ks : List κ) (len : m = ks.length) (few : m < 1000) (val : ∀ i v, Pv i v → ∃ k, ks[i]? = some k ∧ knd.is k v = true ∧ v.scannable = true) :
    ∀ (left i : Nat) (s : Shared), m - i = left → i ≤ m → St i s → (∃ n, n ≤ i ∧ OSet knd s.heap a (fun k => decide (k ∈ ks.take i)) n) →
      (∀ s' n, Moved (a :: wr) G s s' → n ≤ m → OSet knd s'.heap a (fun k => decide (k ∈ ks)) n → R (.ok (.ret .none)) s') →
      codeAny (model P w) A (.builtin "set.update.loop" ⟨[.ref a, .ref it], []⟩) R s := by
  have nw : a ∉ wr := fun z => na (W.sub _ z)
  have more : ∀ b ∈ wr, b ∈ a :: wr := fun b z => List.mem_cons_of_mem _ z
  intro left
  induction left with
  | zero =>
    intro i s e le st ⟨n, ni, S0⟩ out
    obtain rfl : i = m := by omega
    refine codeAny_builtin PyProof.Rows.F.entry_set_update_loop (by
      rw [Around.under_plainId PyProof.Rows.F.plain_set_update_loop _]
      show wpAny _ A.in1 (pyNext (.ref it) >>= _) _ _ s
      refine wpAny_bind (W.done s _ _ st fun s' mv => ?_)
      show wpAny _ A.in1 (ret Value.none) _ _ s'
      refine wpAny_pure (out s' n (mv.mono more) ni ((S0.keep fun u z => mv.heap a u nw z).alike (fun k => ?_) rfl))
      rw [len, List.take_length])
  | succ left ih =>
    intro i s e le st ⟨n, ni, S0⟩ out
    have lt : i < m := by omega
    refine codeAny_builtin PyProof.Rows.F.entry_set_update_loop (by
      rw [Around.under_plainId PyProof.Rows.F.plain_set_update_loop _]
      show wpAny _ A.in1 (pyNext (.ref it) >>= _) _ _ s
      refine wpAny_bind (W.item i s _ _ lt st fun v s' pv st' mv => ?_)
      obtain ⟨k, hk, ki, ks2⟩ := val i v pv
      have S1 := S0.keep fun u z => mv.heap a u nw z
      show wpAny _ A.in1 (holding [v] (setAdd a v) >>= _) _ _ s'
      refine wpAny_bind (wpAny_holding ?_)
      unfold setAdd
      refine wpAny_holding (wpAny_bind (knd.pyHash ki ?_))
      refine oset_put (s := { s' with toks := s'.toks + 1 }) ki ks2 S1 (by unfold scanBound; omega) fun hp sb S2 => ?_
      have nx : ks.take (i + 1) = ks.take i ++ [k] := by rw [List.take_succ, hk]; rfl
      have S3 : ∃ n', n' ≤ i + 1 ∧ OSet knd hp a (fun j => decide (j ∈ ks.take (i + 1))) n' := ⟨_, (by split <;> omega), S2.alike (fun j => by
        rw [nx]
        simp only [List.mem_append, List.mem_singleton, Bool.decide_or]) rfl⟩
      refine wpAny_pure ⟨plainId_quiet PyProof.Rows.F.plain_set_update_loop _, ih (i + 1) _ (by omega) lt (W.frame _ s' _ _ st' (Nat.le_succ _) fun b hb u z => ?_) S3 fun s'' n'' mv2 le2 S4 => ?_⟩
      · rw [sb.2 b fun y : b = a => na (y ▸ hb)]; exact z
      · refine out s'' n'' (Moved.trans W.gtrans ((mv.mono more).then_heap (Nat.le_succ _) fun b u nb z => ?_) mv2) le2 S4
        rw [sb.2 b fun y : b = a => nb (y ▸ List.mem_cons_self)]; exact z)
/-- the set object that set() and set(xs) begin with -/
abbrev bareSet (w : World) : Obj := { cls := .type "set", dict := none, data := .set #[] 0 (.fresh 0 0 (!w.params.followText "set-order")) }
theorem led_bare (w : World) : w.params.followText "set-order" = true ∨ (!w.params.followText "set-order") = true := by cases w.params.followText "set-order" <;> simp
/-- set(xs), xs a list of keys -/
theorem call_oset {l : Addr} {items : Array Value} {ks : List κ} {Q : Value → Shared → Prop} (calm : A.handled = none) (hl : s.heap.IsList l items) (len : items.size = ks.length) (few : ks.length < 1000)
    (val : ∀ (i : Nat) (v : Value), items[i]? = some v → ∃ k, ks[i]? = some k ∧ knd.is k v = true ∧ v.scannable = true)
    (fin : ∀ (hp : Heap) (tk : Nat) (n : Nat), n ≤ ks.length → OSet knd hp s.heap.objs.size (fun k => decide (k ∈ ks)) n → (∀ b u, s.heap.get? b = some u → hp.get? b = some u) → Q (.ref s.heap.objs.size) { s with heap := hp, toks := tk }) :
    wpAny (model P w) A (call (.type "set") [.ref l]) Q E s := by
  have made := PySem.F.called_set.made
  have subs := PySem.F.called_set.sub
  obtain ⟨_, _, order⟩ := PySem.F.called_set.mro
  refine wpAny_call (codeAny_of_tree (by
    show wpAny _ _ (callAny (.type "set") _) _ _ _
    refine wpAny_pure ⟨Code.quiet_builtin _ (by decide +kernel), codeAny_builtin PySem.F.entry_type_call ?_⟩
    rw [Around.under_plain (weight_type_call_type "set" [.ref l] []) rfl]
    have t1 := PySem.F.called_set.notType
    have t2 := PySem.F.called_set.canCreate
    have t3 := PySem.F.typeCall_set_1 (.ref l)
    repeat (any_goals (first | assumption | wp_step))
    refine codeAny_mono (code_set_led1 (.ref l) (E := E) (Q₁ := fun x s1 => x = .ref s.heap.objs.size ∧ s1 = { s with heap := s.heap.push (bareSet w) }) ⟨rfl, rfl⟩) fun r s1 got => ?_
    cases r with
    | error e => exact got
    | ok fl =>
      cases fl with
      | ret x =>
        obtain ⟨rfl, rfl⟩ := got
        have seen : (s.heap.push (bareSet w)).get? s.heap.objs.size = some (bareSet w) := Heap.get?_push_size _ rfl
        have typ : Shared.TypeIs { s with heap := s.heap.push (bareSet w) } (.ref s.heap.objs.size) "set" := ⟨_, seen, rfl⟩
        have i1 := PySem.F.called_set.init.lookup
        have i2 := PySem.F.called_set.init.bind (.ref s.heap.objs.size)
        repeat (any_goals (first | assumption | wp_step))
        refine codeAny_mono (codeAny_call_builtin (R := wants (fun y s2 => y = .none ∧ ∃ hp tk n, s2 = { s with heap := hp, toks := tk } ∧ n ≤ ks.length ∧ OSet knd hp s.heap.objs.size (fun k => decide (k ∈ ks)) n ∧ ∀ b u, s.heap.get? b = some u → hp.get? b = some u) E)
          PySem.F.called_set.init.plain PySem.F.entry_set_init (check_set_init_1 typ ?_)) fun r2 s2 got2 => ?_
        · obtain ⟨ob, at_, cls, num, dat⟩ := hl
          obtain ⟨oc, od, ot, os⟩ := ob
          simp only at cls dat
          subst cls; subst dat
          have at1 : (s.heap.push (bareSet w)).get? l = some { cls := .type "list", dict := od, data := .seq items num, slots := os } := Heap.get?_push_of_some _ at_
          have u1 := PySem.F.sub_list_set
          have u2 := PySem.F.sub_list_frozenset
          have u3 : (Value.type "list" == Value.type "dict") = false := by decide
          have isl : (s.heap.push (bareSet w)).IsList l items := ⟨_, at1, rfl, num, rfl⟩
          unfold Builtin.«set.__init__» noKeywords Builtin.Frozenset.updateFrom
          generalize gen : pyIter = PI
          wp_walk
          subst gen
          refine wpAny_pyIter_list isl (wpAny_bind (wpAny_runValue ?_))
          have below : l < s.heap.objs.size := Heap.lt_size at_
          have calm3 : A.in1.in1.in1.handled = none := by simp [calm]
          have apart : l ≠ (s.heap.push (bareSet w)).objs.size := by rw [Heap.size_push]; exact Nat.ne_of_lt (Nat.lt_succ_of_lt below)
          have out : s.heap.objs.size ∉ [(s.heap.push (bareSet w)).objs.size, l] := by
            rw [Heap.size_push]
            intro z
            rcases List.mem_cons.mp z with z | z
            · exact Nat.ne_of_lt (Nat.lt_succ_self _) z
            · exact Nat.ne_of_gt below (List.mem_singleton.mp z)
          refine oset_loop (knd := knd) ((Walks.list calm3 _ l apart items).toS) out ks len (by omega) val (items.size - 0) 0 _ (by omega) (Nat.zero_le _)
            ⟨⟨_, Heap.get?_push_size _ rfl, rfl, rfl⟩, (isl.push _)⟩ ⟨0, Nat.le_refl _, (oset_fresh knd (led_bare w) (Heap.get?_push_of_some _ seen)).alike (fun k => by simp) rfl⟩ fun s3 n mv le S3 => ?_
          obtain ⟨hp, g3, d3, tk, os3⟩ := s3
          have g0 : g3 = s.gens := mv.gens
          have d0 : d3 = s.drawn := mv.drawn
          have o0 : os3 = s.os := mv.os
          subst g0; subst d0; subst o0
          show wpAny _ _ _ _ _ _
          refine wpAny_pure (by
            show wpAny _ _ (ret Value.none) _ _ _
            refine wpAny_pure ⟨rfl, hp, tk, n, rfl, by omega, S3, fun b u z => ?_⟩
            have lb := Heap.lt_size z
            refine mv.heap b u ?_ (Heap.get?_push_of_some _ (Heap.get?_push_of_some _ z))
            rw [Heap.size_push]
            intro y
            rcases List.mem_cons.mp y with y | y
            · exact Nat.ne_of_lt lb y
            · exact Nat.ne_of_lt (Nat.lt_succ_of_lt lb) (List.mem_singleton.mp y))
        · cases r2 with
          | error e => exact got2
          | ok fl2 =>
            cases fl2 with
            | ret y =>
              obtain ⟨rfl, hp, tk, n, rfl, le, S3, old⟩ := got2
              repeat (any_goals (first | assumption | wp_step))
              exact fin _ _ _ le S3 old
            | _ => exact got2.elim
      | _ => exact got.elim))
end
end M
end

section
set_option Elab.async false
set_option linter.all false
set_option maxRecDepth 100000
set_option maxHeartbeats 2000000
/-! sorted(set of texts); the rules -/
namespace M
open PySem PySem.Spec L2
open PyProof.Rows hiding St
theorem str_is {P : Program} {w : World} {k : Str} {v : Value} (h : (PySem.strKind P w).is k v = true) : (∃ t, v = .str k t) ∧ PyProof.Rows.strOf v = k ∧ v.scannable = true := by
  obtain ⟨t, rfl⟩ := Value.isStrOf_shape h
  exact ⟨⟨t, rfl⟩, rfl, rfl⟩
/-- the texts of a set of texts, in some order -/
theorem oset_texts {P : Program} {w : World} {h : Heap} {a : Addr} {S : Str → Bool} {n : Nat} (R : OSet (PySem.strKind P w) h a S n) :
    ∃ ob rows age tab, h.get? a = some ob ∧ ob.cls = .type "set" ∧ ob.data = .set rows age tab ∧ rows.size < scanBound ∧ tab.fits rows.size = true ∧ Ris tab.place.toList ∧ (w.params.followText "set-order" = true ∨ tab.led = true) ∧
      (∀ v ∈ rows.toList.map (·.2), ∃ x t, v = .str x t) ∧ ((rows.toList.map (·.2)).map PyProof.Rows.strOf).Nodup ∧ (∀ k, k ∈ (rows.toList.map (·.2)).map PyProof.Rows.strOf ↔ S k = true) ∧ rows.size = n := by
  rcases R with ⟨ob, rows, age, tab, at_, ex, dat, el, ap, me, few, fit, cnt, ris, led⟩
  refine ⟨ob, rows, age, tab, at_, ex.1, dat, few, fit, ris, led, fun v hv => ?_, ?_, fun k => ?_, cnt⟩
  · obtain ⟨p, hp, rfl⟩ := List.mem_map.mp hv
    obtain ⟨k, hk, _⟩ := (el p hp).1
    obtain ⟨⟨t, e⟩, _⟩ := str_is hk
    exact ⟨k, t, e⟩
  · rw [List.map_map]
    refine List.pairwise_map.mpr (List.Pairwise.imp_of_mem (fun {p q} hp hq x e => ?_) ap)
    obtain ⟨k, hk, _⟩ := (el p hp).1
    obtain ⟨j, hj, _⟩ := (el q hq).1
    have e1 : PyProof.Rows.strOf p.2 = PyProof.Rows.strOf q.2 := e
    rw [(str_is hk).2.1, (str_is hj).2.1] at e1
    subst e1
    exact x k hk hj
  · rw [me k, List.map_map]
    constructor
    · intro z
      obtain ⟨p, hp, e⟩ := List.mem_map.mp z
      obtain ⟨j, hj, _⟩ := (el p hp).1
      have e1 : PyProof.Rows.strOf p.2 = k := e
      rw [(str_is hj).2.1] at e1
      subst e1
      exact ⟨p, hp, hj⟩
    · rintro ⟨p, hp, z⟩
      exact List.mem_map.mpr ⟨p, hp, (str_is z).2.1⟩
theorem nodup_le {α : Type} [DecidableEq α] : ∀ (l L : List α), l.Nodup → (∀ x ∈ l, x ∈ L) → l.length ≤ L.length
  | [], _, _, _ => Nat.zero_le _
  | x :: l, L, d, s => by
    obtain ⟨d1, d2⟩ := List.nodup_cons.mp d
    have hx : x ∈ L := s x List.mem_cons_self
    have q := nodup_le l (L.erase x) d2 fun y hy => (List.mem_erase_of_ne fun z : y = x => d1 (by rw [← z]; exact hy)).mpr (s y (List.mem_cons_of_mem _ hy))
    rw [List.length_erase_of_mem hx] at q
    have := List.length_pos_of_mem hx
    rw [List.length_cons]
    omega
theorem oset_count {P : Program} {w : World} {h : Heap} {a : Addr} {S : Str → Bool} {n : Nat} (R : OSet (PySem.strKind P w) h a S n) {L : List Str} (z : ∀ k, S k = true → k ∈ L) : n ≤ L.length := by
  obtain ⟨ob, rows, age, tab, _, _, _, _, _, _, _, _, nd, me, cnt⟩ := oset_texts R
  have q := nodup_le _ L nd fun x hx => z x ((me x).mp hx)
  rw [List.length_map, List.length_map, Array.length_toList, cnt] at q
  exact q
section
variable {P : Program} {w : World} {A : Around} {E : Value → Shared → Prop} {s : Shared} {a : Addr} {S : Str → Bool} {n : Nat}
theorem oset_sorted {Q : Value → Shared → Prop} (R : OSet (PySem.strKind P w) s.heap a S n) (calm : A.handled = none) (few : n < 64)
    (fin : ∀ (s' : Shared) (p : Addr) (out : Array Value) (c : Nat) (ss : List Str), (∀ b u, s.heap.get? b = some u → s'.heap.get? b = some u) → s'.gens = s.gens → s'.os = s.os → s.heap.objs.size ≤ p →
      s'.heap.get? p = some (seqObj "list" out c) → StrsAre out.toList ss → sortedS ss = true → ss.Nodup → (∀ k, k ∈ ss ↔ S k = true) → ss.length = n → Q (.ref p) s') :
    wpAny (model P w) A (call (.builtin "sorted") [.ref a]) Q E s := by
  obtain ⟨ob, rows, age, tab, at_, cls, dat, small, fit, ris, led, txs, nd, me, cnt⟩ := oset_texts R
  refine Calls.call_function_entry kind_sorted plain_sorted entry_sorted (args_sorted1 _) (by
    unfold Builtin.«sorted»
    refine wpAny_bind (m := checkCount "sorted" 1 1 _) (wpAny_pure (wpAny_bind (collect_set (A := A.in1) calm ⟨ob, at_, cls, dat⟩ fit small ris led fun s1 vs old grown gens os perm => ?_)))
    have len : vs.length = n := by rw [perm.length_eq, List.length_map, Array.length_toList]; exact cnt
    have all : StrsAre vs (vs.map PyProof.Rows.strOf) := PyProof.Rows.strsAre_map vs fun v hv => txs v (perm.mem_iff.mp hv)
    have pk := perm.map PyProof.Rows.strOf
    refine wpAny_bind (wpAny_newList ?_ (by rw [len, sizeLine_eq]; omega))
    have new : (s1.heap.push (seqObj "list" vs.toArray 0)).get? s1.heap.objs.size = some (seqObj "list" vs.toArray 0) := Heap.get?_push_size _ rfl
    refine wpAny_bind (wpAny_holding (wpAny_call_entry slot_list_sort ⟨_, new, rfl⟩ entry_list_sort (list_sort_treeK strKind_oneLt new all.keysOf (fun v1 v2 rest e => keyKind_strs (e ▸ all)) (by rw [len]; exact few) fun st hp hs => ⟨_, rfl, ?_⟩) (args_list_sort _)))
    obtain ⟨ss, s3, s4, s5⟩ := sorted_out_str all hp hs
    obtain ⟨c, at2⟩ := sortedHeap_at (vs := vs) (out := (arrOf st).map (·.2)) new
    have pp := s4.trans pk
    refine wpAny_pure ⟨_, rfl, fin _ s1.heap.objs.size _ c ss (fun b u z => ?_) gens os grown at2 s3 s5 (pp.nodup_iff.mpr nd) (fun k => by rw [pp.mem_iff, me k]) ?_⟩
    · have z1 := old b u z
      have lt := Heap.lt_size z1
      exact (sortedHeap_old (h := s1.heap.push (seqObj "list" vs.toArray 0)) (Nat.ne_of_lt lt) (by rw [size_push']; exact Nat.lt_succ_of_lt lt)).trans (Heap.get?_push_of_some _ z1)
    · rw [pp.length_eq, List.length_map, List.length_map, Array.length_toList]; exact cnt)
end
/-- the set of texts at a -/
def OsO (P : Program) (w : World) (a : Addr) (S : Str → Bool) : HO := .ext fun h => ∃ n, OSet (PySem.strKind P w) h a S n
section
variable {X : Cx}
theorem osO_new {P : Program} {w : World} {H : Hp} {h : Heap} {a : Addr} {S : Str → Bool} {n : Nat} (R : OSet (PySem.strKind P w) h a S n) : ObjOk P w H h a (OsO P w a S) := by
  have ⟨ob, _, _, _, at_, _⟩ := R
  exact ⟨⟨n, R⟩, ⟨ob, at_⟩, fun h1 h2 ⟨m, p⟩ z => ⟨m, p.keep z⟩⟩
theorem osO_get {pins : List (Addr × Obj)} {σ : St} {H : Hp} {s : Shared} {a : Addr} {S : Str → Bool} (I : Inv X pins σ H s) (ha : H a = some (OsO X.prog X.w a S)) : ∃ n, OSet (PySem.strKind X.prog X.w) s.heap a S n := (I.hok a _ ha).1
/-- set() -/
def rOset0 (P : Program) (w : World) : List V → Hp → VK → Prop := fun xs H Q => xs = [] ∧ ∀ p, H p = none → Q (.ref p) (upd H p (OsO P w p fun _ => false))
theorem cr_oset0 : CallR X (.type "set") (rOset0 X.prog X.w) := by
  intro pins s σ H xs us Q I r ⟨e, q⟩
  subst e
  cases r
  refine setR_new fun _ => ⟨.ref _, upd H s.heap.objs.size (OsO X.prog X.w s.heap.objs.size fun _ => false), ?_, rfl, q _ (I.hok.fresh (Nat.le_refl _))⟩
  exact I.laid (t' := s.toks) (fun b u z => Heap.get?_push_of_some _ z) (Nat.le_refl _) (osO_new (oset_fresh (PySem.strKind X.prog X.w) (led_bare X.w) (Heap.get?_push_size _ rfl)))
/-- set(xs), xs a list of texts -/
def rOsetL (K : PySem.W.Frag) (P : Program) (w : World) : List V → Hp → VK → Prop := fun xs H Q => ∃ (l : Addr) (ks : List Str), xs = [V.ref l] ∧ SqL K H l (ks.map V.str) ∧ ks.length < 1000 ∧ ∀ p, H p = none → Q (.ref p) (upd H p (OsO P w p fun k => decide (k ∈ ks)))
theorem cr_osetL (hc : X.calm = true) : CallR X (.type "set") (rOsetL X.K X.prog X.w) := by
  intro pins s σ H xs us Q I r ⟨l, ks, e, hl, few, q⟩
  subst e
  rw [Vals.ref1 r]
  obtain ⟨its, rv, pl, hz⟩ := I.list hl
  have all := rv.strs
  have hlen : its.length = ks.length := by rw [← rv.length, List.length_map]
  refine call_oset (knd := PySem.strKind X.prog X.w) (ks := ks) (I.ok.hd hc) pl.isList (by rw [List.size_toArray]; exact hlen) few (fun i v hv => ?_) fun hp tk n le R old => ?_
  · rw [List.getElem?_toArray] at hv
    have hi : i < its.length := (List.getElem?_eq_some_iff.mp hv).1
    obtain ⟨t, e⟩ := SS.strs_at all i v hv
    have hk : ks[i]? = some ks[i] := List.getElem?_eq_getElem (by omega)
    refine ⟨_, hk, ?_⟩
    rw [List.getD_eq_getElem?_getD, hk] at e
    subst e
    exact ⟨strKind_is _ _ _ _, rfl⟩
  · exact ⟨.ref s.heap.objs.size, upd H s.heap.objs.size (OsO X.prog X.w s.heap.objs.size fun k => decide (k ∈ ks)), I.laid (t' := tk) old (Nat.le_refl _) (osO_new R), rfl, q _ (I.hok.fresh (Nat.le_refl _))⟩
/-- found.add(k) -/
def rOadd (P : Program) (w : World) : V → List V → Hp → VK → Prop := fun x xs H Q => ∃ (a : Addr) (k : Str) (S : Str → Bool) (L : List Str), x = V.ref a ∧ xs = [V.str k] ∧ H a = some (OsO P w a S) ∧ (∀ j, S j = true → j ∈ L) ∧ L.length < 1000 ∧
  Q .non (upd H a (OsO P w a fun j => S j || decide (j = k)))
theorem mt_oadd : MtR X "set.add" (rOadd X.prog X.w) := by
  intro pins s σ H x xs v us Q I rx rxs ⟨a, k, S, L, e1, e2, ha, sub, few, q⟩
  subst e1; subst e2
  cases rx
  cases rxs with
  | cons ry rt =>
    cases rt
    obtain ⟨t, rfl⟩ := ry
    obtain ⟨n, R⟩ := osO_get I ha
    have := oset_count R sub
    refine oset_add (strKind_is _ _ _ _) rfl R (by unfold scanBound; omega) fun hp sb R2 => ⟨.non, upd H a (OsO X.prog X.w a fun j => S j || decide (j = k)), ?_, rfl, q⟩
    have ⟨ob, _, _, _, at_, _⟩ := R2
    exact I.write (e := a) (t' := s.toks + 1) (by rw [ha]; trivial) (.inl rfl) (fun b u hb hu => (sb.2 b hb).trans hu) ⟨ob, at_⟩ (osO_new R2)
def tOadd (P : Program) (w : World) (to : TE) (t : TA) : TE := fun σ H Q => to σ H fun x H1 => (∃ a S, x = V.ref a ∧ H1 a = some (OsO P w a S)) ∧ t σ H1 fun xs H2 => rOadd P w x xs H2 Q
variable {o e : Expr} {es : List Expr} {to : TE} {t : TA} {apos cpos : Pos}
theorem pe_oadd (ho : PE X o to) (ha : PA X (e :: es) t) (b1 : attributeBase o "add" X.env (eval o X.env) = eval o X.env := by rfl)
    (b2 : ((backTo cpos (starEach (e :: es) X.env)).all (fun x => !x.1) && (backToKw cpos (keywordEach [] X.env)).all (fun x => x.1.isSome) && decide ((e :: es).length + ([] : List Keyword).length + (if ([] : List Keyword).isEmpty then 0 else 1) < 30)) = true := by rfl)
    (b3 : (apos.endLine == cpos.line) = true := by rfl) (b4 : starEach (e :: es) X.env = (false, eval e X.env) :: starEach es X.env := by rfl) (b5 : (backTo cpos (starEach es X.env)).any (·.1) = false := by rfl) :
    PE X (.Call (.Attribute o "add" apos) (e :: es) [] cpos) (tOadd X.prog X.w to t) := by
  refine ⟨fun pins s σ H Q I h => wpAny_Call_method_late b1 b2 b3 rfl (thn (ho.run pins s σ H _ I h) fun v s1 ⟨x, H1, I1, r1, ty, q1⟩ => ?_)⟩
  obtain ⟨a, S, rfl, hka⟩ := ty
  obtain ⟨n, R⟩ := osO_get I1 hka
  cases r1
  have sp := R.plain
  refine ⟨"set", "set.add", F.plainAttrs_set, F.slot_set_add, F.type_set_add, sp.typeIs, sp.noDict, ?_⟩
  have hA := ha.run cpos pins s1 σ H1 _ I1 q1
  rw [b4] at hA ⊢
  exact Calls.callWith_builtin (by show (false || (backTo cpos (starEach es X.env)).any (·.1)) = false; rw [b5] <;> rfl) (Calls.evalArgs_plain (thn hA fun us s2 ⟨vs, H2, I2, r2, q2⟩ => mt_oadd pins s2 σ H2 (.ref a) vs (.ref a) us Q I2 rfl r2 q2))
/-- sorted(found) -/
def rOsorted (P : Program) (w : World) : List V → Hp → VK → Prop := fun xs H Q => ∃ (a : Addr) (S : Str → Bool) (L : List Str), xs = [V.ref a] ∧ H a = some (OsO P w a S) ∧ (∀ j, S j = true → j ∈ L) ∧ L.length < 64 ∧
  ∀ (ss : List Str) (p : Addr), sortedS ss = true → ss.Nodup → (∀ k, k ∈ ss ↔ S k = true) → H p = none → Q (.ref p) (upd H p (.lst (ss.map V.str)))
theorem cr_osorted (hc : X.calm = true) : CallR X (.builtin "sorted") (rOsorted X.prog X.w) := by
  intro pins s σ H xs us Q I r ⟨a, S, L, e, ha, sub, few, q⟩
  subst e
  rw [Vals.ref1 r]
  obtain ⟨n, R⟩ := osO_get I ha
  have cn := oset_count R sub
  refine oset_sorted R (I.ok.hd hc) (by omega) fun s' p out c ss old gens os above at_ txs sor nd me len => ?_
  have fresh : H p = none := I.hok.fresh above
  have size : (ss.map V.str).length ≤ sizeLine := by rw [List.length_map, len, sizeLine_eq]; omega
  have J : Inv X pins σ (upd H p (.lst (ss.map V.str))) { s with heap := s'.heap, gens := s'.gens, drawn := s'.drawn, toks := s'.toks } :=
    I.call (ch := []) (Un.laid old above fresh) (I.hok.laid old above ⟨size, out.toList, c, vals_of_strs txs, at_⟩) (by rw [gens]; exact I.bare) fun _ z => nomatch z
  have same : s' = { s with heap := s'.heap, gens := s'.gens, drawn := s'.drawn, toks := s'.toks } := by cases s'; cases s; cases os; rfl
  rw [same]
  exact ⟨.ref p, _, J, rfl, q ss p sor nd me fresh⟩
end
end M
end

section
set_option Elab.async false
set_option linter.all false
set_option maxRecDepth 100000
/-! letters, depths and turned questions by the law's own words -/
namespace M
open PySem L2 Evl
open PyProof.Rows hiding St
/-- the letter of a part, as a text -/
def Qn.own : Qn → List Str
  | .some _ c _ => [⟨#[c]⟩]
  | _ => []
/-- all letters of a question, in the sequence of its parts -/
def Qn.lets : Qn → List Str
  | .any => []
  | .no q => q.lets
  | .both a b => a.lets ++ b.lets
  | .some a c b => ⟨#[c]⟩ :: (a.lets ++ b.lets)
theorem Qn.lets_all : ∀ q : Qn, q.all.flatMap Qn.own = q.lets
  | .any => rfl
  | .no q => by rw [Qn.all, List.flatMap_cons, Qn.lets_all q]; rfl
  | .both a b => by rw [Qn.all, List.flatMap_cons, List.flatMap_append, Qn.lets_all a, Qn.lets_all b]; rfl
  | .some a c b => by rw [Qn.all, List.flatMap_cons, List.flatMap_append, Qn.lets_all a, Qn.lets_all b]; rfl
theorem Qn.lets_parts : ∀ q : Qn, q.lets.length ≤ q.parts
  | .any => Nat.zero_le _
  | .no q => by have := q.lets_parts; simp [Qn.lets, Qn.parts]; omega
  | .both a b => by have := a.lets_parts; have := b.lets_parts; simp [Qn.lets, Qn.parts]; omega
  | .some a c b => by have := a.lets_parts; have := b.lets_parts; simp [Qn.lets, Qn.parts]; omega
theorem Qn.turn_lets : ∀ (q : Qn) (z : Str), z ∈ q.turn.lets ↔ z ∈ q.lets
  | .any, z => Iff.rfl
  | .no q, z => q.turn_lets z
  | .both a b, z => by simp [Qn.turn, Qn.lets, a.turn_lets z, b.turn_lets z]
  | .some a c b, z => by simp [Qn.turn, Qn.lets, a.turn_lets z, b.turn_lets z, or_comm]
/-- the letters from a to z -/
def abc : List Str := (List.range 26).map fun i => ⟨#[97 + i]⟩
theorem mem_abc {c : Nat} (h : 97 ≤ c ∧ c ≤ 122) : (⟨#[c]⟩ : Str) ∈ abc := List.mem_map.mpr ⟨c - 97, List.mem_range.mpr (by omega), by rw [show 97 + (c - 97) = c by omega]⟩
theorem Qn.lets_abc : ∀ {q : Qn}, q.Ok → ∀ z ∈ q.lets, z ∈ abc
  | .any, _, z, hz => by cases hz
  | .no q, h, z, hz => Qn.lets_abc (q := q) h z hz
  | .both a b, h, z, hz => by
    rcases List.mem_append.mp hz with y | y
    · exact Qn.lets_abc h.1 z y
    · exact Qn.lets_abc h.2 z y
  | .some a c b, h, z, hz => by
    rcases List.mem_cons.mp hz with y | y
    · rw [y]; exact mem_abc h.2.1
    · rcases List.mem_append.mp y with y | y
      · exact Qn.lets_abc h.1 z y
      · exact Qn.lets_abc h.2.2 z y
/-- the sorted list of the texts of a list without repeats -/
def Srt (ss : List Str) (l : List Str) : Prop := sortedS ss = true ∧ ss.Nodup ∧ ∀ k, k ∈ ss ↔ k ∈ l
def sp_letters_in (K : PySem.W.Frag) : Sp := fun vs H Q _ => ∃ (H0 : Hp) (v : V) (q : Qn), vs = [v] ∧ Ex H0 H ∧ Dp K H0 v q.d ∧ q.Ok ∧ q.parts ≤ 900 ∧
  ∀ (ss : List Str) (p : Addr) (H' : Hp), Srt ss q.lets → Ex H H' → H p = none → H' p = some (.lst (ss.map V.str)) → Q (.ref p) H'
end M
namespace M
open PySem L2 Evl
open PyProof.Rows hiding St
theorem Qn.hi_kids {q r : Qn} (h : r ∈ q.kids) : r.hi < q.hi := by
  cases q with
  | any => cases h
  | no a => simp [Qn.kids] at h; subst h; simp [Qn.hi]
  | both a b => simp [Qn.kids] at h; rcases h with rfl | rfl <;> simp [Qn.hi] <;> omega
  | some a c b => simp [Qn.kids] at h; rcases h with rfl | rfl <;> simp [Qn.hi] <;> omega
theorem Qn.hi_pos : ∀ q : Qn, 1 ≤ q.hi := fun q => by cases q <;> simp [Qn.hi]
/-- the law's own depth, to a height -/
def sp_deep (K : PySem.W.Frag) (n : Nat) : Sp := fun vs H Q _ => ∃ (H0 : Hp) (v : V) (q : Qn), vs = [v] ∧ Ex H0 H ∧ Da K H0 v q.d ∧ q.hi ≤ n ∧ ∀ H' : Hp, Ex H H' → Q (.int (q.deep : Nat)) H'
/-- the depth of a question of another kind than "some" -/
theorem Qn.deep_max {q : Qn} {m : Int} (hn : q.up = 0) (h1 : m ∈ (0 : Int) :: q.kids.map fun r => ((r.deep : Nat) : Int)) (h2 : ∀ y ∈ (0 : Int) :: q.kids.map fun r => ((r.deep : Nat) : Int), y ≤ m) : m = ((q.deep : Nat) : Int) := by
  cases q with
  | any => simp [Qn.kids] at h1; simp [h1, Qn.deep]
  | no a =>
    simp only [Qn.kids, List.map_cons, List.map_nil, List.mem_cons, List.not_mem_nil, or_false, forall_eq_or_imp, forall_eq] at h1 h2
    simp only [Qn.deep]
    omega
  | both a b =>
    simp only [Qn.kids, List.map_cons, List.map_nil, List.mem_cons, List.not_mem_nil, or_false, forall_eq_or_imp, forall_eq] at h1 h2
    simp only [Qn.deep]
    omega
  | some a c b => simp [Qn.up] at hn
end M
namespace M
open PySem L2 Evl
open PyProof.Rows hiding St
theorem Qn.up_cases : ∀ q : Qn, (∃ r c u, q = .some r c u) ∨ q.up = 0
  | .any => .inr rfl
  | .no _ => .inr rfl
  | .both _ _ => .inr rfl
  | .some r c u => .inl ⟨r, c, u, rfl⟩
theorem da_kids {K : PySem.W.Frag} {H : Hp} {v : V} {q : Qn} (h : Da K H v q.d) (hn : q.up = 0) : ∃ a ws, v = .ref a ∧ SqT K H a (.str q.word :: ws) ∧ Qs K H ws q.kids := by
  cases q with
  | any => obtain ⟨a, e, s⟩ := da_any h; exact ⟨a, _, e, s, .nil⟩
  | no r => obtain ⟨a, x, e, s, hx⟩ := da_no h; exact ⟨a, _, e, s, .cons hx .nil⟩
  | both r t => obtain ⟨a, x, y, e, s, hx, hy⟩ := da_both h; exact ⟨a, _, e, s, .cons hx (.cons hy .nil)⟩
  | some r c t => cases hn
theorem Qn.kids_few (q : Qn) : q.kids.length ≤ 2 := by cases q <;> simp [Qn.kids]
end M
namespace M
open PySem L2 Evl
open PyProof.Rows hiding St
def sp_about (K : PySem.W.Frag) (n : Nat) : Sp := fun vs H Q _ => ∃ (H0 : Hp) (v : V) (q : Qn), vs = [v] ∧ Ex H0 H ∧ Da K H0 v q.d ∧ q.hi ≤ n ∧
  ∀ (v' : V) (H1 H' : Hp), Ex H0 H1 → Ex H1 H' → Ex H H' → (∀ b, H b ≠ none → H0 b = none → H1 b = none) → Da K H1 v' q.turn.d → Q v' H'
theorem Ex.nn {H H' : Hp} (x : Ex H H') {b : Addr} (h : H b ≠ none) : H' b ≠ none := by
  cases e : H b with
  | none => exact absurd e h
  | some o => rw [x _ _ e]; exact fun z => nomatch z
theorem Qn.turn_d {q : Qn} (hn : q.up = 0) : q.turn.d = .tuple (.str q.word :: (q.kids.map Qn.turn).map Qn.d) := by
  cases q with
  | some a c b => cases hn
  | _ => rfl
end M
namespace M
open PySem L2 Evl
open PyProof.Rows hiding St
/-- what stands behind the word of a question: questions and a letter -/
def Qn.ext : Qn → List (Sum Qn Str)
  | .any => []
  | .no a => [.inl a]
  | .both a b => [.inl a, .inl b]
  | .some a c b => [.inl a, .inr ⟨#[c]⟩, .inl b]
def xd : Sum Qn Str → PyData
  | .inl q => q.d
  | .inr z => .str z
def xl : Sum Qn Str → List Str
  | .inl q => q.lets
  | .inr _ => []
theorem Qn.lets_ext (q : Qn) : q.lets = q.own ++ q.ext.flatMap xl := by cases q <;> simp [Qn.lets, Qn.own, Qn.ext, xl]
theorem Qn.ext_hi {q r : Qn} (h : Sum.inl r ∈ q.ext) : r.hi < q.hi ∧ r.lets.length ≤ q.parts := by
  have hp := r.lets_parts
  cases q with
  | any => cases h
  | no a =>
    simp [Qn.ext] at h
    subst h
    simp [Qn.hi, Qn.parts]
    omega
  | both a b =>
    simp [Qn.ext] at h
    rcases h with rfl | rfl <;> simp [Qn.hi, Qn.parts] <;> omega
  | some a c b =>
    simp [Qn.ext] at h
    rcases h with rfl | rfl <;> simp [Qn.hi, Qn.parts] <;> omega
theorem Qn.ext_few (q : Qn) : q.ext.length ≤ 3 := by cases q <;> simp [Qn.ext]
theorem da_ext {K : PySem.W.Frag} {H : Hp} {v : V} {q : Qn} (h : Da K H v q.d) : ∃ a ws, v = .ref a ∧ SqT K H a (.str q.word :: ws) ∧ Das K H ws (q.ext.map xd) ∧ (∀ r c u, q = .some r c u → ws[1]? = some (.str ⟨#[c]⟩)) := by
  cases q with
  | any => obtain ⟨a, e, s⟩ := da_any h; exact ⟨a, _, e, s, .nil, fun r c u z => nomatch z⟩
  | no r => obtain ⟨a, x, e, s, hx⟩ := da_no h; exact ⟨a, _, e, s, .cons hx .nil, fun r c u z => nomatch z⟩
  | both r t => obtain ⟨a, x, y, e, s, hx, hy⟩ := da_both h; exact ⟨a, _, e, s, .cons hx (.cons hy .nil), fun r c u z => nomatch z⟩
  | some r c t =>
    obtain ⟨a, x, y, e, s, hx, hy⟩ := da_some h
    exact ⟨a, _, e, s, .cons hx (.cons (.str _) (.cons hy .nil)), fun r' c' u z => by cases z; rfl⟩
def sp_letters (K : PySem.W.Frag) (n : Nat) : Sp := fun vs H Q _ => ∃ (H0 : Hp) (v : V) (q : Qn), vs = [v] ∧ Ex H0 H ∧ Da K H0 v q.d ∧ q.hi ≤ n ∧ q.parts ≤ 900 ∧
  ∀ (l : Addr) (H' : Hp), Ex H H' → H l = none → H' l = some (.lst (q.lets.map V.str)) → Q (.ref l) H'
theorem isTup_q (q : Qn) : tupB q.d = true := by cases q <;> rfl
theorem Qn.ext_parts {q r : Qn} (h : Sum.inl r ∈ q.ext) : r.parts ≤ q.parts := by
  cases q with
  | any => cases h
  | no a => simp [Qn.ext] at h; subst h; simp [Qn.parts]
  | both a b => simp [Qn.ext] at h; rcases h with rfl | rfl <;> simp [Qn.parts] <;> omega
  | some a c b => simp [Qn.ext] at h; rcases h with rfl | rfl <;> simp [Qn.parts] <;> omega
end M
end

section
set_option Elab.async false
set_option linter.all false
set_option maxRecDepth 100000
/-! questions and lists of letters as data that is compared and shown -/
namespace M
open PySem L2 Evl
open PyProof.Rows hiding St
theorem dp_q2 {K : PySem.W.Frag} {H : Hp} : ∀ {q : Qn} {v : V}, Da K H v q.d → Dp K H v q.d
  | .any, _, h => by
    obtain ⟨a, rfl, s⟩ := da_any h
    exact .tup s (.cons (.str _) .nil)
  | .no q, _, h => by
    obtain ⟨a, x, rfl, s, hx⟩ := da_no h
    exact .tup s (.cons (.str _) (.cons (dp_q2 hx) .nil))
  | .both q r, _, h => by
    obtain ⟨a, x, y, rfl, s, hx, hy⟩ := da_both h
    exact .tup s (.cons (.str _) (.cons (dp_q2 hx) (.cons (dp_q2 hy) .nil)))
  | .some q c r, _, h => by
    obtain ⟨a, x, y, rfl, s, hx, hy⟩ := da_some h
    exact .tup s (.cons (.str _) (.cons (dp_q2 hx) (.cons (.str _) (.cons (dp_q2 hy) .nil))))
theorem Qn.lay : ∀ {q : Qn}, q.Ok → q.d.canLay0 = true
  | .any, _ => by decide +kernel
  | .no q, h => by
    have := Qn.lay (q := q) h
    simp only [Qn.d, PyData.canLay0, PyData.canLayAll0, this]
    decide +kernel
  | .both a b, h => by
    have h1 := Qn.lay h.1
    have h2 := Qn.lay h.2
    simp only [Qn.d, PyData.canLay0, PyData.canLayAll0, h1, h2]
    decide +kernel
  | .some a c b, h => by
    have h1 := Qn.lay h.1
    have h2 := Qn.lay h.2.2
    have h3 : PyData.strOk ⟨#[c]⟩ = true := by
      have := h.2.1.2
      show (#[c].all fun x => decide (x < 0x110000)) = true
      simp
      omega
    simp only [Qn.d, PyData.canLay0, PyData.canLayAll0, h1, h2, h3]
    decide +kernel
theorem Qn.high : ∀ q : Qn, q.d.depth = q.hi
  | .any => by simp [Qn.d, PyData.depth, PyData.depthAll, Qn.hi]
  | .no q => by simp [Qn.d, PyData.depth, PyData.depthAll, Qn.hi, Qn.high q]
  | .both a b => by simp [Qn.d, PyData.depth, PyData.depthAll, Qn.hi, Qn.high a, Qn.high b]
  | .some a c b => by simp [Qn.d, PyData.depth, PyData.depthAll, Qn.hi, Qn.high a, Qn.high b]
theorem Qn.turn_hi : ∀ q : Qn, q.turn.hi = q.hi
  | .any => rfl
  | .no q => by simp [Qn.turn, Qn.hi, Qn.turn_hi q]
  | .both a b => by simp [Qn.turn, Qn.hi, Qn.turn_hi a, Qn.turn_hi b]
  | .some a c b => by simp [Qn.turn, Qn.hi, Qn.turn_hi a, Qn.turn_hi b, Nat.max_comm]
theorem Qn.shp {q : Qn} (h : q.Ok) (h2 : q.hi ≤ 64) : SeqAt.shaped q.d = true := by
  unfold SeqAt.shaped
  rw [Qn.lay h, Qn.high]
  simpa using h2
theorem Qn.same {q : Qn} (h : q.Ok) : PyData.eqv q.d q.d = true := SeqAt.eqv_refl _ (Qn.lay h)
/-! ### sorted lists without repeats are determined by their members -/
theorem rising_pair : ∀ (p : Str) (l : List Str), risingS p l = true → l.Nodup → p ∉ l → ∀ x ∈ l, p.cps.toList < x.cps.toList := by
  intro p l
  induction l generalizing p with
  | nil => intro _ _ _ x hx; cases hx
  | cons y l ih =>
    intro h nd np x hx
    have h' : (!Spec.ltCps y.cps.toList p.cps.toList && risingS y l) = true := h
    rw [Bool.and_eq_true, ltCps_eq] at h'
    obtain ⟨n1, n2⟩ := List.nodup_cons.mp nd
    have le : ¬ y.cps.toList < p.cps.toList := by simpa using h'.1
    have ne : p ≠ y := fun z => np (z ▸ List.mem_cons_self)
    have lt : p.cps.toList < y.cps.toList := by
      rcases Std.lt_trichotomy p.cps.toList y.cps.toList with z | z | z
      · exact z
      · exact absurd (by cases p; cases y; congr; exact Array.toList_inj.mp z) ne
      · exact absurd z le
    rcases List.mem_cons.mp hx with rfl | z
    · exact lt
    · exact List.lt_trans lt (ih y h'.2 n2 n1 x z)
theorem srt_head {p : Str} {l : List Str} (h : sortedS (p :: l) = true) (nd : (p :: l).Nodup) : sortedS l = true ∧ l.Nodup ∧ p ∉ l ∧ ∀ x ∈ l, p.cps.toList < x.cps.toList := by
  obtain ⟨n1, n2⟩ := List.nodup_cons.mp nd
  refine ⟨?_, n2, n1, rising_pair p l h n2 n1⟩
  cases l with
  | nil => rfl
  | cons y l =>
    have h' : (!Spec.ltCps y.cps.toList p.cps.toList && risingS y l) = true := h
    rw [Bool.and_eq_true] at h'
    exact h'.2
theorem srt_one : ∀ (a b : List Str), sortedS a = true → a.Nodup → sortedS b = true → b.Nodup → (∀ x, x ∈ a ↔ x ∈ b) → a = b
  | [], [], _, _, _, _, _ => rfl
  | [], y :: b, _, _, _, _, h => absurd ((h y).mpr List.mem_cons_self) (fun z => by cases z)
  | x :: a, [], _, _, _, _, h => absurd ((h x).mp List.mem_cons_self) (fun z => by cases z)
  | x :: a, y :: b, s1, n1, s2, n2, h => by
    obtain ⟨p1, p2, p3, p4⟩ := srt_head s1 n1
    obtain ⟨q1, q2, q3, q4⟩ := srt_head s2 n2
    have e : x = y := by
      rcases List.mem_cons.mp ((h x).mp List.mem_cons_self) with z | z
      · exact z
      · rcases List.mem_cons.mp ((h y).mpr List.mem_cons_self) with z2 | z2
        · exact z2.symm
        · exact absurd (List.lt_trans (q4 x z) (p4 y z2)) (List.lt_irrefl _)
    subst e
    rw [srt_one a b p1 p2 q1 q2 fun u => ?_]
    constructor
    · intro hu
      rcases List.mem_cons.mp ((h u).mp (List.mem_cons_of_mem _ hu)) with z | z
      · exact absurd (z ▸ hu) p3
      · exact z
    · intro hu
      rcases List.mem_cons.mp ((h u).mpr (List.mem_cons_of_mem _ hu)) with z | z
      · exact absurd (z ▸ hu) q3
      · exact z
theorem Srt.one {a b l m : List Str} (h1 : Srt a l) (h2 : Srt b m) (e : ∀ z, z ∈ l ↔ z ∈ m) : a = b := srt_one a b h1.1 h1.2.1 h2.1 h2.2.1 fun x => by rw [h1.2.2, h2.2.2, e]
theorem Srt.few {a l : List Str} (h : Srt a l) (s : ∀ z ∈ l, z ∈ abc) : a.length ≤ 26 := nodup_le a abc h.2.1 fun x hx => s x ((h.2.2 x).mp hx)
end M
namespace M
open PySem L2 Evl
open PyProof.Rows hiding St
def sp_fits : Sp := fun vs H Q _ => ∃ (H0 : Hp) (p : Addr) (m : Nat), vs = [.ref p] ∧ Pl H0 H p m ∧ m + 600 ≤ 2 ^ 20 ∧ ∀ H' : Hp, Pl H0 H' p (m + 600) → Q (.bl true) H'
theorem names4 {k : Int} (h0 : 0 ≤ k) (h4 : k < 4) : ∃ z : Str, atI [V.str "ab", V.str "a", V.str "abcdefghijklmnopqrstuvwxyz", V.str "xqz"] k = some (.str z) ∧ Names z := by
  have n1 : Names "ab" := ⟨by unfold Abc; decide +kernel, by decide +kernel, by decide +kernel⟩
  have n2 : Names "a" := ⟨by unfold Abc; decide +kernel, by decide +kernel, by decide +kernel⟩
  have n3 : Names "abcdefghijklmnopqrstuvwxyz" := ⟨by unfold Abc; decide +kernel, by decide +kernel, by decide +kernel⟩
  have n4 : Names "xqz" := ⟨by unfold Abc; decide +kernel, by decide +kernel, by decide +kernel⟩
  rcases (by omega : k = 0 ∨ k = 1 ∨ k = 2 ∨ k = 3) with rfl | rfl | rfl | rfl
  · exact ⟨_, rfl, n1⟩
  · exact ⟨_, rfl, n2⟩
  · exact ⟨_, rfl, n3⟩
  · exact ⟨_, rfl, n4⟩
end M
namespace M
open PySem L2 Evl
open PyProof.Rows hiding St
/-- data that repr shows -/
def Shw (d : PyData) : Prop := d.showable = true ∧ d.hasDict = false ∧ d.depth ≤ 50 ∧ d.shown.length ≤ sizeLine
def dd (n : Nat) : PyData := .list [.int n, .int n]
theorem shw_dd {n : Nat} (h : n ≤ 6) : Shw (dd n) := by
  rcases (by omega : n = 0 ∨ n = 1 ∨ n = 2 ∨ n = 3 ∨ n = 4 ∨ n = 5 ∨ n = 6) with rfl | rfl | rfl | rfl | rfl | rfl | rfl <;> exact ⟨by decide +kernel, by decide +kernel, by decide +kernel, by decide +kernel⟩
def dl (ss : List Str) : PyData := .list (ss.map PyData.str)
theorem dps (K : PySem.W.Frag) (H : Hp) : ∀ ss : List Str, DpAll K H (ss.map V.str) (ss.map PyData.str)
  | [] => .nil
  | s :: ss => .cons (.str s) (dps K H ss)
theorem dp_l {K : PySem.W.Frag} {H : Hp} {a : Addr} {ss : List Str} (h : H a = some (.lst (ss.map V.str))) : Dp K H (.ref a) (dl ss) := .lst (SqL.of h) (dps K H ss)
/-- short texts -/
def Sh (ss : List Str) : Prop := ss.length ≤ 26 ∧ ∀ z ∈ ss, ∃ c, z = ⟨#[c]⟩ ∧ 97 ≤ c ∧ c ≤ 122
theorem abc_sh {z : Str} (h : z ∈ abc) : ∃ c, z = ⟨#[c]⟩ ∧ 97 ≤ c ∧ c ≤ 122 := by
  obtain ⟨i, hi, rfl⟩ := List.mem_map.mp h
  have := List.mem_range.mp hi
  exact ⟨97 + i, rfl, by omega, by omega⟩
theorem Srt.sh {a l : List Str} (h : Srt a l) (s : ∀ z ∈ l, z ∈ abc) : Sh a := ⟨h.few s, fun z hz => abc_sh (s z ((h.2.2 z).mp hz))⟩
theorem sh_lay : ∀ {ss : List Str}, (∀ z ∈ ss, ∃ c, z = ⟨#[c]⟩ ∧ 97 ≤ c ∧ c ≤ 122) → PyData.canLayAll0 (ss.map PyData.str) = true ∧ PyData.depthAll (ss.map PyData.str) = 0 ∧ PyData.showableAll (ss.map PyData.str) = true ∧ PyData.hasDictAll (ss.map PyData.str) = false ∧
    PyData.leavesShortAll 8 (ss.map PyData.str) = true ∧ PyData.bulkAll (ss.map PyData.str) = 2 * ss.length
  | [], _ => ⟨rfl, rfl, rfl, rfl, rfl, rfl⟩
  | z :: ss, h => by
    obtain ⟨c, rfl, h1, h2⟩ := h z List.mem_cons_self
    obtain ⟨a1, a2, a3, a4, a5, a6⟩ := sh_lay fun y hy => h y (List.mem_cons_of_mem _ hy)
    have b1 : PyData.strOk ⟨#[c]⟩ = true := by
      show (#[c].all fun x => decide (x < 0x110000)) = true
      simp
      omega
    have b2 : PyData.leavesShort 8 (.str ⟨#[c]⟩) = true := by
      show ([c].all fun c => decide (c < 16 ^ 8)) = true
      simp
      omega
    refine ⟨?_, ?_, ?_, ?_, ?_, ?_⟩
    · simp only [List.map_cons, PyData.canLayAll0, PyData.canLay0, b1, a1]; rfl
    · simp only [List.map_cons, PyData.depthAll, PyData.depth, a2]; rfl
    · simp only [List.map_cons, PyData.showableAll, PyData.showable, a3]; rfl
    · simp only [List.map_cons, PyData.hasDictAll, PyData.hasDict, a4]; rfl
    · simp only [List.map_cons, PyData.leavesShortAll, b2, a5]; rfl
    · simp only [List.map_cons, PyData.bulkAll, PyData.bulk, a6, List.length_cons]
      simp
      omega
theorem sh_shp {ss : List Str} (h : Sh ss) : SeqAt.shaped (dl ss) = true ∧ PyData.eqv (dl ss) (dl ss) = true := by
  obtain ⟨a1, a2, _⟩ := sh_lay h.2
  have lay : (dl ss).canLay0 = true := by show PyData.canLay0 (.list _) = true; rw [PyData.canLay0]; exact a1
  refine ⟨?_, SeqAt.eqv_refl _ lay⟩
  unfold SeqAt.shaped
  rw [lay]
  show (true && decide (PyData.depth (.list _) ≤ 64)) = true
  rw [PyData.depth, a2]
  decide
theorem shw_ll {ss : List Str} (h : Sh ss) : Shw (.list [dl ss, dl ss]) := by
  obtain ⟨a1, a2, a3, a4, a5, a6⟩ := sh_lay h.2
  have few := h.1
  refine ⟨?_, ?_, ?_, ?_⟩
  · simp only [PyData.showable, PyData.showableAll, dl, a3]; rfl
  · simp only [PyData.hasDict, PyData.hasDictAll, dl, a4]; rfl
  · simp only [PyData.depth, PyData.depthAll, dl, a2]; decide
  · refine PyData.shown_fits_bulk (B := 8) (by decide) (by decide) ?_ ?_
    · simp only [PyData.leavesShort, PyData.leavesShortAll, dl, a5]; rfl
    · simp only [PyData.bulk, PyData.bulkAll, dl, a6]
      omega
end M
namespace M
open PySem L2 Evl
open PyProof.Rows hiding St
def sp_law (K : PySem.W.Frag) : Sp := fun vs H Q _ => ∃ (a : Addr) (ns : List Int), vs = [.ref a] ∧ SqL K H a (ns.map V.int) ∧ ns.length ≤ 63 ∧ ∀ H' : Hp, Q (.bl true) H'
end M
namespace M
open PySem L2 Evl
open PyProof.Rows hiding St
def entI (e : DictEntry) : Option (Str × Int) := match e.key, e.val with
  | .str x _, .int i _ => some (x, i)
  | _, _ => none
theorem kints_of {K : PySem.W.Frag} {w : World} {a : Addr} {es : Array DictEntry} {n : Nat} {kvs : List (Str × Int)} (l : K.lookup a = some ⟨.type "dict", none, .dict es n, #[]⟩) (hk : PySem.W.KeysLit w.params es.toList) (lo : (a == sysModules) = false)
    (hf : es.toList.map entI = kvs.map some) : KInts K w a (fun z => kvs.lookup z) := by
  refine ⟨es, n, ⟨l, hk, lo⟩, fun z => ?_⟩
  have e : PySem.W.nsIn K a z = (match es.toList.find? (·.key.isStr z) with
      | some e => some (some e.val)
      | none => if es.toList.any (·.refKey) then none else some none) := by
    unfold PySem.W.nsIn
    rw [l]
    rfl
  rw [e]
  clear e l hk
  generalize es.toList = L at *
  have key : ∀ (L : List DictEntry) (kvs : List (Str × Int)), L.map entI = kvs.map some → (L.any (·.refKey) = false) ∧ ((∃ i t e, kvs.lookup z = some i ∧ L.find? (·.key.isStr z) = some e ∧ e.val = .int i t) ∨ (kvs.lookup z = none ∧ L.find? (·.key.isStr z) = none)) := by
    intro L
    induction L with
    | nil =>
      intro kvs h
      cases kvs with
      | nil => exact ⟨rfl, .inr ⟨rfl, rfl⟩⟩
      | cons q r => cases h
    | cons en L ih =>
      intro kvs h
      cases kvs with
      | nil => cases h
      | cons q r =>
        rw [List.map_cons, List.map_cons] at h
        injection h with h1 h2
        obtain ⟨i1, i2⟩ := ih r h2
        unfold entI at h1
        split at h1
        · rename_i x t i u ek ev
          cases h1
          refine ⟨?_, ?_⟩
          · rw [List.any_cons, i1]
            simp [DictEntry.refKey, ek]
          · by_cases hz : x = z
            · subst hz
              refine .inl ⟨i, u, en, ?_, ?_, ev⟩
              · simp [List.lookup]
              · rw [List.find?_cons_of_pos]
                simp [ek, Value.isStr]
            · have nz : (z == x) = false := by simpa using fun y : z = x => hz y.symm
              have hl : List.lookup z ((x, i) :: r) = List.lookup z r := by simp [List.lookup, nz]
              have hfd : List.find? (fun e => e.key.isStr z) (en :: L) = List.find? (fun e => e.key.isStr z) L := by
                rw [List.find?_cons_of_neg]
                simp [ek, Value.isStr, hz]
              rw [hl, hfd]
              exact i2
        · cases h1
  obtain ⟨k1, k2⟩ := key L kvs hf
  rcases k2 with ⟨i, t, e, h1, h2, h3⟩ | ⟨h1, h2⟩
  · refine .inl ⟨i, t, h1, ?_⟩
    rw [h2, ← h3]
  · refine .inr ⟨h1, ?_⟩
    rw [h2, k1]
    rfl
end M
namespace M
open PySem L2 Evl
open PyProof.Rows hiding St
theorem kb_one {K : PySem.W.Frag} {fd : FuncData} {x : Str} (hb : ∀ (s : Shared) (u : Value), BindsTo s fd ⟨[], [(x, u)]⟩ [(x, u)]) :
    KBinds K fd [x] [x] (fun us ws => match us, ws with | [], [w0] => [w0] | _, _ => []) (fun us ws => match us, ws with | [], [w0] => [w0] | _, _ => []) := by
  refine ⟨fun s us ws _ hl => ?_, fun {vs us zs ws} r1 r2 => ?_⟩
  · rcases us with _ | ⟨u, us⟩
    · rcases ws with _ | ⟨w0, _ | ⟨w1, ws⟩⟩
      · exact nomatch hl
      · exact hb s w0
      · exact nomatch hl
    · exact nomatch hl
  · cases r1 with
    | nil =>
      cases r2 with
      | nil => exact .nil
      | cons a b =>
        cases b with
        | nil => exact .cons a .nil
        | cons c d => exact .nil
    | cons a b => exact .nil
end M
end

section
set_option Elab.async false
set_option linter.all false
set_option maxRecDepth 100000
/-! any value: shown, not among texts; what k11's judge needs -/
namespace M
open PySem L2 Evl
open PyProof.Rows hiding St
mutual
/-- no list in it -/
def lf : PyData → Bool
  | .list _ => false
  | .tuple ds => lfs ds
  | _ => true
def lfs : List PyData → Bool
  | [] => true
  | d :: ds => lf d && lfs ds
end
section
variable {X : Cx} {pins : List (Addr × Obj)} {σ : L2.St} {H : Hp} {s : Shared}
mutual
theorem Da.reads (I : Inv X pins σ H s) : ∀ (d : PyData) (v : V) (u : Value), Da X.K H v d → RelV v u → ∃ as, Reads s.heap u d as ∧ (lf d = true → sysModules ∉ as)
  | .none, _, _, h, r => by
    cases h
    cases r
    exact ⟨_, Reads.none, by simp⟩
  | .bool b, _, _, h, r => by
    cases h
    cases r
    exact ⟨_, Reads.bool b, by simp⟩
  | .int i, _, _, h, r => by
    cases h
    obtain ⟨t, rfl⟩ := r
    exact ⟨_, Reads.int i t, by simp⟩
  | .str x, _, _, h, r => by
    cases h
    obtain ⟨t, rfl⟩ := r
    exact ⟨_, Reads.str x t, by simp⟩
  | .list ds, _, _, h, r => by
    cases h with
    | lst hs ha =>
      cases r
      obtain ⟨its, rv, ⟨o, n, ho, hc, _, hd⟩, _⟩ := I.list hs
      obtain ⟨as, hr, hm⟩ := Da.readsAll I ds _ its ha rv
      exact ⟨_, Reads.list ho hc hd hr, fun z => nomatch z⟩
  | .tuple ds, _, _, h, r => by
    cases h with
    | tup hs ha =>
      cases r
      obtain ⟨its, rv, ⟨o, ho, hc, n, hd⟩, _⟩ := I.tuple hs
      obtain ⟨as, hr, hm⟩ := Da.readsAll I ds _ its ha rv
      exact ⟨_, Reads.tuple ho hc hd hr, hm⟩
  | .dict kvs, _, _, h, r => by
    cases h with
    | dct ha =>
      cases r
      rename_i ad
      obtain ⟨_, hns, vs, rel, o, es, ep, ho, hx, hd, he1, he, he3⟩ := I.hok _ _ ha
      cases rel
      have e0 : es.toList = [] := by
        generalize es.toList = l at he
        cases he
        rfl
      refine ⟨_, Reads.dict (as := []) (bs := []) ho hx.1 hd (by rw [e0]; exact .nil) (by rw [e0]; exact .nil), fun _ z => ?_⟩
      simp at z
      rw [← z] at hns
      simp at hns
theorem Da.readsAll (I : Inv X pins σ H s) : ∀ (ds : List PyData) (vs : List V) (us : List Value), Das X.K H vs ds → Vals vs us → ∃ as, ReadsAll s.heap us ds as ∧ (lfs ds = true → sysModules ∉ as)
  | [], _, _, h, r => by
    cases h
    cases r
    exact ⟨_, ReadsAll.nil, by simp⟩
  | d :: ds, _, _, h, r => by
    cases h with
    | cons h1 h2 =>
      cases r with
      | cons r1 r2 =>
        obtain ⟨as, q1, m1⟩ := Da.reads I d _ _ h1 r1
        obtain ⟨bs, q2, m2⟩ := Da.readsAll I ds _ _ h2 r2
        exact ⟨_, ReadsAll.cons q1 q2, fun l z => by
          rw [lfs, Bool.and_eq_true] at l
          exact (List.mem_append.mp z).elim (m1 l.1) (m2 l.2)⟩
end
end
/-! ### repr of any value -/
def rReprA (K : PySem.W.Frag) : List V → Hp → VK → Prop := fun xs H Q => ∃ x d, xs = [x] ∧ Da K H x d ∧ d.showable = true ∧ d.depth ≤ 50 ∧ d.shown.length ≤ sizeLine ∧ (!d.hasDict || lf d) = true ∧ Q (.str d.shown) H
theorem call_reprA {X : Cx} (hg : X.A.guards = some []) (hu : X.A.units + 64 < cLine) : CallR X (.builtin "repr") (rReprA X.K) := by
  intro pins s σ H vs us Q I r h
  obtain ⟨x, d, rfl, hd, hs, hp, hz, hl, q⟩ := h
  obtain ⟨u, rfl, ru⟩ := vals1 r
  obtain ⟨as, rd, hm0⟩ := Da.reads I d x u hd ru
  have hm : d.hasDict = true → sysModules ∉ as := fun z => hm0 (by rw [z] at hl; exact hl)
  have fin : ∀ t, EP X pins σ Q (.str d.shown t) { s with toks := s.toks + 1 } := fun t => ⟨.str _, H, I.tok _, ⟨_, rfl⟩, q⟩
  cases rd with
  | none => exact P.repr_of_none (fin _)
  | bool b => exact P.repr_of_bool (fin _)
  | int i t => exact P.repr_of_int (by simpa [PyData.showable] using hs) (fin _)
  | str z t => exact P.repr_of_str (fin _) hz
  | list h1 h2 h3 h4 =>
    refine repr_of_reads' (.list h1 h2 h3 h4) hs hm hg (by omega) (fun _ _ e => e) (fun h' t tk k => ?_) hz
    exact ⟨.str _, H, I.kept (t' := tk) k, ⟨_, rfl⟩, q⟩
  | tuple h1 h2 h3 h4 =>
    refine repr_of_reads' (.tuple h1 h2 h3 h4) hs hm hg (by omega) (fun _ _ e => e) (fun h' t tk k => ?_) hz
    exact ⟨.str _, H, I.kept (t' := tk) k, ⟨_, rfl⟩, q⟩
  | dict h1 h2 h3 h4 h5 =>
    refine repr_of_reads' (.dict h1 h2 h3 h4 h5) hs hm hg (by omega) (fun _ _ e => e) (fun h' t tk k => ?_) hz
    exact ⟨.str _, H, I.kept (t' := tk) k, ⟨_, rfl⟩, q⟩
/-! ### x not in (texts) -/
def inT : PyData → List Str → Bool
  | .str z, zs => zs.any fun y => y == z
  | _, _ => false
def dctB : PyData → Bool
  | .dict _ => true
  | _ => false
def rNotInT (K : PySem.W.Frag) : R2 := fun x y H Q => ∃ p zs d, y = .ref p ∧ SqT K H p (zs.map V.str) ∧ Da K H x d ∧ dctB d = false ∧ Q (.bl (!inT d zs)) H
theorem flats : ∀ zs : List Str, (zs.map V.str).all flatV = true
  | [] => rfl
  | z :: zs => by rw [List.map_cons, List.all_cons, flats zs]; rfl
theorem vals_strs : ∀ {zs : List Str} {us : List Value}, Vals (zs.map V.str) us → ∀ u ∈ us, ∃ z t, u = .str z t
  | [], _, .nil, u, hu => by cases hu
  | z :: zs, _, .cons r t, u, hu => by
    rcases List.mem_cons.mp hu with rfl | hu
    · obtain ⟨t, rfl⟩ := r; exact ⟨_, _, rfl⟩
    · exact vals_strs t u hu
theorem inV_none (x : V) (h : ∀ z : Str, eqV (.str z) x = false) : ∀ zs : List Str, inV x (zs.map V.str) = false
  | [] => rfl
  | z :: zs => by
    show (eqV (.str z) x || inV x (zs.map V.str)) = false
    rw [h, inV_none x h zs]; rfl
theorem inV_str (y : Str) : ∀ zs : List Str, inV (.str y) (zs.map V.str) = zs.any fun z => z == y
  | [] => rfl
  | z :: zs => by
    show (eqV (.str z) (.str y) || inV (.str y) (zs.map V.str)) = _
    rw [inV_str y zs, List.any_cons]; rfl
theorem u1 {n : Nat} (h : n + 64 < cLine) : n + 1 < cLine := by omega
theorem op_notInT {X : Cx} (hu' : X.A.units + 64 < cLine) : OpR X (compareOp .NotIn) (rNotInT X.K) := by
  have hu : X.A.in1.units < cLine := u1 hu'
  intro pins s σ H x y v u Q I rx ry h
  obtain ⟨p, zs, d, rfl, hq, hd, hn, q⟩ := h
  have fl : flatV x = true → inV x (zs.map V.str) = inT d zs → wpAny (model X.prog X.w) X.A (compareOp .NotIn v u) (EP X pins σ Q) X.xe s := fun f e =>
    op_notIn_seq pins s σ H x _ v u Q I rx ry ⟨p, _, rfl, .inr hq, f, flats zs, by rw [e]; exact q⟩
  have sq : (∀ w ∈ s.heap.objs.toList, True) → inT d zs = false → (∀ (z : Str) (t : Tok), SeqAt.EqAt X.A.in1 s (.str z t) v false) → wpAny (model X.prog X.w) X.A (compareOp .NotIn v u) (EP X pins σ Q) X.xe s := fun _ e f => by
    cases ry
    obtain ⟨its, r, pl, hz⟩ := I.tuple hq
    refine SeqAt.notIn_tupleAt (fun _ => false) pl (fun w hw => ?_) ⟨.bl _, H, I, rfl, ?_⟩
    · obtain ⟨z, t, rfl⟩ := vals_strs r w (by simpa using hw)
      exact f z t
    · rw [show its.toArray.any (fun _ => false) = false by simp, ← e]
      exact q
  cases hd with
  | non => exact fl rfl (inV_none _ (fun _ => rfl) zs)
  | bl b => exact fl rfl (inV_none _ (fun _ => rfl) zs)
  | int i => exact fl rfl (inV_none _ (fun _ => rfl) zs)
  | str z => exact fl rfl (inV_str z zs)
  | dct a => cases hn
  | lst hs _ =>
    cases rx
    obtain ⟨its, r, pl, hz⟩ := I.list hs
    exact sq (fun _ _ => trivial) rfl fun z t => SeqAt.EqAt.str_list z t pl.isList hu
  | tup hs _ =>
    cases rx
    obtain ⟨its, r, pl, hz⟩ := I.tuple hs
    exact sq (fun _ _ => trivial) rfl fun z t => SeqAt.EqAt.str_tuple z t pl hu
end M
end

section
set_option Elab.async false
set_option linter.all false
set_option maxRecDepth 100000
/-! displays of data, walked in one step; what a value must be to be judged and shown -/
namespace M
open PySem L2 Evl
open PyProof.Rows hiding St
section
variable {X : Cx} {e : Expr} {es : List Expr} {t t' : TE} {ta ta' : TA}
theorem pe_weakQ (h : PE X e t) (w : ∀ σ H Q, t' σ H Q → t σ H Q) : PE X e t' := ⟨fun pins s σ H Q I q => h.run pins s σ H Q I (w σ H Q q)⟩
theorem pa_weak (h : PA X es ta) (w : ∀ σ H Q, ta' σ H Q → ta σ H Q) : PA X es ta' := ⟨fun pos pins s σ H Q I q => h.run pos pins s σ H Q I (w σ H Q q)⟩
end
/-- an expression that makes data and leaves the pool: S tells what the names hold, c what is known of them -/
def tD {γ : Type} (K : PySem.W.Frag) (S : γ → L2.St → Hp → Prop) (d : γ → PyData) : TE := fun σ H Q => ∃ (c : γ) (B : Hp) (p : Addr) (m : Nat), Pl B H p m ∧ S c σ B ∧ ∀ v B' H', Ex B B' → Pl B' H' p m → Da K B' v (d c) → Q v H'
def tDL {γ : Type} (K : PySem.W.Frag) (S : γ → L2.St → Hp → Prop) (ds : γ → List PyData) : TE := fun σ H Q => ∃ (c : γ) (B : Hp) (p : Addr) (m : Nat), Pl B H p m ∧ S c σ B ∧ ∀ a vs B' H', Ex B B' → Pl B' H' p m → B' a = some (.lst vs) → Das K B' vs (ds c) → Q (.ref a) H'
def tDs {γ : Type} (K : PySem.W.Frag) (S : γ → L2.St → Hp → Prop) (ds : γ → List PyData) : TA := fun σ H Q => ∃ (c : γ) (B : Hp) (p : Addr) (m : Nat), Pl B H p m ∧ S c σ B ∧ ∀ vs B' H', Ex B B' → Pl B' H' p m → Das K B' vs (ds c) → Q vs H'
def Up {γ : Type} (S : γ → L2.St → Hp → Prop) : Prop := ∀ c σ B B', Ex B B' → S c σ B → S c σ B'
section
variable {γ : Type} {X : Cx} {S : γ → L2.St → Hp → Prop} {d : γ → PyData} {ds : γ → List PyData} {e : Expr} {es : List Expr} {pos : Pos}
theorem pd_str {z : Str} {j} : PE X (.Constant (.str z) j pos) (tD X.K S fun _ => .str z) := pe_weakQ pe_str fun σ H Q ⟨c, B, p, m, hP, _, h⟩ => h _ B H (Ex.refl _) hP (.str z)
theorem pd_int {i : Int} {j} : PE X (.Constant (.int i) j pos) (tD X.K S fun _ => .int i) := pe_weakQ pe_int fun σ H Q ⟨c, B, p, m, hP, _, h⟩ => h _ B H (Ex.refl _) hP (.int i)
theorem pd_bl {b : Bool} {j} : PE X (.Constant (.bool b) j pos) (tD X.K S fun _ => .bool b) := pe_weakQ pe_bl fun σ H Q ⟨c, B, p, m, hP, _, h⟩ => h _ B H (Ex.refl _) hP (.bl b)
theorem pd_non {j} : PE X (.Constant .none j pos) (tD X.K S fun _ => .none) := pe_weakQ pe_non fun σ H Q ⟨c, B, p, m, hP, _, h⟩ => h _ B H (Ex.refl _) hP .non
theorem pd_tup {x1} (h : PA X es (tDs X.K S ds)) (hl : ∀ c, (ds c).length ≤ 1000 := by intro _; exact Nat.le_of_ble_eq_true rfl) : PE X (.Tuple es x1 pos) (tD X.K S fun c => .tuple (ds c)) :=
  pe_weakQ (pe_tup h) fun σ H Q ⟨c, B, p, m, hP, hs, k⟩ => ⟨c, B, p, m, hP, hs, fun vs B1 H1 x hP1 hd => ⟨by rw [hd.len]; exact Nat.le_trans (hl c) (by decide), fun a ha => by
    obtain ⟨hP2, x2, e2⟩ := hP1.new (o := .tup vs) ha
    exact k _ _ _ (x.trans x2) hP2 (.tup (st_of e2) (hd.up x2))⟩⟩
theorem pd_lst (h : PA X es (tDs X.K S ds)) (hl : ∀ c, (ds c).length ≤ 1000 := by intro _; exact Nat.le_of_ble_eq_true rfl) : PE X (.List es pos) (tD X.K S fun c => .list (ds c)) :=
  pe_weakQ (pe_lst h) fun σ H Q ⟨c, B, p, m, hP, hs, k⟩ => ⟨c, B, p, m, hP, hs, fun vs B1 H1 x hP1 hd => ⟨by rw [hd.len]; exact Nat.le_trans (hl c) (by decide), fun a ha => by
    obtain ⟨hP2, x2, e2⟩ := hP1.new (o := .lst vs) ha
    exact k _ _ _ (x.trans x2) hP2 (.lst (SqL.of e2) (hd.up x2))⟩⟩
theorem pd_lstL (h : PA X es (tDs X.K S ds)) (hl : ∀ c, (ds c).length ≤ 1000 := by intro _; exact Nat.le_of_ble_eq_true rfl) : PE X (.List es pos) (tDL X.K S ds) :=
  pe_weakQ (pe_lst h) fun σ H Q ⟨c, B, p, m, hP, hs, k⟩ => ⟨c, B, p, m, hP, hs, fun vs B1 H1 x hP1 hd => ⟨by rw [hd.len]; exact Nat.le_trans (hl c) (by decide), fun a ha => by
    obtain ⟨hP2, x2, e2⟩ := hP1.new (o := .lst vs) ha
    exact k _ _ _ _ (x.trans x2) hP2 e2 (hd.up x2)⟩⟩
theorem pd_dct : PE X (.Dict [] [] pos) (tD X.K S fun _ => .dict []) :=
  pe_weakQ pe_dnewK fun σ H Q ⟨c, B, p, m, hP, hs, k⟩ => fun a ha => by
    obtain ⟨hP2, x2, e2⟩ := hP.new (o := .dK []) ha
    exact k _ _ _ x2 hP2 (.dct e2)
theorem pd_nil : PA X [] (tDs X.K S fun _ => []) := pa_weak pa_nil fun σ H Q ⟨c, B, p, m, hP, _, k⟩ => k _ B H (Ex.refl _) hP .nil
theorem pd_cons (hS : Up S) (he : PE X e (tD X.K S d)) (hr : PA X es (tDs X.K S ds)) (hs : starEach (e :: es) X.env = (false, eval e X.env) :: starEach es X.env := by rfl) : PA X (e :: es) (tDs X.K S fun c => d c :: ds c) :=
  pa_weak (pa_cons he hr hs) fun σ H Q ⟨c, B, p, m, hP, hs, k⟩ => ⟨c, B, p, m, hP, hs, fun v B1 H1 x1 hP1 hv => ⟨c, B1, p, m, hP1, hS _ _ _ _ x1 hs, fun vs B2 H2 x2 hP2 hvs => k _ _ _ (x1.trans x2) hP2 (.cons (hv.up x2) hvs)⟩⟩
theorem pd_of {t : TE} (he : PE X e t) (h : ∀ σ H Q, tD X.K S d σ H Q → t σ H Q) : PE X e (tD X.K S d) := pe_weakQ he h
theorem pd_var {i : Nat} (he : PE X e (tVar i)) (h : ∀ c σ B, S c σ B → ∃ v, σ[i]? = some (some v) ∧ Da X.K B v (d c)) : PE X e (tD X.K S d) :=
  pe_weakQ he fun σ H Q ⟨c, B, p, m, hP, hs, k⟩ => by
    obtain ⟨v, e, hv⟩ := h c σ B hs
    exact ⟨v, e, k v B H (Ex.refl _) hP hv⟩
end
/-! ### what a value must be to be judged and shown -/
/-- a list and a dict are not both in it -/
def okr (d : PyData) : Bool := !d.hasDict || lf d
def hd0 : List PyData → Bool
  | .dict _ :: _ => false
  | _ => true
mutual
def hk : PyData → Bool
  | .tuple ds => hd0 ds && hks ds
  | _ => true
def hks : List PyData → Bool
  | [] => true
  | d :: ds => hk d && hks ds
end
theorem hks_mem : ∀ {ds : List PyData}, hks ds = true → ∀ d ∈ ds, hk d = true
  | _ :: _, h, _, hd => by
    rw [hks, Bool.and_eq_true] at h
    rcases List.mem_cons.mp hd with rfl | hd
    · exact h.1
    · exact hks_mem h.2 _ hd
theorem hk_q : ∀ q : Qn, hk q.d = true
  | .any => rfl
  | .no q => by simp only [Qn.d, hk, hks, hk_q q]; rfl
  | .both a b => by simp only [Qn.d, hk, hks, hk_q a, hk_q b]; rfl
  | .some a c b => by simp only [Qn.d, hk, hks, hk_q a, hk_q b]; rfl
structure Fit (n c : Nat) (d : PyData) : Prop where
  hk : M.hk d = true
  sm : M.sm d = true
  nds : M.nds d ≤ c
  dep : d.depth ≤ n
  shw : d.showable = true
  lv : PyData.leavesShort 8 d = true
  bk : d.bulk + 1 ≤ 20 * c
theorem q_shw : ∀ {q : Qn}, q.Ok → q.d.showable = true ∧ PyData.leavesShort 8 q.d = true ∧ q.d.bulk ≤ 40 * q.parts
  | .any, _ => ⟨rfl, rfl, by decide⟩
  | .no q, h => by
    obtain ⟨h1, h2, h3⟩ := q_shw (q := q) h
    have e1 : PyData.leavesShort 8 (.str "not") = true := rfl
    refine ⟨by simp only [Qn.d, PyData.showable, PyData.showableAll, h1]; rfl, by simp only [Qn.d, PyData.leavesShort, PyData.leavesShortAll, h2] at e1 ⊢; rw [e1]; rfl, ?_⟩
    have e2 : PyData.bulk (.str "not") ≤ 10 := by decide
    simp only [Qn.d, PyData.bulk, PyData.bulkAll, Qn.parts] at e2 ⊢
    omega
  | .both a b, h => by
    obtain ⟨h1, h2, h3⟩ := q_shw h.1
    obtain ⟨g1, g2, g3⟩ := q_shw h.2
    have e1 : PyData.leavesShort 8 (.str "both") = true := rfl
    refine ⟨by simp only [Qn.d, PyData.showable, PyData.showableAll, h1, g1]; rfl, by simp only [Qn.d, PyData.leavesShort, PyData.leavesShortAll, h2, g2] at e1 ⊢; rw [e1]; rfl, ?_⟩
    have e2 : PyData.bulk (.str "both") ≤ 10 := by decide
    simp only [Qn.d, PyData.bulk, PyData.bulkAll, Qn.parts] at e2 ⊢
    omega
  | .some a c b, h => by
    obtain ⟨h1, h2, h3⟩ := q_shw h.1
    obtain ⟨g1, g2, g3⟩ := q_shw h.2.2
    have e1 : PyData.leavesShort 8 (.str "some") = true := rfl
    have e3 : PyData.leavesShort 8 (.str ⟨#[c]⟩) = true := by
      have := h.2.1.2
      show ([c].all fun c => decide (c < 16 ^ 8)) = true
      simp
      omega
    refine ⟨by simp only [Qn.d, PyData.showable, PyData.showableAll, h1, g1]; rfl, by simp only [Qn.d, PyData.leavesShort, PyData.leavesShortAll, h2, g2] at e1 e3 ⊢; rw [e1, e3]; rfl, ?_⟩
    have e2 : PyData.bulk (.str "some") ≤ 10 := by decide
    have e4 : PyData.bulk (.str ⟨#[c]⟩) ≤ 10 := by simp [PyData.bulk]
    simp only [Qn.d, PyData.bulk, PyData.bulkAll, Qn.parts] at e2 e4 ⊢
    omega
theorem fit_q {q : Qn} (h : q.Ok) (hp : q.parts ≤ 40) : Fit 40 160 q.d := by
  obtain ⟨h1, h2, h3⟩ := q_shw h
  have h4 := nds_q q
  have h5 := q.hi_le
  exact ⟨hk_q q, sm_q q, by omega, by rw [Qn.high]; omega, h1, h2, by omega⟩
theorem Fit.shown {n c : Nat} {d : PyData} (h : Fit n c d) (hc : c ≤ 2000) : d.shown.length ≤ sizeLine :=
  PyData.shown_fits_bulk (B := 8) (by decide) (by decide) h.lv (by have := h.bk; omega)
theorem Fit.mono {n c n' c' : Nat} {d : PyData} (h : Fit n c d) (hn : n ≤ n') (hc : c ≤ c') : Fit n' c' d :=
  ⟨h.hk, h.sm, Nat.le_trans h.nds hc, Nat.le_trans h.dep hn, h.shw, h.lv, Nat.le_trans h.bk (Nat.mul_le_mul_left _ hc)⟩
/-! all of a list -/
structure FitQs (n c : Nat) (ds : List PyData) : Prop where
  hk : M.hks ds = true
  sm : M.sms ds = true
  nds : M.ndss ds ≤ c
  dep : PyData.depthAll ds ≤ n
  shw : PyData.showableAll ds = true
  lv : PyData.leavesShortAll 8 ds = true
  bk : PyData.bulkAll ds ≤ 20 * c
theorem FitQs.nil {n : Nat} : FitQs n 0 [] := ⟨rfl, rfl, Nat.le_refl _, Nat.zero_le _, rfl, rfl, Nat.le_refl _⟩
theorem FitQs.cons {n c c' : Nat} {d : PyData} {ds : List PyData} (h : Fit n c d) (t : FitQs n c' ds) : FitQs n (c + c') (d :: ds) :=
  ⟨by rw [M.hks, h.hk, t.hk]; rfl, by rw [M.sms, h.sm, t.sm]; rfl, Nat.add_le_add h.nds t.nds, by rw [PyData.depthAll]; exact Nat.max_le.mpr ⟨h.dep, t.dep⟩,
    by rw [PyData.showableAll, h.shw, t.shw]; rfl, by rw [PyData.leavesShortAll, h.lv, t.lv]; rfl, by have := h.bk; have := t.bk; simp only [PyData.bulkAll]; omega⟩
theorem Fit.tup {n c : Nat} {ds : List PyData} (h0 : hd0 ds = true) (t : FitQs n c ds) : Fit (n + 1) (c + 1) (.tuple ds) :=
  ⟨by rw [M.hk, t.hk, Bool.and_true]; exact h0, by rw [M.sm]; exact t.sm, by rw [M.nds]; exact Nat.add_le_add_right t.nds 1, by rw [PyData.depth]; exact Nat.add_le_add_right t.dep 1, by rw [PyData.showable]; exact t.shw,
    by rw [PyData.leavesShort]; exact t.lv, by have := t.bk; rw [PyData.bulk]; omega⟩
theorem Fit.lst {n c : Nat} {ds : List PyData} (t : FitQs n c ds) : Fit (n + 1) (c + 1) (.list ds) :=
  ⟨rfl, by rw [M.sm]; exact t.sm, by rw [M.nds]; exact Nat.add_le_add_right t.nds 1, by rw [PyData.depth]; exact Nat.add_le_add_right t.dep 1, by rw [PyData.showable]; exact t.shw,
    by rw [PyData.leavesShort]; exact t.lv, by have := t.bk; rw [PyData.bulk]; omega⟩
theorem fit_str {n : Nat} {z : Str} (h : z.cps.size ≤ 18) (h2 : PyData.leavesShort 8 (.str z) = true) : Fit n 1 (.str z) :=
  ⟨rfl, by rw [M.sm]; exact decide_eq_true (Nat.le_trans h (by decide)), Nat.le_refl _, Nat.zero_le _, rfl, h2, by rw [PyData.bulk]; omega⟩
theorem fit_non {n : Nat} : Fit n 1 .none := ⟨rfl, rfl, Nat.le_refl _, Nat.zero_le _, rfl, rfl, by decide⟩
theorem fit_bl {n : Nat} {b : Bool} : Fit n 1 (.bool b) := ⟨rfl, rfl, Nat.le_refl _, Nat.zero_le _, rfl, rfl, Nat.le_of_ble_eq_true rfl⟩
theorem fit_int {n : Nat} {i : Int} (h : PyData.showable (.int i) = true) (h2 : PyData.leavesShort 8 (.int i) = true) : Fit n 1 (.int i) := ⟨rfl, rfl, Nat.le_refl _, Nat.zero_le _, h, h2, Nat.le_of_ble_eq_true rfl⟩
theorem fit_dct {n : Nat} : Fit (n + 1) 1 (.dict []) := ⟨rfl, rfl, Nat.le_refl _, by simp [PyData.depth, PyData.depthKv], rfl, rfl, by decide⟩
theorem fit_qn {n : Nat} {q : Qn} (h : q.Ok) (hp : q.parts ≤ 40) (hn : 40 ≤ n) : Fit n 160 q.d := (fit_q h hp).mono hn (Nat.le_refl _)
/-! ### the things that are questions, or nearly so -/
def qItems : Qn → List PyData
  | .any => [.str "any"]
  | .no q => [.str "not", q.d]
  | .both a b => [.str "both", a.d, b.d]
  | .some a c b => [.str "some", a.d, .str ⟨#[c]⟩, b.d]
theorem q_items (q : Qn) : q.d = .tuple (qItems q) := by cases q <;> rfl
abbrev dAny : PyData := .tuple [.str "any"]
def odds1 : List PyData := [.none, .int 0, .bool true, .str "", .str "any", .list [], .list [.str "any"], .tuple [], .dict [], .tuple [.str "some"], .tuple [.str "any", dAny], .tuple [.str "not"], .tuple [.str "not", .str "any"]]
def odds2 : List PyData := [.tuple [.str "both", dAny], .tuple [.str "some", dAny, .str "a"], .tuple [.str "some", dAny, .str "A", dAny], .tuple [.str "all"], .tuple [.none]]
def odds3 : List PyData := [.tuple [.str "some", dAny, .str "ab", dAny], .tuple [.str "some", dAny, .int 1, dAny], .tuple [.str "some", .str "a", dAny, .str "b"]]
def odds4 (q : Qn) : List PyData := [.tuple [.str "not", .list [.str "any"]], .list [q.d], .tuple [q.d], .list (qItems q), .tuple (qItems q ++ [dAny]), .tuple [.str "both", q.d, .none]]
def odds5 (q : Qn) : List PyData := [.tuple [.str "not", .tuple [.str "not", .none]], .tuple [.str "some", q.d, .str "", q.d], .tuple [.str "some", q.d, .none, q.d]]
def odds (q : Qn) : List PyData := odds1 ++ odds2 ++ odds3 ++ odds4 q ++ odds5 q
def arounds1 (q : Qn) (i : PyData) : List PyData := [.tuple [.str "not", i], .tuple [.str "both", q.d, i], .tuple [.str "some", i, .str "b", q.d]]
def arounds2 (q : Qn) (i : PyData) : List PyData := [.tuple [.str "some", q.d, .str "b", i], q.d]
section
variable {γ : Type} {K : PySem.W.Frag} {S : γ → L2.St → Hp → Prop} {q : Qn} {σ : L2.St} {H : Hp} {Q : VK}
theorem items_ne (q : Qn) : qItems q ≠ [] := by cases q <;> simp [qItems]
theorem items_few (q : Qn) : (qItems q).length ≤ 4 := by cases q <;> simp [qItems]
theorem at_list (hS1 : ∀ c σ B, S c σ B → ∃ a xs, σ[1]? = some (some (.ref a)) ∧ SqT K B a xs ∧ Das K B xs (qItems q)) (h : tD K S (fun _ => .list (qItems q)) σ H Q) :
    tCB (fun xs H Q => ∃ p ys, xs = [.ref p] ∧ (SqL K H p ys ∨ SqT K H p ys) ∧ ∀ l, H l = none → Q (.ref l) (upd H l (.lst ys))) (tCons (tVar 1) tNil) σ H Q := by
  obtain ⟨c, B, p, m, hP, hs, k⟩ := h
  obtain ⟨a, xs, e1, e2, e3⟩ := hS1 c σ B hs
  refine ⟨_, e1, a, xs, rfl, .inr (ex_t hP.ex e2), fun l hl => ?_⟩
  obtain ⟨hP2, x2, e4⟩ := hP.new (o := .lst xs) hl
  exact k _ _ _ x2 hP2 (.lst (SqL.of e4) (e3.up x2))
theorem at_more (hS1 : ∀ c σ B, S c σ B → ∃ a xs, σ[1]? = some (some (.ref a)) ∧ SqT K B a xs ∧ Das K B xs (qItems q)) (h : tD K S (fun _ => .tuple (qItems q ++ [dAny])) σ H Q) :
    tOp (rCatT K) (tVar 1) (tTup (tCons (tTup (tCons (tC (.str "any")) tNil)) tNil)) σ H Q := by
  obtain ⟨c, B, p, m, hP, hs, k⟩ := h
  obtain ⟨a, xs, e1, e2, e3⟩ := hS1 c σ B hs
  have hl := e3.len
  have hn := items_ne q
  have hf := items_few q
  refine ⟨_, e1, by decide, fun l1 n1 => ?_⟩
  obtain ⟨hP1, x1, f1⟩ := hP.new (o := .tup [.str "any"]) n1
  refine ⟨Nat.le_trans (Nat.le_refl 1) (by decide), fun l2 n2 => ?_⟩
  obtain ⟨hP2, x2, f2⟩ := hP1.new (o := .tup [.ref l1]) n2
  refine ⟨a, l2, xs, [.ref l1], rfl, rfl, ex_t hP2.ex (ex_t x2 (ex_t x1 e2)), SqT.of (hP2.ex _ _ f2), fun z => by rw [z] at hl; exact hn (List.eq_nil_of_length_eq_zero hl.symm), ?_, (fun z => nomatch z), fun _ l3 n3 => ?_⟩
  · rw [hl]; exact Nat.le_trans (Nat.add_le_add_right hf 1) (by decide)
  · obtain ⟨hP3, x3, f3⟩ := hP2.new (o := .tup (xs ++ [.ref l1])) n3
    refine k _ _ _ ((x1.trans x2).trans x3) hP3 (.tup (st_of f3) (Das.app (e3.up ((x1.trans x2).trans x3)) (.cons (.tup (st_of (x3 _ _ (x2 _ _ f1))) (.cons (.str _) .nil)) .nil)))
end
theorem odds_len (q : Qn) : (odds q).length = 30 := rfl
def AllF (n c : Nat) (ds : List PyData) : Prop := ∀ d ∈ ds, Fit n c d
theorem AllF.nil {n c : Nat} : AllF n c [] := fun d h => by cases h
theorem AllF.cons {n c : Nat} {d : PyData} {ds : List PyData} (h : Fit n c d) (t : AllF n c ds) : AllF n c (d :: ds) := fun e he => by
  rcases List.mem_cons.mp he with rfl | he
  · exact h
  · exact t e he
theorem AllF.app {n c : Nat} {a b : List PyData} (h : AllF n c a) (t : AllF n c b) : AllF n c (a ++ b) := fun e he => (List.mem_append.mp he).elim (h e) (t e)
theorem FitQs.app {n c c' : Nat} : ∀ {a b : List PyData}, FitQs n c a → FitQs n c' b → FitQs n (c + c') (a ++ b)
  | a, b, ⟨h1, h2, h3, h4, h5, h6, h7⟩, ⟨g1, g2, g3, g4, g5, g6, g7⟩ => by
    have e1 : ∀ a : List PyData, M.hks (a ++ b) = (M.hks a && M.hks b) := fun a => by induction a with
      | nil => rfl
      | cons x a ih => simp only [List.cons_append, M.hks, ih, Bool.and_assoc]
    have e2 : ∀ a : List PyData, M.sms (a ++ b) = (M.sms a && M.sms b) := fun a => by induction a with
      | nil => rfl
      | cons x a ih => simp only [List.cons_append, M.sms, ih, Bool.and_assoc]
    have e4 : ∀ a : List PyData, PyData.depthAll (a ++ b) = max (PyData.depthAll a) (PyData.depthAll b) := fun a => by induction a with
      | nil => simp [PyData.depthAll]
      | cons x a ih => simp only [List.cons_append, PyData.depthAll, ih, Nat.max_assoc]
    have e5 : ∀ a : List PyData, PyData.showableAll (a ++ b) = (PyData.showableAll a && PyData.showableAll b) := fun a => by induction a with
      | nil => rfl
      | cons x a ih => simp only [List.cons_append, PyData.showableAll, ih, Bool.and_assoc]
    have e6 : ∀ a : List PyData, PyData.leavesShortAll 8 (a ++ b) = (PyData.leavesShortAll 8 a && PyData.leavesShortAll 8 b) := fun a => by induction a with
      | nil => rfl
      | cons x a ih => simp only [List.cons_append, PyData.leavesShortAll, ih, Bool.and_assoc]
    have e7 : ∀ a : List PyData, PyData.bulkAll (a ++ b) = PyData.bulkAll a + PyData.bulkAll b := fun a => by induction a with
      | nil => simp [PyData.bulkAll]
      | cons x a ih => simp only [List.cons_append, PyData.bulkAll, ih]; omega
    exact ⟨by rw [e1, h1, g1]; rfl, by rw [e2, h2, g2]; rfl, by rw [ndss_app]; omega, by rw [e4]; omega, by rw [e5, h5, g5]; rfl, by rw [e6, h6, g6]; rfl, by rw [e7]; omega⟩
theorem Fit.inv {n c : Nat} {ds : List PyData} (h : Fit (n + 1) c (.tuple ds)) : FitQs n c ds := by
  obtain ⟨h1, h2, h3, h4, h5, h6, h7⟩ := h
  rw [M.hk, Bool.and_eq_true] at h1
  rw [M.sm] at h2
  rw [M.nds] at h3
  rw [PyData.depth] at h4
  rw [PyData.showable] at h5
  rw [PyData.leavesShort] at h6
  rw [PyData.bulk] at h7
  exact ⟨h1.2, h2, by omega, by omega, h5, h6, by omega⟩
theorem fits_items {n : Nat} {q : Qn} (h : q.Ok) (hp : q.parts ≤ 40) (hn : 40 ≤ n) : FitQs n 160 (qItems q) := by
  have := fit_qn (n := n + 1) h hp (by omega)
  rw [q_items] at this
  exact this.inv
theorem odds_fit {q : Qn} (h : q.Ok) (hp : q.parts ≤ 40) : AllF 44 800 (odds q) := by
  have hq : ∀ n, 40 ≤ n → Fit n 160 q.d := fun n hn => fit_qn h hp hn
  have e0 : hd0 (qItems q ++ [dAny]) = true := by cases q <;> rfl
  have e1 : hd0 [q.d] = true := by cases q <;> rfl
  unfold odds odds1 odds2 odds3 odds4 odds5
  simp only [List.cons_append, List.nil_append]
  have sh : ∀ {d : PyData} {ds : List PyData}, (∃ c, Fit 44 c d ∧ c ≤ 800) → AllF 44 800 ds → AllF 44 800 (d :: ds) := fun ⟨c, h, hc⟩ t => .cons (h.mono (Nat.le_refl _) hc) t
  iterate 30 (refine sh ⟨_, by (repeat (first
    | exact fit_non | exact fit_bl | exact fit_int rfl (by decide +kernel) | exact fit_str (by decide) rfl | exact fit_dct | exact hq _ (by decide) | exact FitQs.nil | exact fits_items h hp (by decide)
    | apply Fit.tup e0 | apply Fit.tup e1 | apply Fit.tup rfl | apply Fit.lst | apply FitQs.app (fits_items h hp (by decide)) | apply FitQs.cons)), by decide⟩ ?_)
  exact AllF.nil
end M
namespace M
open PySem L2 Evl
open PyProof.Rows hiding St
def sp_lisq (K : PySem.W.Frag) (n : Nat) : Sp := fun vs H Q _ => ∃ (H0 : Hp) (v : V) (d : PyData), vs = [v] ∧ Ex H0 H ∧ Da K H0 v d ∧ hk d = true ∧ sm d = true ∧ nds d ≤ 10000 ∧ d.depth < n ∧
  ∀ (b : Bool) (H' : Hp), Ex H H' → (b = true ↔ IsQ d) → Q (.bl b) H'
def sp_odd (K : PySem.W.Frag) : Sp := fun vs H Q _ => ∃ (H0 : Hp) (p : Addr) (m : Nat) (v : V) (q : Qn), vs = [.ref p, v] ∧ Pl H0 H p m ∧ m + 20 ≤ 2 ^ 20 ∧ Dp K H0 v q.d ∧ q.Ok ∧ q.parts ≤ 40 ∧
  ∀ (d : PyData) (v' : V) (H1 H' : Hp), Ex H0 H1 → Pl H1 H' p (m + 4) → Da K H1 v' d → Fit 48 2000 d → okr d = true → Q v' H'
end M
namespace M
open PySem L2 Evl
open PyProof.Rows hiding St
def Wd (z : Str) (j : Int) : Prop := (z = "any" ∧ j = 1) ∨ (z = "not" ∧ j = 2) ∨ (z = "both" ∧ j = 3) ∨ (z = "some" ∧ j = 4)
def words4 : List Str := ["any", "not", "both", "some"]
theorem form_in {d0 : PyData} {ds : List PyData} (h : HasForm (.tuple (d0 :: ds))) : inT d0 ["any", "not", "both", "some"] = true := by
  obtain ⟨z, es, e⟩ := form_tup h
  cases e
  unfold HasForm at h
  split at h
  · rename_i e; cases e; subst h; decide +kernel
  · rename_i e; cases e; subst h; decide +kernel
  · rename_i e; cases e; subst h; decide +kernel
  · rename_i e; cases e; rw [h.1]; decide +kernel
  · exact h.elim
def kv4 : List (Key × V) := [(.inr "any", .int 1), (.inr "not", .int 2), (.inr "both", .int 3), (.inr "some", .int 4)]
theorem inT_cases {d0 : PyData} (h : inT d0 ["any", "not", "both", "some"] = true) : ∃ (z : Str) (j : Int), d0 = .str z ∧ valV (mergeK [] kv4) (.inr z) = some (.int j) ∧ Wd z j := by
  cases d0 with
  | str z =>
    have h' : (("any" : Str) == z || (("not" : Str) == z || (("both" : Str) == z || (("some" : Str) == z || false)))) = true := h
    simp only [Bool.or_eq_true, beq_iff_eq, Bool.or_false] at h'
    rcases h' with rfl | rfl | rfl | rfl
    · exact ⟨_, 1, rfl, rfl, .inl ⟨rfl, rfl⟩⟩
    · exact ⟨_, 2, rfl, rfl, .inr (.inl ⟨rfl, rfl⟩)⟩
    · exact ⟨_, 3, rfl, rfl, .inr (.inr (.inl ⟨rfl, rfl⟩))⟩
    · exact ⟨_, 4, rfl, rfl, .inr (.inr (.inr ⟨rfl, rfl⟩))⟩
  | _ => cases h
end M
namespace M
open PySem L2 Evl
open PyProof.Rows hiding St
theorem form_len {z : Str} {j : Int} {ds : List PyData} (w : Wd z j) (h : HasForm (.tuple (.str z :: ds))) : ((ds.length : Nat) : Int) + 1 = j := by
  have e := form_size h
  have e2 : (((ds.length + 1 : Nat)) : Int) = (ds.length : Int) + 1 := by omega
  rw [← e2, ← e]
  rcases w with ⟨rfl, rfl⟩ | ⟨rfl, rfl⟩ | ⟨rfl, rfl⟩ | ⟨rfl, rfl⟩ <;> decide +kernel
theorem wd_some {j : Int} (w : Wd "some" j) : j = 4 := by
  rcases w with ⟨h, _⟩ | ⟨h, _⟩ | ⟨h, _⟩ | ⟨_, h⟩
  · exact absurd h (by decide +kernel)
  · exact absurd h (by decide +kernel)
  · exact absurd h (by decide +kernel)
  · exact h
theorem depth_mem : ∀ {ds : List PyData} {d : PyData}, d ∈ ds → d.depth ≤ PyData.depthAll ds
  | x :: ds, d, h => by
    rw [PyData.depthAll]
    rcases List.mem_cons.mp h with rfl | h
    · exact Nat.le_max_left _ _
    · exact Nat.le_trans (depth_mem h) (Nat.le_max_right _ _)
theorem nds_mem : ∀ {ds : List PyData} {d : PyData}, d ∈ ds → nds d ≤ ndss ds
  | x :: ds, d, h => by
    rw [ndss]
    rcases List.mem_cons.mp h with rfl | h
    · exact Nat.le_add_right _ _
    · exact Nat.le_trans (nds_mem h) (Nat.le_add_left _ _)
/-- what a part needs, to be judged -/
theorem part_ok {n : Nat} {ds : List PyData} (h1 : hk (.tuple ds) = true) (h2 : sm (.tuple ds) = true) (h3 : nds (.tuple ds) ≤ 10000) (h4 : (PyData.tuple ds).depth < n + 1) : ∀ d ∈ ds, hk d = true ∧ sm d = true ∧ nds d ≤ 10000 ∧ d.depth < n := by
  intro d hd
  rw [hk, Bool.and_eq_true] at h1
  rw [sm] at h2
  rw [nds] at h3
  rw [PyData.depth] at h4
  have := nds_mem hd
  have := depth_mem hd
  exact ⟨hks_mem h1.2 d hd, sms_mem h2 d hd, by omega, by omega⟩
theorem abc_mem (c : Nat) : c ∈ ("abcdefghijklmnopqrstuvwxyz" : Str).cps.toList ↔ 97 ≤ c ∧ c ≤ 122 := by
  have e : ("abcdefghijklmnopqrstuvwxyz" : Str).cps.toList = List.range' 97 26 := by decide +kernel
  rw [e, List.mem_range'_1]
  omega
theorem isQ_some {a b : PyData} {c : Nat} (h : 97 ≤ c ∧ c ≤ 122) : IsQ (.tuple [.str "some", a, .str ⟨#[c]⟩, b]) ↔ IsQ a ∧ IsQ b := by
  rw [isQ_form]
  constructor
  · rintro ⟨_, h⟩
    exact ⟨h _ (by simp [inner]), h _ (by simp [inner])⟩
  · rintro ⟨h1, h2⟩
    refine ⟨⟨rfl, c, rfl, h⟩, fun x hx => ?_⟩
    simp [inner] at hx
    rcases hx with rfl | rfl
    · exact h1
    · exact h2
theorem isQ_few {z : Str} {j : Int} {ds : List PyData} (w : Wd z j) (hn : z ≠ "some") (hl : ((ds.length : Nat) : Int) + 1 = j) : (IsQ (.tuple (.str z :: ds)) ↔ ∀ x ∈ ds, IsQ x) ∧ ds.length ≤ 2 := by
  rw [isQ_form]
  rcases w with ⟨rfl, rfl⟩ | ⟨rfl, rfl⟩ | ⟨rfl, rfl⟩ | ⟨rfl, rfl⟩
  · match ds, hl with
    | [], _ => exact ⟨⟨fun _ x hx => (nomatch hx), fun _ => ⟨rfl, fun x hx => (nomatch hx)⟩⟩, by decide⟩
    | _ :: _, h => simp only [List.length_cons] at h; omega
  · match ds, hl with
    | [a], _ => exact ⟨⟨fun h x hx => h.2 x hx, fun h => ⟨rfl, fun x hx => h x hx⟩⟩, by simp⟩
    | [], h | _ :: _ :: _, h => simp only [List.length_cons, List.length_nil] at h; omega
  · match ds, hl with
    | [a, b], _ => exact ⟨⟨fun h x hx => h.2 x hx, fun h => ⟨rfl, fun x hx => h x hx⟩⟩, by simp⟩
    | [], h | [_], h | _ :: _ :: _ :: _, h => simp only [List.length_cons, List.length_nil] at h; omega
  · exact absurd rfl hn
end M
namespace M
open PySem L2 Evl
open PyProof.Rows hiding St
theorem dpa_ones (K : PySem.W.Frag) (H : Hp) : ∀ c : Nat, DpAll K H (List.replicate c (.int 1)) (List.replicate c (.int 1))
  | 0 => .nil
  | c + 1 => .cons (.int 1) (dpa_ones K H c)
theorem ones_eq {c : Nat} (h : c ≤ 2) : SeqAt.shaped (.list (List.replicate c (.int 1))) = true ∧ PyData.eqv (.list (List.replicate c (.int 1))) (.list []) = decide (c = 0) := by
  rcases (by omega : c = 0 ∨ c = 1 ∨ c = 2) with rfl | rfl | rfl <;> exact ⟨by decide +kernel, by decide +kernel⟩
end M
namespace M
open PySem L2 Evl
open PyProof.Rows hiding St
theorem arounds_fit {q : Qn} {d : PyData} (h : q.Ok) (hp : q.parts ≤ 40) (hd : Fit 44 800 d) : AllF 48 2000 (arounds1 q d ++ arounds2 q d) := by
  have hq : ∀ n, 40 ≤ n → Fit n 160 q.d := fun n hn => fit_qn h hp hn
  have h0 : ∀ n, 44 ≤ n → Fit n 800 d := fun n hn => hd.mono hn (Nat.le_refl _)
  unfold arounds1 arounds2
  simp only [List.cons_append, List.nil_append]
  have sh : ∀ {d : PyData} {ds : List PyData}, (∃ c, Fit 48 c d ∧ c ≤ 2000) → AllF 48 2000 ds → AllF 48 2000 (d :: ds) := fun ⟨c, h, hc⟩ t => .cons (h.mono (Nat.le_refl _) hc) t
  iterate 5 (refine sh ⟨_, by (repeat (first
    | exact fit_str (by decide) rfl | exact hq _ (by decide) | exact h0 _ (by decide) | exact FitQs.nil
    | apply Fit.tup rfl | apply FitQs.cons)), by decide⟩ ?_)
  exact AllF.nil
end M
namespace M
open PySem L2 Evl
open PyProof.Rows hiding St
theorem iff_bool {a b : Bool} {p : Prop} (h1 : a = true ↔ p) (h2 : b = true ↔ p) : a = b := by
  cases a <;> cases b <;> simp_all
def db2 (b : Bool) : PyData := .list [.bool b, .bool b]
theorem shw_db (b : Bool) : Shw (db2 b) := by cases b <;> exact ⟨by decide +kernel, by decide +kernel, by decide +kernel, by decide +kernel⟩
def heads : List PyData := [.list [], .list [.str "any"], .dict [], .tuple [.str "any"], .int 0, .none, .bool true]
theorem heads_str : ∀ d ∈ heads, strB d = false := by
  intro d h
  simp only [heads, List.mem_cons, List.not_mem_nil, or_false] at h
  rcases h with rfl | rfl | rfl | rfl | rfl | rfl | rfl <;> rfl
theorem heads_sm : ∀ d ∈ heads, sm d = true ∧ nds d ≤ 10 := by
  intro d h
  simp only [heads, List.mem_cons, List.not_mem_nil, or_false] at h
  rcases h with rfl | rfl | rfl | rfl | rfl | rfl | rfl <;> exact ⟨by decide +kernel, by decide +kernel⟩
theorem not_isQ {d : PyData} {ds : List PyData} (h : strB d = false) : ¬ IsQ (.tuple (d :: ds)) := fun z => by
  obtain ⟨y, es, e⟩ := form_tup (isQ_form.mp z).1
  cases e
  cases h
theorem not_isQ2 {d : PyData} {ds : List PyData} (h : strB d = false) : ¬ IsQ (.tuple [.str "not", .tuple (d :: ds)]) := fun z => by
  have := (isQ_form.mp z).2 (.tuple (d :: ds)) (by show _ ∈ [PyData.tuple (d :: ds)]; exact List.mem_cons_self)
  exact not_isQ h this
end M
namespace M
open PySem L2 Evl
open PyProof.Rows hiding St
theorem q_plain : ∀ q : Qn, q.d.hasDict = false ∧ lf q.d = true
  | .any => ⟨rfl, rfl⟩
  | .no q => by
    obtain ⟨h1, h2⟩ := q_plain q
    exact ⟨by simp only [Qn.d, PyData.hasDict, PyData.hasDictAll, h1]; rfl, by simp only [Qn.d, lf, lfs, h2]; rfl⟩
  | .both a b => by
    obtain ⟨h1, h2⟩ := q_plain a
    obtain ⟨g1, g2⟩ := q_plain b
    exact ⟨by simp only [Qn.d, PyData.hasDict, PyData.hasDictAll, h1, g1]; rfl, by simp only [Qn.d, lf, lfs, h2, g2]; rfl⟩
  | .some a c b => by
    obtain ⟨h1, h2⟩ := q_plain a
    obtain ⟨g1, g2⟩ := q_plain b
    exact ⟨by simp only [Qn.d, PyData.hasDict, PyData.hasDictAll, h1, g1]; rfl, by simp only [Qn.d, lf, lfs, h2, g2]; rfl⟩
def AllO (ds : List PyData) : Prop := ∀ d ∈ ds, okr d = true
theorem AllO.nil : AllO [] := fun d h => by cases h
theorem AllO.cons {d : PyData} {ds : List PyData} (h : okr d = true) (t : AllO ds) : AllO (d :: ds) := fun e he => by
  rcases List.mem_cons.mp he with rfl | he
  · exact h
  · exact t e he
theorem odds_okr (q : Qn) : AllO (odds q) := by
  obtain ⟨h1, h2⟩ := q_plain q
  have h3 : PyData.hasDictAll (qItems q) = false := by
    rw [q_items] at h1
    simpa [PyData.hasDict] using h1
  have h5 : PyData.hasDictAll (qItems q ++ [dAny]) = false := by
    have : ∀ l : List PyData, PyData.hasDictAll l = false → PyData.hasDictAll (l ++ [dAny]) = false := fun l => by
      induction l with
      | nil => intro _; rfl
      | cons x l ih =>
        intro h
        simp only [PyData.hasDictAll, Bool.or_eq_false_iff, List.cons_append] at h ⊢
        exact ⟨h.1, ih h.2⟩
    exact this _ h3
  unfold odds odds1 odds2 odds3 odds4 odds5
  simp only [List.cons_append, List.nil_append]
  iterate 30 (refine AllO.cons (by first | rfl | (simp only [okr, PyData.hasDict, PyData.hasDictAll, h1, h3, h5]; rfl)) ?_)
  exact AllO.nil
theorem arounds_okr {q : Qn} {d : PyData} (hd : okr d = true) : AllO (arounds1 q d ++ arounds2 q d) := by
  obtain ⟨h1, h2⟩ := q_plain q
  have hd' : d.hasDict = false ∨ lf d = true := by
    unfold okr at hd
    cases h : d.hasDict with
    | false => exact .inl rfl
    | true => rw [h] at hd; exact .inr hd
  unfold arounds1 arounds2
  simp only [List.cons_append, List.nil_append]
  rcases hd' with h0 | h0
  · iterate 5 (refine AllO.cons (by simp only [okr, PyData.hasDict, PyData.hasDictAll, h1, h0]; rfl) ?_)
    exact AllO.nil
  · iterate 5 (refine AllO.cons (by simp only [okr, lf, lfs, h2, h0, Bool.and_self, Bool.or_true]) ?_)
    exact AllO.nil
end M
end

section
set_option Elab.async false
set_option linter.all false
set_option maxRecDepth 100000
set_option maxHeartbeats 4000000
/-! exceptions made by keyword, kept as values, asked for their class and value -/
namespace PySem
namespace M2
open PySem.W PySem.Calls PyProof.Rows PySem.HandSPX
section
variable {prog : Program} {w : World} {M : Model} {A : Around} {E : Value → Shared → Prop} {R : Result → Shared → Prop} {h : Heap} {g : Array GenState} {d : Drawn} {t : Nat} {os : OsState}
variable {nm q : Str} {C N : Addr} {bs bm bmB : List Value} {hdct : Bool} {sn : List Str} {sub : List Value} {ab : Bool} {col : Option Bool} {dd : Option Addr} {k0 k1 k2 k3 k5 : Option Value} {B newId initId : String}
theorem check_new_kw (F : ExcBaseFacts B newId initId bmB) (hT : ∀ X : String, bm.contains (.type X) = bmB.contains (.type X)) {rest : List Value} {kw : List (Str × Value)} {Q : Unit → Shared → Prop}
    (hC : h.get? C = some (excClassObj nm q C N bs bm hdct sn sub ab col dd k0 k1 k2 k3 k5 newId)) (hq : Q () ⟨h, g, d, t, os⟩) : wpAny M A (checkBuiltinCall newId ⟨.ref C :: rest, kw⟩) Q E ⟨h, g, d, t, os⟩ := by
  have hcont : (Value.ref C :: bm).contains (.type B) = true := by rw [List.contains_cons, hT, F.hasB, Bool.or_true]
  have hstar := F.noStar
  simp only [checkBuiltinCall, F.newKind, F.newSplit, F.newRow]
  repeat (first | refine wpAny_loadPart_at hC ?_ | (refine wpAny_isSubtype_exc hC ?_; rw [hcont]) | refine wpAny_staticBase_exc hC ?_ | refine wpAny_madeBy_exc hC ?_ | simp only [bne_self_eq_false, Bool.false_eq_true, if_false] | wp_step)
  exact hq
theorem check_tc_kw {rest : List Value} {kw : List (Str × Value)} {Q : Unit → Shared → Prop} (hC : h.get? C = some (excClassObj nm q C N bs bm hdct sn sub ab col dd k0 k1 k2 k3 k5 newId))
    (hq : Q () ⟨h, g, d, t, os⟩) : wpAny M A (checkBuiltinCall "type.__call__" ⟨.ref C :: rest, kw⟩) Q E ⟨h, g, d, t, os⟩ := by
  have f3 := tc_sub
  have hT : (⟨h, g, d, t, os⟩ : Shared).TypeIs (.ref C) "type" := ⟨_, hC, rfl⟩
  simp only [checkBuiltinCall, tc_kind, tc_split]
  repeat (any_goals (first | assumption | with_reducible refine wpAny_loadPart_at hC ?_ | with_reducible refine wpAny_onRaise ?_ | with_reducible refine wpAny_map ?_ | wp_step))
theorem new_kw (F : ExcBaseFacts B newId initId bmB) (hT : ∀ X : String, bm.contains (.type X) = bmB.contains (.type X)) {rest : List Value} {kw : List (Str × Value)}
    (hC : h.get? C = some (excClassObj nm q C N bs bm hdct sn sub ab col dd k0 k1 k2 k3 k5 newId))
    (hq : R (.ok (.ret (.ref (h.objs.size + 1)))) ⟨(h.push { cls := .type "tuple", data := .seq rest.toArray }).push
      { cls := .ref C, data := .fields #[.ref h.objs.size, .none, .none, .none, .bool false, .none] }, g, d, t, os⟩) (hrest : rest.length ≤ sizeLine) :
    codeAny (model prog w) A (.builtin newId ⟨.ref C :: rest, kw⟩) R ⟨h, g, d, t, os⟩ := by
  have hends := F.ends
  have hcB : (Value.ref C :: bm).contains (.type B) = true := by rw [List.contains_cons, hT, F.hasB, Bool.or_true]
  have hcA : (Value.ref C :: bm).contains (.type "AttributeError") = false := by rw [List.contains_cons, hT, F.noAttr]; rfl
  have hcN : (Value.ref C :: bm).contains (.type "NameError") = false := by rw [List.contains_cons, hT, F.noName]; rfl
  refine codeAny_builtinAt F.entry ?_
  unfold Builtin.«BaseException.__new__»
  refine wpAt_bind ?_
  show wpAt _ _ _ (stack >>= _) _ _ _
  refine wpAt_bind (wpAt_stack fun p below => wpAt_of_wpAny ?_)
  wp_walk
  refine wpAt_of_wpAny ?_
  rw [F.owner]
  repeat (first | with_reducible refine wpAny_madeHere_exc F.canon hC ?_ | with_reducible refine wpAny_loadPart_at hC ?_ | (with_reducible refine wpAny_isSubtype_exc hC ?_; first | rw [hcB] | rw [hcA] | rw [hcN]) | wp_step)
  show R _ _
  rw [Heap.size_push]
  exact hq
theorem type_call_kw (F : ExcBaseFacts B newId initId bmB) (hT : ∀ X : String, bm.contains (.type X) = bmB.contains (.type X)) {rest : List Value} {kw : List (Str × Value)} {fI : Addr} {Q : Fin → Shared → Prop}
    (hC : h.get? C = some (excClassObj nm q C N bs bm hdct sn sub ab col dd k0 k1 k2 k3 k5 newId))
    (hi : W.Looks (model prog w) h (typeLookup (.ref C) "__init__") (some (.ref fI))) (hb : ∀ self, W.Looks (model prog w) h (bindSpecial (.ref fI) self) (.ref fI, [self])) (hrest : rest.length ≤ sizeLine)
    (hq : codeAny (model prog w) A (.call (.ref fI) ⟨.ref (h.objs.size + 1) :: rest, kw⟩)
      (fun r s' => match r with | .ok (.ret v) => v = .none ∧ Q (.done (.ret (.ref (h.objs.size + 1)))) s' | .ok _ => False | .error e => E e s')
      ⟨(h.push (W.kdv_tup rest)).push (excO C h.objs.size), g, d, t, os⟩) :
    wpAny (model prog w) A (Builtin.«type.__call__» ⟨.ref C :: rest, kw⟩) Q E ⟨h, g, d, t, os⟩ := by
  repeat (first | with_reducible refine wpAny_loadPart_at hC ?_ | with_reducible refine wpAny_madeBy_exc hC ?_ | wp_step)
  refine codeAny_call_builtin_code (Code.quiet_builtin _ F.quiet) (check_new_kw F hT hC ?_)
  refine new_kw F hT hC ?_ hrest
  show wpAny _ _ _ _ _ _
  have k : ∀ b o, h.get? b = some o → ((h.push (W.kdv_tup rest)).push (excO C h.objs.size)).get? b = some o := fun b o e => Heap.get?_push_of_some _ (Heap.get?_push_of_some _ e)
  have hC₁ := k _ _ hC
  have hget : ((h.push (W.kdv_tup rest)).push (excO C h.objs.size)).get? (h.objs.size + 1) = some (excO C h.objs.size) := by heap_get
  have hcC : (Value.ref C :: bm).contains (.ref C) = true := by simp
  have i1 := hi.keeps k
  have b1 := (hb (.ref (h.objs.size + 1))).keeps k
  unfold isInstance
  repeat (first | with_reducible refine wpAny_loadPart_at hget ?_ | (with_reducible refine wpAny_isSubtype_exc hC₁ ?_; rw [hcC]) | wp_step)
  show wpAny _ _ (typeLookup (.ref C) _) _ _ _
  refine i1.at ?_
  refine wpAny_holding (wpAny_bind (b1.at ?_))
  refine wpAny_bind (wpAny_call (codeAny_mono hq fun r s' z => ?_))
  rcases r with e | (v | _ | _ | _) <;> first | exact z | exact z.elim | skip
  obtain ⟨rfl, z⟩ := z
  first
    | exact wpAny_pure (wpAny_pure z)
    | (wp_walk; exact z)
theorem call_kw (F : ExcBaseFacts B newId initId bmB) (hT : ∀ X : String, bm.contains (.type X) = bmB.contains (.type X)) {rest : List Value} {kw : List (Str × Value)} {fI : Addr}
    (hC : h.get? C = some (excClassObj nm q C N bs bm hdct sn sub ab col dd k0 k1 k2 k3 k5 newId))
    (hi : W.Looks (model prog w) h (typeLookup (.ref C) "__init__") (some (.ref fI))) (hb : ∀ self, W.Looks (model prog w) h (bindSpecial (.ref fI) self) (.ref fI, [self])) (hrest : rest.length ≤ sizeLine)
    (hq : codeAny (model prog w) (A.under (.builtin "type.__call__" ⟨.ref C :: rest, kw⟩)) (.call (.ref fI) ⟨.ref (h.objs.size + 1) :: rest, kw⟩) (W.InitBack (h.objs.size + 1) R)
      ⟨(h.push (W.kdv_tup rest)).push (excO C h.objs.size), g, d, t, os⟩) :
    codeAny (model prog w) A (.call (.ref C) ⟨rest, kw⟩) R ⟨h, g, d, t, os⟩ := by
  have f1 := tc_lookup
  have f2 := tc_bind (.ref C)
  have hTy : (⟨h, g, d, t, os⟩ : Shared).TypeIs (.ref C) "type" := ⟨_, hC, rfl⟩
  refine codeAny_of_tree ?_
  show wpAny _ _ (callAny (.ref C) _) _ _ _
  repeat (any_goals (first | assumption | with_reducible refine wpAny_loadPart_at hC ?_ | wp_step))
  refine ⟨rfl, ?_⟩
  refine codeAny_call_builtin_at (Code.quiet_builtin _ (by decide +kernel)) entry_typeCall (check_tc_kw hC (type_call_kw F hT hC hi hb hrest ?_))
  refine codeAny_mono hq fun r s' z => ?_
  rcases r with e | (v | _ | _ | _) <;> exact z
end
end M2
end PySem
end

section
set_option Elab.async false
set_option linter.all false
set_option maxRecDepth 100000
set_option maxHeartbeats 4000000
/-! .. as values: made, asked for their class, read -/
namespace M
open PySem L2 Evl
open PyProof.Rows hiding St
/-- what the constants say of an exception's class whose __init__ is the def at fI -/
structure XC (K : PySem.W.Frag) (C fI : Addr) : Prop where
  ox : OexC K C
  ini : PySem.W.findIn K (.ref C) "__init__" = some (some (.ref fI))
  fn : PySem.W.typeIn K (.ref fI) = some (.type "function")
  noV : PySem.W.findIn K (.ref C) "value" = some none
  cl : (PySem.W.clsIn K C).isSome = true
  ga : PySem.W.findIn K (.ref C) "__getattribute__" = some (some (.builtin "BaseException.__getattribute__"))
  gt : PySem.W.findIn K (.ref C) "__getattr__" = some none
  sb : PySem.W.subIn K (.ref C) (.type "BaseException") = some true
  hd : PySem.W.hasDictIn K C = true
  ca : PySem.W.findIn K (.ref C) "__class__" = some (some (.builtin "object.__class__"))
  ng : PySem.W.specialIn K (.builtin "object.__class__") "__get__" = some (some (.builtin "getset_descriptor.__get__"))
  tk : PySem.W.takesIn K (.builtin "object.__class__") = some true
  mr : PySem.W.mroIn K C (.type "object") = some true
/-- at a: an exception of the class at C that keeps x -/
def XAt (H : Hp) (a C : Addr) (x : V) : Prop := ∃ d, H a = some (exo a C (some d)) ∧ H d = some (exd d [("value", x)])
theorem XAt.up {H H' : Hp} {a C : Addr} {x : V} (h : XAt H a C x) (e : Ex H H') : XAt H' a C x := by
  obtain ⟨d, h1, h2⟩ := h
  exact ⟨d, e _ _ h1, e _ _ h2⟩
def sp_init (K : PySem.W.Frag) : Sp := fun vs H Q _ => ∃ (a C fI : Addr) (x : V), vs = [.ref a, x] ∧ XC K C fI ∧ H a = some (exo a C none) ∧
  ∀ d, H d = none → d ≠ a → Q .non (upd (upd H d (exd d [("value", x)])) a (exo a C (some d)))
/-- the exception's value -/
def tVal (K : PySem.W.Frag) (te : TE) : TE := fun σ H Q => te σ H fun v H1 => ∃ a C fI x, v = .ref a ∧ XC K C fI ∧ XAt H1 a C x ∧ Q x H1
section
variable {X : Cx} {pins : List (Addr × Obj)} {σ : L2.St} {H : Hp} {s : Shared} {a C fI : Addr} {x : V}
theorem xat_look (I : Inv X pins σ H s) (h : XAt H a C x) : ∃ (ox od : Obj) (u : Value), PySem.W.InstAt s.heap a ox C (some od) ∧ PySem.W.lookIn "value" od = some (some u) ∧ RelV x u := by
  obtain ⟨d, h1, h2⟩ := h
  obtain ⟨t1, ho⟩ := exo_at I.hok h1
  obtain ⟨mA, hn, rel⟩ := exd_at I.hok h2
  obtain ⟨od, e1, e2⟩ := lookIn_ns hn
  have r := rel "value"
  rw [show List.lookup ("value" : Str) [(("value" : Str), x)] = some x by simp [List.lookup]] at r
  obtain ⟨u, eu, ru⟩ := RelO.some_of r
  exact ⟨_, od, u, ⟨ho, rfl, rfl, e1⟩, by rw [e2, eu], ru⟩
theorem pe_val {e : Expr} {te : TE} {pos : Pos} (he : PE X e te) (hb : attributeBase e "value" X.env (eval e X.env) = eval e X.env) : PE X (.Attribute e "value" pos) (tVal X.K te) := by
  refine ⟨fun pins s σ H Q I h => ?_⟩
  refine attr_of hb (thn (he.run pins s σ H _ I h) fun u s1 ⟨v, H1, I1, rx, a, C, fI, x, ex, c, hx, q⟩ => ?_)
  subst ex
  obtain rfl : u = Value.ref a := rx
  obtain ⟨ox, od, w, J, l, r⟩ := xat_look I1 hx
  exact PySem.HandSPX.exc_get I1.kIn J c.ga c.gt c.sb (PySem.W.findObj_own c.hd c.noV rfl l) (handed_of r) ⟨x, H1, I1.tok _, r, q⟩
/-- isinstance(e, c), e an exception that is kept -/
def rIsX (K : PySem.W.Frag) : List V → Hp → VK → Prop := fun xs H Q => ∃ (a C fI : Addr) (x c : V) (cv : Value) (b : Bool), xs = [.ref a, c] ∧ XC K C fI ∧ XAt H a C x ∧ (∀ u, RelV c u → u = cv) ∧ PySem.W.kitOne K (.ref C) cv = some b ∧ Q (.bl b) H
theorem call_isX : CallR X (.builtin "isinstance") (rIsX X.K) := by
  intro pins s σ H xs us Q I r h
  obtain ⟨a, C, fI, x, c, cv, b, rfl, k, hx, hcv, e, q⟩ := h
  cases r with
  | cons ra rr =>
    cases rr with
    | cons rc rr =>
      cases rr
      cases ra
      obtain rfl := hcv _ rc
      obtain ⟨ox, od, w, J, _⟩ := xat_look I hx
      exact PySem.W.kia_one (PySem.W.kitx_exc k.cl k.ga k.gt k.sb k.ca k.ng k.tk k.mr) I.kIn J e (fun z => nomatch z) fun tk => ⟨.bl b, H, I.kept (t' := tk) fun _ _ z => z, rfl, q⟩
end
/-! ### C(x), C(value = x) -/
def tMk (C : Addr) (ta : TA) : TE := fun σ H Q => ta σ H fun vs H1 => ∃ x, vs = [x] ∧ ∀ a H2, H1 a = none → Ex H1 H2 → XAt H2 a C x → Q (.ref a) H2
section
variable {X : Cx} {CX : CXT} {k : Nat} {fI C : Addr} {fd : FuncData} {x : Str} {p pos : Pos} {e : Expr} {es : List Expr} {kws : List Keyword} {ta tk : TA} {g : List Value → List Value → List Value} {gV : List V → List V → List V}
theorem made {H : Hp} {a : Addr} {v : V} {Q : VK} (n : H a = none) (q : ∀ a H2, H a = none → Ex H H2 → XAt H2 a C v → Q (.ref a) H2) :
    ∀ d, upd H a (exo a C none) d = none → d ≠ a → (V.non = .non ∧ Q (.ref a) (upd (upd (upd H a (exo a C none)) d (exd d [("value", v)])) a (exo a C (some d)))) := fun d hd ne => by
  have hd0 : H d = none := by rwa [upd_ne ne] at hd
  refine ⟨rfl, q a _ n ?_ ⟨d, upd_same, by rw [upd_ne ne, upd_same]⟩⟩
  exact ((Ex.new n).trans (Ex.new hd)).mut n
theorem run_mk {pins : List (Addr × Obj)} {σ : L2.St} {H : Hp} {s : Shared} {Q : VK} {us ws : List Value} {ks : List Str} {v : V} (T : XC X.K C fI) (F1 : FnOk X.prog X.w X.K X.mg X.base CX k fI fd ["self", "value"] (sp_init X.K)) (hr : Room (k + 1) X.A)
    (hx : Passes CX X (fun _ _ _ => False)) (I : Inv X pins σ H s) (hl : us.length ≤ sizeLine)
    (bd : ∀ (s : Shared) (u : Value), X.K.In s.heap → BindsTo s fd ⟨u :: us, ks.zip ws⟩ ((["self", "value"] : List Str).zip (g (u :: us) ws))) (rel : ∀ (y : V) (u : Value), RelV y u → Vals [y, v] (g (u :: us) ws))
    (h : ∀ a H2, H a = none → Ex H H2 → XAt H2 a C v → Q (.ref a) H2) : wpAny (model X.prog X.w) X.A (call (.ref C) us (ks.zip ws)) (EP X pins σ Q) X.xe s := by
  obtain ⟨nm, q, N, bs, bm, sn, sub, ab, col, dd, k0, k1, k2, k3, k5, hC, hbm⟩ := T.ox.cls
  obtain ⟨hp, g1, dr, tk, os⟩ := s
  have hsz : hp.objs.size ≤ hp.objs.size + 1 := Nat.le_succ _
  have hn : H (hp.objs.size + 1) = none := I.hok.fresh hsz
  have get : ((hp.push (PySem.W.kdv_tup us)).push (PySem.HandSPX.excO C hp.objs.size)).get? (hp.objs.size + 1) = some (PySem.HandSPX.excO C hp.objs.size) := by heap_get
  have I2 : Inv X pins σ (upd H (hp.objs.size + 1) (exo (hp.objs.size + 1) C none)) ⟨(hp.push (PySem.W.kdv_tup us)).push (PySem.HandSPX.excO C hp.objs.size), g1, dr, tk, os⟩ :=
    I.laid (t' := tk) (a := hp.objs.size + 1) (fun b o z => Heap.get?_push_of_some _ (Heap.get?_push_of_some _ z)) hsz (exo_ok get)
  have vals := rel (V.ref (hp.objs.size + 1)) (Value.ref (hp.objs.size + 1)) rfl
  refine wpAny_call (PySem.M2.call_kw F.excBase_ValueError (fun Y => PySem.HandSPX.refsVE_contains Y bm hbm) (I.kIn _ _ hC) (PySem.W.looks_findIn I.kIn T.ini) (fun self => PySem.W.bind_fn I.kIn self T.fn) hl
    (codeAny_mono (F1.run _ X.stack _ _ ⟨Value.ref (hp.objs.size + 1) :: us, ks.zip ws⟩ (g (Value.ref (hp.objs.size + 1) :: us) ws) [V.ref (hp.objs.size + 1), v] (fun r H2 => r = .non ∧ Q (.ref (hp.objs.size + 1)) H2) (fun _ _ _ => False) (hr.make C us (ks.zip ws)) (I2.env0.make C us (ks.zip ws))
      (bd _ _ I2.kIn) vals ⟨_, C, fI, v, rfl, T, upd_same, made hn h⟩) fun r s' hq' => ?_))
  cases r with
  | error er => exact hx pins σ _ _ er s' I2 hq'
  | ok fl =>
    cases fl with
    | ret u =>
      obtain ⟨v2, H', I3, rv, ev, q3⟩ := I2.after hq'
      subst ev
      exact ⟨rv, ⟨V.ref (hp.objs.size + 1), H', I3, rfl, q3⟩⟩
    | next => exact False.elim hq'
    | brk => exact False.elim hq'
    | cont => exact False.elim hq'
theorem pe_mk (T : XC X.K C fI) (F1 : FnOk X.prog X.w X.K X.mg X.base CX k fI fd ["self", "value"] (sp_init X.K)) (hr : Room (k + 1) X.A) (hb : Binds X.K fd ["self", "value"] []) (hx : Passes CX X (fun _ _ _ => False)) (hg : Gl X x) (hm : X.mg x = some (.ref C))
    (ha : PA X (e :: es) ta) (hdb : (x == ("__debug__" : Str)) = false := by decide) (he : starEach (e :: es) X.env = (false, eval e X.env) :: starEach es X.env := by rfl) (hpl : (backTo pos (starEach es X.env)).any (·.1) = false := by rfl) :
    PE X (.Call (.Name x p) (e :: es) [] pos) (tMk C ta) := by
  refine ⟨fun pins s σ H Q I h => ?_⟩
  refine wpAny_Call_Name_kw (ld_glob I hg hm ?_ hdb)
  refine PySem.W.callWith_K (h₀ := X.base) I.ok.mod.kin T.ox.kC (thn (ha.run pos pins s σ H _ I h) fun us s1 ⟨vs, H1, I1, r1, v, ev, q1⟩ => ⟨I1.kIn, ?_⟩) he hpl
  subst ev
  obtain ⟨u, rfl, ru⟩ := vals1 r1
  exact run_mk (ks := []) (ws := []) (g := fun us _ => us) T F1 hr hx I1 (Nat.le_trans (Nat.le_refl 1) (by decide)) (fun s y X' => by have z := hb s [y, u] X' rfl; rw [List.append_nil] at z; exact z) (fun y w ry => .cons ry (.cons ru .nil)) q1
theorem pe_mkK (T : XC X.K C fI) (F1 : FnOk X.prog X.w X.K X.mg X.base CX k fI fd ["self", "value"] (sp_init X.K)) (hr : Room (k + 1) X.A) (hb : ∀ (s : Shared) (u y : Value), X.K.In s.heap → BindsTo s fd ⟨[u], [("value", y)]⟩ [("self", u), ("value", y)]) (hx : Passes CX X (fun _ _ _ => False)) (hg : Gl X x) (hm : X.mg x = some (.ref C))
    (hkw : PK X kws tk) (hall : (backToKw pos (keywordEach kws X.env)).all (·.1.isSome) = true := by rfl) (hks : (backToKw pos (keywordEach kws X.env)).filterMap (·.1) = [("value" : Str)] := by rfl)
    (hdb : (x == ("__debug__" : Str)) = false := by decide) (hpl : ((backTo pos (starEach [] X.env)).any (·.1) || (backToKw pos (keywordEach kws X.env)).any (·.1.isNone)) = false := by rfl) :
    PE X (.Call (.Name x p) [] kws pos) (tMk C tk) := by
  refine ⟨fun pins s σ H Q I h => ?_⟩
  refine wpAny_Call_Name_kw (ld_glob I hg hm (PySem.W.callWith_KW0 (h₀ := X.base) I.ok.mod.kin T.ox.kC hall (thn (hkw.run pos pins s σ H _ I h) ?_) hpl) hdb)
  rintro ws s2 ⟨zs, H2, I2, rz, v, ev, q2⟩
  subst ev
  obtain ⟨u, rfl, ru⟩ := vals1 rz
  refine ⟨I2.kIn, ?_⟩
  rw [hks]
  exact run_mk (us := []) (ks := [("value" : Str)]) (ws := [u]) (g := fun us ws => us ++ ws) T F1 hr hx I2 (Nat.zero_le _) (fun s y X' => hb s y u X') (fun y w ry => .cons ry (.cons ru .nil)) q2
end
end M
namespace M
open PySem L2 Evl
open PyProof.Rows hiding St
/-! ### lists of such, made of the def's first name -/
def tMs (C : Addr) : TE := fun σ H Q => ∃ x, σ[0]? = some (some x) ∧ ∀ a H2, Ex H H2 → XAt H2 a C x → Q (.ref a) H2
def XAll (H : Hp) (x : V) : List V → List Addr → Prop
  | [], [] => True
  | v :: vs, c :: cs => (∃ a, v = .ref a ∧ XAt H a c x) ∧ XAll H x vs cs
  | _, _ => False
theorem XAll.up {H H' : Hp} {x : V} (e : Ex H H') : ∀ {vs : List V} {cs : List Addr}, XAll H x vs cs → XAll H' x vs cs
  | [], [], h => h
  | v :: vs, c :: cs, ⟨⟨a, h1, h2⟩, t⟩ => ⟨⟨a, h1, h2.up e⟩, XAll.up e t⟩
  | [], _ :: _, h => h.elim
  | _ :: _, [], h => h.elim
theorem XAll.len {H : Hp} {x : V} : ∀ {vs : List V} {cs : List Addr}, XAll H x vs cs → vs.length = cs.length
  | [], [], _ => rfl
  | v :: vs, c :: cs, ⟨_, t⟩ => by rw [List.length_cons, List.length_cons, XAll.len t]
  | [], _ :: _, h => h.elim
  | _ :: _, [], h => h.elim
theorem XAll.app {H : Hp} {x : V} : ∀ {vs ws : List V} {cs ds : List Addr}, XAll H x vs cs → XAll H x ws ds → XAll H x (vs ++ ws) (cs ++ ds)
  | [], _, [], _, _, h => h
  | v :: vs, _, c :: cs, _, ⟨h, t⟩, g => ⟨h, XAll.app t g⟩
  | [], _, _ :: _, _, h, _ => h.elim
  | _ :: _, _, [], _, h, _ => h.elim
theorem XAll.at {H : Hp} {x : V} : ∀ {vs : List V} {cs : List Addr}, XAll H x vs cs → ∀ {i : Nat} {c : Addr}, cs[i]? = some c → ∃ a, vs[i]? = some (.ref a) ∧ XAt H a c x
  | [], [], _, i, c, e => by simp at e
  | v :: vs, c :: cs, ⟨⟨a, h1, h2⟩, t⟩, 0, c', e => by
    simp at e
    subst e
    exact ⟨a, by rw [h1]; rfl, h2⟩
  | v :: vs, c :: cs, ⟨_, t⟩, i + 1, c', e => by
    obtain ⟨a, h1, h2⟩ := XAll.at t (i := i) (c := c') (by simpa using e)
    exact ⟨a, by simpa using h1, h2⟩
  | [], _ :: _, h, _, _, _ => h.elim
  | _ :: _, [], h, _, _, _ => h.elim
def tMsL (cs : List Addr) : TA := fun σ H Q => ∃ x, σ[0]? = some (some x) ∧ ∀ vs H2, Ex H H2 → XAll H2 x vs cs → Q vs H2
def tMl (cs : List Addr) : TE := fun σ H Q => ∃ x, σ[0]? = some (some x) ∧ ∀ l vs H2, Ex H H2 → H l = none → H2 l = some (.lst vs) → XAll H2 x vs cs → Q (.ref l) H2
section
variable {X : Cx} {e : Expr} {es : List Expr} {c : Addr} {cs : List Addr} {pos : Pos}
theorem pm_one (h : PE X e (tMk c (tCons (tVar 0) tNil))) : PE X e (tMs c) := pe_weakQ h fun σ H Q ⟨x, e, k⟩ => ⟨x, e, x, rfl, fun a H2 _ x2 ha => k a H2 x2 ha⟩
theorem pm_nil : PA X [] (tMsL []) := pa_weak pa_nil fun σ H Q ⟨x, e, k⟩ => k [] H (Ex.refl _) trivial
theorem pm_cons (he : PE X e (tMs c)) (hr : PA X es (tMsL cs)) (hs : starEach (e :: es) X.env = (false, eval e X.env) :: starEach es X.env := by rfl) : PA X (e :: es) (tMsL (c :: cs)) :=
  pa_weak (pa_cons he hr hs) fun σ H Q ⟨x, e, k⟩ => ⟨x, e, fun a H1 x1 ha => ⟨x, e, fun vs H2 x2 hvs => k _ H2 (x1.trans x2) ⟨⟨a, rfl, ha.up x2⟩, hvs⟩⟩⟩
theorem pm_lst (h : PA X es (tMsL cs)) (hl : cs.length ≤ 1000 := by exact Nat.le_of_ble_eq_true rfl) : PE X (.List es pos) (tMl cs) :=
  pe_weakQ (pe_lst h) fun σ H Q ⟨x, e, k⟩ => ⟨x, e, fun vs H1 x1 hvs => ⟨by rw [hvs.len]; exact Nat.le_trans hl (by decide), fun l hn => k l vs _ (x1.trans (Ex.new hn)) (fresh_back x1 hn) upd_same (hvs.up (Ex.new hn))⟩⟩
end
def sp_made (cs : List Addr) : Sp := fun vs H Q _ => ∃ (x : V) (b : Bool), vs = [x, .bl b] ∧ ∀ l vs H', Ex H H' → H l = none → H' l = some (.lst vs) → XAll H' x vs cs → Q (.ref l) H'
/-- of which classes -/
def dues (i n : Nat) : List V := (List.range n).map fun (j : Nat) => .bl (decide (i = j))
def sp_kinds (cs : List Addr) : Sp := fun vs H Q _ => ∃ (a c : Addr) (i : Nat) (x : V), vs = [.ref a] ∧ cs[i]? = some c ∧ XAt H a c x ∧ ∀ l H', Ex H H' → H' l = some (.lst (dues i 11)) → Q (.ref l) H'
/-! ### the thing -/
def lstB : PyData → Bool
  | .list _ => true
  | _ => false
theorem k_nl : kitB "NoneType" "list" = some false := by decide +kernel
theorem k_bl2 : kitB "bool" "list" = some false := by decide +kernel
theorem k_il : kitB "int" "list" = some false := by decide +kernel
theorem k_sl : kitB "str" "list" = some false := by decide +kernel
theorem k_dl : kitB "dict" "list" = some false := by decide +kernel
theorem isLst (d : PyData) : kitB (tyN d) "list" = some (lstB d) := by
  cases d with
  | list ds => exact k_ll
  | none => exact k_nl
  | bool b => exact k_bl2
  | int b => exact k_il
  | str b => exact k_sl
  | tuple b => exact k_tl
  | dict b => exact k_dl
def sp_thing (K : PySem.W.Frag) : Sp := fun vs H Q _ => ∃ (H0 : Hp) (p : Addr) (m : Nat), vs = [.ref p] ∧ Pl H0 H p m ∧ m + 10 ≤ 2 ^ 20 ∧
  ∀ (v : V) (d : PyData) (H1 H' : Hp), Ex H0 H1 → Pl H1 H' p (m + 4) → Da K H' v d → Shw d →
    (lstB d = false ∧ Da K H1 v d ∨ ∃ (l : Addr) (ns : List Nat), v = .ref l ∧ d = .list (ns.map fun (n : Nat) => .int n) ∧ H' l = some (.lst (ns.map fun (n : Nat) => V.int n)) ∧ H1 l = none ∧ l ≠ p ∧ ns.length ≤ 1 ∧ ∀ n ∈ ns, n < 9) → Q v H'
end M
namespace M
open PySem L2 Evl
open PyProof.Rows hiding St
/-- two such lists, one behind the other -/
theorem cat_made {H1 H2 : Hp} {x : V} {l1 l2 : Addr} {vs1 vs2 : List V} {c1 c2 : List Addr} {Q : VK} (x2 : Ex H1 H2) (e1 : H1 l1 = some (.lst vs1)) (e2 : H2 l2 = some (.lst vs2)) (h1 : XAll H1 x vs1 c1) (h2 : XAll H2 x vs2 c2) (hl : c1.length + c2.length ≤ 100)
    (k : ∀ l vs H', Ex H1 H' → H1 l = none → H' l = some (.lst vs) → XAll H' x vs (c1 ++ c2) → Q (.ref l) H') : rCat (.ref l1) (.ref l2) H2 Q := by
  refine ⟨l1, l2, vs1, vs2, rfl, rfl, x2 _ _ e1, e2, ?_, fun p hp => ?_⟩
  · rw [h1.len, h2.len]
    exact Nat.le_trans hl (by decide)
  · exact k p _ _ (x2.trans (Ex.new hp)) (fresh_back x2 hp) upd_same (XAll.app (h1.up (x2.trans (Ex.new hp))) (h2.up (Ex.new hp)))
end M
namespace M
open PySem L2 Evl
open PyProof.Rows hiding St
theorem log_small {i : Int} (h : i.natAbs < 2 ^ 200) : i.natAbs.log2 < 1920 := by
  by_cases e : i.natAbs = 0
  · rw [e]; decide
  · exact Nat.lt_of_lt_of_le ((Nat.log2_lt e).mpr h) (by decide)
theorem shw_int {i : Int} (h : i.natAbs < 2 ^ 200) : Shw (.int i) := ⟨decide_eq_true (log_small h), rfl, Nat.zero_le _, int_text_fits (log_small h)⟩
theorem shw_non : Shw .none := ⟨rfl, rfl, by decide, by decide +kernel⟩
theorem shw_any : Shw (.tuple [.str "any"]) := ⟨by decide +kernel, by decide +kernel, by decide +kernel, by decide +kernel⟩
theorem leaf_of (s : String) : PyData.leavesShort 8 (.str (Str.ofString s)) = true := by
  show ((Str.ofString s).cps.toList.all fun c => decide (c < 16 ^ 8)) = true
  rw [Str.ofString_eq_toList, List.all_eq_true]
  intro c hc
  simp only [List.mem_map] at hc
  obtain ⟨ch, _, rfl⟩ := hc
  have := ch.valid
  apply decide_eq_true
  have h2 : ch.toNat < 0x110000 := by
    rcases ch.valid with h | h
    · exact Nat.lt_of_lt_of_le h (by decide)
    · exact h.2
  omega
theorem shw_row {i : Int} (h0 : 0 ≤ i) (h : i < 99) : Shw (.str ("row " ++ Str.ofString (toString i))) := by
  have hl : ("row " ++ Str.ofString (toString i) : Str).cps.size ≤ 110 := by
    have e : ("row " ++ Str.ofString (toString i) : Str).cps.size = 4 + (Str.ofString (toString i)).cps.size := by
      show (("row " : Str).cps ++ (Str.ofString (toString i)).cps).size = _
      rw [Array.size_append]
      rfl
    have := len_str_of_int i
    have e2 : (Str.ofString (toString i)).length = (Str.ofString (toString i)).cps.size := rfl
    omega
  refine ⟨rfl, rfl, Nat.zero_le _, PyData.shown_fits_bulk (B := 8) (by decide) (by decide) ?_ ?_⟩
  · show (("row " : Str).cps ++ (Str.ofString (toString i)).cps).toList.all _ = true
    rw [Array.toList_append, List.all_append]
    have h1 := leaf_of "row "
    have h2 := leaf_of (toString i)
    simp only [PyData.leavesShort] at h1 h2
    rw [h1, h2]; rfl
  · rw [PyData.bulk]; omega
theorem shw_l0 : Shw (.list []) := ⟨by decide +kernel, by decide +kernel, by decide +kernel, by decide +kernel⟩
theorem shw_l1 : ∀ n : Fin 9, Shw (.list [.int (n.val : Nat)]) := by
  have h1 : ∀ n : Fin 9, (PyData.list [.int (n.val : Nat)]).shown.length ≤ 100 := by decide +kernel
  have h2 : ∀ n : Fin 9, (PyData.list [.int (n.val : Nat)]).showable = true := by decide +kernel
  exact fun n => ⟨h2 n, rfl, Nat.le_of_ble_eq_true rfl, Nat.le_trans (h1 n) (by decide)⟩
theorem shw_l2 : ∀ n m : Fin 9, Shw (.list [.int (n.val : Nat), .int (m.val : Nat)]) := by
  have h1 : ∀ n m : Fin 9, (PyData.list [.int (n.val : Nat), .int (m.val : Nat)]).shown.length ≤ 100 := by decide +kernel
  have h2 : ∀ n m : Fin 9, (PyData.list [.int (n.val : Nat), .int (m.val : Nat)]).showable = true := by decide +kernel
  exact fun n m => ⟨h2 n m, rfl, Nat.le_of_ble_eq_true rfl, Nat.le_trans (h1 n m) (by decide)⟩
end M
namespace M
open PySem L2 Evl
open PyProof.Rows hiding St
theorem XAt.touch {H : Hp} {a c l : Addr} {x : V} {xs : List V} {o : HO} (h : XAt H a c x) (e : H l = some (.lst xs)) : XAt (upd H l o) a c x := by
  obtain ⟨d, h1, h2⟩ := h
  have n1 : a ≠ l := fun z => by
    rw [z, e] at h1
    have z2 := Option.some.inj h1
    exact absurd (show HO.ext _ = HO.lst xs from z2.symm) (fun y => nomatch y)
  have n2 : d ≠ l := fun z => by
    rw [z, e] at h2
    have z2 := Option.some.inj h2
    exact absurd (show HO.ext _ = HO.lst xs from z2.symm) (fun y => nomatch y)
  exact ⟨d, by rw [upd_ne n1]; exact h1, by rw [upd_ne n2]; exact h2⟩
theorem XAll.touch {H : Hp} {x : V} {l : Addr} {xs : List V} {o : HO} (e : H l = some (.lst xs)) : ∀ {vs : List V} {cs : List Addr}, XAll H x vs cs → XAll (upd H l o) x vs cs
  | [], [], h => h
  | v :: vs, c :: cs, ⟨⟨a, h1, h2⟩, t⟩ => ⟨⟨a, h1, h2.touch e⟩, XAll.touch e t⟩
  | [], _ :: _, h => h.elim
  | _ :: _, [], h => h.elim
def dueD (i n : Nat) : List PyData := (List.range n).map fun (j : Nat) => .bool (decide (i = j))
theorem dp_dues (K : PySem.W.Frag) (H : Hp) (i : Nat) : ∀ l : List Nat, DpAll K H (l.map fun (j : Nat) => .bl (decide (i = j))) (l.map fun (j : Nat) => .bool (decide (i = j)))
  | [] => .nil
  | j :: l => .cons (.bl _) (dp_dues K H i l)
theorem due_ok (i : Nat) : SeqAt.shaped (.list (dueD i 11)) = true ∧ PyData.eqv (.list (dueD i 11)) (.list (dueD i 11)) = true := by
  have h : ∀ l : List Nat, PyData.canLayAll0 (l.map fun (j : Nat) => PyData.bool (decide (i = j))) = true ∧ PyData.depthAll (l.map fun (j : Nat) => PyData.bool (decide (i = j))) = 0 := fun l => by
    induction l with
    | nil => exact ⟨rfl, rfl⟩
    | cons j l ih => exact ⟨by simp only [List.map_cons, PyData.canLayAll0, ih.1]; rfl, by simp only [List.map_cons, PyData.depthAll, ih.2]; rfl⟩
  obtain ⟨h1, h2⟩ := h (List.range 11)
  have lay : (PyData.list (dueD i 11)).canLay0 = true := by rw [PyData.canLay0]; exact h1
  refine ⟨?_, SeqAt.eqv_refl _ lay⟩
  unfold SeqAt.shaped
  rw [lay, PyData.depth]
  unfold dueD
  rw [h2]
  decide
theorem dues_succ (i j : Nat) : dues i (j + 1) = dues i j ++ [.bl (decide (i = j))] := by
  unfold dues
  rw [List.range_succ, List.map_append]
  rfl
theorem dues_len (i j : Nat) : (dues i j).length = j := by simp [dues]
theorem dec_at (i j : Nat) : decide (V.int (0 + (i : Int)) = V.int (0 + (j : Int))) = decide (i = j) := by
  by_cases h : i = j
  · subst h; simp
  · have : ¬ (V.int (0 + (i : Int)) = V.int (0 + (j : Int))) := fun z => by
      injection z with z
      omega
    rw [decide_eq_false this, decide_eq_false h]
theorem da_dp : ∀ {d : PyData}, d.hasDict = false → (!d.hasDict || lf d) = true := fun h => by rw [h]; rfl
end M
namespace M
open PySem L2 Evl
open PyProof.Rows hiding St
theorem XAt.keep {H H' : Hp} {a c p : Addr} {x : V} {xs : List V} (h : XAt H a c x) (e : H p = some (.lst xs)) (k : ∀ b, b ≠ p → H' b = H b) : XAt H' a c x := by
  obtain ⟨d, h1, h2⟩ := h
  have n1 : a ≠ p := fun z => by
    rw [z, e] at h1
    exact absurd (show HO.ext _ = HO.lst xs from (Option.some.inj h1).symm) (fun y => nomatch y)
  have n2 : d ≠ p := fun z => by
    rw [z, e] at h2
    exact absurd (show HO.ext _ = HO.lst xs from (Option.some.inj h2).symm) (fun y => nomatch y)
  exact ⟨d, by rw [k a n1]; exact h1, by rw [k d n2]; exact h2⟩
theorem XAll.keep {H H' : Hp} {x : V} {p : Addr} {xs : List V} (e : H p = some (.lst xs)) (k : ∀ b, b ≠ p → H' b = H b) : ∀ {vs : List V} {cs : List Addr}, XAll H x vs cs → XAll H' x vs cs
  | [], [], h => h
  | v :: vs, c :: cs, ⟨⟨a, h1, h2⟩, t⟩ => ⟨⟨a, h1, h2.keep e k⟩, XAll.keep e k t⟩
  | [], _ :: _, h => h.elim
  | _ :: _, [], h => h.elim
theorem das_ns (K : PySem.W.Frag) (H : Hp) : ∀ ns : List Nat, Das K H (ns.map fun (n : Nat) => V.int n) (ns.map fun (n : Nat) => PyData.int n)
  | [] => .nil
  | n :: ns => .cons (.int _) (das_ns K H ns)
theorem shw_ns {ns : List Nat} {j : Nat} (hf : ns.length ≤ 1) (hs : ∀ n ∈ ns, n < 9) (hj : j < 9) : Shw (.list ((ns ++ [j]).map fun (n : Nat) => .int n)) := by
  match ns, hf, hs with
  | [], _, _ => exact shw_l1 ⟨j, hj⟩
  | [n], _, hs => exact shw_l2 ⟨n, hs n (List.mem_singleton.mpr rfl)⟩ ⟨j, hj⟩
  | _ :: _ :: _, h, _ => simp at h
end M
namespace M
open PySem L2 Evl
open PyProof.Rows hiding St
def kitChk (K : PySem.W.Frag) (cs : List Addr) : Bool := cs.zipIdx.all fun p => cs.zipIdx.all fun q => PySem.W.kitOne K (.ref p.1) (.ref q.1) == some (decide (p.2 = q.2 ∨ q.2 = 11))
def kitChkV (K : PySem.W.Frag) (cs : List Addr) : Bool := cs.all fun c => PySem.W.kitOne K (.ref c) (.type "ValueError") == some true
theorem kit_of {K : PySem.W.Frag} {cs : List Addr} (h : kitChk K cs = true) (i j : Nat) (c d : Addr) (hi : cs[i]? = some c) (hj : cs[j]? = some d) : PySem.W.kitOne K (.ref c) (.ref d) = some (decide (i = j ∨ j = 11)) := by
  unfold kitChk at h
  have m1 : (c, i) ∈ cs.zipIdx := List.mem_zipIdx_iff_getElem?.mpr hi
  have m2 : (d, j) ∈ cs.zipIdx := List.mem_zipIdx_iff_getElem?.mpr hj
  have h1 := List.all_eq_true.mp h _ m1
  have h2 := List.all_eq_true.mp h1 _ m2
  exact beq_iff_eq.mp h2
theorem kitV_of {K : PySem.W.Frag} {cs : List Addr} (h : kitChkV K cs = true) (i : Nat) (c : Addr) (hi : cs[i]? = some c) : PySem.W.kitOne K (.ref c) (.type "ValueError") = some true := by
  unfold kitChkV at h
  exact beq_iff_eq.mp (List.all_eq_true.mp h _ (List.mem_of_getElem? hi))
theorem twelve {K : PySem.W.Frag} {f c0 c1 c2 c3 c4 c5 c6 c7 c8 c9 c10 c11 : Addr} (h0 : XC K c0 f) (h1 : XC K c1 f) (h2 : XC K c2 f) (h3 : XC K c3 f) (h4 : XC K c4 f) (h5 : XC K c5 f) (h6 : XC K c6 f) (h7 : XC K c7 f) (h8 : XC K c8 f) (h9 : XC K c9 f) (h10 : XC K c10 f) (h11 : XC K c11 f)
    (i : Nat) (c : Addr) (h : [c0, c1, c2, c3, c4, c5, c6, c7, c8, c9, c10, c11][i]? = some c) : XC K c f := by
  have m := List.mem_of_getElem? h
  simp only [List.mem_cons, List.not_mem_nil, or_false] at m
  rcases m with rfl | rfl | rfl | rfl | rfl | rfl | rfl | rfl | rfl | rfl | rfl | rfl <;> assumption
end M
end

section
set_option Elab.async false
set_option linter.all false
set_option maxRecDepth 100000
/-! what rows let, and tables of it -/
namespace M
open PySem L2 Evl
open PyProof.Rows hiding St
/-- does the row let it -/
def lt : Qn → List Nat → Bool
  | .any, _ => true
  | .no q, r => !lt q r
  | .both a b, r => lt a r && lt b r
  | .some a c b, r => (List.range r.length).any fun i => decide (r[i]? = some c) && (lt a (r.take i) && lt b (r.drop (i + 1)))
/-- a stretch of a row -/
def st (r : List Nat) (s e : Nat) : List Nat := (r.take e).drop s
theorem st_len {r : List Nat} {s e : Nat} (h : e ≤ r.length) : (st r s e).length = e - s := by
  unfold st
  rw [List.length_drop, List.length_take, Nat.min_eq_left h]
theorem st_get {r : List Nat} {s e j : Nat} (h : s + j < e) : (st r s e)[j]? = r[s + j]? := by
  unfold st
  rw [List.getElem?_drop, List.getElem?_take, if_pos h]
theorem st_take {r : List Nat} {s e j : Nat} (h : s + j ≤ e) : (st r s e).take j = st r s (s + j) := by
  unfold st
  rw [List.take_drop, List.take_take, Nat.min_eq_left h]
theorem st_drop {r : List Nat} {s e j : Nat} : (st r s e).drop j = st r (s + j) e := by
  unfold st
  rw [List.drop_drop]
theorem st_all (r : List Nat) : st r 0 r.length = r := by
  unfold st
  simp
theorem lt_some {r : List Nat} {a b : Qn} {c s e : Nat} (h : e ≤ r.length) : lt (.some a c b) (st r s e) = true ↔ ∃ i, s ≤ i ∧ i < e ∧ r[i]? = some c ∧ lt a (st r s i) = true ∧ lt b (st r (i + 1) e) = true := by
  simp only [lt, List.any_eq_true, List.mem_range, Bool.and_eq_true, decide_eq_true_eq]
  rw [st_len h]
  constructor
  · rintro ⟨j, hj, h1, h2, h3⟩
    have hj2 : s + j < e := by omega
    rw [st_get hj2] at h1
    rw [st_take (Nat.le_of_lt hj2)] at h2
    rw [st_drop] at h3
    exact ⟨s + j, by omega, hj2, h1, h2, h3⟩
  · rintro ⟨i, h0, h1, h2, h3, h4⟩
    obtain ⟨j, rfl⟩ : ∃ j, i = s + j := ⟨i - s, by omega⟩
    refine ⟨j, by omega, ?_, ?_, ?_⟩
    · rw [st_get h1]; exact h2
    · rw [st_take (Nat.le_of_lt h1)]; exact h3
    · rw [st_drop]; exact h4
/-- the table of a question for a row: for each start the bits of the ends -/
def IsTab (r : List Nat) (q : Qn) (ts : List Nat) : Prop := ts.length = r.length + 1 ∧ ∀ s t, ts[s]? = some t → ∀ e, t.testBit e = (decide (s ≤ e ∧ e ≤ r.length) && lt q (st r s e))
def wholeT (n : Nat) : List Nat := (List.range (n + 1)).map fun s => 2 ^ (n + 1) - 2 ^ s
theorem whole_bit {n s e : Nat} (h : s ≤ n) : (2 ^ (n + 1) - 2 ^ s).testBit e = decide (s ≤ e ∧ e ≤ n) := by
  have e1 : 2 ^ (n + 1) - 2 ^ s = 2 ^ s * (2 ^ (n + 1 - s) - 1) := by
    rw [Nat.mul_sub, Nat.mul_one, ← Nat.pow_add]
    congr 2
    omega
  rw [e1, Nat.testBit_two_pow_mul, Nat.testBit_two_pow_sub_one]
  by_cases h1 : s ≤ e
  · simp only [ge_iff_le, h1, decide_true, Bool.true_and, true_and]
    congr 1
    apply propext
    omega
  · simp [h1]
theorem whole_tab (r : List Nat) : IsTab r .any (wholeT r.length) := by
  refine ⟨by simp [wholeT], fun s t h e => ?_⟩
  unfold wholeT at h
  rw [List.getElem?_map] at h
  obtain ⟨s', h1, h2⟩ := Option.map_eq_some_iff.mp h
  obtain ⟨h3, h4⟩ := List.getElem?_eq_some_iff.mp h1
  rw [List.getElem_range] at h4
  rw [List.length_range] at h3
  subst h4
  rw [← h2, whole_bit (by omega)]
  simp [lt]
theorem zip_at {f : Nat → Nat → Nat} {a b : List Nat} {s t : Nat} (h : (List.zipWith f a b)[s]? = some t) : ∃ x y, a[s]? = some x ∧ b[s]? = some y ∧ f x y = t := by
  rw [List.getElem?_zipWith] at h
  split at h
  · rename_i x y hx hy
    cases h
    exact ⟨x, y, hx, hy, rfl⟩
  · cases h
theorem not_tab {r : List Nat} {q : Qn} {ts : List Nat} (h : IsTab r q ts) : IsTab r (.no q) (List.zipWith (· ^^^ ·) (wholeT r.length) ts) := by
  obtain ⟨w1, w2⟩ := whole_tab r
  refine ⟨by rw [List.length_zipWith, w1, h.1, Nat.min_self], fun s t ht e => ?_⟩
  obtain ⟨x, y, hx, hy, rfl⟩ := zip_at ht
  rw [Nat.testBit_xor, w2 s x hx e, h.2 s y hy e]
  simp only [lt, Bool.and_true]
  cases decide (s ≤ e ∧ e ≤ r.length) <;> simp
theorem both_tab {r : List Nat} {a b : Qn} {ts us : List Nat} (h : IsTab r a ts) (g : IsTab r b us) : IsTab r (.both a b) (List.zipWith (· &&& ·) ts us) := by
  refine ⟨by rw [List.length_zipWith, h.1, g.1, Nat.min_self], fun s t ht e => ?_⟩
  obtain ⟨x, y, hx, hy, rfl⟩ := zip_at ht
  rw [Nat.testBit_and, h.2 s x hx e, g.2 s y hy e]
  simp only [lt]
  cases decide (s ≤ e ∧ e ≤ r.length) <;> simp
/-- places below p are done, and of the place p the starts below u -/
def Part (r : List Nat) (a : Qn) (c : Nat) (b : Qn) (p u : Nat) (ts : List Nat) : Prop := ts.length = r.length + 1 ∧ ∀ s t, ts[s]? = some t → ∀ e, t.testBit e = true ↔ (s ≤ e ∧ e ≤ r.length ∧ ∃ i, (i < p ∨ (i = p ∧ s < u)) ∧ s ≤ i ∧ i < e ∧ r[i]? = some c ∧ lt a (st r s i) = true ∧ lt b (st r (i + 1) e) = true)
theorem part0 (r : List Nat) (a : Qn) (c : Nat) (b : Qn) : Part r a c b 0 0 (List.replicate (r.length + 1) 0) := by
  refine ⟨by simp, fun s t h e => ?_⟩
  rw [List.getElem?_replicate] at h
  split at h
  · cases h
    simp
  · cases h
theorem part_end {r : List Nat} {a b : Qn} {c : Nat} {ts : List Nat} (h : Part r a c b r.length 0 ts) : IsTab r (.some a c b) ts := by
  refine ⟨h.1, fun s t ht e => ?_⟩
  have h1 := h.2 s t ht e
  apply Bool.eq_iff_iff.mpr
  rw [h1, Bool.and_eq_true, decide_eq_true_eq]
  constructor
  · rintro ⟨e1, e2, i, _, g1, g2, g3, g4, g5⟩
    exact ⟨⟨e1, e2⟩, (lt_some e2).mpr ⟨i, g1, g2, g3, g4, g5⟩⟩
  · rintro ⟨⟨e1, e2⟩, g⟩
    obtain ⟨i, g1, g2, g3, g4, g5⟩ := (lt_some e2).mp g
    exact ⟨e1, e2, i, .inl (by omega), g1, g2, g3, g4, g5⟩
/-- a place with another letter -/
theorem part_skip {r : List Nat} {a b : Qn} {c p : Nat} {ts : List Nat} (h : Part r a c b p 0 ts) (hp : r[p]? ≠ some c) : Part r a c b (p + 1) 0 ts := by
  refine ⟨h.1, fun s t ht e => (h.2 s t ht e).trans ?_⟩
  constructor
  · rintro ⟨e1, e2, i, hi, g⟩
    exact ⟨e1, e2, i, .inl (by omega), g⟩
  · rintro ⟨e1, e2, i, hi, g1, g2, g3, g⟩
    refine ⟨e1, e2, i, ?_, g1, g2, g3, g⟩
    by_cases z : i = p
    · subst z
      exact absurd g3 hp
    · exact .inl (by omega)
/-- all starts of a place are done -/
theorem part_next {r : List Nat} {a b : Qn} {c p : Nat} {ts : List Nat} (h : Part r a c b p (p + 1) ts) : Part r a c b (p + 1) 0 ts := by
  refine ⟨h.1, fun s t ht e => (h.2 s t ht e).trans ?_⟩
  constructor
  · rintro ⟨e1, e2, i, hi, g⟩
    exact ⟨e1, e2, i, .inl (by omega), g⟩
  · rintro ⟨e1, e2, i, hi, g1, g⟩
    refine ⟨e1, e2, i, ?_, g1, g⟩
    omega
/-- a start at which what stands ahead does not let -/
theorem part_no {r : List Nat} {a b : Qn} {c p u : Nat} {ts : List Nat} (h : Part r a c b p u ts) (hn : lt a (st r u p) = false) : Part r a c b p (u + 1) ts := by
  refine ⟨h.1, fun s t ht e => (h.2 s t ht e).trans ?_⟩
  constructor
  · rintro ⟨e1, e2, i, hi, g⟩
    exact ⟨e1, e2, i, by omega, g⟩
  · rintro ⟨e1, e2, i, hi, g1, g2, g3, g4, g5⟩
    refine ⟨e1, e2, i, ?_, g1, g2, g3, g4, g5⟩
    rcases hi with hi | ⟨rfl, hi⟩
    · exact .inl hi
    · by_cases z : s = u
      · subst z
        rw [hn] at g4; cases g4
      · exact .inr ⟨rfl, by omega⟩
theorem part_yes {r : List Nat} {a b : Qn} {c p u : Nat} {ts us : List Nat} {t y : Nat} (h : Part r a c b p u ts) (hb : IsTab r b us) (hc : r[p]? = some c) (hu : u ≤ p) (ha : lt a (st r u p) = true) (ht : ts[u]? = some t) (hy : us[p + 1]? = some y) :
    Part r a c b p (u + 1) (ts.set u (t ||| y)) := by
  refine ⟨by rw [List.length_set]; exact h.1, fun s t' ht' e => ?_⟩
  have by_ := hb.2 _ _ hy e
  have hp : p < r.length := (List.getElem?_eq_some_iff.mp hc).1
  by_cases z : s = u
  · subst z
    have e0 : t ||| y = t' := by
      rw [List.getElem?_set_self (List.getElem?_eq_some_iff.mp ht).1] at ht'
      exact Option.some.inj ht'
    subst e0
    rw [Nat.testBit_or, Bool.or_eq_true, h.2 s t ht e, by_, Bool.and_eq_true, decide_eq_true_eq]
    constructor
    · rintro (⟨e1, e2, i, hi, g⟩ | ⟨⟨e1, e2⟩, g⟩)
      · exact ⟨e1, e2, i, by omega, g⟩
      · exact ⟨by omega, e2, p, .inr ⟨rfl, by omega⟩, hu, by omega, hc, ha, g⟩
    · rintro ⟨e1, e2, i, hi, g1, g2, g3, g4, g5⟩
      rcases hi with hi | ⟨rfl, hi⟩
      · exact .inl ⟨e1, e2, i, .inl hi, g1, g2, g3, g4, g5⟩
      · exact .inr ⟨⟨by omega, e2⟩, g5⟩
  · rw [List.getElem?_set_ne (Ne.symm z)] at ht'
    refine (h.2 s t' ht' e).trans ?_
    constructor
    · rintro ⟨e1, e2, i, hi, g⟩
      exact ⟨e1, e2, i, by omega, g⟩
    · rintro ⟨e1, e2, i, hi, g⟩
      exact ⟨e1, e2, i, by omega, g⟩
theorem tab_last {r : List Nat} {q : Qn} {ts : List Nat} {t : Nat} (h : IsTab r q ts) (ht : ts[0]? = some t) : t.testBit r.length = lt q r := by
  rw [h.2 0 t ht, st_all]
  simp
end M
end

section
set_option Elab.async false
set_option linter.all false
set_option maxRecDepth 100000
/-! what the defs about tables promise -/
namespace M
open PySem L2 Evl
open PyProof.Rows hiding St
def natV (ts : List Nat) : List V := ts.map fun (t : Nat) => V.int t
theorem natV_at {ts : List Nat} {s : Nat} {t : Nat} (h : ts[s]? = some t) : (natV ts)[s]? = some (V.int t) := by
  unfold natV
  rw [List.getElem?_map, h]
  rfl
theorem natV_len (ts : List Nat) : (natV ts).length = ts.length := by simp [natV]
theorem natV_inv {ts : List Nat} {s : Nat} {x : V} (h : (natV ts)[s]? = some x) : ∃ t, ts[s]? = some t ∧ x = .int (t : Nat) := by
  unfold natV at h
  rw [List.getElem?_map] at h
  obtain ⟨t, h1, h2⟩ := Option.map_eq_some_iff.mp h
  exact ⟨t, h1, h2.symm⟩
def codes (z : Str) : List Nat := z.cps.toList
theorem codes_len (z : Str) : (codes z).length = z.length := Array.length_toList
/-- the stretches of the row z, at x -/
def SAt (C : Addr) (H : Hp) (x : Addr) (z : Str) : Prop := ∃ (dx lw : Addr), H x = some (.ins C dx [(("row" : Str), V.str z), (("whole" : Str), V.ref lw)]) ∧ H lw = some (.lst (natV (wholeT z.length)))
theorem SAt.up {C : Addr} {H H' : Hp} {x : Addr} {z : Str} (h : SAt C H x z) (e : Ex H H') : SAt C H' x z := by
  obtain ⟨dx, lw, h1, h2⟩ := h
  exact ⟨dx, lw, e _ _ h1, e _ _ h2⟩
/-- a table at v -/
def TAt (H : Hp) (r : List Nat) (v : V) (q : Qn) : Prop := ∃ l ts, v = .ref l ∧ H l = some (.lst (natV ts)) ∧ IsTab r q ts
theorem TAt.up {H H' : Hp} {r : List Nat} {v : V} {q : Qn} (h : TAt H r v q) (e : Ex H H') : TAt H' r v q := by
  obtain ⟨l, ts, h1, h2, h3⟩ := h
  exact ⟨l, ts, h1, e _ _ h2, h3⟩
def TAll (H : Hp) (r : List Nat) : List V → List Qn → Prop
  | [], [] => True
  | v :: vs, q :: qs => TAt H r v q ∧ TAll H r vs qs
  | _, _ => False
theorem TAll.up {H H' : Hp} {r : List Nat} (e : Ex H H') : ∀ {vs : List V} {qs : List Qn}, TAll H r vs qs → TAll H' r vs qs
  | [], [], h => h
  | v :: vs, q :: qs, ⟨h, t⟩ => ⟨h.up e, TAll.up e t⟩
  | [], _ :: _, h => h.elim
  | _ :: _, [], h => h.elim
theorem TAll.len {H : Hp} {r : List Nat} : ∀ {vs : List V} {qs : List Qn}, TAll H r vs qs → vs.length = qs.length
  | [], [], _ => rfl
  | v :: vs, q :: qs, ⟨_, t⟩ => by rw [List.length_cons, List.length_cons, TAll.len t]
  | [], _ :: _, h => h.elim
  | _ :: _, [], h => h.elim
theorem TAll.app {H : Hp} {r : List Nat} : ∀ {vs ws : List V} {qs rs : List Qn}, TAll H r vs qs → TAll H r ws rs → TAll H r (vs ++ ws) (qs ++ rs)
  | [], _, [], _, _, h => h
  | v :: vs, _, q :: qs, _, ⟨h, t⟩, g => ⟨h, TAll.app t g⟩
  | [], _, _ :: _, _, h, _ => h.elim
  | _ :: _, _, [], _, h, _ => h.elim
theorem TAll.last {H : Hp} {r : List Nat} {q : Qn} : ∀ {vs : List V} {qs : List Qn}, TAll H r vs (qs ++ [q]) → ∃ x, vs[vs.length - 1]? = some x ∧ TAt H r x q ∧ TAll H r vs.dropLast qs
  | [v], [], ⟨h, _⟩ => ⟨v, rfl, h, trivial⟩
  | v :: w :: vs, p :: qs, ⟨h, t⟩ => by
    obtain ⟨x, e1, e2, e3⟩ := TAll.last (vs := w :: vs) t
    refine ⟨x, by simpa using e1, e2, ?_⟩
    rw [List.dropLast_cons₂]
    exact ⟨h, e3⟩
  | [], [], h => h.elim
  | [], _ :: _, h => h.elim
  | [v], _ :: qs, ⟨_, t⟩ => by
    have := TAll.len t
    simp at this
  | _ :: _ :: _, [], ⟨_, t⟩ => t.elim
def sp_check_row : Sp := fun vs H Q _ => ∃ z : Str, vs = [.str z] ∧ Abc z ∧ z.length ≤ 1000 ∧ ∀ H', Ex H H' → Q .non H'
def sp_holds : Sp := fun vs H Q _ => ∃ (l : Addr) (ts : List Nat) (s e t : Nat), vs = [.ref l, .int s, .int e] ∧ H l = some (.lst (natV ts)) ∧ ts[s]? = some t ∧ Q (.bl (t.testBit e)) H
def sp_sinit (K : PySem.W.Frag) (C : Addr) : Sp := fun vs H Q _ => ∃ (x dx : Addr) (z : Str), vs = [.ref x, .str z] ∧ H x = some (.ins C dx []) ∧ z.length ≤ 100 ∧ ∀ H', (∀ b o, b ≠ x → H b = some o → H' b = some o) → SAt C H' x z → Q .non H'
def sp_met (C : Addr) : Sp := fun vs H Q _ => ∃ (x l1 l2 : Addr) (z : Str) (c : Nat) (a b : Qn) (ts us : List Nat), vs = [.ref x, .ref l1, .str ⟨#[c]⟩, .ref l2] ∧ SAt C H x z ∧ z.length ≤ 100 ∧
  H l1 = some (.lst (natV ts)) ∧ IsTab (codes z) a ts ∧ H l2 = some (.lst (natV us)) ∧ IsTab (codes z) b us ∧ ∀ l tt H', Ex H H' → H l = none → H' l = some (.lst (natV tt)) → IsTab (codes z) (.some a c b) tt → Q (.ref l) H'
def sp_tpart (K : PySem.W.Frag) (C : Addr) : Sp := fun vs H Q _ => ∃ (H0 : Hp) (v : V) (q : Qn) (lt x : Addr) (z : Str) (xs : List V) (rest : List Qn), vs = [v, .ref lt, .ref x] ∧ Ex H0 H ∧ H0 lt = none ∧ Da K H0 v q.d ∧ q.Ok ∧ SAt C H0 x z ∧ z.length ≤ 100 ∧
  H lt = some (.lst xs) ∧ TAll H0 (codes z) xs (rest ++ q.kids.reverse) ∧
  ∀ (v' : V) (ys : List V) (H1 H' : Hp), Ex H0 H1 → Ex H1 H' → H1 lt = none → TAt H1 (codes z) v' q → H' lt = some (.lst ys) → TAll H1 (codes z) ys rest → (∀ b o, b ≠ lt → H b = some o → H' b = some o) → Q v' H'
def sp_table_of (K : PySem.W.Frag) (C : Addr) : Sp := fun vs H Q _ => ∃ (H0 : Hp) (v : V) (q : Qn) (x : Addr) (z : Str), vs = [v, .ref x] ∧ Ex H0 H ∧ Dp K H0 v q.d ∧ q.Ok ∧ q.parts ≤ 1000 ∧ SAt C H0 x z ∧ z.length ≤ 100 ∧
  ∀ (l : Addr) (ts : List Nat) (H' : Hp), Ex H H' → H' l = some (.lst (natV ts)) → IsTab (codes z) q ts → Q (.ref l) H'
def sp_row_lets (K : PySem.W.Frag) : Sp := fun vs H Q _ => ∃ (H0 : Hp) (v : V) (q : Qn) (z : Str), vs = [.str z, v] ∧ Ex H0 H ∧ Dp K H0 v q.d ∧ q.Ok ∧ q.parts ≤ 1000 ∧ Abc z ∧ z.length ≤ 100 ∧ ∀ H', Ex H H' → Q (.bl (lt q (codes z))) H'
def sp_law_lets (K : PySem.W.Frag) (n : Nat) : Sp := fun vs H Q _ => ∃ (H0 : Hp) (v : V) (q : Qn) (z : Str), vs = [.str z, v] ∧ Ex H0 H ∧ Da K H0 v q.d ∧ q.hi ≤ n ∧ z.length ≤ 100 ∧ ∀ H', Ex H H' → Q (.bl (lt q (codes z))) H'
def sp_line : Sp := fun vs H Q _ => ∃ (H0 : Hp) (p : Addr) (m n : Nat) (z : Str), vs = [.ref p, .str z, .int n] ∧ Pl H0 H p m ∧ m + n + 2 ≤ 2 ^ 20 ∧ n ≤ 60 ∧ Names z ∧ ∀ (w : Str) (H' : Hp), Pl H0 H' p (m + n + 2) → Abc w → w.length ≤ n → (∀ c ∈ w.cps.toList, c ∈ z.cps.toList) → Q (.str w) H'
theorem kb_two {K : PySem.W.Frag} {fd : FuncData} {x y : Str} (hb : ∀ (s : Shared) (u v : Value), BindsTo s fd ⟨[], [(x, u), (y, v)]⟩ [(y, v), (x, u)]) :
    KBinds K fd [y, x] [x, y] (fun us ws => match us, ws with | [], [w0, w1] => [w1, w0] | _, _ => []) (fun us ws => match us, ws with | [], [w0, w1] => [w1, w0] | _, _ => []) := by
  refine ⟨fun s us ws _ hl => ?_, fun {vs us zs ws} r1 r2 => ?_⟩
  · rcases us with _ | ⟨u, us⟩
    · rcases ws with _ | ⟨w0, _ | ⟨w1, _ | ⟨w2, ws⟩⟩⟩
      · exact nomatch hl
      · exact nomatch hl
      · exact hb s w0 w1
      · exact nomatch hl
    · exact nomatch hl
  · cases r1 with
    | nil =>
      cases r2 with
      | nil => exact .nil
      | cons a b =>
        cases b with
        | nil => exact .nil
        | cons c d =>
          cases d with
          | nil => exact .cons c (.cons a .nil)
          | cons e f => exact .nil
    | cons a b => exact .nil
theorem and_nat (a b : Nat) : Builtin.bitAnd (a : Int) (b : Int) = ((a &&& b : Nat) : Int) := rfl
theorem or_nat (a b : Nat) : Builtin.bitOr (a : Int) (b : Int) = ((a ||| b : Nat) : Int) := by rw [Bits.bitOr_pp (Int.natCast_nonneg a) (Int.natCast_nonneg b)]; rfl
theorem xor_nat (a b : Nat) : Builtin.bitXor (a : Int) (b : Int) = ((a ^^^ b : Nat) : Int) := by rw [Bits.bitXor_pp (Int.natCast_nonneg a) (Int.natCast_nonneg b)]; rfl
/-- (t >> e) & 1 is 1 -/
theorem bit_at (t e : Nat) : decide (V.int (Builtin.bitAnd ((t : Int) / 2 ^ ((e : Nat) : Int).toNat) 1) = V.int 1) = t.testBit e := by
  have e1 : ((t : Int) / 2 ^ ((e : Nat) : Int).toNat) = ((t / 2 ^ e : Nat) : Int) := by
    rw [Int.toNat_natCast]
    exact_mod_cast rfl
  have e2 : Builtin.bitAnd ((t / 2 ^ e : Nat) : Int) 1 = (((t / 2 ^ e) &&& 1 : Nat) : Int) := and_nat (t / 2 ^ e) 1
  rw [e1, e2, Nat.testBit_eq_decide_div_mod_eq, Nat.and_one_is_mod]
  apply Bool.eq_iff_iff.mpr
  rw [decide_eq_true_eq, decide_eq_true_eq]
  constructor
  · intro h
    injection h with h
    omega
  · intro h
    rw [h]
    rfl
end M
namespace M
open PySem L2 Evl
open PyProof.Rows hiding St
theorem whole_val {n j : Nat} (h : j ≤ n) : (1 * 2 ^ ((n : Int) + 1).toNat - 1 * 2 ^ (0 + (j : Int)).toNat : Int) = ((2 ^ (n + 1) - 2 ^ j : Nat) : Int) := by
  have e1 : ((n : Int) + 1).toNat = n + 1 := by omega
  have e2 : (0 + (j : Int)).toNat = j := by omega
  have le : 2 ^ j ≤ 2 ^ (n + 1) := Nat.pow_le_pow_right (by decide) (by omega)
  rw [e1, e2, Int.one_mul, Int.one_mul, Int.ofNat_sub le]
  rfl
def wholeU (n j : Nat) : List Nat := (List.range j).map fun s => 2 ^ (n + 1) - 2 ^ s
theorem wholeU_succ (n j : Nat) : natV (wholeU n (j + 1)) = natV (wholeU n j) ++ [V.int ((2 ^ (n + 1) - 2 ^ j : Nat) : Int)] := by
  unfold natV wholeU
  rw [List.range_succ, List.map_append, List.map_append]
  rfl
theorem wholeU_all (n : Nat) : wholeU n (n + 1) = wholeT n := rfl
theorem wholeU_len (n j : Nat) : (natV (wholeU n j)).length = j := by simp [natV, wholeU]
end M
namespace M
open PySem L2 Evl
open PyProof.Rows hiding St
theorem natV_set (ts : List Nat) (u w y : Nat) : (natV ts).set u (V.int (Builtin.bitOr (w : Int) (y : Int))) = natV (ts.set u (w ||| y)) := by
  unfold natV
  rw [or_nat, List.map_set]
end M
namespace M
open PySem L2 Evl
open PyProof.Rows hiding St
theorem natV_take {L : List Nat} {j v : Nat} (h : L[j]? = some v) : natV (L.take (j + 1)) = natV (L.take j) ++ [V.int (v : Nat)] := by
  obtain ⟨hj, e⟩ := List.getElem?_eq_some_iff.mp h
  rw [take_succ' hj, e]
  unfold natV
  rw [List.map_append]
  rfl
theorem zipw_get {f : Nat → Nat → Nat} {a b : List Nat} {j x y : Nat} (h1 : a[j]? = some x) (h2 : b[j]? = some y) : (List.zipWith f a b)[j]? = some (f x y) := by
  rw [List.getElem?_zipWith, h1, h2]
end M
namespace M
open PySem L2 Evl
open PyProof.Rows hiding St
theorem codes_cut1 {z : Str} {i : Nat} (h : i ≤ z.length) : codes (cutS z none (some (i : Nat))) = (codes z).take i := by
  have e1 : HT.sIx z.length 0 none = 0 := rfl
  have e2 : HT.sIx z.length z.length (some (i : Int)) = i := by rw [HT.sIx_nat]; exact Nat.min_eq_left h
  unfold codes cutS
  rw [e1, e2]
  simp
theorem codes_cut2 {z : Str} {i : Nat} (h : i ≤ z.length) : codes (cutS z (some ((i : Nat) : Int)) none) = (codes z).drop i := by
  have e1 : HT.sIx z.length 0 (some (i : Int)) = i := by rw [HT.sIx_nat]; exact Nat.min_eq_left h
  have e2 : HT.sIx z.length z.length none = z.length := rfl
  unfold codes cutS
  rw [e1, e2]
  have hl : z.cps.toList.length = z.length := Array.length_toList
  simp only [List.toList_toArray]
  apply List.take_of_length_le
  rw [List.length_drop, hl]
  exact Nat.le_refl _
theorem cut_len {z : Str} {lo hi : Option Int} : (cutS z lo hi).length ≤ z.length := by
  show ((z.cps.toList.drop _).take _).toArray.size ≤ _
  rw [List.size_toArray, List.length_take, List.length_drop]
  have hl : z.cps.toList.length = z.length := Array.length_toList
  omega
end M
namespace M
open PySem L2 Evl
open PyProof.Rows hiding St
theorem join_one : ∀ cs : List Nat, Str.join "" (cs.map fun c => (⟨#[c]⟩ : Str)) = ⟨cs.toArray⟩
  | [] => rfl
  | [c] => rfl
  | c :: c' :: cs => by
    have ih := join_one (c' :: cs)
    show (⟨#[c]⟩ : Str) ++ "" ++ Str.join "" ((c' :: cs).map fun c => (⟨#[c]⟩ : Str)) = _
    rw [ih]
    show (⟨(#[c] ++ #[]) ++ (c' :: cs).toArray⟩ : Str) = _
    congr 1
    apply Array.toList_inj.mp
    simp
theorem txt_one (cs : List Nat) : Txt.join "" (cs.map fun c => (⟨#[c]⟩ : Str)) = ⟨cs.toArray⟩ := by
  have : Txt.join "" (cs.map fun c => (⟨#[c]⟩ : Str)) = Str.join "" (cs.map fun c => (⟨#[c]⟩ : Str)) := PySem.StrLaws.glued_eq_join _ _
  rw [this, join_one]
def oneV (cs : List Nat) : List V := (cs.map fun c => (⟨#[c]⟩ : Str)).map V.str
theorem oneV_app (cs : List Nat) (c : Nat) : oneV (cs ++ [c]) = oneV cs ++ [V.str ⟨#[c]⟩] := by simp [oneV]
theorem oneV_len (cs : List Nat) : (oneV cs).length = cs.length := by simp [oneV]
end M
namespace M
open PySem L2 Evl
open PyProof.Rows hiding St
theorem names3 {k : Int} (h0 : 0 ≤ k) (h3 : k < 3) : ∃ z : Str, atI [V.str "ab", V.str "a", V.str "abc"] k = some (.str z) ∧ Names z := by
  have n1 : Names "ab" := ⟨by unfold Abc; decide +kernel, by decide +kernel, by decide +kernel⟩
  have n2 : Names "a" := ⟨by unfold Abc; decide +kernel, by decide +kernel, by decide +kernel⟩
  have n3 : Names "abc" := ⟨by unfold Abc; decide +kernel, by decide +kernel, by decide +kernel⟩
  rcases (by omega : k = 0 ∨ k = 1 ∨ k = 2) with rfl | rfl | rfl
  · exact ⟨_, rfl, n1⟩
  · exact ⟨_, rfl, n2⟩
  · exact ⟨_, rfl, n3⟩
def dbb2 (b : Bool) : PyData := .list [.bool b, .bool b]
theorem shw_dbb (b : Bool) : Shw (dbb2 b) := by cases b <;> exact ⟨by decide +kernel, by decide +kernel, by decide +kernel, by decide +kernel⟩
end M
namespace M
open PySem L2 Evl
open PyProof.Rows hiding St
theorem op_is_bl {X : Cx} : OpR X (compareOp .Is) (fun x y H Q => ∃ a b, x = .bl a ∧ y = .bl b ∧ Q (.bl (decide (a = b))) H) := by
  intro pins s σ H x y v u Q I rx ry h
  obtain ⟨a, b, rfl, rfl, q⟩ := h
  cases rx
  cases ry
  show wpAny _ _ ((isSame (Value.bool a) (Value.bool b)) >>= fun z => pure (Value.bool z)) _ _ s
  refine wpAny_bind (wpAny_isSame_plain rfl ?_)
  have e : (Value.bool a == Value.bool b) = decide (a = b) := by cases a <;> cases b <;> rfl
  rw [e]
  exact wpAny_pure ⟨.bl _, H, I, rfl, q⟩
end M
namespace M
open PySem L2 Evl
open PyProof.Rows hiding St
theorem iteOF {c : Bool} {A B : Prop} (h : c = false) (b : B) : if c = true then A else B := by subst h; exact b
theorem iteOT {c : Bool} {A B : Prop} (h : c = true) (a : A) : if c = true then A else B := by subst h; exact a
theorem no_same (q : Qn) (r : List Nat) : decide (V.bl (lt (.no q) r) = V.bl (lt q r)) = false := by
  have h : ∀ b : Bool, ¬ (V.bl (!b) = V.bl b) := fun b e => by
    injection e with e
    cases b <;> cases e
  exact decide_eq_false (h (lt q r))
theorem lt_both (a b : Qn) (r : List Nat) : lt (.both a b) r = (lt a r && lt b r) := rfl
theorem bl_ne_self (b : Bool) : (!decide (V.bl b = V.bl b)) = false := by simp
theorem bl_eq_self (b : Bool) : decide (V.bl b = V.bl b) = true := by simp
end M
end

section
set_option Elab.async false
set_option linter.all false
set_option maxRecDepth 100000
set_option maxHeartbeats 4000000
/-! defs that may raise an own exception; places where questions are met -/
namespace M
open PySem L2 Evl
open PyProof.Rows hiding St
section
variable {P : Program} {w : World} {K : PySem.W.Frag} {mg : Str → Option Value} {base : Heap} {k : Nat} {f : Addr} {fd : FuncData} {ps : List Str} {sp : Sp}
/-- where it raises nothing -/
theorem calmF (F : FnOk P w K mg base (L2.CX P w) k f fd ps sp) : FnOk P w K mg base CX0 k f fd ps (fun vs H Q _ => sp vs H Q (fun _ _ _ => False)) :=
  ⟨fun vs H Q E h => F.len vs H Q _ h, fun A outer s H args us vs Q E hr e b r h => codeAny_mono (F.run A outer s H args us vs Q _ hr e b r h) fun r s' q => by
    cases r with
    | ok fl => cases fl <;> exact q
    | error er =>
      obtain ⟨a, B, H', cls, d, _, _, _, _, _, _, _, hE⟩ := q
      exact hE.elim⟩
end
/-- isinstance(e, c) in the suite of except .. as e -/
def rIsS (K : PySem.W.Frag) (a : Addr) (cls : Value) (d : Option Addr) : List V → Hp → VK → Prop := fun xs H Q => ∃ (C fI dd : Addr) (fs : List (Str × V)) (c : V) (cv : Value) (b : Bool), xs = [.ref a, c] ∧ cls = .ref C ∧ XC K C fI ∧ d = some dd ∧ H dd = some (.xd fs) ∧
  (∀ u, RelV c u → u = cv) ∧ PySem.W.kitOne K (.ref C) cv = some b ∧ Q (.bl b) H
theorem call_isS {X : Cx} {a : Addr} {oe : Obj} {cls : Value} {d : Option Addr} {pn : List (Addr × Obj)} (hz : Zc cls d oe) (hf : ∃ vs, oe.data = .fields vs) : CallR (X.suite a ((a, oe) :: pn)) (.builtin "isinstance") (rIsS X.K a cls d) := by
  intro pins s σ H xs us Q I r h
  obtain ⟨C, fI, dd, fs, c, cv, b, rfl, ec, k, ed, ea, hcv, e, q⟩ := h
  subst ec
  subst ed
  cases r with
  | cons ra rr =>
    cases rr with
    | cons rc rr =>
      cases rr
      cases ra
      obtain rfl := hcv _ rc
      obtain ⟨ha, _⟩ := I.pin (a, oe) (List.mem_append_left _ List.mem_cons_self)
      obtain ⟨vs, hd⟩ := hf
      have hx : ObjOk X.prog X.w H s.heap dd (.xd fs) := I.hok dd _ ea
      obtain ⟨mA, hns, hr⟩ := hx
      obtain ⟨od, ho, hl⟩ := lookIn_ns hns
      have J : PySem.W.InstAt s.heap a oe C (some od) := ⟨ha, hz.1, by unfold PySem.W.notCls; rw [hd] <;> rfl, by rw [hz.2]; exact ho⟩
      exact PySem.W.kia_one (PySem.W.kitx_exc k.cl k.ga k.gt k.sb k.ca k.ng k.tk k.mr) I.kIn J e (fun z => nomatch z) fun tk => ⟨.bl b, H, I.kept (t' := tk) fun _ _ z => z, rfl, q⟩
end M
namespace M
open PySem L2 Evl
open PyProof.Rows hiding St
/-- the places below p at which it is met -/
def mets (a : Qn) (c : Nat) (b : Qn) (r : List Nat) (p : Nat) : List Nat := (List.range p).filter fun i => decide (r[i]? = some c) && (lt a (r.take i) && lt b (r.drop (i + 1)))
theorem mets_succ {a b : Qn} {c : Nat} {r : List Nat} {p : Nat} : mets a c b r (p + 1) = mets a c b r p ++ (if (decide (r[p]? = some c) && (lt a (r.take p) && lt b (r.drop (p + 1)))) = true then [p] else []) := by
  unfold mets
  rw [List.range_succ, List.filter_append]
  congr 1
  exact List.filter_cons
theorem mets_yes {a b : Qn} {c : Nat} {r : List Nat} {p : Nat} (h1 : r[p]? = some c) (h2 : lt a (r.take p) = true) (h3 : lt b (r.drop (p + 1)) = true) : mets a c b r (p + 1) = mets a c b r p ++ [p] := by
  rw [mets_succ, h1, h2, h3]; simp
theorem mets_no {a b : Qn} {c : Nat} {r : List Nat} {p : Nat} (h : ¬ (r[p]? = some c ∧ lt a (r.take p) = true ∧ lt b (r.drop (p + 1)) = true)) : mets a c b r (p + 1) = mets a c b r p := by
  rw [mets_succ, if_neg, List.append_nil]
  intro z
  simp only [Bool.and_eq_true, decide_eq_true_eq] at z
  exact h z
theorem mets_len {a b : Qn} {c : Nat} {r : List Nat} {p : Nat} : (mets a c b r p).length ≤ p := by
  have := List.length_filter_le (fun i => decide (r[i]? = some c) && (lt a (r.take i) && lt b (r.drop (i + 1)))) (List.range p)
  rw [List.length_range] at this
  exact this
theorem mets_lt {a b : Qn} {c : Nat} {r : List Nat} : lt (.some a c b) r = !(decide (mets a c b r r.length = [])) := by
  apply Bool.eq_iff_iff.mpr
  rw [Bool.not_eq_true', decide_eq_false_iff_not]
  unfold mets
  simp only [lt, List.any_eq_true, List.filter_eq_nil_iff]
  constructor
  · rintro ⟨i, h1, h2⟩ h
    exact h i h1 h2
  · intro h
    refine Classical.byContradiction fun g => h fun i hi hp => g ⟨i, hi, hp⟩
/-- all such lists -/
def subsQ : Nat → List (List Nat)
  | 0 => [[]]
  | n + 1 => subsQ n ++ (subsQ n).map (· ++ [n])
theorem mets_sub {a b : Qn} {c : Nat} {r : List Nat} : ∀ p, mets a c b r p ∈ subsQ p
  | 0 => by simp [mets, subsQ]
  | p + 1 => by
    have ih := mets_sub (a := a) (b := b) (c := c) (r := r) p
    rw [mets_succ, subsQ]
    split
    · exact List.mem_append.mpr (.inr (List.mem_map.mpr ⟨_, ih, rfl⟩))
    · rw [List.append_nil]
      exact List.mem_append.mpr (.inl ih)
theorem subsQ_le {n m : Nat} (h : n ≤ m) : ∀ x ∈ subsQ n, x ∈ subsQ m := by
  induction m with
  | zero => obtain rfl : n = 0 := by omega
            exact fun x h => h
  | succ m ih =>
    by_cases e : n = m + 1
    · subst e; exact fun x h => h
    · intro x hx
      rw [subsQ]
      exact List.mem_append.mpr (.inl (ih (by omega) x hx))
def dn (ns : List Nat) : PyData := .list (ns.map fun (n : Nat) => .int n)
def dn2 (ns : List Nat) : PyData := .list [dn ns, dn ns]
theorem shw_all : ((subsQ 8).all fun ns => (dn2 ns).showable && (!(dn2 ns).hasDict && (decide ((dn2 ns).depth ≤ 50) && decide ((dn2 ns).shown.length ≤ 200)))) = true := by decide +kernel
theorem shw_dn2 {ns : List Nat} (h : ns ∈ subsQ 8) : Shw (dn2 ns) := by
  have := List.all_eq_true.mp shw_all ns h
  simp only [Bool.and_eq_true, decide_eq_true_eq, Bool.not_eq_true'] at this
  exact ⟨this.1, this.2.1, this.2.2.1, Nat.le_trans this.2.2.2 (by decide)⟩
theorem dp_dn {K : PySem.W.Frag} {H : Hp} : ∀ {ns : List Nat}, DpAll K H (natV ns) (ns.map fun (n : Nat) => .int n)
  | [] => .nil
  | n :: ns => .cons (.int n) dp_dn
theorem dn_ok (ns : List Nat) : SeqAt.shaped (dn ns) = true ∧ PyData.eqv (dn ns) (dn ns) = true := by
  have h : ∀ l : List Nat, PyData.canLayAll0 (l.map fun (j : Nat) => PyData.int j) = true ∧ PyData.depthAll (l.map fun (j : Nat) => PyData.int j) = 0 := fun l => by
    induction l with
    | nil => exact ⟨rfl, rfl⟩
    | cons j l ih => exact ⟨by simp only [List.map_cons, PyData.canLayAll0, ih.1]; rfl, by simp only [List.map_cons, PyData.depthAll, ih.2]; rfl⟩
  obtain ⟨h1, h2⟩ := h ns
  have lay : (dn ns).canLay0 = true := by unfold dn; rw [PyData.canLay0]; exact h1
  refine ⟨?_, SeqAt.eqv_refl _ lay⟩
  unfold SeqAt.shaped
  rw [lay]
  unfold dn
  rw [PyData.depth, h2]
  decide
theorem dn_nil (ns : List Nat) : PyData.eqv (dn ns) (.list []) = decide (ns = []) := by
  cases ns with
  | nil => decide +kernel
  | cons n ns =>
    rw [decide_eq_false (by simp)]
    rfl
end M
namespace M
open PySem L2 Evl
open PyProof.Rows hiding St
def notSome : Qn → Bool
  | .some _ _ _ => false
  | _ => true
def sp_placesQ (K : PySem.W.Frag) (C : Addr) : Sp := fun vs H Q E => ∃ (H0 : Hp) (v : V) (q : Qn) (z : Str), vs = [.str z, v] ∧ Ex H0 H ∧ Dp K H0 v q.d ∧ q.Ok ∧ q.parts ≤ 1000 ∧ Abc z ∧ z.length ≤ 100 ∧
  ((∃ a c b, q = .some a c b ∧ ∀ l H', Ex H H' → H l = none → H' l = some (.lst (natV (mets a c b (codes z) (codes z).length))) → Q (.ref l) H') ∨
   (notSome q = true ∧ ∀ d H', Ex H H' → H' d = some (.xd [("value", v)]) → E (.ref C) (some d) H'))
def sp_caught (K : PySem.W.Frag) : Sp := fun vs H Q _ => ∃ (H0 : Hp) (v : V) (q : Qn) (z : Str), vs = [.str z, v] ∧ Ex H0 H ∧ Dp K H0 v q.d ∧ q.Ok ∧ q.parts ≤ 60 ∧ Abc z ∧ z.length ≤ 100 ∧ notSome q = true ∧
  ∀ l H', Ex H H' → H' l = some (.lst [.bl true, .bl true]) → Q (.ref l) H'
end M
namespace M
open PySem L2 Evl
open PyProof.Rows hiding St
theorem op_eqS {X : Cx} {a : Addr} {pn : List (Addr × Obj)} (hu : X.A.units + 64 < cLine) : OpR (X.suite a pn) (compareOp .Eq) (rEqD X.K) := op_eqD (X := X.suite a pn) hu
end M
end

section
set_option Elab.async false
set_option linter.all false
set_option maxRecDepth 100000
/-! patterns of letters, rows without letters, what the texts' own words say of them -/
namespace M
open PySem L2 Evl
open PyProof.Rows hiding St
def pat (cs : List Nat) : Qn := cs.foldl (fun q c => Qn.some q c .any) .any
def bareQ (cs : List Nat) : Qn := cs.foldl (fun q c => Qn.both q (.no (.some .any c .any))) .any
theorem pat_snoc (cs : List Nat) (c : Nat) : pat (cs ++ [c]) = .some (pat cs) c .any := by simp [pat]
theorem bare_snoc (cs : List Nat) (c : Nat) : bareQ (cs ++ [c]) = .both (bareQ cs) (.no (.some .any c .any)) := by simp [bareQ]
theorem some_take {a b : Qn} {c : Nat} {r : List Nat} : lt (.some a c b) r = true ↔ ∃ i, r[i]? = some c ∧ lt a (r.take i) = true ∧ lt b (r.drop (i + 1)) = true := by
  simp only [lt, List.any_eq_true, List.mem_range, Bool.and_eq_true, decide_eq_true_eq]
  constructor
  · rintro ⟨i, _, h⟩; exact ⟨i, h⟩
  · rintro ⟨i, h⟩; exact ⟨i, (List.getElem?_eq_some_iff.mp h.1).1, h⟩
def grd (ls : List Nat) (r : List Nat) : Nat := r.foldl (fun a c => if a < ls.length ∧ ls[a]? = some c then a + 1 else a) 0
theorem grd_snoc (ls r : List Nat) (x : Nat) : grd ls (r ++ [x]) = if grd ls r < ls.length ∧ ls[grd ls r]? = some x then grd ls r + 1 else grd ls r := by
  unfold grd
  rw [List.foldl_append]
  rfl
theorem grd_le (ls : List Nat) (r : List Nat) : ∀ p, p ≤ r.length → grd ls (r.take p) ≤ ls.length
  | 0, _ => by simp [grd]
  | p + 1, h => by
    have ih := grd_le ls r p (by omega)
    rw [take_succ' (show p < r.length by omega), grd_snoc]
    split <;> omega
theorem pat_take (ls r : List Nat) : ∀ p, p ≤ r.length → ∀ k, k ≤ ls.length → (lt (pat (ls.take k)) (r.take p) = true ↔ k ≤ grd ls (r.take p))
  | p, hp, 0, _ => by simp [pat, lt]
  | 0, _, k + 1, hk => by
    rw [take_succ' (show k < ls.length by omega), pat_snoc]
    simp [lt, grd]
  | p + 1, hp, k + 1, hk => by
    have ihp := pat_take ls r p (by omega)
    have step : lt (pat (ls.take (k + 1))) (r.take (p + 1)) = true ↔ lt (pat (ls.take (k + 1))) (r.take p) = true ∨ (r[p]? = some (ls[k]'(by omega)) ∧ lt (pat (ls.take k)) (r.take p) = true) := by
      rw [take_succ' (show k < ls.length by omega), pat_snoc, some_take, some_take]
      constructor
      · rintro ⟨i, h1, h2, _⟩
        have hi : i < p + 1 := by
          have := (List.getElem?_eq_some_iff.mp h1).1
          rw [List.length_take] at this
          omega
        rw [List.getElem?_take, if_pos hi] at h1
        rw [List.take_take, Nat.min_eq_left (by omega)] at h2
        by_cases e : i = p
        · subst e; exact .inr ⟨h1, h2⟩
        · refine .inl ⟨i, ?_, ?_, rfl⟩
          · rw [List.getElem?_take, if_pos (by omega)]; exact h1
          · rw [List.take_take, Nat.min_eq_left (by omega)]; exact h2
      · rintro (⟨i, h1, h2, _⟩ | ⟨h1, h2⟩)
        · have hi : i < p := by
            have := (List.getElem?_eq_some_iff.mp h1).1
            rw [List.length_take] at this
            omega
          rw [List.getElem?_take, if_pos hi] at h1
          rw [List.take_take, Nat.min_eq_left (by omega)] at h2
          refine ⟨i, ?_, ?_, rfl⟩
          · rw [List.getElem?_take, if_pos (by omega)]; exact h1
          · rw [List.take_take, Nat.min_eq_left (by omega)]; exact h2
        · refine ⟨p, ?_, ?_, rfl⟩
          · rw [List.getElem?_take, if_pos (by omega)]; exact h1
          · rw [List.take_take, Nat.min_eq_left (by omega)]; exact h2
    have hpx : p < r.length := by omega
    rw [step, ihp (k + 1) hk, ihp k (by omega), take_succ' hpx, grd_snoc, List.getElem?_eq_getElem hpx]
    have gl := grd_le ls r p (by omega)
    generalize grd ls (r.take p) = g at *
    constructor
    · rintro (h | ⟨h1, h2⟩)
      · split <;> omega
      · by_cases e : k = g
        · subst e
          rw [if_pos ⟨by omega, by rw [List.getElem?_eq_getElem (by omega)]; exact h1.symm⟩]
          omega
        · split <;> omega
    · intro h
      split at h
      · rename_i c
        by_cases e : k = g
        · subst e
          obtain ⟨c1, c2⟩ := c
          rw [List.getElem?_eq_getElem c1] at c2
          exact .inr ⟨c2.symm, Nat.le_refl _⟩
        · exact .inl (by omega)
      · exact .inl h
theorem pat_grd (ls r : List Nat) : lt (pat ls) r = decide (grd ls r = ls.length) := by
  have h := pat_take ls r r.length (Nat.le_refl _) ls.length (Nat.le_refl _)
  have g := grd_le ls r r.length (Nat.le_refl _)
  rw [List.take_length, List.take_length] at h
  rw [List.take_length] at g
  apply Bool.eq_iff_iff.mpr
  rw [h, decide_eq_true_eq]
  omega
theorem grd_rep (n c : Nat) (r : List Nat) : ∀ p, p ≤ r.length → grd (List.replicate n c) (r.take p) = min n ((r.take p).count c)
  | 0, _ => by simp [grd]
  | p + 1, h => by
    have ih := grd_rep n c r p (by omega)
    rw [take_succ' (show p < r.length by omega), grd_snoc, ih, List.count_append, List.length_replicate]
    generalize (r.take p).count c = m
    generalize r[p] = x
    rw [List.getElem?_replicate]
    by_cases e : x = c
    · subst e
      simp only [List.count_singleton_self]
      by_cases hm : m < n
      · rw [if_pos ⟨by omega, by rw [if_pos (by omega)]⟩]; omega
      · rw [if_neg (by omega)]; omega
    · have e2 : List.count c [x] = 0 := by
        rw [List.count_cons]
        simp [e]
      rw [e2, if_neg]
      · omega
      · rintro ⟨h1, h2⟩
        rw [if_pos h1] at h2
        exact e (Option.some.inj h2).symm
theorem pat_rep (n c : Nat) (r : List Nat) : lt (pat (List.replicate n c)) r = decide (n ≤ r.count c) := by
  have g := grd_rep n c r r.length (Nat.le_refl _)
  rw [List.take_length] at g
  rw [pat_grd, g, List.length_replicate]
  apply decide_eq_decide.mpr
  omega
theorem bare_all (r : List Nat) : ∀ (cs : List Nat) (q : Qn), lt (cs.foldl (fun q c => Qn.both q (.no (.some .any c .any))) q) r = true ↔ lt q r = true ∧ ∀ c ∈ cs, c ∉ r
  | [], q => by simp
  | c :: cs, q => by
    rw [List.foldl_cons, bare_all r cs]
    have e : lt (.no (.some .any c .any)) r = true ↔ c ∉ r := by
      simp only [lt, Bool.not_eq_true', ← Bool.not_eq_true]
      apply not_congr
      have := some_take (a := .any) (b := .any) (c := c) (r := r)
      simp only [lt] at this
      rw [this, List.mem_iff_getElem?]
      simp
    have e2 : lt (.both q (.no (.some .any c .any))) r = true ↔ lt q r = true ∧ c ∉ r := by
      rw [← e]; simp only [lt, Bool.and_eq_true]
    rw [e2]
    simp only [List.mem_cons, forall_eq_or_imp, and_assoc]
theorem bare_nil {cs r : List Nat} (h : ∀ x ∈ r, x ∈ cs) : lt (bareQ cs) r = true ↔ r = [] := by
  unfold bareQ
  rw [bare_all]
  constructor
  · rintro ⟨_, h2⟩
    cases r with
    | nil => rfl
    | cons x r => exact absurd (List.mem_cons_self) (h2 x (h x List.mem_cons_self))
  · rintro rfl
    exact ⟨rfl, fun c _ => by simp⟩
theorem bare_is {cs r : List Nat} (h : ∀ x ∈ r, x ∈ cs) : lt (bareQ cs) r = decide (r = []) := by
  apply Bool.eq_iff_iff.mpr
  rw [bare_nil h, decide_eq_true_eq]
theorem starts {cs r : List Nat} {c : Nat} (h : ∀ x ∈ r, x ∈ cs) : lt (.some (bareQ cs) c .any) r = decide (r[0]? = some c) := by
  apply Bool.eq_iff_iff.mpr
  rw [some_take, decide_eq_true_eq]
  constructor
  · rintro ⟨i, h1, h2, _⟩
    rw [bare_nil (fun x hx => h x (List.mem_of_mem_take hx))] at h2
    have hi := (List.getElem?_eq_some_iff.mp h1).1
    have := congrArg List.length h2
    rw [List.length_take, List.length_nil] at this
    obtain rfl : i = 0 := by omega
    exact h1
  · intro h1
    exact ⟨0, h1, (bare_nil (fun x hx => h x (List.mem_of_mem_take hx))).mpr (by simp), rfl⟩
theorem ends_iff {cs r : List Nat} {c : Nat} (h : ∀ x ∈ r, x ∈ cs) : lt (.some .any c (bareQ cs)) r = true ↔ r[r.length - 1]? = some c := by
  rw [some_take]
  constructor
  · rintro ⟨i, h1, _, h2⟩
    rw [bare_nil (fun x hx => h x (List.mem_of_mem_drop hx))] at h2
    have hi := (List.getElem?_eq_some_iff.mp h1).1
    have := congrArg List.length h2
    rw [List.length_drop, List.length_nil] at this
    obtain rfl : i = r.length - 1 := by omega
    exact h1
  · intro h1
    have hi := (List.getElem?_eq_some_iff.mp h1).1
    refine ⟨_, h1, rfl, (bare_nil (fun x hx => h x (List.mem_of_mem_drop hx))).mpr ?_⟩
    apply List.drop_eq_nil_of_le
    omega
theorem ends_is {cs r : List Nat} {c : Nat} (h : ∀ x ∈ r, x ∈ cs) : lt (.some .any c (bareQ cs)) r = decide (r[r.length - 1]? = some c) := by
  apply Bool.eq_iff_iff.mpr
  rw [ends_iff h, decide_eq_true_eq]
theorem near_iff {cs r : List Nat} {c m : Nat} (h : ∀ x ∈ r, x ∈ cs) : lt (.some (.some .any c (bareQ cs)) m .any) r = true ↔ ∃ i, r[i]? = some c ∧ r[i + 1]? = some m := by
  rw [some_take]
  constructor
  · rintro ⟨j, h1, h2, _⟩
    rw [ends_iff (fun x hx => h x (List.mem_of_mem_take hx))] at h2
    have hj := (List.getElem?_eq_some_iff.mp h1).1
    have hl : (r.take j).length = j := by rw [List.length_take]; omega
    have hj2 := (List.getElem?_eq_some_iff.mp h2).1
    rw [hl] at h2 hj2
    rw [List.getElem?_take, if_pos hj2] at h2
    refine ⟨j - 1, h2, ?_⟩
    rw [show j - 1 + 1 = j by omega]
    exact h1
  · rintro ⟨i, h1, h2⟩
    refine ⟨i + 1, h2, ?_, rfl⟩
    have hj := (List.getElem?_eq_some_iff.mp h2).1
    rw [ends_iff (fun x hx => h x (List.mem_of_mem_take hx))]
    have hl : (r.take (i + 1)).length = i + 1 := by rw [List.length_take]; omega
    rw [hl, List.getElem?_take, if_pos (by omega)]
    exact h1
/-! ### texts -/
theorem str_starts (x : Str) (c : Nat) : Txt.startswith x ⟨#[c]⟩ = decide ((codes x)[0]? = some c) := by
  have h := PySem.StrLaws.subAt_one x c 0
  apply Bool.eq_iff_iff.mpr
  rw [decide_eq_true_eq]
  unfold codes
  rw [← h]
  unfold Txt.startswith
  rw [Bool.and_eq_true, decide_eq_true_eq]
theorem str_ends (x : Str) (c : Nat) : Txt.endswith x ⟨#[c]⟩ = decide ((codes x)[(codes x).length - 1]? = some c) := by
  have h := PySem.StrLaws.subAt_one x c (x.length - 1)
  apply Bool.eq_iff_iff.mpr
  rw [decide_eq_true_eq, codes_len]
  unfold codes
  rw [← h]
  unfold Txt.endswith
  rw [Bool.and_eq_true, decide_eq_true_eq]
  have e : (⟨#[c]⟩ : Str).length = 1 := rfl
  rw [e]
  constructor
  · rintro ⟨h1, h2⟩; exact ⟨by omega, h2⟩
  · rintro ⟨h1, h2⟩; exact ⟨by omega, h2⟩
theorem str_in2 (x : Str) (c m : Nat) : (!(Builtin.Str.occurrences x ⟨#[c, m]⟩ 0 x.length 1).isEmpty) = true ↔ ∃ i, (codes x)[i]? = some c ∧ (codes x)[i + 1]? = some m := by
  rw [PySem.StrLaws.found_iff]
  have e : (⟨#[c, m]⟩ : Str).length = 2 := rfl
  have key : ∀ i, (i + (⟨#[c, m]⟩ : Str).length ≤ x.length ∧ Builtin.Str.subAt x ⟨#[c, m]⟩ i = true) ↔ ((codes x)[i]? = some c ∧ (codes x)[i + 1]? = some m) := fun i => by
    rw [PySem.StrLaws.subAt_eq, e]
    show (_ ∧ (((codes x).drop i).take 2 == [c, m]) = true) ↔ _
    rw [beq_iff_eq, ← codes_len]
    generalize codes x = r
    have g0 : r[i]? = (r.drop i)[0]? := by rw [List.getElem?_drop]; rfl
    have g1 : r[i + 1]? = (r.drop i)[1]? := by rw [List.getElem?_drop]
    have gl : i + 2 ≤ r.length ↔ 2 ≤ (r.drop i).length := by rw [List.length_drop]; omega
    rw [g0, g1, gl]
    match r.drop i with
    | [] => simp
    | [a] => simp
    | a :: b :: l => simp
  constructor
  · rintro ⟨i, h⟩; exact ⟨i, (key i).mp h⟩
  · rintro ⟨i, h⟩; exact ⟨i, (key i).mpr h⟩
theorem none_at {r : List Nat} {c : Nat} : ∀ (n a : Nat), (∀ k, a ≤ k → k < a + n → r[k]? ≠ some c) → (r.drop a).count c = (r.drop (a + n)).count c
  | 0, a, _ => rfl
  | n + 1, a, h => by
    have ih := none_at n (a + 1) (fun k h1 h2 => h k (by omega) (by omega))
    rw [show a + (n + 1) = a + 1 + n by omega, ← ih]
    by_cases ha : a < r.length
    · rw [List.drop_eq_getElem_cons ha, List.count_cons]
      have h1 := h a (Nat.le_refl _) (by omega)
      rw [List.getElem?_eq_getElem ha] at h1
      have h2 : ¬ (r[a] == c) = true := fun z => h1 (by rw [eq_of_beq z])
      rw [if_neg h2, Nat.add_zero]
    · rw [List.drop_eq_nil_of_le (by omega), List.drop_eq_nil_of_le (by omega)]
theorem chain_count {x : Str} {c : Nat} : ∀ (os : List Nat) (a f : Nat), PySem.StrLaws.ChainG x ⟨#[c]⟩ x.length a os f → (∀ k, f ≤ k → ¬ PySem.StrLaws.At x ⟨#[c]⟩ x.length k) → os.length = ((codes x).drop a).count c
  | [], a, f, h, hn => by
    obtain rfl : f = a := h
    have z := none_at (r := codes x) (c := c) (codes x).length f (fun k h1 _ h2 => hn k h1 ((PySem.StrLaws.subAt_one x c k).mpr h2))
    rw [z, List.drop_eq_nil_of_le (by omega)]
    rfl
  | o :: os, a, f, h, hn => by
    obtain ⟨h1, h2, h3, h4⟩ := h
    have ih := chain_count os (o + 1) f h4 hn
    have hc : (codes x)[o]? = some c := (PySem.StrLaws.subAt_one x c o).mp h2
    obtain ⟨ho, e⟩ := List.getElem?_eq_some_iff.mp hc
    have z := none_at (r := codes x) (c := c) (o - a) a (fun k k1 k2 k3 => h3 k k1 (by omega) ((PySem.StrLaws.subAt_one x c k).mpr k3))
    rw [z, show a + (o - a) = o by omega, List.drop_eq_getElem_cons ho, e, List.count_cons_self, ← ih]
    rfl
theorem str_count (x : Str) (c : Nat) : Txt.count x ⟨#[c]⟩ = (((codes x).count c : Nat) : Int) := by
  obtain ⟨f, g, hn⟩ := PySem.StrLaws.occ_tight x ⟨#[c]⟩ (Nat.le_refl 1)
  have := chain_count _ 0 f g hn
  rw [List.drop_zero] at this
  unfold Txt.count
  rw [this]
theorem codes_mul (c : Nat) (n : Int) : codes (Txt.mul ⟨#[c]⟩ n) = List.replicate n.toNat c := PyProof.Rows.mul_one_list c n
end M
namespace M
open PySem L2 Evl
open PyProof.Rows hiding St
theorem for_str {x : Str} {g : TG} {tb : TS} {D : Ends} {σ : L2.St} {H : Hp} (Pv : Nat → L2.St → Hp → Prop) (h0 : Pv 0 σ H)
    (hs : ∀ i c σ H, x.cps[i]? = some c → Pv i σ H → g (.str ⟨#[c]⟩) σ H fun σ2 H2 => tb { D with nx := Pv (i + 1), ct := Pv (i + 1), bk := D.nx } σ2 H2)
    (hd : ∀ σ H, Pv x.cps.size σ H → D.nx σ H) :
    ∃ W : Nat → Nat → L2.St → Hp → Prop, (∃ m, W 0 m σ H) ∧ ∀ i m σ H, W i m σ H →
      ((Its x).stop i H ∧ D.nx σ H) ∨ ((Its x).go i H ∧ ∃ N : L2.St → Hp → Prop, (∀ σ' H', N σ' H' → ∃ m', m' < m ∧ W (i + 1) m' σ' H') ∧ ∀ v H', (Its x).yld i H v H' → g v σ H' fun σ2 H2 => tb { D with nx := N, ct := N, bk := D.nx } σ2 H2) := by
  refine ⟨fun i m σ H => m = x.cps.size - i ∧ i ≤ x.cps.size ∧ Pv i σ H, ⟨_, rfl, Nat.zero_le _, h0⟩, ?_⟩
  rintro i _ σ H ⟨rfl, le, p⟩
  rcases Nat.lt_or_ge i x.cps.size with lt | ge
  · right
    refine ⟨lt, Pv (i + 1), fun σ' H' q => ⟨_, by omega, rfl, lt, q⟩, ?_⟩
    rintro v H' ⟨rfl, c, hc, rfl⟩
    exact hs i c σ _ hc p
  · obtain rfl : i = x.cps.size := Nat.le_antisymm le ge
    exact .inl ⟨Nat.le_refl _, hd _ _ p⟩
def sp_pattern (K : PySem.W.Frag) : Sp := fun vs H Q _ => ∃ z : Str, vs = [.str z] ∧ ∀ v H', Ex H H' → Dp K H' v (pat (codes z)).d → Q v H'
def sp_bare (K : PySem.W.Frag) : Sp := fun vs H Q _ => ∃ (H0 : Hp) (p : Addr) (m : Nat) (z : Str), vs = [.str z] ∧ Pl H0 H p m ∧ ∀ v H1 H', Ex H0 H1 → Pl H1 H' p m → Dp K H1 v (bareQ (codes z)).d → Q v H'
def sp_has : Sp := fun vs H Q _ => ∃ (z y : Str), vs = [.str z, .str y] ∧ y.length ≤ 100 ∧ Q (.bl (decide (grd (codes y) (codes z) = (codes y).length))) H
theorem names2 {k : Int} (h0 : 0 ≤ k) (h3 : k < 2) : ∃ z : Str, atI [V.str "ab", V.str "abc"] k = some (.str z) ∧ Names z ∧ z.length ≤ 3 := by
  have n1 : Names "ab" := ⟨by unfold Abc; decide +kernel, by decide +kernel, by decide +kernel⟩
  have n3 : Names "abc" := ⟨by unfold Abc; decide +kernel, by decide +kernel, by decide +kernel⟩
  rcases (by omega : k = 0 ∨ k = 1) with rfl | rfl
  · exact ⟨_, rfl, n1, by decide +kernel⟩
  · exact ⟨_, rfl, n3, by decide +kernel⟩
theorem pat_ok : ∀ (cs : List Nat) (q : Qn), q.Ok → (∀ c ∈ cs, 97 ≤ c ∧ c ≤ 122) → (cs.foldl (fun q c => Qn.some q c .any) q).Ok
  | [], q, h, _ => h
  | c :: cs, q, h, g => by
    rw [List.foldl_cons]
    exact pat_ok cs _ ⟨h, g c List.mem_cons_self, trivial⟩ fun d hd => g d (List.mem_cons_of_mem _ hd)
theorem bare_ok : ∀ (cs : List Nat) (q : Qn), q.Ok → (∀ c ∈ cs, 97 ≤ c ∧ c ≤ 122) → (cs.foldl (fun q c => Qn.both q (.no (.some .any c .any))) q).Ok
  | [], q, h, _ => h
  | c :: cs, q, h, g => by
    rw [List.foldl_cons]
    exact bare_ok cs _ ⟨h, trivial, g c List.mem_cons_self, trivial⟩ fun d hd => g d (List.mem_cons_of_mem _ hd)
theorem pat_parts : ∀ (cs : List Nat) (q : Qn), (cs.foldl (fun q c => Qn.some q c .any) q).parts = q.parts + 2 * cs.length
  | [], q => rfl
  | c :: cs, q => by
    rw [List.foldl_cons, pat_parts cs]
    simp only [Qn.parts, List.length_cons]
    omega
theorem bare_parts : ∀ (cs : List Nat) (q : Qn), (cs.foldl (fun q c => Qn.both q (.no (.some .any c .any))) q).parts = q.parts + 5 * cs.length
  | [], q => rfl
  | c :: cs, q => by
    rw [List.foldl_cons, bare_parts cs]
    simp only [Qn.parts, List.length_cons]
    omega
end M
namespace M
open PySem L2 Evl
open PyProof.Rows hiding St
theorem mul6 {c : Nat} {n : Int} (h0 : 1 ≤ n) (h1 : n ≤ 6) : MulOk ⟨#[c]⟩ n := by
  have e : (⟨#[c]⟩ : Str).length = 1 := rfl
  unfold MulOk
  rw [e]
  rcases (by omega : n = 1 ∨ n = 2 ∨ n = 3 ∨ n = 4 ∨ n = 5 ∨ n = 6) with rfl | rfl | rfl | rfl | rfl | rfl <;> decide +kernel
theorem ne_F {a b : Bool} (h : a = b) : (!decide (V.bl a = V.bl b)) = false := by rw [h]; simp
theorem eq_T {a b : Bool} (h : a = b) : decide (V.bl a = V.bl b) = true := by rw [h]; simp
theorem cnt_ge {k : Nat} {n : Int} (h : 0 ≤ n) : decide (n.toNat ≤ k) = decide ((k : Int) ≥ n) := by
  apply decide_eq_decide.mpr
  omega
theorem str_nil {z : Str} : decide (V.str z = V.str "") = decide (codes z = []) := by
  apply decide_eq_decide.mpr
  constructor
  · intro h
    injection h with h
    rw [h]; rfl
  · intro h
    congr 1
    cases z with
    | mk a =>
      have : a.toList = [] := h
      have : a = #[] := Array.toList_inj.mp this
      rw [this]; rfl
end M
end

section
set_option Elab.async false
set_option linter.all false
set_option maxRecDepth 100000
/-! rows alike to a depth, and kinds by numbers: the mathematics of it -/
namespace M
/-- alike to the depth, by the words -/
def Al : Nat → List Nat → List Nat → Prop
  | 0, _, _ => True
  | d + 1, r, s => (∀ i c, r[i]? = some c → ∃ j, s[j]? = some c ∧ Al d (r.take i) (s.take j) ∧ Al d (r.drop (i + 1)) (s.drop (j + 1))) ∧
      (∀ j c, s[j]? = some c → ∃ i, r[i]? = some c ∧ Al d (r.take i) (s.take j) ∧ Al d (r.drop (i + 1)) (s.drop (j + 1)))
theorem Al.refl : ∀ (d : Nat) (r : List Nat), Al d r r
  | 0, _ => trivial
  | d + 1, r => ⟨fun i c h => ⟨i, h, Al.refl d _, Al.refl d _⟩, fun i c h => ⟨i, h, Al.refl d _, Al.refl d _⟩⟩
theorem Al.symm : ∀ {d : Nat} {r s : List Nat}, Al d r s → Al d s r
  | 0, _, _, _ => trivial
  | d + 1, r, s, h => ⟨fun j c e => let ⟨i, a, b, g⟩ := h.2 j c e; ⟨i, a, b.symm, g.symm⟩, fun i c e => let ⟨j, a, b, g⟩ := h.1 i c e; ⟨j, a, b.symm, g.symm⟩⟩
theorem Al.trans : ∀ {d : Nat} {r s t : List Nat}, Al d r s → Al d s t → Al d r t
  | 0, _, _, _, _, _ => trivial
  | d + 1, r, s, t, h, g => by
    refine ⟨fun i c e => ?_, fun k c e => ?_⟩
    · obtain ⟨j, e2, a1, a2⟩ := h.1 i c e
      obtain ⟨k, e3, b1, b2⟩ := g.1 j c e2
      exact ⟨k, e3, a1.trans b1, a2.trans b2⟩
    · obtain ⟨j, e2, a1, a2⟩ := g.2 k c e
      obtain ⟨i, e3, b1, b2⟩ := h.2 j c e2
      exact ⟨i, e3, b1.trans a1, b2.trans a2⟩
theorem Al.less : ∀ {d : Nat} {r s : List Nat}, Al (d + 1) r s → Al d r s
  | 0, _, _, _ => trivial
  | d + 1, r, s, h => ⟨fun i c e => let ⟨j, e2, a1, a2⟩ := h.1 i c e; ⟨j, e2, a1.less, a2.less⟩, fun i c e => let ⟨j, e2, a1, a2⟩ := h.2 i c e; ⟨j, e2, a1.less, a2.less⟩⟩
theorem Al.mono {r s : List Nat} {e : Nat} : ∀ {d : Nat}, Al d r s → e ≤ d → Al e r s
  | 0, h, le => by
    obtain rfl : e = 0 := by omega
    exact h
  | d + 1, h, le => by
    by_cases q : e = d + 1
    · subst q; exact h
    · exact Al.mono h.less (by omega)
/-! ### a table of kinds: depth and marks of each number -/
abbrev Mark := Nat × Nat × Nat
abbrev KTab := List (Nat × List Mark)
/-- the number n is the kind of the row to the depth -/
def Rep (t : KTab) : Nat → Nat → List Nat → Prop
  | 0, n, _ => n = 0
  | d + 1, n, r => ∃ ms, t[n]? = some (d + 1, ms) ∧ (∀ i c, r[i]? = some c → ∃ a b, (a, c, b) ∈ ms ∧ Rep t d a (r.take i) ∧ Rep t d b (r.drop (i + 1))) ∧
      (∀ a c b, (a, c, b) ∈ ms → ∃ i, r[i]? = some c ∧ Rep t d a (r.take i) ∧ Rep t d b (r.drop (i + 1)))
def Grows (t u : KTab) : Prop := ∀ (n : Nat) (x : Nat × List Mark), t[n]? = some x → u[n]? = some x
theorem Grows.refl (t : KTab) : Grows t t := fun _ _ h => h
theorem Grows.trans {t u v : KTab} (h : Grows t u) (g : Grows u v) : Grows t v := fun n x e => g n x (h n x e)
theorem Grows.app (t u : KTab) : Grows t (t ++ u) := fun n x e => by
  rw [List.getElem?_append_left (List.getElem?_eq_some_iff.mp e).1]; exact e
theorem Rep.up {t u : KTab} (g : Grows t u) : ∀ {d n : Nat} {r : List Nat}, Rep t d n r → Rep u d n r
  | 0, _, _, h => h
  | d + 1, n, r, ⟨ms, h, h1, h2⟩ => ⟨ms, g _ _ h, fun i c e => let ⟨a, b, m, x, y⟩ := h1 i c e; ⟨a, b, m, x.up g, y.up g⟩, fun a c b m => let ⟨i, e, x, y⟩ := h2 a c b m; ⟨i, e, x.up g, y.up g⟩⟩
theorem Rep.al {t : KTab} : ∀ {d n : Nat} {r s : List Nat}, Rep t d n r → Rep t d n s → Al d r s
  | 0, _, _, _, _, _ => trivial
  | d + 1, n, r, s, ⟨ms, h, h1, h2⟩, ⟨ms', g, g1, g2⟩ => by
    have e : ms = ms' := by
      have := h.symm.trans g
      injection this with this
      injection this with _ this
    subst e
    refine ⟨fun i c e => ?_, fun j c e => ?_⟩
    · obtain ⟨a, b, m, x, y⟩ := h1 i c e
      obtain ⟨j, e2, x2, y2⟩ := g2 a c b m
      exact ⟨j, e2, x.al x2, y.al y2⟩
    · obtain ⟨a, b, m, x, y⟩ := g1 j c e
      obtain ⟨i, e2, x2, y2⟩ := h2 a c b m
      exact ⟨i, e2, x2.al x, y2.al y⟩
theorem Rep.move {t : KTab} : ∀ {d n : Nat} {r s : List Nat}, Rep t d n r → Al d r s → Rep t d n s
  | 0, _, _, _, h, _ => h
  | d + 1, n, r, s, ⟨ms, h, h1, h2⟩, g => by
    refine ⟨ms, h, fun j c e => ?_, fun a c b m => ?_⟩
    · obtain ⟨i, e2, x, y⟩ := g.2 j c e
      obtain ⟨a, b, m, x2, y2⟩ := h1 i c e2
      exact ⟨a, b, m, x2.move x, y2.move y⟩
    · obtain ⟨i, e, x, y⟩ := h2 a c b m
      obtain ⟨j, e2, x2, y2⟩ := g.1 i c e
      exact ⟨j, e2, x.move x2, y.move y2⟩
/-- marks are told in one sequence, and no two numbers are one kind -/
structure KOk (canon : List Mark → Prop) (t : KTab) : Prop where
  one : ∀ (n m : Nat) (x : Nat × List Mark), t[n]? = some x → t[m]? = some x → n = m
  can : ∀ (n d : Nat) (ms : List Mark), t[n]? = some (d, ms) → canon ms
theorem Rep.one {canon : List Mark → Prop} (hc : ∀ xs ys, canon xs → canon ys → (∀ m, m ∈ xs ↔ m ∈ ys) → xs = ys) {t : KTab} (k : KOk canon t) : ∀ {d n m : Nat} {r : List Nat}, Rep t d n r → Rep t d m r → n = m
  | 0, _, _, _, h, g => h.trans g.symm
  | d + 1, n, m, r, ⟨ms, h, h1, h2⟩, ⟨ms', g, g1, g2⟩ => by
    have half : ∀ {xs ys : List Mark}, (∀ a c b, (a, c, b) ∈ xs → ∃ i, r[i]? = some c ∧ Rep t d a (r.take i) ∧ Rep t d b (r.drop (i + 1))) →
        (∀ i c, r[i]? = some c → ∃ a b, (a, c, b) ∈ ys ∧ Rep t d a (r.take i) ∧ Rep t d b (r.drop (i + 1))) → ∀ m, m ∈ xs → m ∈ ys := fun {xs ys} p q ⟨a, c, b⟩ hm => by
      obtain ⟨i, e, x, y⟩ := p a c b hm
      obtain ⟨a', b', hm', x', y'⟩ := q i c e
      rw [Rep.one hc k x x', Rep.one hc k y y']
      exact hm'
    have e : ms = ms' := hc _ _ (k.can _ _ _ h) (k.can _ _ _ g) fun m => ⟨half h2 g1 m, half g2 h1 m⟩
    subst e
    exact k.one _ _ _ h g
theorem Rep.iff {canon : List Mark → Prop} (hc : ∀ xs ys, canon xs → canon ys → (∀ m, m ∈ xs ↔ m ∈ ys) → xs = ys) {t : KTab} (k : KOk canon t) {d n m : Nat} {r s : List Nat} (h : Rep t d n r) (g : Rep t d m s) : n = m ↔ Al d r s :=
  ⟨fun e => by subst e; exact h.al g, fun a => Rep.one hc k (h.move a) g⟩
/-! ### the rows that grow -/
theorem rep_empty {t : KTab} {d n : Nat} (h : t[n]? = some (d + 1, [])) : Rep t (d + 1) n [] := ⟨[], h, fun i c e => by simp at e, fun a c b m => by simp at m⟩
theorem Rep.row {t : KTab} {d n : Nat} {r : List Nat} {ms : List Mark} (h : t[n]? = some (d + 1, ms)) (h1 : ∀ i c, r[i]? = some c → ∃ a b, (a, c, b) ∈ ms ∧ Rep t d a (r.take i) ∧ Rep t d b (r.drop (i + 1)))
    (h2 : ∀ a c b, (a, c, b) ∈ ms → ∃ i, r[i]? = some c ∧ Rep t d a (r.take i) ∧ Rep t d b (r.drop (i + 1))) : Rep t (d + 1) n r := ⟨ms, h, h1, h2⟩
/-- a letter behind: marks with what is behind made longer, and one new mark -/
theorem rep_behind {t u : KTab} {d n n' x l e : Nat} {ms ms' : List Mark} {nb : Nat → Nat} (g : Grows t u) (hn : t[n]? = some (d + 1, ms)) (hn' : u[n']? = some (d + 1, ms'))
    (hm : ∀ m, m ∈ ms' ↔ m = (l, x, e) ∨ ∃ a c b, (a, c, b) ∈ ms ∧ m = (a, c, nb b)) (hb : ∀ a c b, (a, c, b) ∈ ms → ∀ r, Rep t d b r → Rep u d (nb b) (r ++ [x]))
    (he : Rep u d e []) {r : List Nat} (hl : Rep u d l r) (h : Rep t (d + 1) n r) : Rep u (d + 1) n' (r ++ [x]) := by
  obtain ⟨ms0, h0, h1, h2⟩ := h
  obtain rfl : ms = ms0 := by
    have := hn.symm.trans h0
    injection this with this
    injection this
  refine ⟨ms', hn', fun i c e1 => ?_, fun a c b m => ?_⟩
  · by_cases hi : i < r.length
    · rw [List.getElem?_append_left hi] at e1
      obtain ⟨a, b, m, x1, y1⟩ := h1 i c e1
      refine ⟨a, nb b, (hm _).mpr (.inr ⟨a, c, b, m, rfl⟩), ?_, ?_⟩
      · rw [List.take_append_of_le_length (Nat.le_of_lt hi)]
        exact x1.up g
      · rw [List.drop_append_of_le_length hi]
        exact hb _ _ _ m _ y1
    · have hi2 := (List.getElem?_eq_some_iff.mp e1).1
      rw [List.length_append, List.length_singleton] at hi2
      obtain rfl : i = r.length := by omega
      rw [List.getElem?_append_right (Nat.le_refl _), Nat.sub_self] at e1
      have e2 : x = c := Option.some.inj e1
      subst e2
      refine ⟨l, e, (hm _).mpr (.inl rfl), ?_, ?_⟩
      · rw [List.take_left]; exact hl
      · rw [List.drop_of_length_le (by simp)]; exact he
  · rcases (hm _).mp m with q | ⟨a', c', b', m', q⟩
    · obtain ⟨rfl, rfl, rfl⟩ : a = l ∧ c = x ∧ b = e := by
        injection q with q1 q2
        injection q2 with q2 q3
        exact ⟨q1, q2, q3⟩
      refine ⟨r.length, by rw [List.getElem?_append_right (Nat.le_refl _), Nat.sub_self]; rfl, ?_, ?_⟩
      · rw [List.take_left]; exact hl
      · rw [List.drop_of_length_le (by simp)]; exact he
    · obtain ⟨rfl, rfl, rfl⟩ : a = a' ∧ c = c' ∧ b = nb b' := by
        injection q with q1 q2
        injection q2 with q2 q3
        exact ⟨q1, q2, q3⟩
      obtain ⟨i, e1, x1, y1⟩ := h2 a c b' m'
      have hi := (List.getElem?_eq_some_iff.mp e1).1
      refine ⟨i, by rw [List.getElem?_append_left hi]; exact e1, ?_, ?_⟩
      · rw [List.take_append_of_le_length (Nat.le_of_lt hi)]
        exact x1.up g
      · rw [List.drop_append_of_le_length hi]
        exact hb _ _ _ m' _ y1
/-- a letter ahead -/
theorem rep_ahead {t u : KTab} {d n n' x l e : Nat} {ms ms' : List Mark} {na : Nat → Nat} (g : Grows t u) (hn : t[n]? = some (d + 1, ms)) (hn' : u[n']? = some (d + 1, ms'))
    (hm : ∀ m, m ∈ ms' ↔ m = (e, x, l) ∨ ∃ a c b, (a, c, b) ∈ ms ∧ m = (na a, c, b)) (hb : ∀ a c b, (a, c, b) ∈ ms → ∀ r, Rep t d a r → Rep u d (na a) (x :: r))
    (he : Rep u d e []) {r : List Nat} (hl : Rep u d l r) (h : Rep t (d + 1) n r) : Rep u (d + 1) n' (x :: r) := by
  obtain ⟨ms0, h0, h1, h2⟩ := h
  obtain rfl : ms = ms0 := by
    have := hn.symm.trans h0
    injection this with this
    injection this
  refine ⟨ms', hn', fun i c e1 => ?_, fun a c b m => ?_⟩
  · cases i with
    | zero =>
      have e2 : x = c := Option.some.inj e1
      subst e2
      exact ⟨e, l, (hm _).mpr (.inl rfl), he, hl⟩
    | succ i =>
      obtain ⟨a, b, m, x1, y1⟩ := h1 i c e1
      exact ⟨na a, b, (hm _).mpr (.inr ⟨a, c, b, m, rfl⟩), hb _ _ _ m _ x1, y1.up g⟩
  · rcases (hm _).mp m with q | ⟨a', c', b', m', q⟩
    · obtain ⟨rfl, rfl, rfl⟩ : a = e ∧ c = x ∧ b = l := by
        injection q with q1 q2
        injection q2 with q2 q3
        exact ⟨q1, q2, q3⟩
      exact ⟨0, rfl, he, hl⟩
    · obtain ⟨rfl, rfl, rfl⟩ : a = na a' ∧ c = c' ∧ b = b' := by
        injection q with q1 q2
        injection q2 with q2 q3
        exact ⟨q1, q2, q3⟩
      obtain ⟨i, e1, x1, y1⟩ := h2 a' c b m'
      exact ⟨i + 1, e1, hb _ _ _ m' _ x1, y1.up g⟩
/-- to the depth below: each mark's kinds made lesser -/
theorem rep_less {t u : KTab} {d n n' : Nat} {ms ms' : List Mark} {ls : Nat → Nat} (hn : t[n]? = some (d + 2, ms)) (hn' : u[n']? = some (d + 1, ms'))
    (hm : ∀ m, m ∈ ms' ↔ ∃ a c b, (a, c, b) ∈ ms ∧ m = (ls a, c, ls b)) (hb : ∀ a c b, (a, c, b) ∈ ms → ∀ r, (Rep t (d + 1) a r → Rep u d (ls a) r) ∧ (Rep t (d + 1) b r → Rep u d (ls b) r))
    {r : List Nat} (h : Rep t (d + 2) n r) : Rep u (d + 1) n' r := by
  obtain ⟨ms0, h0, h1, h2⟩ := h
  obtain rfl : ms = ms0 := by
    have := hn.symm.trans h0
    injection this with this
    injection this
  refine ⟨ms', hn', fun i c e1 => ?_, fun a c b m => ?_⟩
  · obtain ⟨a, b, m, x1, y1⟩ := h1 i c e1
    exact ⟨ls a, ls b, (hm _).mpr ⟨a, c, b, m, rfl⟩, (hb _ _ _ m _).1 x1, (hb _ _ _ m _).2 y1⟩
  · obtain ⟨a', c', b', m', q⟩ := (hm _).mp m
    obtain ⟨rfl, rfl, rfl⟩ : a = ls a' ∧ c = c' ∧ b = ls b' := by
      injection q with q1 q2
      injection q2 with q2 q3
      exact ⟨q1, q2, q3⟩
    obtain ⟨i, e1, x1, y1⟩ := h2 a' c b' m'
    exact ⟨i, e1, (hb _ _ _ m' _).1 x1, (hb _ _ _ m' _).2 y1⟩
end M
end

section
set_option Elab.async false
set_option linter.all false
set_option maxRecDepth 100000
set_option maxHeartbeats 2000000
/-! dicts whose keys are nested tuples of whole numbers and texts -/
namespace M
open PySem PySem.Spec L2
open PyProof.Rows hiding St
mutual
/-- the value is the key k; its tuples are tracked -/
inductive NK (H : Hp) : V → NestedKey → Prop
  | int (i : Int) : NK H (.int i) (.num i)
  | str (z : Str) : NK H (.str z) (.text z)
  | tup {a : Addr} {xs : List V} {ks : List NestedKey} : H a = some (.tup xs) → NKs H xs ks → NK H (.ref a) (.tup ks)
inductive NKs (H : Hp) : List V → List NestedKey → Prop
  | nil : NKs H [] []
  | cons {x : V} {k : NestedKey} {xs : List V} {ks : List NestedKey} : NK H x k → NKs H xs ks → NKs H (x :: xs) (k :: ks)
end
mutual
theorem NK.up {H H' : Hp} (e : ∀ b xs, H b = some (.tup xs) → H' b = some (.tup xs)) : ∀ {v : V} {k : NestedKey}, NK H v k → NK H' v k
  | _, _, .int i => .int i
  | _, _, .str z => .str z
  | _, _, .tup h t => .tup (e _ _ h) (NKs.up e t)
theorem NKs.up {H H' : Hp} (e : ∀ b xs, H b = some (.tup xs) → H' b = some (.tup xs)) : ∀ {xs : List V} {ks : List NestedKey}, NKs H xs ks → NKs H' xs ks
  | _, _, .nil => .nil
  | _, _, .cons h t => .cons (NK.up e h) (NKs.up e t)
end
mutual
theorem NK.is {P : Program} {w : World} {H : Hp} {h : Heap} (ok : HOk P w H h) : ∀ {v : V} {k : NestedKey}, NK H v k → ∀ {u : Value}, RelV v u → NestedIs h k u
  | _, _, .int i, u, r => by
    obtain ⟨t, rfl⟩ := r
    exact .int i t
  | _, _, .str z, u, r => by
    obtain ⟨t, rfl⟩ := r
    exact .text z t
  | _, _, .tup (a := a) ha t, u, r => by
    obtain rfl : u = Value.ref a := r
    obtain ⟨_, its, rv, o, ho, hc, n, hd⟩ := ok a _ ha
    exact .tup ho hc hd (by simpa using NKs.is ok t rv)
theorem NKs.is {P : Program} {w : World} {H : Hp} {h : Heap} (ok : HOk P w H h) : ∀ {xs : List V} {ks : List NestedKey}, NKs H xs ks → ∀ {us : List Value}, Vals xs us → NestedAll h ks us
  | _, _, .nil, us, r => by
    cases r
    exact .nil
  | _, _, .cons h t, us, r => by
    cases r with
    | cons ru rr => exact .cons (NK.is ok h ru) (NKs.is ok t rr)
end
abbrev NEnt := NestedKey × Addr × V
/-- a row of the dict, by its value -/
def NRel (p : NEnt) (q : NestedKey × Addr × Value) : Prop := p.1 = q.1 ∧ p.2.1 = q.2.1 ∧ RelV p.2.2 q.2.2
def NdIn (P : Program) (w : World) (d : Addr) (xs : List NEnt) (h : Heap) : Prop := (d == sysModules) = false ∧ ∃ (ys : List (NestedKey × Addr × Value)) (o : Obj) (es : Array DictEntry) (ep : Nat), h.get? d = some o ∧ o.ExactDict ∧ o.data = .dict es ep ∧
  es.toList = ys.map (entryOfKey (nestedKind P w)) ∧ (ys.map (·.1)).Nodup ∧ Paired NRel xs ys
def NdO (P : Program) (w : World) (d : Addr) (xs : List NEnt) : HO := .ext (NdIn P w d xs)
theorem ndO_new {P : Program} {w : World} {H : Hp} {h : Heap} {d : Addr} {xs : List NEnt} (R : NdIn P w d xs h) : ObjOk P w H h d (NdO P w d xs) := by
  obtain ⟨z, ys, o, es, ep, h1, r⟩ := id R
  refine ⟨R, ⟨o, h1⟩, fun g1 g2 ⟨z, ys, o, es, ep, h1, r⟩ k => ⟨z, ys, o, es, ep, k o h1, r⟩⟩
/-- the dict at d, and that its keys' tuples stand -/
structure ND (P : Program) (w : World) (H : Hp) (d : Addr) (xs : List NEnt) : Prop where
  at_ : H d = some (NdO P w d xs)
  key : ∀ x ∈ xs, NK H (.ref x.2.1) x.1 ∧ x.1.depth ≤ 8
theorem ND.keep {P : Program} {w : World} {H H' : Hp} {d : Addr} {xs : List NEnt} (h : ND P w H d xs) (e : ∀ b ys, H b = some (.tup ys) → H' b = some (.tup ys)) (k : H' d = some (NdO P w d xs)) : ND P w H' d xs :=
  ⟨k, fun x hx => ⟨(h.key x hx).1.up e, (h.key x hx).2⟩⟩
def kat (xs : List NEnt) (k : NestedKey) : Option V := (xs.find? fun x => decide (x.1 = k)).map (·.2.2)
theorem kat_rel {k : NestedKey} : ∀ {xs : List NEnt} {ys : List (NestedKey × Addr × Value)}, Paired NRel xs ys → (kat xs k = none ∧ atKey ys k = none) ∨ ∃ v p, kat xs k = some v ∧ atKey ys k = some p ∧ RelV v p.2
  | _, _, .nil => .inl ⟨rfl, rfl⟩
  | _, _, .cons (a := a) (b := b) (l₁ := l₁) (l₂ := l₂) r t => by
    obtain ⟨r1, r2, r3⟩ := r
    have ih := kat_rel (k := k) t
    unfold kat atKey at *
    rw [List.find?_cons, List.find?_cons, ← r1]
    by_cases e : a.1 = k
    · rw [decide_eq_true e]
      exact .inr ⟨_, _, rfl, rfl, r3⟩
    · rw [decide_eq_false e]
      exact ih
section
variable {X : Cx} {pins : List (Addr × Obj)} {σ : L2.St} {H : Hp} {s : Shared}
theorem nd_of {d : Addr} {xs : List NEnt} (I : Inv X pins σ H s) (h : ND X.prog X.w H d xs) : (d == sysModules) = false ∧ ∃ ys, s.heap.DictOfH (nestedKind X.prog X.w) d ys ∧ Paired NRel xs ys := by
  obtain ⟨⟨z, ys, o, es, ep, h1, h2, h3, h4, h5, h6⟩, -, -⟩ := I.hok d _ h.at_
  refine ⟨z, ys, ⟨o, es, ep, h1, h2, h3, h4, ?_, h5⟩, h6⟩
  have hk := h.key
  clear h4 h5 h
  revert hk
  induction h6 with
  | nil => exact fun _ y hy => nomatch hy
  | cons r t ih =>
    intro hk y hy
    rcases List.mem_cons.mp hy with rfl | hy
    · obtain ⟨k1, k2⟩ := hk _ List.mem_cons_self
      obtain ⟨r1, r2, _⟩ := r
      rw [← r1, ← r2]
      exact ⟨k1.is I.hok rfl, k2⟩
    · exact ih (fun x hx => hk x (List.mem_cons_of_mem _ hx)) y hy
/-- {} -/
def tDNewN (P : Program) (w : World) : TE := fun _ H Q => ∀ d, H d = none → Q (.ref d) (upd H d (NdO P w d []))
theorem pe_dnewN {pos : Pos} : PE X (.Dict [] [] pos) (tDNewN X.prog X.w) := ⟨fun pins s σ H Q I h => by
  refine wpAny_Dict_empty ⟨.ref s.heap.objs.size, upd H s.heap.objs.size (NdO X.prog X.w s.heap.objs.size []), I.laid (t' := s.toks) (fun _ _ q => Heap.get?_push_of_some _ q) (Nat.le_refl _) (ndO_new ⟨?_, [], _, _, _, Heap.get?_push_size _ rfl, ⟨rfl, rfl, rfl⟩, rfl, rfl, List.nodup_nil, .nil⟩), rfl, h _ (I.hok.fresh (Nat.le_refl _))⟩
  exact (dt_empty (P := X.prog) (w := X.w) (H := H) s.heap I.big).2.1⟩
/-- key not in d -/
def rNotN (P : Program) (w : World) : R2 := fun x y H Q => ∃ (t d : Addr) (k : NestedKey) (xs : List NEnt), x = .ref t ∧ y = .ref d ∧ NK H (.ref t) k ∧ k.depth ≤ 8 ∧ ND P w H d xs ∧ Q (.bl (!(kat xs k).isSome)) H
theorem op_notInN (hu : X.A.units + 64 < cLine) : OpR X (compareOp .NotIn) (rNotN X.prog X.w) := by
  intro pins s σ H x y v u Q I rx ry h
  obtain ⟨t, d, k, xs, rfl, rfl, hk, hd8, hd, q⟩ := h
  obtain rfl : v = Value.ref t := rx
  obtain rfl : u = Value.ref d := ry
  obtain ⟨z, ys, hm, rel⟩ := nd_of I hd
  refine wpAny_notIn_heap (knd := nestedKind X.prog X.w) (show X.A.in1.units + 8 < cLine by have := hu; show X.A.units + 1 + 8 < cLine; omega) ⟨hk.is I.hok rfl, hd8⟩ z hm ?_
  refine ⟨.bl _, H, I.tok _, ?_, q⟩
  rcases kat_rel (k := k) rel with ⟨e1, e2⟩ | ⟨v, p, e1, e2, _⟩
  · rw [e1, e2]; rfl
  · rw [e1, e2]; rfl
/-- d[key] -/
def rIxN (P : Program) (w : World) : R2 := fun x y H Q => ∃ (t d : Addr) (k : NestedKey) (xs : List NEnt) (v : V), x = .ref d ∧ y = .ref t ∧ NK H (.ref t) k ∧ k.depth ≤ 8 ∧ ND P w H d xs ∧ kat xs k = some v ∧ Q v H
theorem ix_dictN (hu : X.A.units + 64 < cLine) : IxR X (rIxN X.prog X.w) := by
  intro value slice pins s σ H x y v u Q I rx ry h hs
  obtain ⟨t, d, k, xs, vv, rfl, rfl, hk, hd8, hd, hv, q⟩ := h
  obtain rfl : v = Value.ref d := rx
  obtain rfl : u = Value.ref t := ry
  obtain ⟨z, ys, hm, rel⟩ := nd_of I hd
  rcases kat_rel (k := k) rel with ⟨e1, e2⟩ | ⟨v, p, e1, e2, rv⟩
  · rw [e1] at hv; cases hv
  · obtain rfl : v = vv := Option.some.inj (e1.symm.trans hv)
    exact tail_any hm.typeIs PySem.F.slot_dict_getitem.lookup (wpAny_getItem_heap (knd := nestedKind X.prog X.w) (show X.A.in1.units + 8 < cLine by have := hu; show X.A.units + 1 + 8 < cLine; omega) ⟨hk.is I.hok rfl, hd8⟩ hm e2 ⟨v, H, I.tok _, rv, q⟩) hs
/-- d[key] = v, a new key -/
def sNPut (P : Program) (w : World) (td ty tv : TE) : TS := fun D σ H => tv σ H fun v H1 => td σ H1 fun x H2 => ty σ H2 fun y H3 => ∃ (t d : Addr) (k : NestedKey) (xs : List NEnt), x = .ref d ∧ y = .ref t ∧ NK H3 (.ref t) k ∧ k.depth ≤ 8 ∧ ND P w H3 d xs ∧
  kat xs k = none ∧ xs.length ≤ sizeLine ∧ D.nx σ (upd H3 d (NdO P w d (xs ++ [(k, t, v)])))
theorem ps_nput {o i value : Expr} {td ty tv : TE} {pos pos' : Pos} (hu : X.A.units + 64 < cLine) (ho : PE X o td) (hi : PE X i ty) (hv : PE X value tv) (hs : swapsWith value (some (.Subscript o i pos')) pos.line X.env = pure false) :
    PS X (.Assign [.Subscript o i pos'] value pos) (sNPut X.prog X.w td ty tv) := by
  refine ⟨fun pins s σ H D I h => ?_⟩
  refine wpAny_Assign_Subscript (thn (hv.run pins s σ H _ I h) fun r s1 ⟨v, H1, I1, rv, q1⟩ => thn (ho.run pins s1 σ H1 _ I1 q1) fun u s2 ⟨x, H2, I2, rx, q2⟩ => thn (hi.run pins s2 σ H2 _ I2 q2) fun iv s3 ⟨y, H3, I3, ry, t, d, k, xs, ex, ey, hk, h8, hd, hn, hl, q3⟩ => ?_) hs
  subst ex; subst ey
  obtain rfl : u = Value.ref d := rx
  obtain rfl : iv = Value.ref t := ry
  obtain ⟨z, ys, hm, rel⟩ := nd_of I3 hd
  have e2 : atKey ys k = none := by
    rcases kat_rel (k := k) rel with ⟨_, e2⟩ | ⟨v, p, e1, _⟩
    · exact e2
    · rw [e1] at hn; cases hn
  refine wpAny_setItem_heap (knd := nestedKind X.prog X.w) (hsz := by rw [← Paired.length rel]; exact hl) (show X.A.in1.units + 8 < cLine by have := hu; show X.A.units + 1 + 8 < cLine; omega) ⟨hk.is I3.hok rfl, h8⟩ hm fun h' hm2 hsb => ?_
  rw [storedH_new e2] at hm2
  obtain ⟨o2, es2, ep2, a1, a2, a3, a4, a5, a6⟩ := hm2
  refine ⟨σ, upd H3 d (NdO X.prog X.w d (xs ++ [(k, t, v)])), ?_, q3⟩
  exact I3.write (e := d) (t' := s3.toks + (nestedKind X.prog X.w).draws k) (by rw [hd.at_]; trivial) (.inl rfl) (fun b u hb hu2 => (hsb.2 b hb).trans hu2) ⟨o2, a1⟩ (ndO_new ⟨z, _, o2, es2, ep2, a1, a2, a3, a4, a6, Paired.snoc rel ⟨rfl, rfl, rv⟩⟩)
/-- the dict behind it -/
theorem ND.put {P : Program} {w : World} {H : Hp} {d t : Addr} {xs : List NEnt} {k : NestedKey} {v : V} (h : ND P w H d xs) (hk : NK H (.ref t) k) (h8 : k.depth ≤ 8) : ND P w (upd H d (NdO P w d (xs ++ [(k, t, v)]))) d (xs ++ [(k, t, v)]) := by
  have e : ∀ b ys, H b = some (.tup ys) → upd H d (NdO P w d (xs ++ [(k, t, v)])) b = some (.tup ys) := fun b ys hb => by
    have n : b ≠ d := fun q => by
      rw [q, h.at_] at hb
      have z := Option.some.inj hb
      exact absurd (show HO.ext _ = HO.tup ys from z) (fun y => nomatch y)
    rw [upd_ne n]; exact hb
  refine ⟨upd_same, fun x hx => ?_⟩
  rcases List.mem_append.mp hx with hx | hx
  · exact ⟨(h.key x hx).1.up e, (h.key x hx).2⟩
  · rw [List.mem_singleton.mp hx]
    exact ⟨hk.up e, h8⟩
theorem kat_put {xs : List NEnt} {k j : NestedKey} {t : Addr} {v : V} (h : kat xs k = none) : kat (xs ++ [(k, t, v)]) j = if j = k then some v else kat xs j := by
  unfold kat at *
  rw [List.find?_append]
  by_cases e : j = k
  · subst e
    rw [if_pos rfl]
    have h2 : xs.find? (fun x => decide (x.1 = j)) = none := by
      cases q : xs.find? (fun x => decide (x.1 = j)) with
      | none => rfl
      | some y => rw [q] at h; cases h
    rw [h2]
    simp
  · rw [if_neg e]
    have e2 : ¬ k = j := fun q => e q.symm
    simp [e2]
end
end M
end

section
set_option Elab.async false
set_option linter.all false
set_option maxRecDepth 100000
set_option maxHeartbeats 2000000
/-! nested keys as members of sets: small questions that a search and a store ask of them -/
namespace M
open PySem PySem.Spec L2
open PyProof.Rows hiding St
section
variable {P : Program} {w : World} {E : Value → Shared → Prop}
mutual
/-- such a key is of no class statement -/
theorem class_nk : ∀ (k : NestedKey) (v : Value) (n : Nat) (A : Around) (s : Shared) (Q : Bool → Shared → Prop), NestedIs s.heap k v → k.depth ≤ n → Q false s → wpAny (model P w) A (ofAClassStatement n v) Q E s
  | .none, _, n, A, s, Q, x, _, h => by
    cases x
    cases n <;> exact wpAny_pure h
  | .num i, _, n, A, s, Q, x, _, h => by
    cases x <;> cases n <;> exact wpAny_pure h
  | .text z, _, n, A, s, Q, x, _, h => by
    cases x
    cases n <;> exact wpAny_pure h
  | .tup ks, _, n, A, s, Q, x, hn, h => by
    cases x with
    | tup ho hc hd hk =>
      simp only [NestedKey.depth] at hn
      match n, hn with
      | n + 1, hn =>
        unfold ofAClassStatement
        refine wpAny_bind (wpAny_typeOf ⟨_, ho, hc⟩ ?_)
        dsimp only
        have e : (("tuple" : String) == "tuple") = true := by decide
        simp only [e, if_true]
        try refine wpAny_bind (wpAny_pure ?_)
        simp only [Bool.not_true, Bool.false_eq_true, if_false]
        refine wpAny_bind (wpAny_seqItems ho hd ?_)
        dsimp only
        refine wpAny_bind ?_
        rw [← Array.forIn_toList]
        refine class_nks ks _ n A s _ hk (by omega) ?_
        exact wpAny_pure h
theorem class_nks : ∀ (ks : List NestedKey) (vs : List Value) (n : Nat) (A : Around) (s : Shared) (Q : Option Bool × Unit → Shared → Prop), NestedAll s.heap ks vs → NestedKey.depthAll ks ≤ n → Q (none, ()) s →
    wpAny (model P w) A (forIn vs ((none, ()) : Option Bool × Unit) fun y _ => do if ← ofAClassStatement n y then pure (ForInStep.done (some true, ())) else pure (ForInStep.yield (none, ()))) Q E s
  | [], _, n, A, s, Q, x, _, h => by
    cases x
    exact wpAny_pure h
  | k :: ks, _, n, A, s, Q, x, hn, h => by
    cases x with
    | cons x1 x2 =>
      simp only [NestedKey.depthAll] at hn
      rw [List.forIn_cons]
      refine wpAny_bind (wpAny_bind (class_nk k _ n A s _ x1 (by omega) ?_))
      refine wpAny_pure ?_
      exact class_nks ks _ n A s Q x2 (by omega) h
end
mutual
/-- whether its hash stands by its value: it tells one or the other -/
theorem byval_nk : ∀ (k : NestedKey) (v : Value) (n : Nat) (A : Around) (s : Shared) (Q : Bool → Shared → Prop), NestedIs s.heap k v → (∀ b, Q b s) → wpAny (model P w) A (hashByValue n v) Q E s
  | .none, _, n, A, s, Q, x, h => by
    cases x
    cases n <;> exact wpAny_pure (h _)
  | .num i, _, n, A, s, Q, x, h => by
    cases x <;> cases n <;> exact wpAny_pure (h _)
  | .text z, _, n, A, s, Q, x, h => by
    cases x
    cases n <;> exact wpAny_pure (h _)
  | .tup ks, _, n, A, s, Q, x, h => by
    cases x with
    | tup ho hc hd hk =>
      cases n with
      | zero => exact wpAny_pure (h _)
      | succ n =>
        unfold hashByValue
        refine wpAny_bind (wpAny_specialOf (T := "tuple") ⟨_, ho, hc⟩ PySem.F.slot_tuple_hash.lookup ?_)
        dsimp only
        refine wpAny_bind (wpAny_seqItems ho hd ?_)
        refine wpAny_bind ?_
        show wpAny _ _ (forIn _ _ _) _ _ s
        rw [← Array.forIn_toList]
        refine byval_nks ks _ n A s _ hk (fun r => ?_)
        rcases r with _ | b
        · exact wpAny_pure (h _)
        · exact wpAny_pure (h _)
theorem byval_nks : ∀ (ks : List NestedKey) (vs : List Value) (n : Nat) (A : Around) (s : Shared) (Q : Option Bool × Unit → Shared → Prop), NestedAll s.heap ks vs → (∀ r, Q (r, ()) s) →
    wpAny (model P w) A (forIn vs ((none, ()) : Option Bool × Unit) fun x _ => do if (!(← hashByValue n x)) = true then pure (ForInStep.done (some false, ())) else pure (ForInStep.yield (none, ()))) Q E s
  | [], _, n, A, s, Q, x, h => by
    cases x
    exact wpAny_pure (h _)
  | k :: ks, _, n, A, s, Q, x, h => by
    cases x with
    | cons x1 x2 =>
      rw [List.forIn_cons]
      refine wpAny_bind (wpAny_bind (byval_nk k _ n A s _ x1 fun b => ?_))
      cases b with
      | true => exact wpAny_pure (byval_nks ks _ n A s Q x2 h)
      | false => exact wpAny_pure (wpAny_pure (h _))
end
/-- a search among such keys shows nothing -/
theorem search_nk {A : Around} {s : Shared} {k : NestedKey} {b : Addr} {Q : Bool → Shared → Prop} (hk : NestedIs s.heap k (.ref b)) (h8 : k.depth ≤ 8) : ∀ (ys : List Value), (∀ y ∈ ys, ∃ k' c, y = Value.ref c ∧ NestedIs s.heap k' (.ref c) ∧ k'.depth ≤ 8) → Q false s →
    wpAny (model P w) A (searchCouldBeSeen (.ref b) ys) Q E s := by
  intro ys hy h
  unfold searchCouldBeSeen
  refine wpAny_bind ?_
  have key : ∀ (l : List Value), (∀ y ∈ l, y ∈ ys) → ∀ (R : Option Bool × Unit → Shared → Prop), R (none, ()) s → wpAny (model P w) A (forIn l ((none, ()) : Option Bool × Unit) (fun y __s => do
      let very := match Value.ref b, y with
        | .ref a, .ref b => a == b
        | _, _ => false
      if (very || (carriedByValue (.ref b) && carriedByValue y)) = true then pure (ForInStep.yield (none, ()))
      else do
        if (!(← eqIsQuiet 8 (.ref b))) = true then pure (ForInStep.done (some true, ()))
        else do
          if (!(← eqIsQuiet 8 y)) = true then pure (ForInStep.done (some true, ()))
          else do
            if (← ofAClassStatement 8 (.ref b)) = true then pure (ForInStep.done (some true, ()))
            else do
              if (← ofAClassStatement 8 y) = true then pure (ForInStep.done (some true, ()))
              else pure (ForInStep.yield (none, ())))) R E s := fun l => by
    induction l with
    | nil => intro _ R hR; exact wpAny_pure hR
    | cons y l ih =>
      intro hl R hR
      obtain ⟨k', c, rfl, hc, hc8⟩ := hy y (hl y List.mem_cons_self)
      have rest := ih (fun z hz => hl z (List.mem_cons_of_mem _ hz)) R hR
      rw [List.forIn_cons]
      refine wpAny_bind ?_
      dsimp only
      split
      · exact wpAny_pure rest
      · refine wpAny_bind (quiet_key k _ 8 s hk h8 A E _ ?_)
        refine wpAny_bind (quiet_key k' _ 8 s hc hc8 A E _ ?_)
        refine wpAny_bind (class_nk k _ 8 A s _ hk h8 ?_)
        refine wpAny_bind (class_nk k' _ 8 A s _ hc hc8 ?_)
        exact wpAny_pure rest
  exact key ys (fun y hy => hy) _ (wpAny_pure h)
end
end M
end

section
set_option Elab.async false
set_option linter.all false
set_option maxRecDepth 100000
set_option maxHeartbeats 2000000
/-! sets of nested keys: the search -/
namespace M
open PySem PySem.Spec L2
open PyProof.Rows hiding St
abbrev NMem := Addr × NestedKey
def nrow (w : World) (p : NMem) : Int × Value := (p.2.hash w, .ref p.1)
/-- the set at a holds the keys L, each at its address, in the table's order -/
structure SN (w : World) (h : Heap) (a : Addr) (L : List NMem) (es : Array (Int × Value)) (ep : Nat) (t : SetTable) : Prop where
  obj : ∃ o, h.get? a = some o ∧ o.ExactSet ∧ o.data = .set es ep t
  rows : es.toList = L.map (nrow w)
  tab : TabOk t (L.map fun p => p.2.hash w)
  once : (L.map (·.2)).Nodup
  key : ∀ p ∈ L, NestedIs h p.2 (.ref p.1) ∧ p.2.depth ≤ 8
  roomy : L.length * 5 < t.mask * 3
  few : L.length < 64
  led : w.params.followText "set-order" = true ∨ t.led = true
section
variable {P : Program} {w : World} {A : Around} {E : Value → Shared → Prop} {s : Shared} {a : Addr} {L : List NMem} {es : Array (Int × Value)} {ep : Nat} {t : SetTable}
theorem SN.size (R : SN w s.heap a L es ep t) : es.size = L.length := by
  rw [← Array.length_toList, R.rows, List.length_map]
theorem SN.at (R : SN w s.heap a L es ep t) {i : Nat} {p : NMem} (h : L[i]? = some p) : es[i]? = some (nrow w p) := by
  rw [← Array.getElem?_toList, R.rows, List.getElem?_map, h]
  rfl
theorem SN.places (R : SN w s.heap a L es ep t) : t.place.size = L.length := by
  have := R.tab.sz
  rwa [List.length_map] at this
theorem SN.fit (R : SN w s.heap a L es ep t) : t.fits es.size = true := by
  have h1 := R.places
  have h2 := R.size
  have h3 := R.roomy
  unfold SetTable.fits SetTable.fill
  rw [R.tab.dm, h2, Bool.and_eq_true, beq_iff_eq, decide_eq_true_eq]
  exact ⟨h1, by show t.place.size + 0 ≤ t.mask; omega⟩
theorem SN.kept (R : SN w s.heap a L es ep t) : ¬ t.gaveWay = true := by
  unfold SetTable.gaveWay
  rw [mask_odd R.tab.mok]
  decide
/-- the probe behind c steps -/
abbrev pth (m : Nat) (h : Int) (c : Nat) : SetTable.Probe := nth m (runAt m (SetTable.bits h % (m + 1)) (SetTable.bits h)) c
theorem pth_on (m : Nat) (h : Int) (c q : Nat) : nth m (pth m h c) q = pth m h (c + q) := (nth_add m c _ q).symm
theorem pth_bare (m : Nat) (h : Int) : ∀ c, (pth m h c).dummy = none
  | 0 => rfl
  | c + 1 => by
    have ih := pth_bare m h c
    have e : pth m h (c + 1) = adv m (pth m h c) := nth_succ m _ c
    rw [e]
    unfold adv
    split <;> exact ih
/-- where what is sought may still stand -/
def Ahead (w : World) (L : List NMem) (t : SetTable) (k : NestedKey) (c K : Nat) : Prop := ∀ (i : Nat) (p : NMem), L[i]? = some p → p.2 = k → ∃ c', c ≤ c' ∧ c' < K ∧ t.place.toList[i]? = some (way t.mask (k.hash w) c')
theorem find_nk (R : SN w s.heap a L es ep t) {x : Addr} {k : NestedKey} (hx : NestedIs s.heap k (.ref x)) (h8 : k.depth ≤ 8) (hu : A.units + 8 < cLine) {K : Nat} (hf : K < 10 * SetTable.turns t.mask)
    (hK : way t.mask (k.hash w) K ∉ t.place.toList) (hb : ∀ c, c < K → way t.mask (k.hash w) c ∈ t.place.toList) {Q : SetFound → Shared → Prop} (yes : k ∈ L.map (·.2) → Q (.there none) s) (no : k ∉ L.map (·.2) → Q (.free (way t.mask (k.hash w) K) false) s) :
    ∀ (f c : Nat) (stand : Option SetTable.Probe), stand.getD (t.probeStart (k.hash w)) = pth t.mask (k.hash w) c → c ≤ K → K < c + f → Ahead w L t k c K → wpAny (model P w) A (setSearchFrom a (.ref x) (k.hash w) true f stand) Q E s := by
  intro f
  induction f with
  | zero => intro c _ _ h1 h2; omega
  | succ f ih =>
    intro c stand hst hc hcf hah
    obtain ⟨o, ho, _, hd⟩ := R.obj
    have get : ∀ {α : Type} {g : (Array (Int × Value) × Nat × SetTable) → Sem α} {Q : α → Shared → Prop}, wpAny (model P w) A (g (es, ep, t)) Q E s → wpAny (model P w) A (setState a >>= g) Q E s := fun h => wpAny_bind (wpAny_setState_of ho hd R.fit h)
    have at_ : ∀ q, (nth t.mask (pth t.mask (k.hash w) c) q).j = way t.mask (k.hash w) (c + q) := fun q => by rw [pth_on]
    obtain ⟨n, rfl⟩ : ∃ n, K = c + n := ⟨K - c, by omega⟩
    have key := go_spec t R.tab.ris R.tab.dm (fun i => (es[i]?.map (·.1)).getD 0) (k.hash w) (10 * SetTable.turns t.mask) n (pth t.mask (k.hash w) c) (pth_bare _ _ c) (by omega)
      (fun q hq => by rw [at_]; exact hb _ (by omega)) (by rw [at_]; exact hK)
    have hash : ∀ {i : Nat} {p : NMem}, L[i]? = some p → (fun i => (es[i]?.map (·.1)).getD 0) i = p.2.hash w := fun {i p} hp => by
      show (es[i]?.map (·.1)).getD 0 = _
      rw [R.at hp]
      rfl
    rw [setSearchFrom_succ]
    refine get ?_
    dsimp only
    refine wp_if_neg R.kept ?_
    try refine wpAny_bind (wpAny_pure ?_)
    rcases key with ⟨q, i, hq, hi, hh, before, hp⟩ | ⟨before, hp⟩
    · have hp2 : t.probe (fun i => (es[i]?.map (·.1)).getD 0) (k.hash w) (stand.getD (t.probeStart (k.hash w))) = some (.candidate (way t.mask (k.hash w) (c + q)) i (pth t.mask (k.hash w) (c + (q + 1)))) := by
        rw [hst, ← at_, ← pth_on]
        exact hp
      rw [hp2]
      dsimp only
      rw [at_] at hi
      have hil : i < L.length := by
        have := (List.getElem?_eq_some_iff.mp hi).1
        rw [Array.length_toList, R.places] at this
        exact this
      obtain ⟨p, hp1⟩ : ∃ p, L[i]? = some p := ⟨_, List.getElem?_eq_getElem hil⟩
      have hmem := List.mem_of_getElem? hp1
      obtain ⟨pk, p8⟩ := R.key p hmem
      have slot := slot_live R.tab.ris hi
      have rest : wpAny (model P w) A (searchRest a (.ref x) (k.hash w) true f es t (way t.mask (k.hash w) (c + q)) i (pth t.mask (k.hash w) (c + (q + 1)))) Q E s := by
        unfold searchRest
        rw [R.at hp1]
        dsimp only [nrow]
        refine wpAny_bind (wpAny_holding ((nestedKind P w).eqBool (show A.units + 8 < cLine from hu) ⟨pk, p8⟩ ⟨hx, h8⟩ ?_))
        refine get ?_
        dsimp only
        by_cases same : p.2 = k
        · refine wp_if_pos (by simp [same]) ?_
          exact wpAny_pure (yes (List.mem_map.mpr ⟨p, hmem, same⟩))
        · refine wp_if_neg (by simp [same]) ?_
          try refine wpAny_bind (wpAny_pure ?_)
          rw [sameMem]
          dsimp only
          simp only [if_true, slot, R.at hp1, nrow]
          refine wpAny_bind (wpAny_isSame_ref_self (wpAny_bind (wpAny_pure ?_)))
          simp only [if_true]
          refine wp_if_neg (by simp [same]) ?_
          refine ih (c + (q + 1)) _ rfl (by omega) (by omega) fun i0 p0 h0 e0 => ?_
          obtain ⟨c', a1, a2, a3⟩ := hah i0 p0 h0 e0
          refine ⟨c', ?_, a2, a3⟩
          rcases Nat.lt_trichotomy c' (c + q) with lt | eq | gt
          · refine absurd ((hash h0).trans (by rw [e0])) (before (c' - c) i0 (by omega) ?_)
            rw [at_, show c + (c' - c) = c' by omega]
            exact a3
          · rw [eq] at a3
            have z := slot_live R.tab.ris a3
            rw [slot] at z
            injection z with z
            rw [← z, hp1] at h0
            exact absurd ((congrArg Prod.snd (Option.some.inj h0)).trans e0) same
          · omega
      by_cases led : t.led = true
      · refine wp_if_neg (by simp [led]) ?_
        try refine wpAny_bind (wpAny_pure ?_)
        exact rest
      · refine wp_if_pos (by simp [led]) ?_
        refine wpAny_bind (search_nk hx h8 _ (fun y hy => ?_) ?_)
        · obtain ⟨e, he, rfl⟩ := List.mem_map.mp hy
          have he2 : e ∈ es.toList := by
            have : e ∈ es ∧ e.1 = k.hash w := by simpa using he
            simpa using this.1
          rw [R.rows] at he2
          obtain ⟨p2, hp2, rfl⟩ := List.mem_map.mp he2
          exact ⟨p2.2, p2.1, rfl, R.key p2 hp2⟩
        · refine wp_if_neg (by decide) ?_
          try refine wpAny_bind (wpAny_pure ?_)
          exact rest
    · have hp2 : t.probe (fun i => (es[i]?.map (·.1)).getD 0) (k.hash w) (stand.getD (t.probeStart (k.hash w))) = some (.empty (way t.mask (k.hash w) (c + n)) none) := by
        rw [hst, ← at_]
        exact hp
      rw [hp2]
      dsimp only
      refine wpAny_pure (no fun hm => ?_)
      obtain ⟨p0, hm0, e0⟩ := List.mem_map.mp hm
      obtain ⟨i0, h0⟩ := List.getElem?_of_mem hm0
      obtain ⟨c', a1, a2, a3⟩ := hah i0 p0 h0 e0
      refine absurd ((hash h0).trans (by rw [e0])) (before (c' - c) i0 (by omega) ?_)
      rw [at_, show c + (c' - c) = c' by omega]
      exact a3
/-- the search that adding asks for -/
theorem seek_nk (R : SN w s.heap a L es ep t) {x : Addr} {k : NestedKey} (hx : NestedIs s.heap k (.ref x)) (h8 : k.depth ≤ 8) (hu : A.units + 8 < cLine) {Q : SetFound → Shared → Prop} (yes : k ∈ L.map (·.2) → Q (.there none) s)
    (no : ∀ K, k ∉ L.map (·.2) → way t.mask (k.hash w) K ∉ t.place.toList → (∀ c, c < K → way t.mask (k.hash w) c ∈ t.place.toList) → Q (.free (way t.mask (k.hash w) K) false) s) :
    wpAny (model P w) A (setSearch a (.ref x) (k.hash w) true) Q E s := by
  have roomy := R.roomy
  obtain ⟨K, h1, h2, h3⟩ := R.tab.first (by rw [List.length_map]; omega) (k.hash w)
  have big : 10 * SetTable.turns t.mask ≤ 1420 := by
    unfold SetTable.turns
    rcases R.tab.mok with e | e | e <;> omega
  unfold setSearch
  refine find_nk R hx h8 hu h1 h2 h3 yes (fun n => no K n h2 h3) 100000 0 none rfl (Nat.zero_le _) (by omega) fun i p hp e => ?_
  have hi : (L.map fun p => p.2.hash w)[i]? = some (k.hash w) := by rw [List.getElem?_map, hp, ← e]; rfl
  have hil : i < t.place.toList.length := by
    rw [Array.length_toList, R.places]
    exact (List.getElem?_eq_some_iff.mp hp).1
  obtain ⟨c, hc, e2⟩ := R.tab.before h2 hi (List.getElem?_eq_getElem hil)
  exact ⟨c, Nat.zero_le _, hc, by rw [List.getElem?_eq_getElem hil, e2]⟩
end
end M
end

section
set_option Elab.async false
set_option linter.all false
set_option maxRecDepth 100000
set_option maxHeartbeats 2000000
/-! sets of nested keys: adding -/
namespace M
open PySem PySem.Spec L2
open PyProof.Rows hiding St
theorem all_range {α : Type} : ∀ L : List α, (List.range L.length).filterMap (fun i => L[i]?) = L
  | [] => rfl
  | x :: l => by
    have ih := all_range l
    have e : (List.range l.length).filterMap ((fun i => (x :: l)[i]?) ∘ Nat.succ) = l := ih
    rw [List.length_cons, List.range_succ_eq_map, List.filterMap_cons_some (f := fun i => (x :: l)[i]?) (b := x) rfl, List.filterMap_map, e]
theorem reorder {w : World} {L : List NMem} {es : Array (Int × Value)} {order : Array Nat} (hr : es.toList = L.map (nrow w)) (hp : order.toList.Perm (List.range L.length)) :
    ∃ L2 : List NMem, (order.filterMap (es[·]?)).toList = L2.map (nrow w) ∧ L2.Perm L ∧ (L2.map fun p => p.2.hash w) = order.toList.map fun i => (es.map (·.1)).getD i 0 := by
  have at_ : ∀ i, es[i]? = (L[i]?).map (nrow w) := fun i => by rw [← Array.getElem?_toList, hr, List.getElem?_map]
  refine ⟨order.toList.filterMap fun i => L[i]?, ?_, ?_, ?_⟩
  · rw [Array.toList_filterMap, List.map_filterMap]
    congr 1
    funext i
    exact at_ i
  · have h := hp.filterMap fun i => L[i]?
    rw [all_range] at h
    exact h
  · have small : ∀ i ∈ order.toList, i < L.length := fun i hi => List.mem_range.mp (hp.mem_iff.mp hi)
    generalize order.toList = l at small
    induction l with
    | nil => rfl
    | cons i l ih =>
      have hi := small i List.mem_cons_self
      rw [List.filterMap_cons_some (List.getElem?_eq_getElem hi), List.map_cons, List.map_cons, ih fun j hj => small j (List.mem_cons_of_mem _ hj)]
      congr 1
      have e : (es.map (·.1))[i]? = some ((L[i]).2.hash w) := by
        rw [Array.getElem?_map, at_, List.getElem?_eq_getElem hi]
        rfl
      simp [Array.getD_eq_getD_getElem?, e]
section
variable {P : Program} {w : World} {A : Around} {E : Value → Shared → Prop} {s : Shared} {a : Addr} {L : List NMem} {es : Array (Int × Value)} {ep : Nat} {t : SetTable}
theorem nk_but {h h' : Heap} {k : NestedKey} {v : Value} {o : Obj} (x : NestedIs h k v) (ho : h.get? a = some o) (hd : o.data = .set es ep t) (sb : Heap.SameBut a h h') : NestedIs h' k v :=
  NestedIs.at (fun b ob vs n hb hs => (sb.2 b fun e => by
    subst e
    rw [ho] at hb
    have e2 := Option.some.inj hb
    subst e2
    rw [hd] at hs
    exact nomatch hs).trans hb) k v x
theorem relay_nk {o : Obj} (ho : s.heap.get? a = some o) (hex : o.ExactSet) (hd : o.data = .set es ep t) (rows : es.toList = L.map (nrow w)) (pl : t.place.size = es.size) (dm : t.dummies = #[]) (fl : es.size ≤ t.mask)
    (once : (L.map (·.2)).Nodup) (key : ∀ p ∈ L, NestedIs s.heap p.2 (.ref p.1) ∧ p.2.depth ≤ 8) (few : L.length < 64) (ld : w.params.followText "set-order" = true ∨ t.led = true) {wanted M : Nat} (hw : SetTable.sizeAbove wanted - 1 = M) (hM : MaskOk M) (hw2 : SetTable.sizeAbove wanted ≤ 128) (hn : L.length * 5 < M * 3)
    {Q : Unit → Shared → Prop} (hQ : ∀ h' L' es' ep' t', Heap.SameBut a s.heap h' → SN w h' a L' es' ep' t' → L'.Perm L → Q () { s with heap := h' }) : wpAny (model P w) A (setRelay a wanted) Q E s := by
  have num : es.size = L.length := by rw [← Array.length_toList, rows, List.length_map]
  have fit : t.fits es.size = true := by
    unfold SetTable.fits SetTable.fill
    rw [dm, Bool.and_eq_true, beq_iff_eq, decide_eq_true_eq]
    exact ⟨pl, by show t.place.size + 0 ≤ t.mask; omega⟩
  obtain ⟨t', order, e1, e2, e3, e4, e5, _, _⟩ := relaid_ok t (hs := es.map (·.1)) (wanted := wanted) hw hM (by rw [Array.size_map, num]; omega)
  rw [Array.size_map, num] at e2
  obtain ⟨L2, r1, r2, r3⟩ := reorder rows e2
  rw [← r3] at e3
  have num2 : (order.filterMap (es[·]?)).size = es.size := by
    rw [← Array.length_toList, r1, List.length_map, r2.length_eq, num]
  rw [setRelay_eq]
  refine wpAny_bind (wpAny_setState_of ho hd fit ?_)
  dsimp only
  refine wp_if_neg (by rw [sizeLine_eq]; omega) ?_
  try refine wpAny_bind (wpAny_pure ?_)
  rw [e1]
  dsimp only
  refine wpAny_bind ?_
  refine wp_if_neg (by rw [num2]; simp) ?_
  try refine wpAny_bind (wpAny_pure ?_)
  refine wpAny_pure ?_
  dsimp only
  refine wpAny_storeSet_of ho hd ?_ (by rw [num2, num, sizeLine_eq]; omega)
  have sb : Heap.SameBut a s.heap (s.heap.update a (Obj.putSet (order.filterMap (es[·]?)) t')) := Heap.SameBut.update ..
  refine hQ _ L2 (order.filterMap (es[·]?)) (ep + 1) t' sb ⟨⟨_, store_at ho hd, ⟨hex.1, hex.2.1, hex.2.2⟩, rfl⟩, r1, e3, (r2.map (·.2)).nodup_iff.mpr once, fun p hp => ?_, by rw [r2.length_eq, e4]; exact hn, by rw [r2.length_eq]; exact few, by rw [e5]; exact ld⟩ r2
  obtain ⟨k1, k2⟩ := key p (r2.mem_iff.mp hp)
  exact ⟨nk_but k1 ho hd sb, k2⟩
theorem put_nk (R : SN w s.heap a L es ep t) {x : Addr} {k : NestedKey} (hx : NestedIs s.heap k (.ref x)) (h8 : k.depth ≤ 8) (hu : A.units + 8 < cLine) (few : L.length + 1 < 64) {Q : Bool → Shared → Prop}
    (hQ : ∀ b h' L' es' ep' t', Heap.SameBut a s.heap h' → SN w h' a L' es' ep' t' → (k ∈ L.map (·.2) → L' = L) → (k ∉ L.map (·.2) → L'.Perm ((x, k) :: L)) → Q b { s with heap := h' }) :
    wpAny (model P w) A (setAddHashed a (.ref x) (k.hash w)) Q E s := by
  obtain ⟨o, ho, hex, hd⟩ := R.obj
  have num := R.size
  have roomy := R.roomy
  unfold setAddHashed
  refine wpAny_holding ?_
  rw [show (100000 : Nat) = 99999 + 1 from rfl, setAddHashedIn_succ]
  refine wpAny_bind (wpAny_setState_of ho hd R.fit ?_)
  dsimp only
  refine wp_if_neg (by simp [byScan, Value.scannable]) ?_
  try refine wpAny_bind (wpAny_pure ?_)
  refine wpAny_bind (seek_nk R hx h8 hu (fun hm => ?_) fun K hm hK hb => ?_)
  · exact wpAny_pure (hQ false s.heap L es ep t (Heap.SameBut.refl a s.heap) R (fun _ => rfl) fun z => absurd hm z)
  · dsimp only
    refine wpAny_bind (wpAny_setState_of ho hd R.fit ?_)
    dsimp only
    obtain ⟨q1, q2, q3, q4, q5, q6, q7, q8, q9⟩ := R.tab.put hK hb
    generalize t.put (way t.mask (k.hash w) K) = pt at q1 q3 q4 q5 q6 q7 q8 q9 ⊢
    obtain ⟨t1, p⟩ := pt
    dsimp only at q1 q3 q4 q5 q6 q7 q8 q9 ⊢
    subst q1
    have rows1 : (SetTable.insertAt es (SetTable.below t.place (way t.mask (k.hash w) K)) (k.hash w, Value.ref x)).toList = (L.take (SetTable.below t.place (way t.mask (k.hash w) K)) ++ (x, k) :: L.drop (SetTable.below t.place (way t.mask (k.hash w) K))).map (nrow w) := by
      rw [SetTable.toList_insertAt, R.rows, List.map_append, List.map_cons, List.map_take, List.map_drop]
      rfl
    generalize SetTable.below t.place (way t.mask (k.hash w) K) = p at q2 q3 rows1 ⊢
    have pm : (L.take p ++ (x, k) :: L.drop p).Perm ((x, k) :: L) := by
      have := List.perm_middle (a := (x, k)) (l₁ := L.take p) (l₂ := L.drop p)
      rwa [List.take_append_drop] at this
    have hh : (L.take p ++ (x, k) :: L.drop p).map (fun p => p.2.hash w) = (L.map fun p => p.2.hash w).take p ++ k.hash w :: (L.map fun p => p.2.hash w).drop p := by
      rw [List.map_append, List.map_cons, List.map_take, List.map_drop]
    rw [← hh] at q3
    have once1 : ((L.take p ++ (x, k) :: L.drop p).map (·.2)).Nodup := by
      refine (pm.map (·.2)).nodup_iff.mpr ?_
      rw [List.map_cons]
      exact List.nodup_cons.mpr ⟨hm, R.once⟩
    generalize L.take p ++ (x, k) :: L.drop p = L1 at pm q3 rows1 once1
    have len1 : L1.length = L.length + 1 := pm.length_eq
    have num1 : (SetTable.insertAt es p (k.hash w, Value.ref x)).size = L.length + 1 := by rw [← Array.length_toList, rows1, List.length_map, len1]
    generalize SetTable.insertAt es p (k.hash w, Value.ref x) = es1 at rows1 num1 ⊢
    -- whatever the hash's kind: the table but for its mark
    have go : ∀ t2 : SetTable, TabOk t2 (L1.map fun p => p.2.hash w) → t2.mask = t.mask → t2.fill = L.length + 1 → t2.led = t.led →
        wpAny (model P w) A (do
          storeSet a es1 t2
          if (!false && t2.tooFull) = true then setRelay a (SetTable.grown (es.size + 1))
          return true) Q E s := fun t2 T2 m2 f2 l2 => by
      have ld2 : w.params.followText "set-order" = true ∨ t2.led = true := by rw [l2]; exact R.led
      refine wpAny_bind (wpAny_storeSet_of ho hd ?_ (by rw [num1, sizeLine_eq]; omega))
      have sb : Heap.SameBut a s.heap (s.heap.update a (Obj.putSet es1 t2)) := Heap.SameBut.update ..
      have ho1 := store_at (es' := es1) (t' := t2) ho hd
      generalize s.heap.update a (Obj.putSet es1 t2) = h1 at sb ho1 ⊢
      have key1 : ∀ p ∈ L1, NestedIs h1 p.2 (.ref p.1) ∧ p.2.depth ≤ 8 := fun p hp => by
        rcases List.mem_cons.mp (pm.mem_iff.mp hp) with e | hp
        · rw [e]; exact ⟨nk_but hx ho hd sb, h8⟩
        · obtain ⟨k1, k2⟩ := R.key p hp
          exact ⟨nk_but k1 ho hd sb, k2⟩
      by_cases full : t2.tooFull = true
      · refine wp_if_pos (by simp [full]) ?_
        refine wpAny_bind ?_
        have much : (L.length + 1) * 5 ≥ t2.mask * 3 := by
          have h := full
          unfold SetTable.tooFull at h
          rw [decide_eq_true_eq, f2] at h
          exact h
        rw [m2] at much
        have pl1 : t2.place.size = es1.size := by
          have h := T2.sz
          rw [List.length_map, len1] at h
          rw [h, num1]
        have two : (t.mask = 7 ∧ L.length = 4) ∨ (t.mask = 31 ∧ L.length = 18) := by
          rcases R.tab.mok with e | e | e
          · rw [e] at much roomy; exact .inl ⟨e, by omega⟩
          · rw [e] at much roomy; exact .inr ⟨e, by omega⟩
          · rw [e] at much; omega
        rw [num]
        have lay : ∀ M, SetTable.sizeAbove (SetTable.grown (L.length + 1)) - 1 = M → MaskOk M → SetTable.sizeAbove (SetTable.grown (L.length + 1)) ≤ 128 → (L.length + 1) * 5 < M * 3 → es1.size ≤ t2.mask →
            wpAny (model P w) A (setRelay a (SetTable.grown (L.length + 1))) (fun _ s' => wpAny (model P w) A (pure true) Q E s') E { s with heap := h1 } := fun M c1 c2 c3 c4 c5 => by
          refine relay_nk (s := { s with heap := h1 }) ho1 ⟨hex.1, hex.2.1, hex.2.2⟩ rfl rows1 pl1 T2.dm c5 once1 key1 (by rw [len1]; exact few) ld2 c1 c2 c3 (by rw [len1]; exact c4) fun h2 L2 es2 ep2 t3 sb2 R2 pm2 => ?_
          exact wpAny_pure (hQ true h2 L2 es2 ep2 t3 (sb.trans sb2) R2 (fun z => absurd z hm) fun _ => pm2.trans pm)
        rcases two with ⟨e0, e⟩ | ⟨e0, e⟩
        · exact lay 31 (by rw [e, size_20]) (.inr (.inl rfl)) (by rw [e, size_20]; decide) (by omega) (by rw [num1, m2]; omega)
        · exact lay 127 (by rw [e, size_76]) (.inr (.inr rfl)) (by rw [e, size_76]; decide) (by omega) (by rw [num1, m2]; omega)
      · refine wp_if_neg (by simp [full]) ?_
        refine wpAny_pure (hQ true h1 L1 es1 (ep + 1) t2 sb ⟨⟨_, ho1, ⟨hex.1, hex.2.1, hex.2.2⟩, rfl⟩, rows1, T2, once1, key1, ?_, by rw [len1]; exact few, ld2⟩ (fun z => absurd z hm) fun _ => pm)
        have h := full
        unfold SetTable.tooFull at h
        rw [decide_eq_true_eq, f2] at h
        rw [len1]
        omega
    have f1 : t1.fill = L.length + 1 := by rw [q9, List.length_map]
    split
    · refine wpAny_bind (byval_nk k _ 8 A s _ hx fun b => ?_)
      cases b with
      | true => exact go t1 q3 q4 f1 q5
      | false => exact go { t1 with plain := false } ⟨q3.ris, q3.dm, q3.sz, q3.mok, q3.bd, q3.reach⟩ q4 f1 q5
    · exact wpAny_bind (wpAny_pure (go t1 q3 q4 f1 q5))
end
end M
end

section
set_option Elab.async false
set_option linter.all false
set_option maxRecDepth 100000
set_option maxHeartbeats 2000000
/-! sets of nested keys, as rules: set(), add -/
namespace M
open PySem PySem.Spec L2
open PyProof.Rows hiding St
/-- the set's own object -/
def SnIn (w : World) (a : Addr) (L : List NMem) (h : Heap) : Prop := ∃ (es : Array (Int × Value)) (ep : Nat) (t : SetTable), (∃ o, h.get? a = some o ∧ o.ExactSet ∧ o.data = .set es ep t) ∧ es.toList = L.map (nrow w) ∧ TabOk t (L.map fun p => p.2.hash w) ∧
  (L.map (·.2)).Nodup ∧ L.length * 5 < t.mask * 3 ∧ L.length < 64 ∧ (w.params.followText "set-order" = true ∨ t.led = true)
def SnO (w : World) (a : Addr) (L : List NMem) : HO := .ext (SnIn w a L)
theorem SN.own {w : World} {h : Heap} {a : Addr} {L : List NMem} {es : Array (Int × Value)} {ep : Nat} {t : SetTable} (R : SN w h a L es ep t) : SnIn w a L h := ⟨es, ep, t, R.obj, R.rows, R.tab, R.once, R.roomy, R.few, R.led⟩
theorem snO_new {P : Program} {w : World} {H : Hp} {h : Heap} {a : Addr} {L : List NMem} (R : SnIn w a L h) : ObjOk P w H h a (SnO w a L) := by
  have ⟨es, ep, t, ⟨o, ho, r⟩, q⟩ := R
  refine ⟨R, ⟨o, ho⟩, fun h1 h2 ⟨es, ep, t, ⟨o, ho, r⟩, q⟩ k => ⟨es, ep, t, ⟨o, k o ho, r⟩, q⟩⟩
/-- the set at a, and that its members' tuples stand -/
structure SNS (w : World) (H : Hp) (a : Addr) (L : List NMem) : Prop where
  at_ : H a = some (SnO w a L)
  key : ∀ p ∈ L, NK H (.ref p.1) p.2 ∧ p.2.depth ≤ 8
theorem SNS.keep {w : World} {H H' : Hp} {a : Addr} {L : List NMem} (h : SNS w H a L) (e : ∀ b ys, H b = some (.tup ys) → H' b = some (.tup ys)) (k : H' a = some (SnO w a L)) : SNS w H' a L :=
  ⟨k, fun x hx => ⟨(h.key x hx).1.up e, (h.key x hx).2⟩⟩
theorem nk_upd {H : Hp} {a : Addr} {φ : Heap → Prop} {o : HO} (h : H a = some (.ext φ)) : ∀ b ys, H b = some (.tup ys) → upd H a o b = some (.tup ys) := fun b ys hb => by
  have n : b ≠ a := fun q => by
    rw [q, h] at hb
    have z := Option.some.inj hb
    exact absurd (show HO.ext _ = HO.tup ys from z) (fun y => nomatch y)
  rw [upd_ne n]; exact hb
/-- with another order, or one more -/
theorem SNS.put {w : World} {H : Hp} {a t : Addr} {L L' : List NMem} {k : NestedKey} (h : SNS w H a L) (hk : NK H (.ref t) k) (h8 : k.depth ≤ 8) (p : L' = L ∨ L'.Perm ((t, k) :: L)) : SNS w (upd H a (SnO w a L')) a L' := by
  refine ⟨upd_same, fun x hx => ?_⟩
  have e := nk_upd (o := SnO w a L') h.at_
  rcases p with rfl | p
  · exact ⟨(h.key x hx).1.up e, (h.key x hx).2⟩
  · rcases List.mem_cons.mp (p.mem_iff.mp hx) with rfl | hx
    · exact ⟨hk.up e, h8⟩
    · exact ⟨(h.key x hx).1.up e, (h.key x hx).2⟩
section
variable {X : Cx} {pins : List (Addr × Obj)} {σ : L2.St} {H : Hp} {s : Shared}
theorem sns_of {a : Addr} {L : List NMem} (I : Inv X pins σ H s) (h : SNS X.w H a L) : ∃ es ep t, SN X.w s.heap a L es ep t := by
  obtain ⟨⟨es, ep, t, h1, h2, h3, h4, h5, h6, h7⟩, -, -⟩ := I.hok a _ h.at_
  exact ⟨es, ep, t, h1, h2, h3, h4, fun p hp => ⟨(h.key p hp).1.is I.hok rfl, (h.key p hp).2⟩, h5, h6, h7⟩
theorem sn_fresh {w : World} {h : Heap} {a : Addr} {led : Bool} (hl : w.params.followText "set-order" = true ∨ led = true) (ho : h.get? a = some { cls := .type "set", dict := none, data := .set #[] 0 (.fresh 0 0 led) }) : SN w h a [] #[] 0 (.fresh 0 0 led) where
  obj := ⟨_, ho, ⟨rfl, rfl, rfl⟩, rfl⟩
  rows := rfl
  tab := ⟨List.Pairwise.nil, rfl, rfl, .inl rfl, fun x hx => (by cases hx), fun i h j hi => (by simp at hi)⟩
  once := List.nodup_nil
  key := fun p hp => nomatch hp
  roomy := by
    show 0 * 5 < 7 * 3
    decide
  few := by decide
  led := hl
/-- set() -/
def rSn0 (w : World) : List V → Hp → VK → Prop := fun xs H Q => xs = [] ∧ ∀ p, H p = none → Q (.ref p) (upd H p (SnO w p []))
theorem cr_sn0 : CallR X (.type "set") (rSn0 X.w) := by
  intro pins s σ H xs us Q I r ⟨e, q⟩
  subst e
  cases r
  refine setR_new fun _ => ⟨.ref _, upd H s.heap.objs.size (SnO X.w s.heap.objs.size []), ?_, rfl, q _ (I.hok.fresh (Nat.le_refl _))⟩
  exact I.laid (t' := s.toks) (fun b u z => Heap.get?_push_of_some _ z) (Nat.le_refl _) (snO_new (sn_fresh (by cases X.w.params.followText "set-order" <;> simp) (Heap.get?_push_size _ rfl)).own)
/-- found.add(k) -/
def rSnAdd (w : World) : V → List V → Hp → VK → Prop := fun x xs H Q => ∃ (a t : Addr) (k : NestedKey) (L : List NMem), x = V.ref a ∧ xs = [V.ref t] ∧ SNS w H a L ∧ NK H (.ref t) k ∧ k.depth ≤ 8 ∧ L.length + 1 < 64 ∧
  ∀ L', (k ∈ L.map (·.2) → L' = L) → (k ∉ L.map (·.2) → L'.Perm ((t, k) :: L)) → Q .non (upd H a (SnO w a L'))
theorem SN.isSet {w : World} {a : Addr} {L : List NMem} {es : Array (Int × Value)} {ep : Nat} {t : SetTable} (R : SN w s.heap a L es ep t) : s.TypeIs (.ref a) "set" := by
  obtain ⟨o, ho, hex, _⟩ := R.obj
  exact ⟨o, ho, hex.1⟩
theorem mt_snadd (hu : X.A.units + 64 < cLine) : MtR X "set.add" (rSnAdd X.w) := by
  intro pins s σ H x xs v us Q I rx rxs ⟨a, t, k, L, e1, e2, hs, hk, h8, few, q⟩
  subst e1; subst e2
  cases rx
  cases rxs with
  | cons ry rt =>
    cases rt
    cases ry
    obtain ⟨es, ep, tb, R⟩ := sns_of I hs
    have kn := hk.is I.hok (u := .ref t) rfl
    refine wpAny_call_entry PySem.F.slot_set_add R.isSet PySem.F.entry_set_add ?_ (PySem.F.args_set_add_2 _ _)
    unfold Builtin.«set.add» Builtin.Frozenset.oneOther
    simp only [List.isEmpty_nil, bind_assoc]
    unfold Builtin.Frozenset.addrOf setAdd
    refine wpAny_bind (wpAny_pure ?_)
    refine wpAny_bind (wpAny_pure ?_)
    refine wpAny_bind (wpAny_holding (wpAny_bind (pyHash_key k _ _ _ _ kn (by show X.A.units + 1 + k.depth < cLine; omega) ?_)))
    refine put_nk (s := { s with toks := s.toks + k.draws }) R kn h8 (by show X.A.units + 1 + 8 < cLine; omega) few fun b hp L' es' ep' t' sb R2 p1 p2 => ?_
    show wpAny _ _ (ret Value.none) _ _ _
    refine wpAny_pure ⟨_, rfl, .non, upd H a (SnO X.w a L'), ?_, rfl, q L' p1 p2⟩
    have ⟨o, at_, _⟩ := R2.obj
    exact I.write (e := a) (t' := s.toks + k.draws) (by rw [hs.at_]; trivial) (.inl rfl) (fun b u hb hu2 => (sb.2 b hb).trans hu2) ⟨o, at_⟩ (snO_new R2.own)
def tSnAdd (w : World) (to : TE) (t : TA) : TE := fun σ H Q => to σ H fun x H1 => (∃ a L, x = V.ref a ∧ SNS w H1 a L) ∧ t σ H1 fun xs H2 => rSnAdd w x xs H2 Q
variable {o e : Expr} {es : List Expr} {to : TE} {t : TA} {apos cpos : Pos}
theorem pe_snadd (hu : X.A.units + 64 < cLine) (ho : PE X o to) (ha : PA X (e :: es) t) (b1 : attributeBase o "add" X.env (eval o X.env) = eval o X.env := by rfl)
    (b2 : ((backTo cpos (starEach (e :: es) X.env)).all (fun x => !x.1) && (backToKw cpos (keywordEach [] X.env)).all (fun x => x.1.isSome) && decide ((e :: es).length + ([] : List Keyword).length + (if ([] : List Keyword).isEmpty then 0 else 1) < 30)) = true := by rfl)
    (b3 : (apos.endLine == cpos.line) = true := by rfl) (b4 : starEach (e :: es) X.env = (false, eval e X.env) :: starEach es X.env := by rfl) (b5 : (backTo cpos (starEach es X.env)).any (·.1) = false := by rfl) :
    PE X (.Call (.Attribute o "add" apos) (e :: es) [] cpos) (tSnAdd X.w to t) := by
  refine ⟨fun pins s σ H Q I h => wpAny_Call_method_late b1 b2 b3 rfl (thn (ho.run pins s σ H _ I h) fun v s1 ⟨x, H1, I1, r1, ty, q1⟩ => ?_)⟩
  obtain ⟨a, L, rfl, hs⟩ := ty
  obtain ⟨es1, ep, tb, R⟩ := sns_of I1 hs
  cases r1
  have ⟨ob, at_, ex, _⟩ := R.obj
  refine ⟨"set", "set.add", PySem.F.plainAttrs_set, PySem.F.slot_set_add, PySem.F.type_set_add, R.isSet, (fun b hb => ?_), ?_⟩
  · cases hb
    exact ⟨ob, at_, ex.2.1⟩
  have hA := ha.run cpos pins s1 σ H1 _ I1 q1
  rw [b4] at hA ⊢
  exact Calls.callWith_builtin (by show (false || (backTo cpos (starEach es X.env)).any (·.1)) = false; rw [b5] <;> rfl) (Calls.evalArgs_plain (thn hA fun us s2 ⟨vs, H2, I2, r2, q2⟩ => mt_snadd hu pins s2 σ H2 (.ref a) vs (.ref a) us Q I2 rfl r2 q2))
end
end M
end

section
set_option Elab.async false
set_option linter.all false
set_option maxRecDepth 100000
set_option maxHeartbeats 4000000
/-! set(list of nested keys) -/
namespace M
open PySem PySem.Spec PyProof.Rows L2
/-- of the first i keys these are in the set -/
structure Taken (ks L : List NMem) (i : Nat) : Prop where
  sub : ∀ p ∈ L, p ∈ ks
  all : ∀ p ∈ ks.take i, p.2 ∈ L.map (·.2)
  few : L.length ≤ i
theorem Taken.step {ks L L' : List NMem} {i : Nat} {p : NMem} (h : Taken ks L i) (hp : ks[i]? = some p) (p1 : p.2 ∈ L.map (·.2) → L' = L) (p2 : p.2 ∉ L.map (·.2) → L'.Perm (p :: L)) : Taken ks L' (i + 1) := by
  have nx : ks.take (i + 1) = ks.take i ++ [p] := by rw [List.take_succ, hp]; rfl
  by_cases m : p.2 ∈ L.map (·.2)
  · obtain rfl := p1 m
    refine ⟨h.sub, fun q hq => ?_, by have := h.few; omega⟩
    rw [nx] at hq
    rcases List.mem_append.mp hq with hq | hq
    · exact h.all q hq
    · rw [List.mem_singleton.mp hq]; exact m
  · have pm := p2 m
    refine ⟨fun q hq => ?_, fun q hq => ?_, by rw [pm.length_eq]; have := h.few; simp; omega⟩
    · rcases List.mem_cons.mp (pm.mem_iff.mp hq) with rfl | hq
      · exact List.mem_of_getElem? hp
      · exact h.sub q hq
    · rw [nx] at hq
      refine (pm.map (·.2)).mem_iff.mpr ?_
      rw [List.map_cons]
      rcases List.mem_append.mp hq with hq | hq
      · exact List.mem_cons_of_mem _ (h.all q hq)
      · rw [List.mem_singleton.mp hq]; exact List.mem_cons_self
section
variable {P : Program} {w : World} {A : Around} {E : Value → Shared → Prop} {s : Shared}
/-- the loop that puts the items of a list into a set -/
theorem sn_loop {h0 : Heap} {it a : Addr} {fp wr : List Addr} {G : Array GenState → Array GenState → Prop} {m : Nat} {Pv : Nat → Value → Prop} {St : Nat → Shared → Prop} {R : Result → Shared → Prop}
    (W : WalksS P w A.in1 it fp wr G m Pv St) (na : a ∉ fp) (ks : List NMem) (len : m = ks.length) (few : m < 63) (hu : A.units + 20 < cLine) (val : ∀ i v, Pv i v → ∃ p, ks[i]? = some p ∧ v = .ref p.1)
    (key : ∀ p ∈ ks, NestedIs h0 p.2 (.ref p.1) ∧ p.2.depth ≤ 8) (a0 : h0.get? a = none) (w0 : ∀ b ∈ wr, h0.get? b = none) :
    ∀ (left i : Nat) (s : Shared), m - i = left → i ≤ m → St i s → (∀ b u, h0.get? b = some u → s.heap.get? b = some u) → (∃ L es ep t, Taken ks L i ∧ SN w s.heap a L es ep t) →
      (∀ s' L es ep t, Moved (a :: wr) G s s' → (∀ b u, h0.get? b = some u → s'.heap.get? b = some u) → Taken ks L m → SN w s'.heap a L es ep t → R (.ok (.ret .none)) s') →
      codeAny (model P w) A (.builtin "set.update.loop" ⟨[.ref a, .ref it], []⟩) R s := by
  have nw : a ∉ wr := fun z => na (W.sub _ z)
  have more : ∀ b ∈ wr, b ∈ a :: wr := fun b z => List.mem_cons_of_mem _ z
  have kin : ∀ {s : Shared}, (∀ b u, h0.get? b = some u → s.heap.get? b = some u) → ∀ p ∈ ks, NestedIs s.heap p.2 (.ref p.1) := fun o p hp => NestedIs.at (fun b u _ _ hb _ => o b u hb) _ _ (key p hp).1
  have stay : ∀ {s s' : Shared} {L es ep t}, SN w s.heap a L es ep t → (∀ u, s.heap.get? a = some u → s'.heap.get? a = some u) → (∀ p ∈ L, p ∈ ks) → (∀ b u, h0.get? b = some u → s'.heap.get? b = some u) → SN w s'.heap a L es ep t := fun {s s' L es ep t} R k sub o => by
    obtain ⟨ob, h1, h2⟩ := R.obj
    exact ⟨⟨ob, k _ h1, h2⟩, R.rows, R.tab, R.once, fun p hp => ⟨kin o p (sub p hp), (R.key p hp).2⟩, R.roomy, R.few, R.led⟩
  intro left
  induction left with
  | zero =>
    intro i s e le st old ⟨L, es, ep, t, T, S0⟩ out
    obtain rfl : i = m := by omega
    refine codeAny_builtin PyProof.Rows.F.entry_set_update_loop (by
      rw [Around.under_plainId PyProof.Rows.F.plain_set_update_loop _]
      show wpAny _ A.in1 (pyNext (.ref it) >>= _) _ _ s
      refine wpAny_bind (W.done s _ _ st fun s' mv => ?_)
      have old2 : ∀ b u, h0.get? b = some u → s'.heap.get? b = some u := fun b u z => mv.heap b u (fun q => by rw [w0 b q] at z; cases z) (old b u z)
      show wpAny _ A.in1 (ret Value.none) _ _ s'
      exact wpAny_pure (out s' L es ep t (mv.mono more) old2 T (stay S0 (fun u z => mv.heap a u nw z) T.sub old2)))
  | succ left ih =>
    intro i s e le st old ⟨L, es, ep, t, T, S0⟩ out
    have lt : i < m := by omega
    refine codeAny_builtin PyProof.Rows.F.entry_set_update_loop (by
      rw [Around.under_plainId PyProof.Rows.F.plain_set_update_loop _]
      show wpAny _ A.in1 (pyNext (.ref it) >>= _) _ _ s
      refine wpAny_bind (W.item i s _ _ lt st fun v s' pv st' mv => ?_)
      obtain ⟨p, hp, rfl⟩ := val i v pv
      have hmem := List.mem_of_getElem? hp
      have old2 : ∀ b u, h0.get? b = some u → s'.heap.get? b = some u := fun b u z => mv.heap b u (fun q => by rw [w0 b q] at z; cases z) (old b u z)
      have S1 := stay S0 (fun u z => mv.heap a u nw z) T.sub old2
      show wpAny _ A.in1 (holding [.ref p.1] (setAdd a (.ref p.1)) >>= _) _ _ s'
      refine wpAny_bind (wpAny_holding ?_)
      unfold setAdd
      have kd := (key p hmem).2
      refine wpAny_holding (wpAny_bind (pyHash_key p.2 _ _ _ _ (kin old2 p hmem) (by show A.units + 1 + p.2.depth < cLine; omega) ?_))
      have T2 := T.few
      refine put_nk (s := { s' with toks := s'.toks + p.2.draws }) S1 (kin old2 p hmem) kd (by show A.units + 1 + 8 < cLine; omega) (by omega) fun b hp2 L' es' ep' t' sb S2 p1 p2 => ?_
      have same : ∀ c u, c ≠ a → s'.heap.get? c = some u → hp2.get? c = some u := fun c u nc z => (sb.2 c nc).trans z
      refine wpAny_pure ⟨plainId_quiet PyProof.Rows.F.plain_set_update_loop _, ih (i + 1) _ (by omega) lt (W.frame _ s' _ _ st' (Nat.le_add_right _ _) fun b hb u z => ?_) (fun b u z => same b u (fun q => by rw [q, a0] at z; cases z) (old2 b u z)) ⟨L', es', ep', t', T.step hp p1 p2, S2⟩ fun s'' L'' es'' ep'' t'' mv2 o2 T3 S4 => ?_⟩
      · exact same b u (fun y : b = a => na (y ▸ hb)) z
      · refine out s'' L'' es'' ep'' t'' (Moved.trans W.gtrans ((mv.mono more).then_heap (Nat.le_add_right _ _) fun b u nb z => ?_) mv2) o2 T3 S4
        exact same b u (fun y : b = a => nb (y ▸ List.mem_cons_self)) z)
/-- set(xs), xs a list of keys -/
theorem call_sn {l : Addr} {items : Array Value} {ks : List NMem} {Q : Value → Shared → Prop} (calm : A.handled = none) (hu : A.units + 40 < cLine) (hl : s.heap.IsList l items) (len : items.size = ks.length) (few : ks.length < 63)
    (val : ∀ (i : Nat) (v : Value), items[i]? = some v → ∃ p, ks[i]? = some p ∧ v = .ref p.1) (key : ∀ p ∈ ks, NestedIs s.heap p.2 (.ref p.1) ∧ p.2.depth ≤ 8)
    (fin : ∀ (hp : Heap) (tk : Nat) (L : List NMem) (es : Array (Int × Value)) (ep : Nat) (t : SetTable), Taken ks L ks.length → SN w hp s.heap.objs.size L es ep t → (∀ b u, s.heap.get? b = some u → hp.get? b = some u) → Q (.ref s.heap.objs.size) { s with heap := hp, toks := tk }) :
    wpAny (model P w) A (call (.type "set") [.ref l]) Q E s := by
  have made := PySem.F.called_set.made
  have subs := PySem.F.called_set.sub
  obtain ⟨_, _, order⟩ := PySem.F.called_set.mro
  refine wpAny_call (codeAny_of_tree (by
    show wpAny _ _ (callAny (.type "set") _) _ _ _
    refine wpAny_pure ⟨Code.quiet_builtin _ (by decide +kernel), codeAny_builtin PySem.F.entry_type_call ?_⟩
    rw [Around.under_plain (weight_type_call_type "set" [.ref l] []) rfl]
    have t1 := PySem.F.called_set.notType
    have t2 := PySem.F.called_set.canCreate
    have t3 := PySem.F.typeCall_set_1 (.ref l)
    repeat (any_goals (first | assumption | wp_step))
    refine codeAny_mono (code_set_led1 (.ref l) (E := E) (Q₁ := fun x s1 => x = .ref s.heap.objs.size ∧ s1 = { s with heap := s.heap.push (bareSet w) }) ⟨rfl, rfl⟩) fun r s1 got => ?_
    cases r with
    | error e => exact got
    | ok fl =>
      cases fl with
      | ret x =>
        obtain ⟨rfl, rfl⟩ := got
        have seen : (s.heap.push (bareSet w)).get? s.heap.objs.size = some (bareSet w) := Heap.get?_push_size _ rfl
        have typ : Shared.TypeIs { s with heap := s.heap.push (bareSet w) } (.ref s.heap.objs.size) "set" := ⟨_, seen, rfl⟩
        have i1 := PySem.F.called_set.init.lookup
        have i2 := PySem.F.called_set.init.bind (.ref s.heap.objs.size)
        repeat (any_goals (first | assumption | wp_step))
        refine codeAny_mono (codeAny_call_builtin (R := wants (fun y s2 => y = .none ∧ ∃ hp tk L es ep t, s2 = { s with heap := hp, toks := tk } ∧ Taken ks L ks.length ∧ SN w hp s.heap.objs.size L es ep t ∧ ∀ b u, s.heap.get? b = some u → hp.get? b = some u) E)
          PySem.F.called_set.init.plain PySem.F.entry_set_init (check_set_init_1 typ ?_)) fun r2 s2 got2 => ?_
        · obtain ⟨ob, at_, cls, num, dat⟩ := hl
          obtain ⟨oc, od, ot, os⟩ := ob
          simp only at cls dat
          subst cls; subst dat
          have at1 : (s.heap.push (bareSet w)).get? l = some { cls := .type "list", dict := od, data := .seq items num, slots := os } := Heap.get?_push_of_some _ at_
          have u1 := PySem.F.sub_list_set
          have u2 := PySem.F.sub_list_frozenset
          have u3 : (Value.type "list" == Value.type "dict") = false := by decide
          have isl : (s.heap.push (bareSet w)).IsList l items := ⟨_, at1, rfl, num, rfl⟩
          unfold Builtin.«set.__init__» noKeywords Builtin.Frozenset.updateFrom
          generalize gen : pyIter = PI
          wp_walk
          subst gen
          refine wpAny_pyIter_list isl (wpAny_bind (wpAny_runValue ?_))
          have below : l < s.heap.objs.size := Heap.lt_size at_
          have calm3 : A.in1.in1.in1.handled = none := by simp [calm]
          have apart : l ≠ (s.heap.push (bareSet w)).objs.size := by rw [Heap.size_push]; exact Nat.ne_of_lt (Nat.lt_succ_of_lt below)
          have out : s.heap.objs.size ∉ [(s.heap.push (bareSet w)).objs.size, l] := by
            rw [Heap.size_push]
            intro z
            rcases List.mem_cons.mp z with z | z
            · exact Nat.ne_of_lt (Nat.lt_succ_self _) z
            · exact Nat.ne_of_gt below (List.mem_singleton.mp z)
          refine sn_loop (h0 := s.heap) ((Walks.list calm3 _ l apart items).toS) out ks len (by omega) (by show A.units + 1 + 1 + 20 < cLine; omega) val key (by
              cases q : s.heap.get? s.heap.objs.size with
              | none => rfl
              | some u => exact absurd (Heap.lt_size q) (Nat.lt_irrefl _)) (fun b hb => by
              rw [List.mem_singleton.mp hb]
              cases q : s.heap.get? (s.heap.push (bareSet w)).objs.size with
              | none => rfl
              | some u =>
                have := Heap.lt_size q
                rw [Heap.size_push] at this
                exact absurd this (Nat.not_lt.mpr (Nat.le_succ _))) (items.size - 0) 0 _ (by omega) (Nat.zero_le _)
            ⟨⟨_, Heap.get?_push_size _ rfl, rfl, rfl⟩, (isl.push _)⟩ (fun b u z => Heap.get?_push_of_some _ (Heap.get?_push_of_some _ z)) ⟨[], _, _, _, ⟨(fun p hp => nomatch hp), (fun p hp => by rw [List.take_zero] at hp; exact nomatch hp), Nat.le_refl _⟩, sn_fresh (led_bare w) (Heap.get?_push_of_some _ seen)⟩ fun s3 L es ep t mv old T3 S3 => ?_
          obtain ⟨hp, g3, d3, tk, os3⟩ := s3
          have g0 : g3 = s.gens := mv.gens
          have d0 : d3 = s.drawn := mv.drawn
          have o0 : os3 = s.os := mv.os
          subst g0; subst d0; subst o0
          show wpAny _ _ _ _ _ _
          refine wpAny_pure (by
            show wpAny _ _ (ret Value.none) _ _ _
            refine wpAny_pure ⟨rfl, hp, tk, L, es, ep, t, rfl, by rw [← len]; exact T3, S3, old⟩)
        · cases r2 with
          | error e => exact got2
          | ok fl2 =>
            cases fl2 with
            | ret y =>
              obtain ⟨rfl, hp, tk, L, es, ep, t, rfl, T3, S3, old⟩ := got2
              repeat (any_goals (first | assumption | wp_step))
              exact fin _ _ _ _ _ _ T3 S3 old
            | _ => exact got2.elim
      | _ => exact got.elim))
end
end M
end

section
set_option Elab.async false
set_option linter.all false
set_option maxRecDepth 100000
set_option maxHeartbeats 4000000
/-! set(list of nested keys), as a rule -/
namespace M
open PySem PySem.Spec L2
open PyProof.Rows hiding St
theorem refs_nm : ∀ {ks : List NMem} {us : List Value}, Vals (ks.map fun p => V.ref p.1) us → us = ks.map fun p => Value.ref p.1
  | [], _, .nil => rfl
  | p :: ks, _, .cons r t => by
    cases r
    rw [refs_nm t]
    rfl
section
variable {X : Cx}
def rSnL (K : PySem.W.Frag) (w : World) : List V → Hp → VK → Prop := fun xs H Q => ∃ (l : Addr) (ks : List NMem), xs = [V.ref l] ∧ SqL K H l (ks.map fun p => V.ref p.1) ∧ (∀ p ∈ ks, NK H (.ref p.1) p.2 ∧ p.2.depth ≤ 8) ∧ ks.length < 63 ∧
  ∀ a L, H a = none → Taken ks L ks.length → Q (.ref a) (upd H a (SnO w a L))
theorem cr_snL (hc : X.calm = true) (hu : X.A.units + 64 < cLine) : CallR X (.type "set") (rSnL X.K X.w) := by
  intro pins s σ H xs us Q I r ⟨l, ks, e, hl, hk, few, q⟩
  subst e
  rw [Vals.ref1 r]
  obtain ⟨its, rv, pl, hz⟩ := I.list hl
  have eq := refs_nm rv
  have hn : H s.heap.objs.size = none := I.hok.fresh (Nat.le_refl _)
  refine call_sn (ks := ks) (I.ok.hd hc) (by omega) pl.isList (by rw [List.size_toArray, eq, List.length_map]) few (fun i v hv => ?_) (fun p hp => ⟨(hk p hp).1.is I.hok rfl, (hk p hp).2⟩) fun hp tk L es ep t T R old => ?_
  · rw [List.getElem?_toArray, eq, List.getElem?_map] at hv
    obtain ⟨p, h1, h2⟩ := Option.map_eq_some_iff.mp hv
    exact ⟨p, h1, h2.symm⟩
  · exact ⟨.ref s.heap.objs.size, upd H s.heap.objs.size (SnO X.w s.heap.objs.size L), I.laid (t' := tk) old (Nat.le_refl _) (snO_new R.own), rfl, q _ L hn T⟩
theorem SNS.taken {w : World} {H : Hp} {a : Addr} {ks L : List NMem} (hk : ∀ p ∈ ks, NK H (.ref p.1) p.2 ∧ p.2.depth ≤ 8) (T : Taken ks L ks.length) (n : H a = none) : SNS w (upd H a (SnO w a L)) a L :=
  ⟨upd_same, fun p hp => ⟨(hk p (T.sub p hp)).1.up fun b ys hb => by rw [upd_ne (ne_of_none hb n)]; exact hb, (hk p (T.sub p hp)).2⟩⟩
end
end M
end

section
set_option Elab.async false
set_option linter.all false
set_option maxRecDepth 100000
set_option maxHeartbeats 4000000
/-! sorted(set of triples) -/
namespace M
open PySem PySem.Spec L2
open PyProof.Rows hiding St
theorem perm_back {α β : Type} {f : α → β} : ∀ {l m : List β}, l.Perm m → ∀ {L : List α}, m = L.map f → ∃ L' : List α, L'.Perm L ∧ l = L'.map f := by
  intro l m h
  induction h with
  | nil => intro L e; exact ⟨L, .refl _, e⟩
  | @cons x l1 l2 h ih =>
    intro L e
    match L, e with
    | y :: L2, e =>
      injection e with e1 e2
      obtain ⟨L', p, e3⟩ := ih e2
      exact ⟨y :: L', p.cons y, by rw [List.map_cons, ← e1, ← e3]⟩
  | swap x y l =>
    intro L e
    match L, e with
    | a :: b :: L2, e =>
      injection e with e1 e2
      injection e2 with e2 e3
      exact ⟨b :: a :: L2, .swap _ _ _, by rw [List.map_cons, List.map_cons, ← e1, ← e2, ← e3]⟩
  | trans _ _ ih1 ih2 =>
    intro L e
    obtain ⟨L1, p1, e1⟩ := ih2 e
    obtain ⟨L2, p2, e2⟩ := ih1 e1
    exact ⟨L2, p2.trans p1, e2⟩
abbrev Mk3 := Nat × Nat × Nat
def trip (m : Mk3) : NestedKey := .tup [.num (m.1 : Nat), .text ⟨#[m.2.1]⟩, .num (m.2.2 : Nat)]
def Low (m : Mk3) : Prop := m.1 < 2 ^ 32 ∧ m.2.1 < 2 ^ 32 ∧ m.2.2 < 2 ^ 32
def rk3 (m : Mk3) : Nat := (m.1 * 2 ^ 32 + m.2.1) * 2 ^ 32 + m.2.2
def Tri (h : Heap) (x : Addr) (m : Mk3) : Prop := ∃ (o : Obj) (vs : Array Value) (n : Nat) (t1 t2 t3 : Tok), h.get? x = some o ∧ o.cls = .type "tuple" ∧ o.data = .seq vs n ∧ vs.toList = [.int (m.1 : Nat) t1, .str ⟨#[m.2.1]⟩ t2, .int (m.2.2 : Nat) t3]
theorem nk_tri {P : Program} {w : World} {H : Hp} {h : Heap} (ok : HOk P w H h) {x : Addr} {m : Mk3} (k : NK H (.ref x) (trip m)) : Tri h x m := by
  unfold trip at k
  generalize e : NestedKey.tup [.num (m.1 : Nat), .text ⟨#[m.2.1]⟩, .num (m.2.2 : Nat)] = q at k
  cases k with
  | @tup a xs ks ha t =>
    injection e with e
    subst e
    cases t with
    | cons k1 t =>
      cases t with
      | cons k2 t =>
        cases t with
        | cons k3 t =>
          cases t
          cases k1
          cases k2
          cases k3
          obtain ⟨_, its, rv, o, ho, hc, n, hd⟩ := ok x _ ha
          cases rv with
          | cons r1 rv =>
            cases rv with
            | cons r2 rv =>
              cases rv with
              | cons r3 rv =>
                cases rv
                obtain ⟨t1, rfl⟩ := r1
                obtain ⟨t2, rfl⟩ := r2
                obtain ⟨t3, rfl⟩ := r3
                exact ⟨o, _, n, t1, t2, t3, ho, hc, hd, by simp⟩
theorem rk_lt1 {m q : Mk3} (hm : Low m) (hq : Low q) (h : m.1 ≠ q.1) : decide ((m.1 : Int) < (q.1 : Int)) = decide ((rk3 m : Int) < rk3 q) := by
  obtain ⟨h1, h2, h3⟩ := hm
  obtain ⟨g1, g2, g3⟩ := hq
  apply decide_eq_decide.mpr
  unfold rk3
  omega
theorem rk_lt2 {m q : Mk3} (hm : Low m) (hq : Low q) (e : m.1 = q.1) (h : m.2.1 ≠ q.2.1) : decide (([m.2.1] : List Nat) < [q.2.1]) = decide ((rk3 m : Int) < rk3 q) := by
  obtain ⟨h1, h2, h3⟩ := hm
  obtain ⟨g1, g2, g3⟩ := hq
  apply decide_eq_decide.mpr
  have z : ([m.2.1] : List Nat) < [q.2.1] ↔ m.2.1 < q.2.1 := by rw [List.cons_lt_cons_iff]; simp
  rw [z]
  unfold rk3
  omega
theorem rk_lt3 {m q : Mk3} (e : m.1 = q.1) (h : m.2.1 = q.2.1) : decide ((m.2.2 : Int) < (q.2.2 : Int)) = decide ((rk3 m : Int) < rk3 q) := by
  apply decide_eq_decide.mpr
  unfold rk3
  omega
section
variable {P : Program} {w : World} {A : Around} {E : Value → Shared → Prop} {s : Shared}
theorem tri_lt {x y : Addr} {m q : Mk3} {Q : Bool → Shared → Prop} (hx : Tri s.heap x m) (hy : Tri s.heap y q) (lm : Low m) (lq : Low q) (h : Q (decide ((rk3 m : Int) < rk3 q)) s) : wpAny (model P w) A (keyLt' (tuples' true) (.ref x) (.ref y)) Q E s := by
  obtain ⟨o, vs, n, t1, t2, t3, ho, hc, hd, e⟩ := hx
  obtain ⟨o', vs', n', u1, u2, u3, ho', hc', hd', e'⟩ := hy
  refine PySem.W.kat_lt ho hd ho' hd' ?_
  have sz : decide (vs.size < vs'.size) = false := by
    have l1 := congrArg List.length e
    have l2 := congrArg List.length e'
    rw [Array.length_toList] at l1 l2
    exact decide_eq_false (by rw [l1, l2]; exact Nat.lt_irrefl 3)
  rw [sz, e, e']
  show PySem.W.KatLex P w A true false Q [(.int _ t1, .int _ u1), (.str _ t2, .str _ u2), (.int _ t3, .int _ u3)] 0 s
  refine PySem.W.kat_cons (wpAny_eqBool_int ?_)
  by_cases c1 : m.1 = q.1
  · rw [show ((m.1 : Int) == (q.1 : Int)) = true by rw [c1]; simp]
    refine PySem.W.kat_yes (PySem.W.kat_cons (wpAny_eqBool_str ?_))
    by_cases c2 : m.2.1 = q.2.1
    · rw [show decide ((⟨#[m.2.1]⟩ : Str) = ⟨#[q.2.1]⟩) = true by rw [c2]; simp]
      refine PySem.W.kat_yes (PySem.W.kat_cons (wpAny_eqBool_int ?_))
      by_cases c3 : m.2.2 = q.2.2
      · rw [show ((m.2.2 : Int) == (q.2.2 : Int)) = true by rw [c3]; simp]
        refine PySem.W.kat_yes (PySem.W.kat_nil ?_)
        rw [← rk_lt3 c1 c2, c3] at h
        simpa using h
      · rw [show ((m.2.2 : Int) == (q.2.2 : Int)) = false by simp; omega]
        refine PySem.W.kat_no (PyProof.Rows.oneLt_any_int ?_)
        rw [rk_lt3 c1 c2]; exact h
    · rw [show decide ((⟨#[m.2.1]⟩ : Str) = ⟨#[q.2.1]⟩) = false by
        refine decide_eq_false fun z => c2 ?_
        have := congrArg (fun z : Str => z.cps.toList) z
        simpa using this]
      refine PySem.W.kat_no (PyProof.Rows.oneLt_any_str ?_)
      have z := rk_lt2 lm lq c1 c2
      show Q (decide (([m.2.1] : List Nat) < [q.2.1])) s
      rw [z]; exact h
  · rw [show ((m.1 : Int) == (q.1 : Int)) = false by simp; omega]
    refine PySem.W.kat_no (PyProof.Rows.oneLt_any_int ?_)
    rw [rk_lt1 lm lq c1]; exact h
end
end M
end

section
set_option Elab.async false
set_option linter.all false
set_option maxRecDepth 100000
set_option maxHeartbeats 4000000
/-! sorted(set of triples): the rule -/
namespace M
open PySem PySem.Spec L2
open PyProof.Rows hiding St
def rkN : NestedKey → Int
  | .tup [.num a, .text z, .num b] => (a * 2 ^ 32 + ((z.cps.toList.headD 0 : Nat) : Int)) * 2 ^ 32 + b
  | _ => 0
theorem rkN_trip (m : Mk3) : rkN (trip m) = (rk3 m : Int) := by
  show ((m.1 : Int) * 2 ^ 32 + (m.2.1 : Nat)) * 2 ^ 32 + (m.2.2 : Nat) = _
  unfold rk3
  omega
def rkV (L : List NMem) : Value → Int
  | .ref x => ((L.find? fun p => p.1 == x).map fun p => rkN p.2).getD 0
  | _ => 0
theorem rkV_at {h : Heap} {L : List NMem} (k : ∀ p ∈ L, NestedIs h p.2 (.ref p.1)) {p : NMem} (hp : p ∈ L) : rkV L (.ref p.1) = rkN p.2 := by
  unfold rkV
  cases e : L.find? fun q => q.1 == p.1 with
  | none => exact absurd (List.find?_eq_none.mp e p hp) (by simp)
  | some q =>
    have e1 := List.find?_some e
    have e2 := List.mem_of_find?_eq_some e
    have e3 : q.1 = p.1 := by simpa using e1
    have k1 := k q e2
    rw [e3] at k1
    have e4 := NestedIs.inj _ _ _ k1 (k p hp)
    dsimp only
    rw [e]
    show rkN q.2 = rkN p.2
    rw [e4]
theorem tri_firsts {h : Heap} : ∀ vs : List Value, (∀ v ∈ vs, ∃ x m, v = .ref x ∧ Tri h x m) → ∃ fs, PySem.W.KatTups h vs fs ∧ fs.length = vs.length ∧ ∀ f ∈ fs, ∃ i t, f = Value.int i t
  | [], _ => ⟨[], PySem.W.KatTups.nil, rfl, fun f hf => nomatch hf⟩
  | v :: vs, hv => by
    obtain ⟨fs, k, hl, hi⟩ := tri_firsts vs fun u hu => hv u (List.mem_cons_of_mem _ hu)
    obtain ⟨x, m, rfl, o, xs, n, t1, t2, t3, ho, hc, hd, e⟩ := hv v List.mem_cons_self
    refine ⟨.int (m.1 : Nat) t1 :: fs, PySem.W.KatTups.cons ho hc hd ?_ k, by simp [hl], fun f hf => ?_⟩
    · rw [← Array.getElem?_toList, e]
      rfl
    · rcases List.mem_cons.mp hf with rfl | hf
      · exact ⟨_, _, rfl⟩
      · exact hi f hf
section
variable {P : Program} {w : World} {A : Around} {E : Value → Shared → Prop} {s : Shared} {a : Addr} {L : List NMem} {es : Array (Int × Value)} {ep : Nat} {t : SetTable}
theorem sorted_sn {Q : Value → Shared → Prop} (R : SN w s.heap a L es ep t) (calm : A.handled = none) (tri : ∀ p ∈ L, ∃ m, p.2 = trip m ∧ Low m ∧ Tri s.heap p.1 m)
    (fin : ∀ (s' : Shared) (p : Addr) (out : Array Value) (c : Nat) (L' : List NMem), (∀ b u, s.heap.get? b = some u → s'.heap.get? b = some u) → s'.gens = s.gens → s'.os = s.os → s.heap.objs.size ≤ p →
      s'.heap.get? p = some (seqObj "list" out c) → out.toList = L'.map (fun q => Value.ref q.1) → L'.Perm L → L'.Pairwise (fun q r => rkN q.2 ≤ rkN r.2) → Q (.ref p) s') :
    wpAny (model P w) A (call (.builtin "sorted") [.ref a]) Q E s := by
  obtain ⟨ob, at_, ex, dat⟩ := R.obj
  have few := R.few
  have num := R.size
  refine Calls.call_function_entry kind_sorted plain_sorted entry_sorted (args_sorted1 _) (by
    unfold Builtin.«sorted»
    refine wpAny_bind (m := checkCount "sorted" 1 1 _) (wpAny_pure (wpAny_bind (collect_set (A := A.in1) calm ⟨ob, at_, ex.1, dat⟩ R.fit (by rw [num]; unfold scanBound; omega) R.tab.ris R.led fun s1 vs old grown gens os perm => ?_)))
    rw [R.rows, List.map_map] at perm
    have perm2 : vs.Perm (L.map fun p => Value.ref p.1) := perm
    have len : vs.length = L.length := by rw [perm2.length_eq, List.length_map]
    refine wpAny_bind (wpAny_newList ?_ (by rw [len, sizeLine_eq]; omega))
    have new : (s1.heap.push (seqObj "list" vs.toArray 0)).get? s1.heap.objs.size = some (seqObj "list" vs.toArray 0) := Heap.get?_push_size _ rfl
    have own : ∀ v ∈ vs, ∃ p ∈ L, v = .ref p.1 := fun v hv => by
      obtain ⟨p, hp, e⟩ := List.mem_map.mp (perm2.mem_iff.mp hv)
      exact ⟨p, hp, e.symm⟩
    have keys : ∀ p ∈ L, NestedIs s.heap p.2 (.ref p.1) := fun p hp => (R.key p hp).1
    have mid : ∀ p ∈ L, ∀ m, Tri s.heap p.1 m → Tri (TS.midHeap (s1.heap.push (seqObj "list" vs.toArray 0)) s1.heap.objs.size vs) p.1 m := fun p hp m ⟨o, xs, n, t1, t2, t3, ho, r⟩ => by
      have h1 := old _ _ ho
      exact ⟨o, xs, n, t1, t2, t3, TS.midHeap_old (Nat.ne_of_lt (Heap.lt_size h1)) (Heap.get?_push_of_some _ h1), r⟩
    refine wpAny_bind (wpAny_holding (wpAny_call_entry slot_list_sort ⟨_, new, rfl⟩ entry_list_sort (SK.plain_sort (r := rkV L) new (by rw [len]; exact few) (fun h2 Q' hQ' => ?_) fun ps out o1 o2 o3 => ⟨_, rfl, ?_⟩) (args_list_sort _)))
    · obtain ⟨fs, k, hl, hi⟩ := tri_firsts (h := TS.midHeap (s1.heap.push (seqObj "list" vs.toArray 0)) s1.heap.objs.size vs) vs fun v hv => by
        obtain ⟨p, hp, rfl⟩ := own v hv
        obtain ⟨m, _, _, ht⟩ := tri p hp
        exact ⟨_, m, rfl, mid p hp m ht⟩
      refine PySem.W.kat_kind (T := Value.type "int") k (by omega) (fun f hf => ?_) rfl (hQ' _ ?_)
      · obtain ⟨i, t, rfl⟩ := hi f hf
        exact PySem.W.Looks.of_pure rfl
      · intro x y hx hy Q2 E2 hq
        rw [pairsOf_toList] at hx hy
        obtain ⟨p, hp, e1⟩ := own _ (mem_zip_self hx).2
        obtain ⟨q, hq1, e2⟩ := own _ (mem_zip_self hy).2
        obtain ⟨m, em, lm, tm⟩ := tri p hp
        obtain ⟨n, en, ln, tn⟩ := tri q hq1
        rw [e1, e2, rkV_at keys hp, rkV_at keys hq1, em, en, rkN_trip, rkN_trip] at hq
        rw [e1, e2]
        exact tri_lt (mid p hp m tm) (mid q hq1 n tn) lm ln hq
    · obtain ⟨pm, so⟩ := TS.out_rank o1 o2 o3
      obtain ⟨L', p2, e2⟩ := perm_back (f := fun p : NMem => Value.ref p.1) (pm.trans perm2) rfl
      obtain ⟨c, at2⟩ := sortedHeap_at (vs := vs) (out := out) new
      refine wpAny_pure ⟨_, rfl, fin _ s1.heap.objs.size out c L' (fun b u z => ?_) gens os grown at2 e2 p2 ?_⟩
      · have z1 := old b u z
        have lt := Heap.lt_size z1
        exact (sortedHeap_old (h := s1.heap.push (seqObj "list" vs.toArray 0)) (Nat.ne_of_lt lt) (by rw [size_push']; exact Nat.lt_succ_of_lt lt)).trans (Heap.get?_push_of_some _ z1)
      · rw [e2, List.pairwise_map] at so
        refine List.Pairwise.imp_of_mem (fun {q r} hq hr h => ?_) so
        rw [rkV_at keys (p2.mem_iff.mp hq), rkV_at keys (p2.mem_iff.mp hr)] at h
        exact h)
end
end M
end

section
set_option Elab.async false
set_option linter.all false
set_option maxRecDepth 100000
set_option maxHeartbeats 4000000
/-! sorted(set of triples), as a rule; sorted triples are told in one way -/
namespace M
open PySem PySem.Spec L2
open PyProof.Rows hiding St
theorem vals_nm : ∀ ks : List NMem, Vals (ks.map fun p => V.ref p.1) (ks.map fun p => Value.ref p.1)
  | [] => .nil
  | p :: ks => .cons rfl (vals_nm ks)
section
variable {X : Cx}
def rSortN (w : World) : List V → Hp → VK → Prop := fun xs H Q => ∃ (a : Addr) (L : List NMem), xs = [V.ref a] ∧ SNS w H a L ∧ (∀ p ∈ L, ∃ m, p.2 = trip m ∧ Low m) ∧
  ∀ (L' : List NMem) (p : Addr), L'.Perm L → (L'.map (·.2)).Nodup → L'.Pairwise (fun q r => rkN q.2 ≤ rkN r.2) → H p = none → Q (.ref p) (upd H p (.lst (L'.map fun q => V.ref q.1)))
theorem cr_sortN (hc : X.calm = true) : CallR X (.builtin "sorted") (rSortN X.w) := by
  intro pins s σ H xs us Q I r ⟨a, L, e, hs, tri, q⟩
  subst e
  rw [Vals.ref1 r]
  obtain ⟨es, ep, t, R⟩ := sns_of I hs
  refine sorted_sn R (I.ok.hd hc) (fun p hp => ?_) fun s' p out c L' old gens os above at_ eo pm so => ?_
  · obtain ⟨m, e, lm⟩ := tri p hp
    have k := (hs.key p hp).1
    rw [e] at k
    exact ⟨m, e, lm, nk_tri I.hok k⟩
  have fresh : H p = none := I.hok.fresh above
  have size : (L'.map fun q => V.ref q.1).length ≤ sizeLine := by
    have := R.few
    rw [List.length_map, pm.length_eq, sizeLine_eq]
    omega
  have J : Inv X pins σ (upd H p (.lst (L'.map fun q => V.ref q.1))) { s with heap := s'.heap, gens := s'.gens, drawn := s'.drawn, toks := s'.toks } :=
    I.call (ch := []) (Un.laid old above fresh) (I.hok.laid old above ⟨size, out.toList, c, by rw [eo]; exact vals_nm L', at_⟩) (by rw [gens]; exact I.bare) fun _ z => nomatch z
  have same : s' = { s with heap := s'.heap, gens := s'.gens, drawn := s'.drawn, toks := s'.toks } := by cases s'; cases s; cases os; rfl
  rw [same]
  exact ⟨.ref p, _, J, rfl, q L' p pm ((pm.map (·.2)).nodup_iff.mpr R.once) so fresh⟩
end
/-! ### marks that are told in one way -/
/-- low marks, rising -/
def Canon (ms : List Mark) : Prop := (∀ m ∈ ms, Low m) ∧ ms.Pairwise (fun a b => rk3 a < rk3 b)
theorem rk3_inj {a b : Mk3} (ha : Low a) (hb : Low b) (h : rk3 a = rk3 b) : a = b := by
  obtain ⟨a1, a2, a3⟩ := a
  obtain ⟨b1, b2, b3⟩ := b
  obtain ⟨h1, h2, h3⟩ := ha
  obtain ⟨g1, g2, g3⟩ := hb
  unfold rk3 at h
  dsimp only at *
  obtain rfl : a1 = b1 := by omega
  obtain rfl : a2 = b2 := by omega
  obtain rfl : a3 = b3 := by omega
  rfl
theorem canon_one : ∀ xs ys : List Mark, Canon xs → Canon ys → (∀ m, m ∈ xs ↔ m ∈ ys) → xs = ys
  | [], [], _, _, _ => rfl
  | [], y :: ys, _, _, h => absurd ((h y).mpr List.mem_cons_self) (by simp)
  | x :: xs, [], _, _, h => absurd ((h x).mp List.mem_cons_self) (by simp)
  | x :: xs, y :: ys, ⟨lx, px⟩, ⟨ly, py⟩, h => by
    obtain ⟨px1, px2⟩ := List.pairwise_cons.mp px
    obtain ⟨py1, py2⟩ := List.pairwise_cons.mp py
    have e : x = y := by
      rcases List.mem_cons.mp ((h x).mp List.mem_cons_self) with e | hx
      · exact e
      · rcases List.mem_cons.mp ((h y).mpr List.mem_cons_self) with e | hy
        · exact e.symm
        · have z1 := py1 x hx
          have z2 := px1 y hy
          omega
    subst e
    have rest : ∀ m, m ∈ xs ↔ m ∈ ys := fun m => by
      constructor
      · intro hm
        rcases List.mem_cons.mp ((h m).mp (List.mem_cons_of_mem _ hm)) with e | hm2
        · subst e
          exact absurd (px1 m hm) (Nat.lt_irrefl _)
        · exact hm2
      · intro hm
        rcases List.mem_cons.mp ((h m).mpr (List.mem_cons_of_mem _ hm)) with e | hm2
        · subst e
          exact absurd (py1 m hm) (Nat.lt_irrefl _)
        · exact hm2
    rw [canon_one xs ys ⟨fun m hm => lx m (List.mem_cons_of_mem _ hm), px2⟩ ⟨fun m hm => ly m (List.mem_cons_of_mem _ hm), py2⟩ rest]
/-- what sorted gives of such a set -/
theorem canon_of {L : List NMem} {ms : List Mark} (e : L.map (·.2) = ms.map trip) (lo : ∀ m ∈ ms, Low m) (nd : (L.map (·.2)).Nodup) (so : L.Pairwise (fun q r => rkN q.2 ≤ rkN r.2)) : Canon ms := by
  refine ⟨lo, ?_⟩
  have h1 : (L.map (·.2)).Pairwise (fun a b => rkN a ≤ rkN b) := List.pairwise_map.mpr so
  rw [e] at h1 nd
  have h2 := List.pairwise_map.mp h1
  have h3 := List.pairwise_map.mp nd
  refine List.Pairwise.imp_of_mem (fun {a b} ha hb h => ?_) (h2.and h3)
  obtain ⟨z1, z2⟩ := h
  rw [rkN_trip, rkN_trip] at z1
  have z3 : rk3 a ≠ rk3 b := fun q => z2 (by rw [rk3_inj (lo a ha) (lo b hb) q])
  omega
end M
end

section
set_option Elab.async false
set_option linter.all false
set_option maxRecDepth 100000
/-! tables of kinds: what stands of them; rows put together are alike where their parts are -/
namespace M
/-- one half of being alike to a depth more -/
def Hf (d : Nat) (r s : List Nat) : Prop := ∀ i c, r[i]? = some c → ∃ j, s[j]? = some c ∧ Al d (r.take i) (s.take j) ∧ Al d (r.drop (i + 1)) (s.drop (j + 1))
theorem al_hf {d : Nat} {r s : List Nat} : Al (d + 1) r s ↔ Hf d r s ∧ Hf d s r :=
  ⟨fun h => ⟨h.1, fun j c e => let ⟨i, a, b, g⟩ := h.2 j c e; ⟨i, a, b.symm, g.symm⟩⟩, fun h => ⟨h.1, fun j c e => let ⟨i, a, b, g⟩ := h.2 j c e; ⟨i, a, b.symm, g.symm⟩⟩⟩
theorem app_get {r s : List Nat} {i c : Nat} (h : (r ++ s)[i]? = some c) : (i < r.length ∧ r[i]? = some c) ∨ (∃ k, i = r.length + k ∧ s[k]? = some c) := by
  by_cases q : i < r.length
  · rw [List.getElem?_append_left q] at h
    exact .inl ⟨q, h⟩
  · rw [List.getElem?_append_right (by omega)] at h
    exact .inr ⟨i - r.length, by omega, h⟩
theorem take_l {r s : List Nat} {i : Nat} (h : i < r.length) : (r ++ s).take i = r.take i := List.take_append_of_le_length (Nat.le_of_lt h)
theorem drop_l {r s : List Nat} {i : Nat} (h : i < r.length) : (r ++ s).drop (i + 1) = r.drop (i + 1) ++ s := List.drop_append_of_le_length h
theorem take_r {r s : List Nat} {k : Nat} : (r ++ s).take (r.length + k) = r ++ s.take k := by rw [List.take_append]; simp [List.take_of_length_le]
theorem drop_r {r s : List Nat} {k : Nat} : (r ++ s).drop (r.length + k + 1) = s.drop (k + 1) := by
  rw [List.drop_append, List.drop_of_length_le (by omega)]
  simp only [List.nil_append]
  congr 1
  omega
theorem Al.app : ∀ {d : Nat} {r s r' s' : List Nat}, Al d r s → Al d r' s' → Al d (r ++ r') (s ++ s')
  | 0, _, _, _, _, _, _ => trivial
  | d + 1, r, s, r', s', h, g => by
    have half : ∀ {r s r' s' : List Nat}, Al (d + 1) r s → Al (d + 1) r' s' → Hf d (r ++ r') (s ++ s') := fun {r s r' s'} h g i c e => by
      rcases app_get e with ⟨q, e0⟩ | ⟨k, rfl, e0⟩
      · obtain ⟨j, e2, a1, a2⟩ := h.1 i c e0
        have q2 := (List.getElem?_eq_some_iff.mp e2).1
        refine ⟨j, by rw [List.getElem?_append_left q2]; exact e2, ?_, ?_⟩
        · rw [take_l q, take_l q2]; exact a1
        · rw [drop_l q, drop_l q2]; exact a2.app g.less
      · obtain ⟨j, e2, a1, a2⟩ := g.1 k c e0
        refine ⟨s.length + j, by rw [List.getElem?_append_right (by omega)]; rw [Nat.add_sub_cancel_left]; exact e2, ?_, ?_⟩
        · rw [take_r, take_r]; exact h.less.app a1
        · rw [drop_r, drop_r]; exact a2
    exact al_hf.mpr ⟨half h g, half h.symm g.symm⟩
/-! ### tables of kinds that come of rows -/
def Fits (t : KTab) (d : Nat) (ms : List Mark) (r : List Nat) : Prop :=
  (∀ i c, r[i]? = some c → ∃ a b, (a, c, b) ∈ ms ∧ Rep t d a (r.take i) ∧ Rep t d b (r.drop (i + 1))) ∧ (∀ a c b, (a, c, b) ∈ ms → ∃ i, r[i]? = some c ∧ Rep t d a (r.take i) ∧ Rep t d b (r.drop (i + 1)))
theorem rep_fits {t : KTab} {d n : Nat} {r : List Nat} : Rep t (d + 1) n r ↔ ∃ ms, t[n]? = some (d + 1, ms) ∧ Fits t d ms r := Iff.rfl
theorem Fits.up {t u : KTab} (g : Grows t u) {d : Nat} {ms : List Mark} {r : List Nat} (h : Fits t d ms r) : Fits u d ms r :=
  ⟨fun i c e => let ⟨a, b, m, x, y⟩ := h.1 i c e; ⟨a, b, m, x.up g, y.up g⟩, fun a c b m => let ⟨i, e, x, y⟩ := h.2 a c b m; ⟨i, e, x.up g, y.up g⟩⟩
/-- rows that may be told: closed under parts, short, few -/
structure Sub (S : List (List Nat)) (D : Nat) : Prop where
  tak : ∀ r ∈ S, ∀ i, r.take i ∈ S
  drp : ∀ r ∈ S, ∀ i, r.drop i ∈ S
  len : ∀ r ∈ S, r.length ≤ 60
  low : ∀ r ∈ S, ∀ c ∈ r, c < 2 ^ 32
  few : S.length * (D + 1) ≤ 2 ^ 20
  emp : [] ∈ S
structure TOk (canon : List Mark → Prop) (S : List (List Nat)) (D : Nat) (t : KTab) : Prop where
  ok : KOk canon t
  zero : t[0]? = some (0, [])
  wit : ∀ n d ms, t[n]? = some (d, ms) → n ≠ 0 → ∃ e r, d = e + 1 ∧ d ≤ D ∧ r ∈ S ∧ Fits t e ms r
section
variable {canon : List Mark → Prop} {S : List (List Nat)} {D : Nat} {t u : KTab}
theorem TOk.rep (T : TOk canon S D t) {n d : Nat} {ms : List Mark} (h : t[n]? = some (d, ms)) : ∃ r, (n ≠ 0 → r ∈ S ∧ d ≤ D) ∧ Rep t d n r := by
  by_cases q : n = 0
  · subst q
    have := T.zero.symm.trans h
    injection this with this
    injection this with e1 e2
    subst e1
    exact ⟨[], fun q => absurd rfl q, rfl⟩
  · obtain ⟨e, r, rfl, h1, h2, h3⟩ := T.wit n d ms h q
    exact ⟨r, fun _ => ⟨h2, h1⟩, ms, h, h3⟩
theorem TOk.lt (T : TOk canon S D t) {n d : Nat} {r : List Nat} (h : Rep t d n r) : n < t.length := by
  cases d with
  | zero =>
    have : n = 0 := h
    subst this
    exact (List.getElem?_eq_some_iff.mp T.zero).1
  | succ d =>
    obtain ⟨ms, e, _⟩ := h
    exact (List.getElem?_eq_some_iff.mp e).1
theorem TOk.ne (T : TOk canon S D t) {n d : Nat} {r : List Nat} (h : Rep t (d + 1) n r) : n ≠ 0 := fun e => by
  subst e
  obtain ⟨ms, e, _⟩ := h
  rw [T.zero] at e
  cases e
/-- what the number of a kind tells in the table -/
theorem TOk.at (T : TOk canon S D t) {n d : Nat} {r : List Nat} (h : Rep t d n r) : ∃ ms, t[n]? = some (d, ms) := by
  cases d with
  | zero =>
    have : n = 0 := h
    subst this
    exact ⟨_, T.zero⟩
  | succ d => exact let ⟨ms, e, _⟩ := h; ⟨ms, e⟩
theorem nodup_sub {α : Type} : ∀ (l L : List α), l.Nodup → (∀ x ∈ l, x ∈ L) → l.length ≤ L.length
  | [], _, _, _ => Nat.zero_le _
  | x :: l, L, d, s => by
    obtain ⟨d1, d2⟩ := List.nodup_cons.mp d
    obtain ⟨L1, L2, rfl⟩ := List.append_of_mem (s x List.mem_cons_self)
    have q := nodup_sub l (L1 ++ L2) d2 fun y hy => by
      rcases List.mem_append.mp (s y (List.mem_cons_of_mem _ hy)) with z | z
      · exact List.mem_append.mpr (.inl z)
      · rcases List.mem_cons.mp z with z | z
        · exact absurd (z ▸ hy) d1
        · exact List.mem_append.mpr (.inr z)
    simp only [List.length_append, List.length_cons] at q ⊢
    omega
theorem pairs_len (S : List (List Nat)) (D : Nat) : ((List.range D).flatMap fun d => S.map fun r => (d, r)).length = S.length * D := by
  induction D with
  | zero => rfl
  | succ D ih =>
    rw [List.range_succ, List.flatMap_append, List.length_append, ih]
    simp [Nat.mul_succ]
/-- there are few kinds -/
theorem TOk.few (hc : ∀ xs ys, canon xs → canon ys → (∀ m, m ∈ xs ↔ m ∈ ys) → xs = ys) (T : TOk canon S D t) : t.length ≤ S.length * D + 1 := by
  have ex : ∀ n : Nat, ∃ p : Nat × List Nat, n + 1 < t.length → (p.1 ∈ List.range D ∧ p.2 ∈ S) ∧ Rep t (p.1 + 1) (n + 1) p.2 := fun n => by
    by_cases q : n + 1 < t.length
    · obtain ⟨e, r, h1, h2, h3, h4⟩ := T.wit (n + 1) (t[n + 1]).1 (t[n + 1]).2 (List.getElem?_eq_getElem q) (by omega)
      refine ⟨(e, r), fun _ => ⟨⟨List.mem_range.mpr (by omega), h3⟩, (t[n + 1]).2, ?_, h4⟩⟩
      rw [List.getElem?_eq_getElem q]
      show some t[n + 1] = some (e + 1, (t[n + 1]).2)
      rw [← h1]
    · exact ⟨(0, []), fun z => absurd z q⟩
  let f := fun n => Classical.choose (ex n)
  have hf : ∀ n, n + 1 < t.length → ((f n).1 ∈ List.range D ∧ (f n).2 ∈ S) ∧ Rep t ((f n).1 + 1) (n + 1) (f n).2 := fun n => Classical.choose_spec (ex n)
  have q := nodup_sub ((List.range (t.length - 1)).map f) ((List.range D).flatMap fun d => S.map fun r => (d, r)) ?_ ?_
  · simp only [List.length_map, List.length_range] at q
    have e := pairs_len S D
    omega
  · refine List.pairwise_map.mpr (List.Pairwise.imp_of_mem (fun {a b} ha hb (h : a ≠ b) e => ?_) List.nodup_range)
    have la := List.mem_range.mp ha
    have lb := List.mem_range.mp hb
    have h1 := (hf a (by omega)).2
    have h2 := (hf b (by omega)).2
    rw [e] at h1
    have := Rep.one hc T.ok h1 h2
    omega
  · intro p hp
    obtain ⟨n, hn, rfl⟩ := List.mem_map.mp hp
    have ln := List.mem_range.mp hn
    obtain ⟨⟨h1, h2⟩, _⟩ := hf n (by omega)
    exact List.mem_flatMap.mpr ⟨_, h1, List.mem_map.mpr ⟨_, h2, rfl⟩⟩
/-- a kind has at most as many marks as its rows have places -/
theorem TOk.marks (hc : ∀ xs ys, canon xs → canon ys → (∀ m, m ∈ xs ↔ m ∈ ys) → xs = ys) (nd : ∀ xs, canon xs → xs.Nodup) (T : TOk canon S D t) {n d : Nat} {ms : List Mark} {r : List Nat} (h : t[n]? = some (d + 1, ms)) (g : Rep t (d + 1) n r) : ms.length ≤ r.length := by
  obtain ⟨ms', h', g1, g2⟩ := g
  obtain rfl : ms = ms' := by
    have := h.symm.trans h'
    injection this with this
    injection this
  have ex : ∀ i : Nat, ∃ m : Mark, i < r.length → m ∈ ms ∧ r[i]? = some m.2.1 ∧ Rep t d m.1 (r.take i) ∧ Rep t d m.2.2 (r.drop (i + 1)) := fun i => by
    by_cases q : i < r.length
    · obtain ⟨a, b, h1, h2, h3⟩ := g1 i r[i] (List.getElem?_eq_getElem q)
      exact ⟨(a, r[i], b), fun _ => ⟨h1, List.getElem?_eq_getElem q, h2, h3⟩⟩
    · exact ⟨(0, 0, 0), fun z => absurd z q⟩
  let f := fun n => Classical.choose (ex n)
  have hf : ∀ i, i < r.length → f i ∈ ms ∧ r[i]? = some (f i).2.1 ∧ Rep t d (f i).1 (r.take i) ∧ Rep t d (f i).2.2 (r.drop (i + 1)) := fun i => Classical.choose_spec (ex i)
  have q := nodup_sub ms ((List.range r.length).map f) (nd _ (T.ok.can _ _ _ h)) fun ⟨a, c, b⟩ hm => by
    obtain ⟨i, e, x, y⟩ := g2 a c b hm
    have hi := (List.getElem?_eq_some_iff.mp e).1
    obtain ⟨f1, f2, f3, f4⟩ := hf i hi
    refine List.mem_map.mpr ⟨i, List.mem_range.mpr hi, ?_⟩
    have e1 := Rep.one hc T.ok f3 x
    have e3 := Rep.one hc T.ok f4 y
    have e2 : (f i).2.1 = c := Option.some.inj (f2.symm.trans e)
    exact Prod.ext e1 (Prod.ext e2 e3)
  simpa using q
/-- a new kind -/
theorem TOk.add (T : TOk canon S D t) {d : Nat} {ms : List Mark} {r : List Nat} (hc : canon ms) (new : ∀ n : Nat, t[n]? ≠ some (d + 1, ms)) (hd : d + 1 ≤ D) (hr : r ∈ S) (hf : Fits t d ms r) : TOk canon S D (t ++ [(d + 1, ms)]) := by
  have at_ : ∀ {n : Nat} {x : Nat × List Mark}, (t ++ [(d + 1, ms)])[n]? = some x → t[n]? = some x ∨ (n = t.length ∧ x = (d + 1, ms)) := fun {n x} h => by
    by_cases q : n < t.length
    · rw [List.getElem?_append_left q] at h; exact .inl h
    · rw [List.getElem?_append_right (by omega)] at h
      have q2 : n - t.length < 1 := by simpa using (List.getElem?_eq_some_iff.mp h).1
      have q3 : n = t.length := by omega
      subst q3
      rw [Nat.sub_self] at h
      exact .inr ⟨rfl, (Option.some.inj h).symm⟩
  have g := Grows.app t [(d + 1, ms)]
  refine ⟨⟨fun n m x h1 h2 => ?_, fun n e ms' h => ?_⟩, g _ _ T.zero, fun n e ms' h q => ?_⟩
  · rcases at_ h1 with h1 | ⟨rfl, rfl⟩
    · rcases at_ h2 with h2 | ⟨rfl, rfl⟩
      · exact T.ok.one n m x h1 h2
      · exact absurd h1 (new n)
    · rcases at_ h2 with h2 | ⟨rfl, _⟩
      · exact absurd h2 (new m)
      · rfl
  · rcases at_ h with h | ⟨rfl, e1⟩
    · exact T.ok.can _ _ _ h
    · injection e1 with _ e2
      rw [e2]; exact hc
  · rcases at_ h with h | ⟨rfl, e1⟩
    · obtain ⟨e', r', h1, h2, h3, h4⟩ := T.wit n e ms' h q
      exact ⟨e', r', h1, h2, h3, h4.up g⟩
    · injection e1 with e1 e2
      subst e1; subst e2
      exact ⟨d, r, rfl, hd, hr, hf.up g⟩
/-! ### made of others -/
def BW (t : KTab) (d b b' x : Nat) : Prop := ∃ s, Rep t d b s ∧ Rep t d b' (s ++ [x])
def AW (t : KTab) (d a a' x : Nat) : Prop := ∃ s, Rep t d a s ∧ Rep t d a' (x :: s)
def LW (t : KTab) (d a a' : Nat) : Prop := ∃ s, Rep t d a s ∧ Rep t (d - 1) a' s
theorem BW.up (g : Grows t u) {d b b' x : Nat} : BW t d b b' x → BW u d b b' x := fun ⟨s, h1, h2⟩ => ⟨s, h1.up g, h2.up g⟩
theorem AW.up (g : Grows t u) {d b b' x : Nat} : AW t d b b' x → AW u d b b' x := fun ⟨s, h1, h2⟩ => ⟨s, h1.up g, h2.up g⟩
theorem LW.up (g : Grows t u) {d b b' : Nat} : LW t d b b' → LW u d b b' := fun ⟨s, h1, h2⟩ => ⟨s, h1.up g, h2.up g⟩
theorem BW.all {d b b' x : Nat} (h : BW t d b b' x) {r : List Nat} (hr : Rep t d b r) : Rep t d b' (r ++ [x]) := by
  obtain ⟨s, h1, h2⟩ := h
  exact h2.move ((h1.al hr).app (Al.refl _ _))
theorem AW.all {d b b' x : Nat} (h : AW t d b b' x) {r : List Nat} (hr : Rep t d b r) : Rep t d b' (x :: r) := by
  obtain ⟨s, h1, h2⟩ := h
  exact h2.move ((Al.refl d [x]).app (h1.al hr))
theorem LW.all {d b b' : Nat} (h : LW t d b b') {r : List Nat} (hr : Rep t d b r) : Rep t (d - 1) b' r := by
  obtain ⟨s, h1, h2⟩ := h
  exact h2.move ((h1.al hr).mono (Nat.sub_le _ _))
theorem fits_behind {d x l e : Nat} {ms ms' : List Mark} {r : List Nat} (h : Fits u d ms r) (hl : Rep u d l r) (he : Rep u d e []) (h1 : ∀ a c b, (a, c, b) ∈ ms → ∃ b', (a, c, b') ∈ ms' ∧ BW u d b b' x)
    (h2 : ∀ a c b', (a, c, b') ∈ ms' → (a, c, b') = (l, x, e) ∨ ∃ b, (a, c, b) ∈ ms ∧ BW u d b b' x) (h3 : (l, x, e) ∈ ms') : Fits u d ms' (r ++ [x]) := by
  refine ⟨fun i c q => ?_, fun a c b m => ?_⟩
  · rcases app_get q with ⟨q1, q0⟩ | ⟨k, rfl, q0⟩
    · obtain ⟨a, b, m, y1, y2⟩ := h.1 i c q0
      obtain ⟨b', m', w⟩ := h1 _ _ _ m
      exact ⟨a, b', m', by rw [take_l q1]; exact y1, by rw [drop_l q1]; exact w.all y2⟩
    · have k0 : k = 0 := by
        have := (List.getElem?_eq_some_iff.mp q0).1
        simp at this
        exact this
      subst k0
      obtain rfl : x = c := Option.some.inj q0
      exact ⟨l, e, h3, by simpa using hl, by rw [List.drop_of_length_le (by simp)]; exact he⟩
  · rcases h2 a c b m with q | ⟨b0, m0, w⟩
    · injection q with q1 q2
      injection q2 with q2 q3
      subst q1; subst q2; subst q3
      exact ⟨r.length, by simp, by simpa using hl, by rw [List.drop_of_length_le (by simp)]; exact he⟩
    · obtain ⟨i, q, y1, y2⟩ := h.2 _ _ _ m0
      have q1 := (List.getElem?_eq_some_iff.mp q).1
      exact ⟨i, by rw [List.getElem?_append_left q1]; exact q, by rw [take_l q1]; exact y1, by rw [drop_l q1]; exact w.all y2⟩
theorem fits_ahead {d x l e : Nat} {ms ms' : List Mark} {r : List Nat} (h : Fits u d ms r) (hl : Rep u d l r) (he : Rep u d e []) (h1 : ∀ a c b, (a, c, b) ∈ ms → ∃ a', (a', c, b) ∈ ms' ∧ AW u d a a' x)
    (h2 : ∀ a' c b, (a', c, b) ∈ ms' → (a', c, b) = (e, x, l) ∨ ∃ a, (a, c, b) ∈ ms ∧ AW u d a a' x) (h3 : (e, x, l) ∈ ms') : Fits u d ms' (x :: r) := by
  refine ⟨fun i c q => ?_, fun a c b m => ?_⟩
  · cases i with
    | zero =>
      obtain rfl : x = c := Option.some.inj q
      exact ⟨e, l, h3, he, hl⟩
    | succ i =>
      obtain ⟨a, b, m, y1, y2⟩ := h.1 i c q
      obtain ⟨a', m', w⟩ := h1 _ _ _ m
      exact ⟨a', b, m', w.all y1, y2⟩
  · rcases h2 a c b m with q | ⟨a0, m0, w⟩
    · injection q with q1 q2
      injection q2 with q2 q3
      subst q1; subst q2; subst q3
      exact ⟨0, rfl, he, hl⟩
    · obtain ⟨i, q, y1, y2⟩ := h.2 _ _ _ m0
      exact ⟨i + 1, q, w.all y1, y2⟩
theorem fits_less {d : Nat} {ms ms' : List Mark} {r : List Nat} (h : Fits u (d + 1) ms r) (h1 : ∀ a c b, (a, c, b) ∈ ms → ∃ a' b', (a', c, b') ∈ ms' ∧ LW u (d + 1) a a' ∧ LW u (d + 1) b b')
    (h2 : ∀ a' c b', (a', c, b') ∈ ms' → ∃ a b, (a, c, b) ∈ ms ∧ LW u (d + 1) a a' ∧ LW u (d + 1) b b') : Fits u d ms' r := by
  refine ⟨fun i c q => ?_, fun a c b m => ?_⟩
  · obtain ⟨a, b, m, y1, y2⟩ := h.1 i c q
    obtain ⟨a', b', m', w1, w2⟩ := h1 _ _ _ m
    exact ⟨a', b', m', w1.all y1, w2.all y2⟩
  · obtain ⟨a0, b0, m0, w1, w2⟩ := h2 a c b m
    obtain ⟨i, q, y1, y2⟩ := h.2 _ _ _ m0
    exact ⟨i, q, w1.all y1, w2.all y2⟩
/-- the marks of a row's places, one by one -/
def Places (t : KTab) (d : Nat) (ms : List Mark) (r : List Nat) : Prop := ms.length = r.length ∧ ∀ i a c b, ms[i]? = some (a, c, b) → r[i]? = some c ∧ Rep t d a (r.take i) ∧ Rep t d b (r.drop (i + 1))
theorem Places.up (g : Grows t u) {d : Nat} {ms : List Mark} {r : List Nat} (h : Places t d ms r) : Places u d ms r := ⟨h.1, fun i a c b e => let ⟨h1, h2, h3⟩ := h.2 i a c b e; ⟨h1, h2.up g, h3.up g⟩⟩
theorem Places.fits {d : Nat} {ms ms' : List Mark} {r : List Nat} (h : Places t d ms r) (e : ∀ m, m ∈ ms' ↔ m ∈ ms) : Fits t d ms' r := by
  refine ⟨fun i c q => ?_, fun a c b m => ?_⟩
  · have hi := (List.getElem?_eq_some_iff.mp q).1
    have hi2 : i < ms.length := by rw [h.1]; exact hi
    obtain ⟨⟨a, c', b⟩, hm⟩ : ∃ x, ms[i]? = some x := ⟨_, List.getElem?_eq_getElem hi2⟩
    obtain ⟨h1, h2, h3⟩ := h.2 i a c' b hm
    obtain rfl : c' = c := Option.some.inj (h1.symm.trans q)
    exact ⟨a, b, (e _).mpr (List.mem_of_getElem? hm), h2, h3⟩
  · obtain ⟨i, hi⟩ := List.getElem?_of_mem ((e _).mp m)
    obtain ⟨h1, h2, h3⟩ := h.2 i a c b hi
    exact ⟨i, h1, h2, h3⟩
/-- all parts of a row that lie side by side -/
def subs (r : List Nat) : List (List Nat) := (List.range (r.length + 1)).flatMap fun i => (List.range (r.length + 1)).map fun j => (r.drop i).take j
theorem mem_subs {r s : List Nat} : s ∈ subs r ↔ ∃ i j, s = (r.drop i).take j := by
  unfold subs
  simp only [List.mem_flatMap, List.mem_map, List.mem_range]
  constructor
  · rintro ⟨i, _, j, _, rfl⟩; exact ⟨i, j, rfl⟩
  · rintro ⟨i, j, rfl⟩
    by_cases q : i < r.length + 1
    · by_cases q2 : j < r.length + 1
      · exact ⟨i, q, j, q2, rfl⟩
      · exact ⟨i, q, r.length, by omega, by rw [List.take_of_length_le (by simp), List.take_of_length_le (by simp; omega)]⟩
    · exact ⟨0, by omega, 0, by omega, by rw [List.drop_of_length_le (i := i) (by omega)]; simp⟩
theorem subs_len (r : List Nat) : (subs r).length = (r.length + 1) * (r.length + 1) := by
  unfold subs
  generalize r.length + 1 = n
  have : ∀ m, ((List.range m).flatMap fun i => (List.range n).map fun j => (r.drop i).take j).length = m * n := fun m => by
    induction m with
    | zero => simp
    | succ m ih => rw [List.range_succ, List.flatMap_append, List.length_append, ih]; simp [Nat.succ_mul]
  exact this n
/-- the parts of some rows -/
def subsAll (rs : List (List Nat)) : List (List Nat) := [] :: rs.flatMap subs
theorem sub_all {rs : List (List Nat)} {D : Nat} (len : ∀ r ∈ rs, r.length ≤ 60) (low : ∀ r ∈ rs, ∀ c ∈ r, c < 2 ^ 32) (few : (subsAll rs).length * (D + 1) ≤ 2 ^ 20) : Sub (subsAll rs) D := by
  have mem : ∀ {s : List Nat}, s ∈ subsAll rs ↔ s = [] ∨ ∃ r ∈ rs, ∃ i j, s = (r.drop i).take j := fun {s} => by
    unfold subsAll
    rw [List.mem_cons, List.mem_flatMap]
    simp only [mem_subs]
  refine ⟨fun r hr i => ?_, fun r hr i => ?_, fun r hr => ?_, fun r hr c hc => ?_, few, List.mem_cons_self⟩
  · rcases mem.mp hr with rfl | ⟨r0, h0, p, q, rfl⟩
    · simp [subsAll]
    · exact mem.mpr (.inr ⟨r0, h0, p, min i q, by rw [List.take_take]⟩)
  · rcases mem.mp hr with rfl | ⟨r0, h0, p, q, rfl⟩
    · simp [subsAll]
    · exact mem.mpr (.inr ⟨r0, h0, p + i, q - i, by rw [List.drop_take, List.drop_drop]⟩)
  · rcases mem.mp hr with rfl | ⟨r0, h0, p, q, rfl⟩
    · simp
    · have := len r0 h0
      simp only [List.length_take, List.length_drop]
      omega
  · rcases mem.mp hr with rfl | ⟨r0, h0, p, q, rfl⟩
    · simp at hc
    · exact low r0 h0 c (List.mem_of_mem_drop (List.mem_of_mem_take hc))
theorem mem_all {rs : List (List Nat)} {r : List Nat} (h : r ∈ rs) : r ∈ subsAll rs := List.mem_cons_of_mem _ (List.mem_flatMap.mpr ⟨r, h, mem_subs.mpr ⟨0, r.length, by simp⟩⟩)
end
end M
end

section
set_option Elab.async false
set_option linter.all false
set_option maxRecDepth 100000
set_option maxHeartbeats 2000000
/-! what a Kinds object holds -/
namespace M
open PySem PySem.Spec L2 Evl
open PyProof.Rows hiding St
structure KA where
  (a1 a2 a3 a4 a5 a6 a7 a8 : Addr)
def KA.all (k : KA) : List Addr := [k.a1, k.a2, k.a3, k.a4, k.a5, k.a6, k.a7, k.a8]
/-- which rows, how deep, where -/
structure KC where
  S : List (List Nat)
  D : Nat
  x : Addr
  A : KA
def keyR (z : Str) (d : Nat) : NestedKey := .tup [.text z, .num (d : Nat)]
def keyN (d : Nat) (ms : List Mark) : NestedKey := .tup [.num (d : Nat), .tup (ms.map trip)]
def keyB (n c : Nat) : NestedKey := .tup [.num (n : Nat), .text ⟨#[c]⟩]
def keyA (c n : Nat) : NestedKey := .tup [.text ⟨#[c]⟩, .num (n : Nat)]
theorem one_inj {a b : Nat} (h : (⟨#[a]⟩ : Str) = ⟨#[b]⟩) : a = b := by
  have := congrArg (fun z : Str => z.cps.toList) h
  simpa using this
theorem keyR_inj {z z' : Str} {d d' : Nat} (h : keyR z d = keyR z' d') : z = z' ∧ d = d' := by
  unfold keyR at h
  injection h with h
  injection h with h1 h
  injection h with h2 _
  injection h1 with h1
  injection h2 with h2
  exact ⟨h1, by omega⟩
theorem keyB_inj {n n' c c' : Nat} (h : keyB n c = keyB n' c') : n = n' ∧ c = c' := by
  unfold keyB at h
  injection h with h
  injection h with h1 h
  injection h with h2 _
  injection h1 with h1
  injection h2 with h2
  exact ⟨by omega, one_inj h2⟩
theorem keyA_inj {n n' c c' : Nat} (h : keyA c n = keyA c' n') : c = c' ∧ n = n' := by
  unfold keyA at h
  injection h with h
  injection h with h1 h
  injection h with h2 _
  injection h1 with h1
  injection h2 with h2
  exact ⟨one_inj h1, by omega⟩
theorem trip_inj {a b : Mark} (h : trip a = trip b) : a = b := by
  unfold trip at h
  injection h with h
  injection h with h1 h
  injection h with h2 h
  injection h with h3 _
  injection h1 with h1
  injection h2 with h2
  injection h3 with h3
  obtain ⟨a1, a2, a3⟩ := a
  obtain ⟨b1, b2, b3⟩ := b
  have e2 := one_inj h2
  dsimp only at *
  obtain rfl : a1 = b1 := by omega
  obtain rfl : a3 = b3 := by omega
  rw [e2]
theorem trips_inj : ∀ {a b : List Mark}, a.map trip = b.map trip → a = b
  | [], [], _ => rfl
  | [], _ :: _, h => by cases h
  | _ :: _, [], h => by cases h
  | x :: a, y :: b, h => by
    injection h with h1 h2
    rw [trip_inj h1, trips_inj h2]
theorem keyN_inj {d d' : Nat} {a b : List Mark} (h : keyN d a = keyN d' b) : d = d' ∧ a = b := by
  unfold keyN at h
  injection h with h
  injection h with h1 h
  injection h with h2 _
  injection h1 with h1
  injection h2 with h2
  exact ⟨by omega, trips_inj h2⟩
theorem trip_depth (m : Mark) : (trip m).depth ≤ 3 := by
  show NestedKey.depth (.tup [_, _, _]) ≤ 3
  simp [NestedKey.depth, NestedKey.depthAll]
theorem trips_depth : ∀ ms : List Mark, NestedKey.depthAll (ms.map trip) ≤ 3
  | [] => by simp [NestedKey.depthAll]
  | m :: ms => by
    have h1 := trip_depth m
    have h2 := trips_depth ms
    rw [List.map_cons]
    simp only [NestedKey.depthAll]
    omega
theorem keyN_depth (d : Nat) (ms : List Mark) : (keyN d ms).depth ≤ 8 := by
  have := trips_depth ms
  unfold keyN
  simp only [NestedKey.depth, NestedKey.depthAll]
  omega
theorem keyR_depth (z : Str) (d : Nat) : (keyR z d).depth ≤ 8 := by unfold keyR; simp [NestedKey.depth, NestedKey.depthAll]
theorem keyB_depth (n c : Nat) : (keyB n c).depth ≤ 8 := by unfold keyB; simp [NestedKey.depth, NestedKey.depthAll]
theorem keyA_depth (c n : Nat) : (keyA c n).depth ≤ 8 := by unfold keyA; simp [NestedKey.depth, NestedKey.depthAll]
theorem trip_depth8 (m : Mark) : (trip m).depth ≤ 8 := Nat.le_trans (trip_depth m) (by decide)
/-! ### rows of a dict -/
theorem kat_mem {e : List NEnt} {k : NestedKey} {v : V} (h : kat e k = some v) : ∃ p ∈ e, p.1 = k ∧ p.2.2 = v := by
  unfold kat at h
  obtain ⟨p, h1, h2⟩ := Option.map_eq_some_iff.mp h
  exact ⟨p, List.mem_of_find?_eq_some h1, by simpa using List.find?_some h1, h2⟩
theorem kat_none {e : List NEnt} {k : NestedKey} (h : kat e k = none) : k ∉ e.map (·.1) := fun hm => by
  obtain ⟨p, hp, rfl⟩ := List.mem_map.mp hm
  unfold kat at h
  rw [Option.map_eq_none_iff] at h
  exact absurd (List.find?_eq_none.mp h p hp) (by simp)
theorem kat_some {e : List NEnt} {k : NestedKey} (h : k ∈ e.map (·.1)) : ∃ v, kat e k = some v := by
  cases q : kat e k with
  | some v => exact ⟨v, rfl⟩
  | none => exact absurd h (kat_none q)
def Once (e : List NEnt) : Prop := (e.map (·.1)).Nodup
theorem Once.put {e : List NEnt} (h : Once e) {k : NestedKey} {t : Addr} {v : V} (n : kat e k = none) : Once (e ++ [(k, t, v)]) := by
  unfold Once
  rw [List.map_append]
  refine List.nodup_append.mpr ⟨h, by simp, fun a ha b hb q => kat_none n ?_⟩
  have : b = k := by simpa using hb
  rw [← this, ← q]; exact ha
theorem Once.len {e : List NEnt} (h : Once e) {L : List NestedKey} (s : ∀ p ∈ e, p.1 ∈ L) : e.length ≤ L.length := by
  have := nodup_sub _ L h fun x hx => by
    obtain ⟨p, hp, rfl⟩ := List.mem_map.mp hx
    exact s p hp
  simpa using this
/-! ### refs to triples -/
def Trs (H : Hp) (rs : List V) (ms : List Mark) : Prop := ∃ L : List NMem, rs = L.map (fun p => V.ref p.1) ∧ L.map (·.2) = ms.map trip ∧ ∀ p ∈ L, NK H (.ref p.1) p.2
/-- tuples stand -/
def Tk (H H' : Hp) : Prop := ∀ b ys, H b = some (.tup ys) → H' b = some (.tup ys)
theorem Tk.of {H H' : Hp} (x : Ex H H') : Tk H H' := fun b ys e => x b _ e
theorem Tk.trans {H H' H2 : Hp} (x : Tk H H') (y : Tk H' H2) : Tk H H2 := fun b ys e => y b ys (x b ys e)
theorem Trs.up {H H' : Hp} (x : Tk H H') {rs : List V} {ms : List Mark} (h : Trs H rs ms) : Trs H' rs ms := by
  obtain ⟨L, h1, h2, h3⟩ := h
  exact ⟨L, h1, h2, fun p hp => (h3 p hp).up x⟩
theorem nks_trs {H : Hp} : ∀ {ms : List Mark} {xs : List V}, NKs H xs (ms.map trip) → Trs H xs ms
  | [], _, h => by cases h; exact ⟨[], rfl, rfl, fun p hp => nomatch hp⟩
  | m :: ms, _, h => by
    cases h with
    | cons h1 h2 =>
      obtain ⟨L, e1, e2, e3⟩ := nks_trs h2
      generalize e : trip m = k at h1
      cases h1 with
      | int => exact nomatch e
      | str => exact nomatch e
      | @tup a ys ks ha t =>
        refine ⟨(a, trip m) :: L, by rw [e1]; rfl, by rw [List.map_cons, e2]; rfl, fun p hp => ?_⟩
        rcases List.mem_cons.mp hp with rfl | hp
        · rw [e]; exact .tup ha t
        · exact e3 p hp
theorem trs_nks {H : Hp} : ∀ {L : List NMem} {ms : List Mark}, L.map (·.2) = ms.map trip → (∀ p ∈ L, NK H (.ref p.1) p.2) → NKs H (L.map fun p => V.ref p.1) (ms.map trip)
  | [], [], _, _ => .nil
  | [], _ :: _, h, _ => by cases h
  | _ :: _, [], h, _ => by cases h
  | p :: L, m :: ms, h, k => by
    injection h with h1 h2
    refine .cons ?_ (trs_nks h2 fun q hq => k q (List.mem_cons_of_mem _ hq))
    rw [← h1]; exact k p List.mem_cons_self
theorem nk_trs {H : Hp} {a : Addr} {ms : List Mark} (h : NK H (.ref a) (.tup (ms.map trip))) : ∃ xs, H a = some (.tup xs) ∧ Trs H xs ms := by
  generalize e : NestedKey.tup (ms.map trip) = k at h
  cases h with
  | @tup a xs ks ha t =>
    injection e with e
    subst e
    exact ⟨xs, ha, nks_trs t⟩
theorem trs_nk {H : Hp} {a : Addr} {xs : List V} {ms : List Mark} (h : H a = some (.tup xs)) (t : Trs H xs ms) : NK H (.ref a) (.tup (ms.map trip)) := by
  obtain ⟨L, rfl, e2, e3⟩ := t
  exact .tup h (trs_nks e2 e3)
theorem Trs.len {H : Hp} {xs : List V} {ms : List Mark} (t : Trs H xs ms) : xs.length = ms.length := by
  obtain ⟨L, rfl, e2, _⟩ := t
  have := congrArg List.length e2
  simpa using this
/-- a triple at an address -/
theorem nk_trip {H : Hp} {a : Addr} {m : Mark} (h : NK H (.ref a) (trip m)) : H a = some (.tup [.int (m.1 : Nat), .str ⟨#[m.2.1]⟩, .int (m.2.2 : Nat)]) := by
  unfold trip at h
  generalize e : NestedKey.tup [.num (m.1 : Nat), .text ⟨#[m.2.1]⟩, .num (m.2.2 : Nat)] = q at h
  cases h with
  | @tup a xs ks ha t =>
    injection e with e
    subst e
    cases t with
    | cons k1 t =>
      cases t with
      | cons k2 t =>
        cases t with
        | cons k3 t =>
          cases t
          cases k1
          cases k2
          cases k3
          exact ha
theorem trip_nk {H : Hp} {a : Addr} {n c m : Nat} (h : H a = some (.tup [.int (n : Nat), .str ⟨#[c]⟩, .int (m : Nat)])) : NK H (.ref a) (trip (n, c, m)) := .tup h (.cons (.int _) (.cons (.str _) (.cons (.int _) .nil)))
theorem Trs.at {H : Hp} {xs : List V} {ms : List Mark} (t : Trs H xs ms) {i : Nat} {m : Mark} (h : ms[i]? = some m) : ∃ a, xs[i]? = some (.ref a) ∧ H a = some (.tup [.int (m.1 : Nat), .str ⟨#[m.2.1]⟩, .int (m.2.2 : Nat)]) := by
  obtain ⟨L, rfl, e2, e3⟩ := t
  have h2 : (ms.map trip)[i]? = some (trip m) := by rw [List.getElem?_map, h]; rfl
  rw [← e2, List.getElem?_map] at h2
  obtain ⟨p, h3, h4⟩ := Option.map_eq_some_iff.mp h2
  refine ⟨p.1, by rw [List.getElem?_map, h3]; rfl, ?_⟩
  have := e3 p (List.mem_of_getElem? h3)
  rw [h4] at this
  exact nk_trip this
theorem Trs.snoc {H : Hp} {xs : List V} {ms : List Mark} (t : Trs H xs ms) {a : Addr} {m : Mark} (h : NK H (.ref a) (trip m)) : Trs H (xs ++ [.ref a]) (ms ++ [m]) := by
  obtain ⟨L, rfl, e2, e3⟩ := t
  refine ⟨L ++ [(a, trip m)], by simp, by rw [List.map_append, List.map_append, e2]; rfl, fun p hp => ?_⟩
  rcases List.mem_append.mp hp with hp | hp
  · exact e3 p hp
  · rw [List.mem_singleton.mp hp]; exact h
theorem Trs.nil {H : Hp} : Trs H [] [] := ⟨[], rfl, rfl, fun p hp => nomatch hp⟩
/-! ### d[key] = v, the key there or not -/
def putE (xs : List NEnt) (k : NestedKey) (t : Addr) (v : V) : List NEnt := if (kat xs k).isSome then xs.map (fun x => if x.1 = k then (x.1, x.2.1, v) else x) else xs ++ [(k, t, v)]
theorem putE_keys {xs : List NEnt} {k : NestedKey} {t : Addr} {v : V} : (putE xs k t v).map (·.1) = if (kat xs k).isSome then xs.map (·.1) else xs.map (·.1) ++ [k] := by
  unfold putE
  split
  · rw [List.map_map]
    apply List.map_congr_left
    intro x hx
    show (if x.1 = k then (x.1, x.2.1, v) else x).1 = x.1
    split <;> rfl
  · rw [List.map_append]; rfl
theorem mem_putE {xs : List NEnt} {k : NestedKey} {t : Addr} {v : V} {p : NEnt} (h : p ∈ putE xs k t v) : (p ∈ xs ∧ p.1 ≠ k) ∨ (p.1 = k ∧ p.2.2 = v ∧ (p.2.1 = t ∨ ∃ q ∈ xs, q.1 = k ∧ q.2.1 = p.2.1)) := by
  unfold putE at h
  split at h
  · obtain ⟨q, hq, rfl⟩ := List.mem_map.mp h
    by_cases e : q.1 = k
    · rw [if_pos e]; exact .inr ⟨e, rfl, .inr ⟨q, hq, e, rfl⟩⟩
    · rw [if_neg e]; exact .inl ⟨hq, e⟩
  · rename_i no
    rcases List.mem_append.mp h with h | h
    · refine .inl ⟨h, fun e => no ?_⟩
      have : k ∈ xs.map (·.1) := List.mem_map.mpr ⟨p, h, e⟩
      unfold kat
      rw [Option.isSome_map, List.find?_isSome]
      exact ⟨p, h, by simp [e]⟩
    · rw [List.mem_singleton.mp h]; exact .inr ⟨rfl, rfl, .inl rfl⟩
theorem kat_isSome {xs : List NEnt} {k : NestedKey} : (kat xs k).isSome = true ↔ k ∈ xs.map (·.1) := by
  unfold kat
  rw [Option.isSome_map, List.find?_isSome, List.mem_map]
  constructor
  · rintro ⟨p, h, e⟩; exact ⟨p, h, by simpa using e⟩
  · rintro ⟨p, h, e⟩; exact ⟨p, h, by simpa using e⟩
theorem kat_putE {xs : List NEnt} {k : NestedKey} {t : Addr} {v : V} : kat (putE xs k t v) k = some v := by
  have m : k ∈ (putE xs k t v).map (·.1) := by
    rw [putE_keys]
    split
    · rename_i h; exact kat_isSome.mp h
    · simp
  have h := kat_isSome.mpr m
  cases q : kat (putE xs k t v) k with
  | none => rw [q] at h; cases h
  | some u =>
    unfold kat at q
    obtain ⟨p, h1, h2⟩ := Option.map_eq_some_iff.mp q
    have h3 := List.mem_of_find?_eq_some h1
    have h4 : p.1 = k := by simpa using List.find?_some h1
    rcases mem_putE h3 with ⟨_, n⟩ | ⟨_, e, _⟩
    · exact absurd h4 n
    · rw [← h2, e]
theorem paired_put {k : NestedKey} {v : V} {p : Value} (rv : RelV v p) : ∀ {xs : List NEnt} {ys : List (NestedKey × Addr × Value)}, Paired NRel xs ys → Paired NRel (xs.map fun x => if x.1 = k then (x.1, x.2.1, v) else x) (ys.map (putAt k p))
  | _, _, .nil => .nil
  | _, _, .cons (a := a) (b := b) r t => by
    obtain ⟨r1, r2, r3⟩ := r
    refine .cons ?_ (paired_put rv t)
    show NRel (if a.1 = k then (a.1, a.2.1, v) else a) (if b.1 = k then (b.1, b.2.1, p) else b)
    rw [← r1]
    by_cases e : a.1 = k
    · rw [if_pos e, if_pos e]; exact ⟨rfl, r2, rv⟩
    · rw [if_neg e, if_neg e]; exact ⟨r1, r2, r3⟩
section
variable {X : Cx} {pins : List (Addr × Obj)} {σ : L2.St} {H : Hp} {s : Shared}
def sNPutG (P : Program) (w : World) (td ty tv : TE) : TS := fun D σ H => tv σ H fun v H1 => td σ H1 fun x H2 => ty σ H2 fun y H3 => ∃ (t d : Addr) (k : NestedKey) (xs : List NEnt), x = .ref d ∧ y = .ref t ∧ NK H3 (.ref t) k ∧ k.depth ≤ 8 ∧ ND P w H3 d xs ∧
  xs.length ≤ sizeLine ∧ D.nx σ (upd H3 d (NdO P w d (putE xs k t v)))
theorem ps_nputG {o i value : Expr} {td ty tv : TE} {pos pos' : Pos} (hu : X.A.units + 64 < cLine) (ho : PE X o td) (hi : PE X i ty) (hv : PE X value tv) (hs : swapsWith value (some (.Subscript o i pos')) pos.line X.env = pure false) :
    PS X (.Assign [.Subscript o i pos'] value pos) (sNPutG X.prog X.w td ty tv) := by
  refine ⟨fun pins s σ H D I h => ?_⟩
  refine wpAny_Assign_Subscript (thn (hv.run pins s σ H _ I h) fun r s1 ⟨v, H1, I1, rv, q1⟩ => thn (ho.run pins s1 σ H1 _ I1 q1) fun u s2 ⟨x, H2, I2, rx, q2⟩ => thn (hi.run pins s2 σ H2 _ I2 q2) fun iv s3 ⟨y, H3, I3, ry, t, d, k, xs, ex, ey, hk, h8, hd, hl, q3⟩ => ?_) hs
  subst ex; subst ey
  obtain rfl : u = Value.ref d := rx
  obtain rfl : iv = Value.ref t := ry
  obtain ⟨z, ys, hm, rel⟩ := nd_of I3 hd
  refine wpAny_setItem_heap (knd := nestedKind X.prog X.w) (hsz := by rw [← Paired.length rel]; exact hl) (show X.A.in1.units + 8 < cLine by have := hu; show X.A.units + 1 + 8 < cLine; omega) ⟨hk.is I3.hok rfl, h8⟩ hm fun h' hm2 hsb => ?_
  obtain ⟨o2, es2, ep2, a1, a2, a3, a4, a5, a6⟩ := hm2
  refine ⟨σ, upd H3 d (NdO X.prog X.w d (putE xs k t v)), ?_, q3⟩
  refine I3.write (e := d) (t' := s3.toks + (nestedKind X.prog X.w).draws k) (by rw [hd.at_]; trivial) (.inl rfl) (fun b u hb hu2 => (hsb.2 b hb).trans hu2) ⟨o2, a1⟩ (ndO_new ⟨z, _, o2, es2, ep2, a1, a2, a3, a4, a6, ?_⟩)
  rcases kat_rel (k := k) rel with ⟨e1, e2⟩ | ⟨v0, p0, e1, e2, _⟩
  · rw [storedH_new e2]
    unfold putE
    rw [e1]
    exact Paired.snoc rel ⟨rfl, rfl, rv⟩
  · rw [storedH_old e2]
    unfold putE
    rw [e1]
    exact paired_put rv rel
end
theorem ND.putG {P : Program} {w : World} {H : Hp} {d t : Addr} {xs : List NEnt} {k : NestedKey} {v : V} (h : ND P w H d xs) (hk : NK H (.ref t) k) (h8 : k.depth ≤ 8) : ND P w (upd H d (NdO P w d (putE xs k t v))) d (putE xs k t v) := by
  have e : ∀ b ys, H b = some (.tup ys) → upd H d (NdO P w d (putE xs k t v)) b = some (.tup ys) := nk_upd h.at_
  refine ⟨upd_same, fun x hx => ?_⟩
  rcases mem_putE hx with ⟨hx, _⟩ | ⟨e1, e2, e3⟩
  · exact ⟨(h.key x hx).1.up e, (h.key x hx).2⟩
  · rw [e1]
    refine ⟨?_, h8⟩
    rcases e3 with e3 | ⟨q, hq, e4, e5⟩
    · rw [e3]; exact hk.up e
    · have := (h.key q hq).1.up e
      rw [e4, e5] at this
      exact this
theorem Once.putG {e : List NEnt} (h : Once e) {k : NestedKey} {t : Addr} {v : V} : Once (putE e k t v) := by
  unfold Once
  rw [putE_keys]
  split
  · exact h
  · rename_i no
    refine List.nodup_append.mpr ⟨h, by simp, fun a ha b hb q => no (kat_isSome.mpr ?_)⟩
    have : b = k := by simpa using hb
    rw [← this, ← q]; exact ha
end M
end

section
set_option Elab.async false
set_option linter.all false
set_option maxRecDepth 100000
set_option maxHeartbeats 2000000
/-! what a Kinds object holds: its eight containers -/
namespace M
open PySem PySem.Spec L2 Evl
open PyProof.Rows hiding St
section
variable {P : Program} {w : World} {C : Addr} {k : KC} {Ls : List Addr} {H H' : Hp} {t t' : KTab}
theorem rd_one {t : KTab} {S : List (List Nat)} {D d n m : Nat} {r : List Nat} (T : TOk Canon S D t) (h : Rep t d n r) (g : Rep t d m r) : n = m := Rep.one canon_one T.ok h g
theorem canon_nodup {xs : List Mark} (h : Canon xs) : xs.Nodup := List.Pairwise.imp (fun {a b} z e => by rw [e] at z; exact Nat.lt_irrefl _ z) h.2
theorem TOk.deep {S : List (List Nat)} {D d e n : Nat} {r s : List Nat} (T : TOk Canon S D t) (h : Rep t d n r) (g : Rep t e n s) : d = e := by
  obtain ⟨ms, h1⟩ := T.at h
  obtain ⟨ms', h2⟩ := T.at g
  rw [h1] at h2
  injection h2 with h2
  injection h2
/-- the table's size -/
theorem TOk.size {S : List (List Nat)} {D : Nat} (B : Sub S D) (T : TOk Canon S D t) : t.length ≤ 2 ^ 20 + 1 := by
  have h1 := T.few canon_one
  have h2 := B.few
  have : S.length * D ≤ S.length * (D + 1) := Nat.mul_le_mul_left _ (Nat.le_succ _)
  omega
/-- lists of keys -/
def pairs {α : Type} (S : List (List Nat)) (D : Nat) (f : Nat → List Nat → α) : List α := (List.range D).flatMap fun d => S.map fun r => f d r
theorem pairs_size {α : Type} (S : List (List Nat)) (f : Nat → List Nat → α) : ∀ D, (pairs S D f).length = S.length * D
  | 0 => rfl
  | D + 1 => by
    have ih := pairs_size S f D
    unfold pairs at *
    rw [List.range_succ, List.flatMap_append, List.length_append, ih]
    simp [Nat.mul_succ]
theorem mem_pairs {α : Type} {S : List (List Nat)} {D : Nat} {f : Nat → List Nat → α} {d : Nat} {r : List Nat} (hd : d < D) (hr : r ∈ S) : f d r ∈ pairs S D f := List.mem_flatMap.mpr ⟨d, List.mem_range.mpr hd, List.mem_map.mpr ⟨r, hr, rfl⟩⟩
theorem codes_back (z : Str) : (⟨(codes z).toArray⟩ : Str) = z := by
  obtain ⟨a⟩ := z
  show (⟨a.toList.toArray⟩ : Str) = _
  rw [Array.toArray_toList]
/-! the containers -/
def E1 (k : KC) (t : KTab) (p : NEnt) : Prop := ∃ z d n, p.1 = keyR z d ∧ p.2.2 = .int (n : Nat) ∧ codes z ∈ k.S ∧ d ≤ k.D ∧ Rep t d n (codes z)
def K1 (P : Program) (w : World) (k : KC) (t : KTab) (H : Hp) : Prop := ∃ e, ND P w H k.A.a1 e ∧ Once e ∧ ∀ p ∈ e, E1 k t p
def E2 (k : KC) (Ls : List Addr) (t : KTab) (H : Hp) (p : NEnt) : Prop := ∃ z d l rs ms, p.1 = keyR z d ∧ p.2.2 = .ref l ∧ codes z ∈ k.S ∧ d ≤ k.D ∧ l ∈ Ls ∧ H l = some (.lst rs) ∧ Trs H rs ms ∧ Places t d ms (codes z)
def K2 (P : Program) (w : World) (k : KC) (Ls : List Addr) (t : KTab) (H : Hp) : Prop := ∃ e, ND P w H k.A.a2 e ∧ Once e ∧ ∀ p ∈ e, E2 k Ls t H p
def E3 (t : KTab) (p : NEnt) : Prop := ∃ d ms n, p.1 = keyN d ms ∧ p.2.2 = .int (n : Nat) ∧ t[n]? = some (d, ms) ∧ n ≠ 0
def K3 (P : Program) (w : World) (k : KC) (t : KTab) (H : Hp) : Prop := ∃ e, ND P w H k.A.a3 e ∧ Once e ∧ (∀ p ∈ e, E3 t p) ∧ ∀ n d ms, t[n]? = some (d, ms) → n ≠ 0 → keyN d ms ∈ e.map (·.1)
def K4 (k : KC) (t : KTab) (H : Hp) : Prop := ∃ ms : List Addr, H k.A.a4 = some (.lst (ms.map V.ref)) ∧ ms.length = t.length ∧ ∀ (n : Nat) m d xs, ms[n]? = some m → t[n]? = some (d, xs) → NK H (.ref m) (.tup (xs.map trip))
def depsV (t : KTab) : List V := t.map fun p => V.int (p.1 : Nat)
def K5 (k : KC) (t : KTab) (H : Hp) : Prop := H k.A.a5 = some (.lst (depsV t))
def E6 (t : KTab) (p : Key × V) : Prop := ∃ n m d, p.1 = Sum.inl ((n : Nat) : Int) ∧ p.2 = .int (m : Nat) ∧ LW t d n m
def K6 (k : KC) (t : KTab) (H : Hp) : Prop := ∃ kv : List (Key × V), H k.A.a6 = some (.dK kv) ∧ (kv.map (·.1)).Nodup ∧ (Sum.inl 0 : Key) ∈ kv.map (·.1) ∧ ∀ p ∈ kv, E6 t p
def E7 (k : KC) (t : KTab) (p : NEnt) : Prop := ∃ n c m d r, p.1 = keyB n c ∧ p.2.2 = .int (m : Nat) ∧ d ≤ k.D ∧ Rep t d n r ∧ r ++ [c] ∈ k.S ∧ Rep t d m (r ++ [c])
def K7 (P : Program) (w : World) (k : KC) (t : KTab) (H : Hp) : Prop := ∃ e, ND P w H k.A.a7 e ∧ Once e ∧ ∀ p ∈ e, E7 k t p
def E8 (k : KC) (t : KTab) (p : NEnt) : Prop := ∃ n c m d r, p.1 = keyA c n ∧ p.2.2 = .int (m : Nat) ∧ d ≤ k.D ∧ Rep t d n r ∧ c :: r ∈ k.S ∧ Rep t d m (c :: r)
def K8 (P : Program) (w : World) (k : KC) (t : KTab) (H : Hp) : Prop := ∃ e, ND P w H k.A.a8 e ∧ Once e ∧ ∀ p ∈ e, E8 k t p
def kFields (A : KA) : List (Str × V) := [("known_kinds", .ref A.a1), ("known_places", .ref A.a2), ("numbers", .ref A.a3), ("marks", .ref A.a4), ("depths", .ref A.a5), ("lesser_kinds", .ref A.a6), ("longer_behind", .ref A.a7), ("longer_ahead", .ref A.a8)]
structure KS (P : Program) (w : World) (C : Addr) (k : KC) (Ls : List Addr) (H : Hp) (t : KTab) : Prop where
  sub : Sub k.S k.D
  tok : TOk Canon k.S k.D t
  ins : ∃ dx, H k.x = some (.ins C dx (kFields k.A))
  nd : k.A.all.Nodup
  lsd : ∀ l ∈ Ls, l ∉ k.A.all ∧ ∃ rs, H l = some (.lst rs)
  k1 : K1 P w k t H
  k2 : K2 P w k Ls t H
  k3 : K3 P w k t H
  k4 : K4 k t H
  k5 : K5 k t H
  k6 : K6 k t H
  k7 : K7 P w k t H
  k8 : K8 P w k t H
theorem K1.keep (h : K1 P w k t H) (g : Grows t t') (tk : Tk H H') (a : ∀ o, H k.A.a1 = some o → H' k.A.a1 = some o) : K1 P w k t' H' := by
  obtain ⟨e, h1, h2, h3⟩ := h
  exact ⟨e, h1.keep tk (a _ h1.at_), h2, fun p hp => let ⟨z, d, n, e1, e2, e3, e4, e5⟩ := h3 p hp; ⟨z, d, n, e1, e2, e3, e4, e5.up g⟩⟩
theorem K2.keep {Ls' : List Addr} (h : K2 P w k Ls t H) (g : Grows t t') (tk : Tk H H') (a : ∀ o, H k.A.a2 = some o → H' k.A.a2 = some o) (ls : ∀ l ∈ Ls, l ∈ Ls' ∧ ∀ o, H l = some o → H' l = some o) : K2 P w k Ls' t' H' := by
  obtain ⟨e, h1, h2, h3⟩ := h
  refine ⟨e, h1.keep tk (a _ h1.at_), h2, fun p hp => ?_⟩
  obtain ⟨z, d, l, rs, ms, e1, e2, e3, e4, e5, e6, e7, e8⟩ := h3 p hp
  exact ⟨z, d, l, rs, ms, e1, e2, e3, e4, (ls l e5).1, (ls l e5).2 _ e6, e7.up tk, e8.up g⟩
theorem K3.keep (h : K3 P w k t H) (tk : Tk H H') (a : ∀ o, H k.A.a3 = some o → H' k.A.a3 = some o) : K3 P w k t H' := by
  obtain ⟨e, h1, h2, h3, h4⟩ := h
  exact ⟨e, h1.keep tk (a _ h1.at_), h2, h3, h4⟩
theorem K4.keep (h : K4 k t H) (tk : Tk H H') (a : ∀ o, H k.A.a4 = some o → H' k.A.a4 = some o) : K4 k t H' := by
  obtain ⟨ms, h1, h2, h3⟩ := h
  exact ⟨ms, a _ h1, h2, fun n m d xs e1 e2 => (h3 n m d xs e1 e2).up tk⟩
theorem K5.keep (h : K5 k t H) (a : ∀ o, H k.A.a5 = some o → H' k.A.a5 = some o) : K5 k t H' := a _ h
theorem K6.keep (h : K6 k t H) (g : Grows t t') (a : ∀ o, H k.A.a6 = some o → H' k.A.a6 = some o) : K6 k t' H' := by
  obtain ⟨kv, h1, h2, h3, h4⟩ := h
  exact ⟨kv, a _ h1, h2, h3, fun p hp => let ⟨n, m, d, e1, e2, e3⟩ := h4 p hp; ⟨n, m, d, e1, e2, e3.up g⟩⟩
theorem K7.keep (h : K7 P w k t H) (g : Grows t t') (tk : Tk H H') (a : ∀ o, H k.A.a7 = some o → H' k.A.a7 = some o) : K7 P w k t' H' := by
  obtain ⟨e, h1, h2, h3⟩ := h
  exact ⟨e, h1.keep tk (a _ h1.at_), h2, fun p hp => let ⟨n, c, m, d, r, e1, e2, e3, e4, e5, e6⟩ := h3 p hp; ⟨n, c, m, d, r, e1, e2, e3, e4.up g, e5, e6.up g⟩⟩
theorem K8.keep (h : K8 P w k t H) (g : Grows t t') (tk : Tk H H') (a : ∀ o, H k.A.a8 = some o → H' k.A.a8 = some o) : K8 P w k t' H' := by
  obtain ⟨e, h1, h2, h3⟩ := h
  exact ⟨e, h1.keep tk (a _ h1.at_), h2, fun p hp => let ⟨n, c, m, d, r, e1, e2, e3, e4, e5, e6⟩ := h3 p hp; ⟨n, c, m, d, r, e1, e2, e3, e4.up g, e5, e6.up g⟩⟩
/-- the containers are no tuples, nor the object -/
theorem KS.tup (h : KS P w C k Ls H t) {b : Addr} (hb : b ∈ k.A.all) {ys : List V} : H b ≠ some (.tup ys) := fun e => by
  obtain ⟨e1, n1, _⟩ := h.k1
  obtain ⟨e2, n2, _⟩ := h.k2
  obtain ⟨e3, n3, _⟩ := h.k3
  obtain ⟨e4, n4, _⟩ := h.k4
  have n5 := h.k5
  obtain ⟨e6, n6, _⟩ := h.k6
  obtain ⟨e7, n7, _⟩ := h.k7
  obtain ⟨e8, n8, _⟩ := h.k8
  simp only [KA.all, List.mem_cons, List.not_mem_nil, or_false] at hb
  unfold K5 at n5
  have no : ∀ {φ : Heap → Prop}, some (HO.ext φ) = some (HO.tup ys) → False := fun z => nomatch z
  rcases hb with rfl | rfl | rfl | rfl | rfl | rfl | rfl | rfl
  · exact no (n1.at_.symm.trans e)
  · exact no (n2.at_.symm.trans e)
  · exact no (n3.at_.symm.trans e)
  · exact nomatch n4.symm.trans e
  · exact nomatch n5.symm.trans e
  · exact nomatch n6.symm.trans e
  · exact no (n7.at_.symm.trans e)
  · exact no (n8.at_.symm.trans e)
theorem KS.out (h : KS P w C k Ls H t) : k.x ∉ k.A.all := fun hb => by
  obtain ⟨dx, e⟩ := h.ins
  obtain ⟨e1, n1, _⟩ := h.k1
  obtain ⟨e2, n2, _⟩ := h.k2
  obtain ⟨e3, n3, _⟩ := h.k3
  obtain ⟨e4, n4, _⟩ := h.k4
  have n5 := h.k5
  obtain ⟨e6, n6, _⟩ := h.k6
  obtain ⟨e7, n7, _⟩ := h.k7
  obtain ⟨e8, n8, _⟩ := h.k8
  simp only [KA.all, List.mem_cons, List.not_mem_nil, or_false] at hb
  unfold K5 at n5
  have no : ∀ {φ : Heap → Prop} {fs}, some (HO.ext φ) = some (HO.ins C dx fs) → False := fun z => nomatch z
  rcases hb with z | z | z | z | z | z | z | z
  · rw [z] at e; exact no (n1.at_.symm.trans e)
  · rw [z] at e; exact no (n2.at_.symm.trans e)
  · rw [z] at e; exact no (n3.at_.symm.trans e)
  · rw [z] at e; exact nomatch n4.symm.trans e
  · rw [z] at e; exact nomatch n5.symm.trans e
  · rw [z] at e; exact nomatch n6.symm.trans e
  · rw [z] at e; exact no (n7.at_.symm.trans e)
  · rw [z] at e; exact no (n8.at_.symm.trans e)
theorem KS.ne_none (h : KS P w C k Ls H t) {b : Addr} (hb : b ∈ k.A.all) : H b ≠ none := fun e => by
  obtain ⟨e1, n1, _⟩ := h.k1
  obtain ⟨e2, n2, _⟩ := h.k2
  obtain ⟨e3, n3, _⟩ := h.k3
  obtain ⟨e4, n4, _⟩ := h.k4
  have n5 := h.k5
  obtain ⟨e6, n6, _⟩ := h.k6
  obtain ⟨e7, n7, _⟩ := h.k7
  obtain ⟨e8, n8, _⟩ := h.k8
  simp only [KA.all, List.mem_cons, List.not_mem_nil, or_false] at hb
  unfold K5 at n5
  rcases hb with rfl | rfl | rfl | rfl | rfl | rfl | rfl | rfl
  · exact nomatch n1.at_.symm.trans e
  · exact nomatch n2.at_.symm.trans e
  · exact nomatch n3.at_.symm.trans e
  · exact nomatch n4.symm.trans e
  · exact nomatch n5.symm.trans e
  · exact nomatch n6.symm.trans e
  · exact nomatch n7.at_.symm.trans e
  · exact nomatch n8.at_.symm.trans e
/-- all that counts stands -/
theorem KS.move (h : KS P w C k Ls H t) (tk : Tk H H') (x : ∀ o, H k.x = some o → H' k.x = some o) (a : ∀ b ∈ k.A.all, ∀ o, H b = some o → H' b = some o) (ls : ∀ l ∈ Ls, ∀ o, H l = some o → H' l = some o) : KS P w C k Ls H' t := by
  obtain ⟨dx, hx⟩ := h.ins
  exact ⟨h.sub, h.tok, ⟨dx, x _ hx⟩, h.nd, fun l hl => (let ⟨h1, rs, h2⟩ := h.lsd l hl; ⟨h1, rs, ls l hl _ h2⟩), h.k1.keep (.refl _) tk (a _ (by simp [KA.all])), h.k2.keep (.refl _) tk (a _ (by simp [KA.all])) (fun l hl => ⟨hl, ls l hl⟩), h.k3.keep tk (a _ (by simp [KA.all])), h.k4.keep tk (a _ (by simp [KA.all])),
    h.k5.keep (a _ (by simp [KA.all])), h.k6.keep (.refl _) (a _ (by simp [KA.all])), h.k7.keep (.refl _) tk (a _ (by simp [KA.all])), h.k8.keep (.refl _) tk (a _ (by simp [KA.all]))⟩
theorem KS.ex (h : KS P w C k Ls H t) (x : Ex H H') : KS P w C k Ls H' t := h.move (Tk.of x) (fun o e => x _ _ e) (fun b _ o e => x _ _ e) fun l hl o e => x _ _ e
/-- an object that is none of them changes -/
theorem KS.mut (h : KS P w C k Ls H t) {a : Addr} {o : HO} (h1 : a ∉ k.A.all) (h2 : a ≠ k.x) (h3 : a ∉ Ls) (h4 : ∀ ys, H a ≠ some (.tup ys)) : KS P w C k Ls (upd H a o) t :=
  h.move (fun b ys e => by rw [upd_ne fun z => h4 ys (by rw [← z]; exact e)]; exact e) (fun o e => by rw [upd_ne (Ne.symm h2)]; exact e) (fun b hb o e => by rw [upd_ne fun z => h1 (by rw [← z]; exact hb)]; exact e)
    fun l hl o e => by rw [upd_ne fun z => h3 (by rw [← z]; exact hl)]; exact e
/-- what a call leaves: more kinds, and what is not the object's own stands -/
structure Stp (k : KC) (Ls : List Addr) (H : Hp) (t : KTab) (Ls' : List Addr) (H' : Hp) (t' : KTab) : Prop where
  grows : Grows t t'
  old : ∀ b o, b ∉ k.A.all → H b = some o → H' b = some o
  ls : ∀ l ∈ Ls', l ∈ Ls ∨ H l = none
theorem Stp.refl : Stp k Ls H t Ls H t := ⟨.refl _, fun _ _ _ e => e, fun _ h => .inl h⟩
theorem Stp.trans {Ls1 Ls2 : List Addr} {H1 H2 : Hp} {t1 t2 : KTab} (h : KS P w C k Ls1 H1 t1) (x : Stp k Ls H t Ls1 H1 t1) (y : Stp k Ls1 H1 t1 Ls2 H2 t2) : Stp k Ls H t Ls2 H2 t2 := by
  refine ⟨x.grows.trans y.grows, fun b o hb e => y.old b o hb (x.old b o hb e), fun l hl => ?_⟩
  rcases y.ls l hl with q | q
  · exact x.ls l q
  · right
    cases e : H l with
    | none => rfl
    | some o => rw [x.old l o (fun hb => h.ne_none hb q) e] at q; cases q
theorem Stp.tk (h : KS P w C k Ls H t) {Ls' : List Addr} (x : Stp k Ls H t Ls' H' t') : Tk H H' := fun b ys e => x.old b _ (fun hb => h.tup hb e) e
end
end M
end

section
set_option Elab.async false
set_option linter.all false
set_option maxRecDepth 100000
set_option maxHeartbeats 2000000
/-! a Kinds object changes; what its methods promise -/
namespace M
open PySem PySem.Spec L2 Evl
open PyProof.Rows hiding St
section
variable {P : Program} {w : World} {C : Addr} {k : KC} {Ls : List Addr} {H H' : Hp} {t t' : KTab}
theorem KS.ls_out (h : KS P w C k Ls H t) {l : Addr} (hl : l ∈ Ls) : l ∉ k.A.all ∧ l ≠ k.x ∧ H l ≠ none := by
  obtain ⟨h1, rs, h2⟩ := h.lsd l hl
  obtain ⟨dx, hx⟩ := h.ins
  exact ⟨h1, fun e => by rw [e, hx] at h2; exact (nomatch h2), by rw [h2]; exact fun z => nomatch z⟩
theorem KS.new_out (h : KS P w C k Ls H t) {a : Addr} (n : H a = none) : a ∉ k.A.all ∧ a ≠ k.x ∧ a ∉ Ls := by
  obtain ⟨dx, hx⟩ := h.ins
  exact ⟨fun m => h.ne_none m n, fun e => by rw [e, hx] at n; exact (nomatch n), fun m => (h.ls_out m).2.2 n⟩
theorem KA.ap {A : KA} (h : A.all.Nodup) (i j : Nat) (hi : i < 8 := by decide) (hj : j < 8 := by decide) (n : i ≠ j := by decide) : A.all[i]'(Nat.lt_of_lt_of_eq hi rfl) ≠ A.all[j]'(Nat.lt_of_lt_of_eq hj rfl) := fun z => n ((List.getElem_inj h).mp z)
/-- what stands when one container changes -/
theorem KS.keeps (h : KS P w C k Ls H t) {a : Addr} {o : HO} (ha : a ∈ k.A.all) : Tk H (upd H a o) ∧ (∀ o', H k.x = some o' → upd H a o k.x = some o') ∧ (∀ l ∈ Ls, ∀ o', H l = some o' → upd H a o l = some o') ∧ (∀ b, b ≠ a → ∀ o', H b = some o' → upd H a o b = some o') := by
  refine ⟨fun b ys e => ?_, fun o' e => ?_, fun l hl o' e => ?_, fun b hb o' e => by rw [upd_ne hb]; exact e⟩
  · rw [upd_ne fun z => h.tup ha (by rw [← z]; exact e)]; exact e
  · rw [upd_ne fun z => h.out (by rw [z]; exact ha)]; exact e
  · rw [upd_ne fun z => (h.lsd l hl).1 (by rw [z]; exact ha)]; exact e
theorem KS.lsd_keep (h : KS P w C k Ls H t) (f : ∀ l ∈ Ls, ∀ o, H l = some o → H' l = some o) : ∀ l ∈ Ls, l ∉ k.A.all ∧ ∃ rs, H' l = some (.lst rs) := fun l hl => let ⟨h1, rs, h2⟩ := h.lsd l hl; ⟨h1, rs, f l hl _ h2⟩
theorem KS.put1 (h : KS P w C k Ls H t) {e : List NEnt} (hn : ND P w H k.A.a1 e) (ho : Once e) (hE : ∀ p ∈ e, E1 k t p) {tk : Addr} {z : Str} {d n : Nat} (hk : NK H (.ref tk) (keyR z d)) (e1 : codes z ∈ k.S) (e2 : d ≤ k.D) (e3 : Rep t d n (codes z)) :
    KS P w C k Ls (upd H k.A.a1 (NdO P w k.A.a1 (putE e (keyR z d) tk (.int (n : Nat))))) t := by
  obtain ⟨tkk, fx, fl, fa⟩ := h.keeps (a := k.A.a1) (o := NdO P w k.A.a1 (putE e (keyR z d) tk (.int (n : Nat)))) (by simp [KA.all])
  obtain ⟨dx, hx⟩ := h.ins
  refine ⟨h.sub, h.tok, ⟨dx, fx _ hx⟩, h.nd, h.lsd_keep fl, ⟨_, hn.putG hk (keyR_depth _ _), ho.putG, fun p hp => ?_⟩, h.k2.keep (.refl _) tkk (fa _ (KA.ap h.nd 1 0)) (fun l hl => ⟨hl, fl l hl⟩), h.k3.keep tkk (fa _ (KA.ap h.nd 2 0)), h.k4.keep tkk (fa _ (KA.ap h.nd 3 0)), h.k5.keep (fa _ (KA.ap h.nd 4 0)),
    h.k6.keep (.refl _) (fa _ (KA.ap h.nd 5 0)), h.k7.keep (.refl _) tkk (fa _ (KA.ap h.nd 6 0)), h.k8.keep (.refl _) tkk (fa _ (KA.ap h.nd 7 0))⟩
  rcases mem_putE hp with ⟨hp, _⟩ | ⟨q1, q2, _⟩
  · exact hE p hp
  · exact ⟨z, d, n, q1, q2, e1, e2, e3⟩
theorem KS.put2 (h : KS P w C k Ls H t) {e : List NEnt} (hn : ND P w H k.A.a2 e) (ho : Once e) (hE : ∀ p ∈ e, E2 k Ls t H p) {tk : Addr} {z : Str} {d : Nat} {l : Addr} {rs : List V} {ms : List Mark} (hk : NK H (.ref tk) (keyR z d)) (e1 : codes z ∈ k.S) (e2 : d ≤ k.D) (e3 : l ∉ k.A.all) (e4 : H l = some (.lst rs)) (e5 : Trs H rs ms)
    (e6 : Places t d ms (codes z)) : KS P w C k (l :: Ls) (upd H k.A.a2 (NdO P w k.A.a2 (putE e (keyR z d) tk (.ref l)))) t := by
  obtain ⟨tkk, fx, fl, fa⟩ := h.keeps (a := k.A.a2) (o := NdO P w k.A.a2 (putE e (keyR z d) tk (.ref l))) (by simp [KA.all])
  obtain ⟨dx, hx⟩ := h.ins
  have el := fa l (fun z => e3 (by rw [z]; simp [KA.all])) _ e4
  refine ⟨h.sub, h.tok, ⟨dx, fx _ hx⟩, h.nd, fun l' hl' => ?_, h.k1.keep (.refl _) tkk (fa _ (KA.ap h.nd 0 1)), ⟨_, hn.putG hk (keyR_depth _ _), ho.putG, fun p hp => ?_⟩, h.k3.keep tkk (fa _ (KA.ap h.nd 2 1)), h.k4.keep tkk (fa _ (KA.ap h.nd 3 1)), h.k5.keep (fa _ (KA.ap h.nd 4 1)),
    h.k6.keep (.refl _) (fa _ (KA.ap h.nd 5 1)), h.k7.keep (.refl _) tkk (fa _ (KA.ap h.nd 6 1)), h.k8.keep (.refl _) tkk (fa _ (KA.ap h.nd 7 1))⟩
  · rcases List.mem_cons.mp hl' with rfl | hl'
    · exact ⟨e3, rs, el⟩
    · exact h.lsd_keep fl l' hl'
  · rcases mem_putE hp with ⟨hp, _⟩ | ⟨q1, q2, _⟩
    · obtain ⟨z', d', l', rs', ms', g1, g2, g3, g4, g5, g6, g7, g8⟩ := hE p hp
      exact ⟨z', d', l', rs', ms', g1, g2, g3, g4, List.mem_cons_of_mem _ g5, fl l' g5 _ g6, g7.up tkk, g8⟩
    · exact ⟨z, d, l, rs, ms, q1, q2, e1, e2, List.mem_cons_self, el, e5.up tkk, e6⟩
theorem KS.put7 (h : KS P w C k Ls H t) {e : List NEnt} (hn : ND P w H k.A.a7 e) (ho : Once e) (hE : ∀ p ∈ e, E7 k t p) {tk : Addr} {d n c m : Nat} {r : List Nat} (hk : NK H (.ref tk) (keyB n c)) (e1 : d ≤ k.D) (e2 : Rep t d n r) (e3 : r ++ [c] ∈ k.S) (e4 : Rep t d m (r ++ [c])) :
    KS P w C k Ls (upd H k.A.a7 (NdO P w k.A.a7 (putE e (keyB n c) tk (.int (m : Nat))))) t := by
  obtain ⟨tkk, fx, fl, fa⟩ := h.keeps (a := k.A.a7) (o := NdO P w k.A.a7 (putE e (keyB n c) tk (.int (m : Nat)))) (by simp [KA.all])
  obtain ⟨dx, hx⟩ := h.ins
  refine ⟨h.sub, h.tok, ⟨dx, fx _ hx⟩, h.nd, h.lsd_keep fl, h.k1.keep (.refl _) tkk (fa _ (KA.ap h.nd 0 6)), h.k2.keep (.refl _) tkk (fa _ (KA.ap h.nd 1 6)) (fun l hl => ⟨hl, fl l hl⟩), h.k3.keep tkk (fa _ (KA.ap h.nd 2 6)), h.k4.keep tkk (fa _ (KA.ap h.nd 3 6)), h.k5.keep (fa _ (KA.ap h.nd 4 6)),
    h.k6.keep (.refl _) (fa _ (KA.ap h.nd 5 6)), ⟨_, hn.putG hk (keyB_depth _ _), ho.putG, fun p hp => ?_⟩, h.k8.keep (.refl _) tkk (fa _ (KA.ap h.nd 7 6))⟩
  rcases mem_putE hp with ⟨hp, _⟩ | ⟨q1, q2, _⟩
  · exact hE p hp
  · exact ⟨n, c, m, d, r, q1, q2, e1, e2, e3, e4⟩
theorem KS.put8 (h : KS P w C k Ls H t) {e : List NEnt} (hn : ND P w H k.A.a8 e) (ho : Once e) (hE : ∀ p ∈ e, E8 k t p) {tk : Addr} {d n c m : Nat} {r : List Nat} (hk : NK H (.ref tk) (keyA c n)) (e1 : d ≤ k.D) (e2 : Rep t d n r) (e3 : c :: r ∈ k.S) (e4 : Rep t d m (c :: r)) :
    KS P w C k Ls (upd H k.A.a8 (NdO P w k.A.a8 (putE e (keyA c n) tk (.int (m : Nat))))) t := by
  obtain ⟨tkk, fx, fl, fa⟩ := h.keeps (a := k.A.a8) (o := NdO P w k.A.a8 (putE e (keyA c n) tk (.int (m : Nat)))) (by simp [KA.all])
  obtain ⟨dx, hx⟩ := h.ins
  refine ⟨h.sub, h.tok, ⟨dx, fx _ hx⟩, h.nd, h.lsd_keep fl, h.k1.keep (.refl _) tkk (fa _ (KA.ap h.nd 0 7)), h.k2.keep (.refl _) tkk (fa _ (KA.ap h.nd 1 7)) (fun l hl => ⟨hl, fl l hl⟩), h.k3.keep tkk (fa _ (KA.ap h.nd 2 7)), h.k4.keep tkk (fa _ (KA.ap h.nd 3 7)), h.k5.keep (fa _ (KA.ap h.nd 4 7)),
    h.k6.keep (.refl _) (fa _ (KA.ap h.nd 5 7)), h.k7.keep (.refl _) tkk (fa _ (KA.ap h.nd 6 7)), ⟨_, hn.putG hk (keyA_depth _ _), ho.putG, fun p hp => ?_⟩⟩
  rcases mem_putE hp with ⟨hp, _⟩ | ⟨q1, q2, _⟩
  · exact hE p hp
  · exact ⟨n, c, m, d, r, q1, q2, e1, e2, e3, e4⟩
open Classical in
theorem putK_keys {kv : List (Key × V)} {j : Key} {v : V} : (putK kv j v).map (·.1) = if j ∈ kv.map (·.1) then kv.map (·.1) else kv.map (·.1) ++ [j] := by
  unfold putK
  have e : (kv.any fun p => decide (p.1 = j)) = true ↔ j ∈ kv.map (·.1) := by
    rw [List.any_eq_true, List.mem_map]
    constructor
    · rintro ⟨p, h, e⟩; exact ⟨p, h, by simpa using e⟩
    · rintro ⟨p, h, e⟩; exact ⟨p, h, by simpa using e⟩
  by_cases q : j ∈ kv.map (·.1)
  · rw [if_pos (e.mpr q), if_pos q, List.map_map]
    apply List.map_congr_left
    intro x hx
    show (if x.1 = j then (x.1, v) else x).1 = x.1
    split <;> rfl
  · rw [if_neg fun z => q (e.mp z), if_neg q, List.map_append]
    rfl
theorem mem_putK {kv : List (Key × V)} {j : Key} {v : V} {p : Key × V} (h : p ∈ putK kv j v) : p ∈ kv ∨ p = (j, v) := by
  unfold putK at h
  split at h
  · obtain ⟨q, hq, rfl⟩ := List.mem_map.mp h
    split
    · rename_i e; exact .inr (by rw [e])
    · exact .inl hq
  · rcases List.mem_append.mp h with h | h
    · exact .inl h
    · exact .inr (List.mem_singleton.mp h)
theorem valV_mem {kv : List (Key × V)} {j : Key} {v : V} (h : valV kv j = some v) : (j, v) ∈ kv := by
  unfold valV at h
  obtain ⟨p, h1, h2⟩ := Option.map_eq_some_iff.mp h
  have h3 : p.1 = j := by simpa using List.find?_some h1
  have := List.mem_of_find?_eq_some h1
  rw [← h3, ← h2]; exact this
theorem valV_there {kv : List (Key × V)} {j : Key} (h : j ∈ kv.map (·.1)) : ∃ v, valV kv j = some v := by
  unfold valV
  obtain ⟨p, hp, e⟩ := List.mem_map.mp h
  cases q : kv.find? fun x => decide (x.1 = j) with
  | some y => exact ⟨y.2, rfl⟩
  | none => exact absurd (List.find?_eq_none.mp q p hp) (by simp [e])
theorem KS.put6 (h : KS P w C k Ls H t) {kv : List (Key × V)} (hn : H k.A.a6 = some (.dK kv)) (ho : (kv.map (·.1)).Nodup) (h0 : (Sum.inl 0 : Key) ∈ kv.map (·.1)) (hE : ∀ p ∈ kv, E6 t p) {d n m : Nat} (e : LW t d n m) :
    KS P w C k Ls (upd H k.A.a6 (.dK (putK kv (Sum.inl ((n : Nat) : Int)) (.int (m : Nat))))) t := by
  obtain ⟨tkk, fx, fl, fa⟩ := h.keeps (a := k.A.a6) (o := .dK (putK kv (Sum.inl ((n : Nat) : Int)) (.int (m : Nat)))) (by simp [KA.all])
  obtain ⟨dx, hx⟩ := h.ins
  refine ⟨h.sub, h.tok, ⟨dx, fx _ hx⟩, h.nd, h.lsd_keep fl, h.k1.keep (.refl _) tkk (fa _ (KA.ap h.nd 0 5)), h.k2.keep (.refl _) tkk (fa _ (KA.ap h.nd 1 5)) (fun l hl => ⟨hl, fl l hl⟩), h.k3.keep tkk (fa _ (KA.ap h.nd 2 5)), h.k4.keep tkk (fa _ (KA.ap h.nd 3 5)), h.k5.keep (fa _ (KA.ap h.nd 4 5)),
    ⟨_, upd_same, ?_, ?_, fun p hp => ?_⟩, h.k7.keep (.refl _) tkk (fa _ (KA.ap h.nd 6 5)), h.k8.keep (.refl _) tkk (fa _ (KA.ap h.nd 7 5))⟩
  · rw [putK_keys]
    split
    · exact ho
    · rename_i no
      refine List.nodup_append.mpr ⟨ho, by simp, fun a ha b hb q => no ?_⟩
      have : b = Sum.inl (n : Int) := by simpa using hb
      rw [← this, ← q]; exact ha
  · rw [putK_keys]
    split
    · exact h0
    · exact List.mem_append.mpr (.inl h0)
  · rcases mem_putK hp with hp | rfl
    · exact hE p hp
    · exact ⟨n, m, d, rfl, rfl, e⟩
/-- a new kind -/
theorem KS.grow (h : KS P w C k Ls H t) (fr : ∀ b o, b ≠ k.A.a3 → b ≠ k.A.a4 → b ≠ k.A.a5 → H b = some o → H' b = some o) (g : Grows t t') (T : TOk Canon k.S k.D t') (c3 : K3 P w k t' H') (c4 : K4 k t' H') (c5 : K5 k t' H') : KS P w C k Ls H' t' := by
  have out : ∀ b, b ∉ k.A.all → ∀ o, H b = some o → H' b = some o := fun b hb o e => fr b o (fun z => hb (by rw [z]; simp [KA.all])) (fun z => hb (by rw [z]; simp [KA.all])) (fun z => hb (by rw [z]; simp [KA.all])) e
  have tk : Tk H H' := fun b ys e => out b (fun z => h.tup z e) _ e
  have fl : ∀ l ∈ Ls, ∀ o, H l = some o → H' l = some o := fun l hl => out l (h.lsd l hl).1
  obtain ⟨dx, hx⟩ := h.ins
  exact ⟨h.sub, T, ⟨dx, out _ h.out _ hx⟩, h.nd, h.lsd_keep fl, h.k1.keep g tk (fun o => fr _ o (KA.ap h.nd 0 2) (KA.ap h.nd 0 3) (KA.ap h.nd 0 4)), h.k2.keep g tk (fun o => fr _ o (KA.ap h.nd 1 2) (KA.ap h.nd 1 3) (KA.ap h.nd 1 4)) (fun l hl => ⟨hl, fl l hl⟩), c3, c4, c5,
    h.k6.keep g (fun o => fr _ o (KA.ap h.nd 5 2) (KA.ap h.nd 5 3) (KA.ap h.nd 5 4)), h.k7.keep g tk (fun o => fr _ o (KA.ap h.nd 6 2) (KA.ap h.nd 6 3) (KA.ap h.nd 6 4)), h.k8.keep g tk (fun o => fr _ o (KA.ap h.nd 7 2) (KA.ap h.nd 7 3) (KA.ap h.nd 7 4))⟩
/-- one container changed -/
theorem KS.stp (h : KS P w C k Ls H t) {a : Addr} {o : HO} (ha : a ∈ k.A.all) : Stp k Ls H t Ls (upd H a o) t := ⟨.refl _, fun b u hb e => by rw [upd_ne fun z => hb (by rw [z]; exact ha)]; exact e, fun l hl => .inl hl⟩
theorem Stp.ex (x : Ex H H') : Stp k Ls H t Ls H' t := ⟨.refl _, fun b o _ e => x _ _ e, fun l hl => .inl hl⟩
/-! ### there is room -/
theorem KS.size (h : KS P w C k Ls H t) : t.length ≤ 2 ^ 20 + 1 := h.tok.size h.sub
theorem KS.room1 (h : KS P w C k Ls H t) {e : List NEnt} (ho : Once e) (hE : ∀ p ∈ e, E1 k t p) : e.length ≤ sizeLine := by
  have := ho.len (L := pairs k.S (k.D + 1) fun d r => keyR ⟨r.toArray⟩ d) fun p hp => by
    obtain ⟨z, d, n, e1, _, e2, e3, _⟩ := hE p hp
    rw [e1]
    have := mem_pairs (S := k.S) (D := k.D + 1) (f := fun d r => keyR ⟨r.toArray⟩ d) (d := d) (by omega) e2
    rwa [codes_back] at this
  rw [pairs_size] at this
  have := h.sub.few
  rw [sizeLine_eq]
  omega
theorem KS.room2 (h : KS P w C k Ls H t) {e : List NEnt} (ho : Once e) (hE : ∀ p ∈ e, E2 k Ls t H p) : e.length ≤ sizeLine := by
  have := ho.len (L := pairs k.S (k.D + 1) fun d r => keyR ⟨r.toArray⟩ d) fun p hp => by
    obtain ⟨z, d, l, rs, ms, e1, _, e2, e3, _⟩ := hE p hp
    rw [e1]
    have := mem_pairs (S := k.S) (D := k.D + 1) (f := fun d r => keyR ⟨r.toArray⟩ d) (d := d) (by omega) e2
    rwa [codes_back] at this
  rw [pairs_size] at this
  have := h.sub.few
  rw [sizeLine_eq]
  omega
theorem KS.room3 (h : KS P w C k Ls H t) {e : List NEnt} (ho : Once e) (hE : ∀ p ∈ e, E3 t p) : e.length ≤ sizeLine := by
  have := ho.len (L := t.map fun p => keyN p.1 p.2) fun p hp => by
    obtain ⟨d, ms, n, e1, _, e2, _⟩ := hE p hp
    rw [e1]
    exact List.mem_map.mpr ⟨_, List.mem_of_getElem? e2, rfl⟩
  rw [List.length_map] at this
  have := h.size
  rw [sizeLine_eq]
  omega
open Classical in
noncomputable def numAt (t : KTab) (d : Nat) (r : List Nat) : Nat := if h : ∃ n, Rep t d n r then choose h else 0
theorem numAt_eq {S : List (List Nat)} {D : Nat} (T : TOk Canon S D t) {d n : Nat} {r : List Nat} (h : Rep t d n r) : numAt t d r = n := by
  unfold numAt
  rw [dif_pos ⟨n, h⟩]
  exact rd_one T (Classical.choose_spec (⟨n, h⟩ : ∃ n, Rep t d n r)) h
theorem KS.room7 (h : KS P w C k Ls H t) {e : List NEnt} (ho : Once e) (hE : ∀ p ∈ e, E7 k t p) : e.length ≤ sizeLine := by
  have := ho.len (L := pairs k.S (k.D + 1) fun d r => keyB (numAt t d r.dropLast) (r.getLastD 0)) fun p hp => by
    obtain ⟨n, c, m, d, r, e1, _, e2, e3, e4, _⟩ := hE p hp
    rw [e1]
    have := mem_pairs (S := k.S) (D := k.D + 1) (f := fun d r => keyB (numAt t d r.dropLast) (r.getLastD 0)) (d := d) (by omega) e4
    rw [List.dropLast_concat, numAt_eq h.tok e3] at this
    simpa using this
  rw [pairs_size] at this
  have := h.sub.few
  rw [sizeLine_eq]
  omega
theorem KS.room8 (h : KS P w C k Ls H t) {e : List NEnt} (ho : Once e) (hE : ∀ p ∈ e, E8 k t p) : e.length ≤ sizeLine := by
  have := ho.len (L := pairs k.S (k.D + 1) fun d r => keyA (r.headD 0) (numAt t d r.tail)) fun p hp => by
    obtain ⟨n, c, m, d, r, e1, _, e2, e3, e4, _⟩ := hE p hp
    rw [e1]
    have := mem_pairs (S := k.S) (D := k.D + 1) (f := fun d r => keyA (r.headD 0) (numAt t d r.tail)) (d := d) (by omega) e4
    rw [List.tail_cons, numAt_eq h.tok e3] at this
    simpa using this
  rw [pairs_size] at this
  have := h.sub.few
  rw [sizeLine_eq]
  omega
theorem KS.room6 (h : KS P w C k Ls H t) {kv : List (Key × V)} (ho : (kv.map (·.1)).Nodup) (hE : ∀ p ∈ kv, E6 t p) : kv.length < sizeLine := by
  have := nodup_sub _ ((List.range t.length).map fun n => (Sum.inl ((n : Nat) : Int) : Key)) ho fun x hx => by
    obtain ⟨p, hp, rfl⟩ := List.mem_map.mp hx
    obtain ⟨n, m, d, e1, _, s, e2, _⟩ := hE p hp
    rw [e1]
    exact List.mem_map.mpr ⟨n, List.mem_range.mpr (h.tok.lt e2), rfl⟩
  simp only [List.length_map, List.length_range] at this
  have := h.size
  rw [sizeLine_eq]
  omega
/-! ### what is held at a key -/
theorem KS.get1 (h : KS P w C k Ls H t) : ∃ e, ND P w H k.A.a1 e ∧ Once e ∧ (∀ p ∈ e, E1 k t p) ∧ e.length ≤ sizeLine ∧ ∀ z d v, kat e (keyR z d) = some v → ∃ n : Nat, v = .int (n : Nat) ∧ Rep t d n (codes z) := by
  obtain ⟨e, h1, h2, h3⟩ := h.k1
  refine ⟨e, h1, h2, h3, h.room1 h2 h3, fun z d v q => ?_⟩
  obtain ⟨p, hp, q1, q2⟩ := kat_mem q
  obtain ⟨z', d', n, e1, e2, _, _, e5⟩ := h3 p hp
  obtain ⟨rfl, rfl⟩ := keyR_inj (q1.symm.trans e1)
  exact ⟨n, by rw [← q2, e2], e5⟩
theorem KS.get2 (h : KS P w C k Ls H t) : ∃ e, ND P w H k.A.a2 e ∧ Once e ∧ (∀ p ∈ e, E2 k Ls t H p) ∧ e.length ≤ sizeLine ∧ ∀ z d v, kat e (keyR z d) = some v → ∃ l rs ms, v = .ref l ∧ l ∈ Ls ∧ H l = some (.lst rs) ∧ Trs H rs ms ∧ Places t d ms (codes z) := by
  obtain ⟨e, h1, h2, h3⟩ := h.k2
  refine ⟨e, h1, h2, h3, h.room2 h2 h3, fun z d v q => ?_⟩
  obtain ⟨p, hp, q1, q2⟩ := kat_mem q
  obtain ⟨z', d', l, rs, ms, e1, e2, _, _, e5, e6, e7, e8⟩ := h3 p hp
  obtain ⟨rfl, rfl⟩ := keyR_inj (q1.symm.trans e1)
  exact ⟨l, rs, ms, by rw [← q2, e2], e5, e6, e7, e8⟩
theorem KS.get3 (h : KS P w C k Ls H t) : ∃ e, ND P w H k.A.a3 e ∧ Once e ∧ (∀ p ∈ e, E3 t p) ∧ e.length ≤ sizeLine ∧ (∀ n d ms, t[n]? = some (d, ms) → n ≠ 0 → keyN d ms ∈ e.map (·.1)) ∧ ∀ d ms v, kat e (keyN d ms) = some v → ∃ n : Nat, v = .int (n : Nat) ∧ t[n]? = some (d, ms) := by
  obtain ⟨e, h1, h2, h3, h4⟩ := h.k3
  refine ⟨e, h1, h2, h3, h.room3 h2 h3, h4, fun d ms v q => ?_⟩
  obtain ⟨p, hp, q1, q2⟩ := kat_mem q
  obtain ⟨d', ms', n, e1, e2, e3, _⟩ := h3 p hp
  obtain ⟨rfl, rfl⟩ := keyN_inj (q1.symm.trans e1)
  exact ⟨n, by rw [← q2, e2], e3⟩
theorem KS.get7 (h : KS P w C k Ls H t) : ∃ e, ND P w H k.A.a7 e ∧ Once e ∧ (∀ p ∈ e, E7 k t p) ∧ e.length ≤ sizeLine ∧ ∀ n c v, kat e (keyB n c) = some v → ∃ m d : Nat, v = .int (m : Nat) ∧ BW t d n m c := by
  obtain ⟨e, h1, h2, h3⟩ := h.k7
  refine ⟨e, h1, h2, h3, h.room7 h2 h3, fun n c v q => ?_⟩
  obtain ⟨p, hp, q1, q2⟩ := kat_mem q
  obtain ⟨n', c', m, d, r, e1, e2, _, e4, _, e6⟩ := h3 p hp
  obtain ⟨rfl, rfl⟩ := keyB_inj (q1.symm.trans e1)
  exact ⟨m, d, by rw [← q2, e2], r, e4, e6⟩
theorem KS.get8 (h : KS P w C k Ls H t) : ∃ e, ND P w H k.A.a8 e ∧ Once e ∧ (∀ p ∈ e, E8 k t p) ∧ e.length ≤ sizeLine ∧ ∀ n c v, kat e (keyA c n) = some v → ∃ m d : Nat, v = .int (m : Nat) ∧ AW t d n m c := by
  obtain ⟨e, h1, h2, h3⟩ := h.k8
  refine ⟨e, h1, h2, h3, h.room8 h2 h3, fun n c v q => ?_⟩
  obtain ⟨p, hp, q1, q2⟩ := kat_mem q
  obtain ⟨n', c', m, d, r, e1, e2, _, e4, _, e6⟩ := h3 p hp
  obtain ⟨rfl, rfl⟩ := keyA_inj (q1.symm.trans e1)
  exact ⟨m, d, by rw [← q2, e2], r, e4, e6⟩
theorem KS.get6 (h : KS P w C k Ls H t) : ∃ kv : List (Key × V), H k.A.a6 = some (.dK kv) ∧ (kv.map (·.1)).Nodup ∧ (Sum.inl 0 : Key) ∈ kv.map (·.1) ∧ (∀ p ∈ kv, E6 t p) ∧ kv.length < sizeLine ∧ ∀ (n : Nat) v, valV kv (Sum.inl ((n : Nat) : Int)) = some v → ∃ m d : Nat, v = .int (m : Nat) ∧ LW t d n m := by
  obtain ⟨kv, h1, h2, h3, h4⟩ := h.k6
  refine ⟨kv, h1, h2, h3, h4, h.room6 h2 h4, fun n v q => ?_⟩
  obtain ⟨n', m, d, e1, e2, e3⟩ := h4 _ (valV_mem q)
  injection e1 with e1
  obtain rfl : n = n' := by omega
  exact ⟨m, d, e2, e3⟩
/-- a kind's own marks and depth -/
theorem KS.get4 (h : KS P w C k Ls H t) {n d : Nat} {xs : List Mark} (e : t[n]? = some (d, xs)) : ∃ (ms : List Addr) (m : Addr), H k.A.a4 = some (.lst (ms.map V.ref)) ∧ (ms.map V.ref)[n]? = some (.ref m) ∧ NK H (.ref m) (.tup (xs.map trip)) := by
  obtain ⟨ms, h1, h2, h3⟩ := h.k4
  have hn : n < ms.length := by rw [h2]; exact (List.getElem?_eq_some_iff.mp e).1
  exact ⟨ms, ms[n], h1, by rw [List.getElem?_map, List.getElem?_eq_getElem hn]; rfl, h3 n _ d xs (List.getElem?_eq_getElem hn) e⟩
theorem depsV_at {n d : Nat} {xs : List Mark} (e : t[n]? = some (d, xs)) : (depsV t)[n]? = some (.int (d : Nat)) := by
  unfold depsV
  rw [List.getElem?_map, e]
  rfl
end
/-! ### what the methods promise -/
def After (P : Program) (w : World) (C : Addr) (k : KC) (Ls : List Addr) (H : Hp) (t : KTab) (R : KTab → Nat → Prop) (Q : VK) : Prop := ∀ (n : Nat) t' Ls' H', KS P w C k Ls' H' t' → Stp k Ls H t Ls' H' t' → R t' n → Q (.int (n : Nat)) H'
def sp_numbered (P : Program) (w : World) (C : Addr) : Sp := fun vs H Q _ => ∃ (k : KC) (Ls : List Addr) (t : KTab) (d : Nat) (m : Addr) (ms : List Mark), vs = [.ref k.x, .int (d : Nat), .ref m] ∧ KS P w C k Ls H t ∧ NK H (.ref m) (.tup (ms.map trip)) ∧ Canon ms ∧ (∀ e, d = e + 1 → d ≤ k.D ∧ ∃ r ∈ k.S, Fits t e ms r) ∧
  After P w C k Ls H t (fun t' n => (d = 0 → n = 0) ∧ ∀ e, d = e + 1 → t'[n]? = some (d, ms)) Q
def sp_empty (P : Program) (w : World) (C : Addr) : Sp := fun vs H Q _ => ∃ (k : KC) (Ls : List Addr) (t : KTab) (d : Nat), vs = [.ref k.x, .int (d : Nat)] ∧ KS P w C k Ls H t ∧ d ≤ k.D ∧ After P w C k Ls H t (fun t' n => Rep t' d n []) Q
def sp_lesser (P : Program) (w : World) (C : Addr) (f : Nat) : Sp := fun vs H Q _ => ∃ (k : KC) (Ls : List Addr) (t : KTab) (n d : Nat) (r : List Nat), vs = [.ref k.x, .int (n : Nat)] ∧ KS P w C k Ls H t ∧ d < f ∧ Rep t d n r ∧ r ∈ k.S ∧ After P w C k Ls H t (fun t' m => Rep t' (d - 1) m r) Q
def sp_behind (P : Program) (w : World) (C : Addr) (f : Nat) : Sp := fun vs H Q _ => ∃ (k : KC) (Ls : List Addr) (t : KTab) (n d c : Nat) (r : List Nat), vs = [.ref k.x, .int (n : Nat), .str ⟨#[c]⟩] ∧ KS P w C k Ls H t ∧ d < f ∧ d ≤ k.D ∧ Rep t d n r ∧ r ++ [c] ∈ k.S ∧ After P w C k Ls H t (fun t' m => Rep t' d m (r ++ [c])) Q
def sp_ahead (P : Program) (w : World) (C : Addr) (f : Nat) : Sp := fun vs H Q _ => ∃ (k : KC) (Ls : List Addr) (t : KTab) (n d c : Nat) (r : List Nat), vs = [.ref k.x, .str ⟨#[c]⟩, .int (n : Nat)] ∧ KS P w C k Ls H t ∧ d < f ∧ d ≤ k.D ∧ Rep t d n r ∧ c :: r ∈ k.S ∧ After P w C k Ls H t (fun t' m => Rep t' d m (c :: r)) Q
def sp_marks (P : Program) (w : World) (C : Addr) : Sp := fun vs H Q _ => ∃ (k : KC) (Ls : List Addr) (t : KTab) (d : Nat) (z : Str), vs = [.ref k.x, .str z, .int (d : Nat)] ∧ KS P w C k Ls H t ∧ d ≤ k.D ∧ d ≤ 8 ∧ codes z ∈ k.S ∧
  ∀ (l : Addr) rs ms t' Ls' H', KS P w C k Ls' H' t' → Stp k Ls H t Ls' H' t' → H l = none → l ∉ k.A.all → l ∉ Ls' → H' l = some (.lst rs) → Trs H' rs ms → Places t' d ms (codes z) → Q (.ref l) H'
def sp_places (P : Program) (w : World) (C : Addr) : Sp := fun vs H Q _ => ∃ (k : KC) (Ls : List Addr) (t : KTab) (d : Nat) (z : Str), vs = [.ref k.x, .str z, .int (d : Nat)] ∧ KS P w C k Ls H t ∧ d ≤ k.D ∧ d ≤ 8 ∧ codes z ∈ k.S ∧
  ∀ (l : Addr) rs ms t' Ls' H', KS P w C k Ls' H' t' → Stp k Ls H t Ls' H' t' → l ∈ Ls' → H' l = some (.lst rs) → Trs H' rs ms → Places t' d ms (codes z) → Q (.ref l) H'
def sp_of_row (P : Program) (w : World) (C : Addr) : Sp := fun vs H Q _ => ∃ (k : KC) (Ls : List Addr) (t : KTab) (d : Nat) (z : Str), vs = [.ref k.x, .str z, .int (d : Nat)] ∧ KS P w C k Ls H t ∧ d ≤ k.D ∧ d ≤ 8 ∧ codes z ∈ k.S ∧ After P w C k Ls H t (fun t' n => Rep t' d n (codes z)) Q
def sp_kalike (P : Program) (w : World) (C : Addr) : Sp := fun vs H Q _ => ∃ (k : KC) (Ls : List Addr) (t : KTab) (d : Nat) (y z : Str), vs = [.ref k.x, .str y, .str z, .int (d : Nat)] ∧ KS P w C k Ls H t ∧ d ≤ k.D ∧ d ≤ 8 ∧ codes y ∈ k.S ∧ codes z ∈ k.S ∧
  ∀ (b : Bool) t' Ls' H', KS P w C k Ls' H' t' → Stp k Ls H t Ls' H' t' → (b = true ↔ Al d (codes y) (codes z)) → Q (.bl b) H'
end M
end

section
set_option Elab.async false
set_option linter.all false
set_option maxRecDepth 100000
set_option maxHeartbeats 2000000
/-! the rules of sets and dicts, said by what stands behind them -/
namespace M
open PySem PySem.Spec L2 Evl
open PyProof.Rows hiding St
/-- the set at a holds the triples T -/
def SetT (w : World) (H : Hp) (a : Addr) (T : List Mark) : Prop := ∃ L, SNS w H a L ∧ L.map (·.2) = T.map trip
theorem SetT.keep {w : World} {H H' : Hp} {a : Addr} {T : List Mark} (h : SetT w H a T) (e : Tk H H') (x : ∀ o, H a = some o → H' a = some o) : SetT w H' a T := by
  obtain ⟨L, h1, h2⟩ := h
  exact ⟨L, h1.keep e (x _ h1.at_), h2⟩
theorem SetT.ne_none {w : World} {H : Hp} {a : Addr} {T : List Mark} (h : SetT w H a T) : H a ≠ none := by
  obtain ⟨L, h1, _⟩ := h
  rw [h1.at_]
  exact fun z => nomatch z
section
variable {X : Cx}
theorem pe_weak {e : Expr} {t t' : TE} (h : PE X e t) (w : ∀ σ H Q, t' σ H Q → t σ H Q) : PE X e t' := ⟨fun pins s σ H Q I q => h.run pins s σ H Q I (w σ H Q q)⟩
theorem cr_weak {f : Value} {r r' : List V → Hp → VK → Prop} (h : CallR X f r) (w : ∀ xs H Q, r' xs H Q → r xs H Q) : CallR X f r' := fun pins s σ H xs us Q I rv q => h pins s σ H xs us Q I rv (w xs H Q q)
/-- {} -/
def tDNewH (P : Program) (w : World) : TE := fun _ H Q => ∀ d H', H d = none → H' = upd H d (NdO P w d []) → Q (.ref d) H'
theorem pe_dnewH {pos : Pos} : PE X (.Dict [] [] pos) (tDNewH X.prog X.w) := pe_weak pe_dnewN fun σ H Q h d hd => h d _ hd rfl
/-- d[key] = v -/
def sNPutH (P : Program) (w : World) (td ty tv : TE) : TS := fun D σ H => tv σ H fun v H1 => td σ H1 fun x H2 => ty σ H2 fun y H3 => ∃ (t d : Addr) (k : NestedKey) (xs : List NEnt), x = .ref d ∧ y = .ref t ∧ NK H3 (.ref t) k ∧ k.depth ≤ 8 ∧ ND P w H3 d xs ∧
  xs.length ≤ sizeLine ∧ ∀ H4, H4 = upd H3 d (NdO P w d (putE xs k t v)) → D.nx σ H4
theorem ps_nputH {o i value : Expr} {td ty tv : TE} {pos pos' : Pos} (hu : X.A.units + 64 < cLine) (ho : PE X o td) (hi : PE X i ty) (hv : PE X value tv) (hs : swapsWith value (some (.Subscript o i pos')) pos.line X.env = pure false) :
    PS X (.Assign [.Subscript o i pos'] value pos) (sNPutH X.prog X.w td ty tv) := by
  refine ⟨fun pins s σ H D I h => ?_⟩
  refine wpAny_Assign_Subscript (thn (hv.run pins s σ H _ I h) fun r s1 ⟨v, H1, I1, rv, q1⟩ => thn (ho.run pins s1 σ H1 _ I1 q1) fun u s2 ⟨x, H2, I2, rx, q2⟩ => thn (hi.run pins s2 σ H2 _ I2 q2) fun iv s3 ⟨y, H3, I3, ry, t, d, k, xs, ex, ey, hk, h8, hd, hl, q3⟩ => ?_) hs
  subst ex; subst ey
  obtain rfl : u = Value.ref d := rx
  obtain rfl : iv = Value.ref t := ry
  obtain ⟨z, ys, hm, rel⟩ := nd_of I3 hd
  refine wpAny_setItem_heap (knd := nestedKind X.prog X.w) (hsz := by rw [← Paired.length rel]; exact hl) (show X.A.in1.units + 8 < cLine by have := hu; show X.A.units + 1 + 8 < cLine; omega) ⟨hk.is I3.hok rfl, h8⟩ hm fun h' hm2 hsb => ?_
  obtain ⟨o2, es2, ep2, a1, a2, a3, a4, a5, a6⟩ := hm2
  refine ⟨σ, upd H3 d (NdO X.prog X.w d (putE xs k t v)), ?_, q3 _ rfl⟩
  refine I3.write (e := d) (t' := s3.toks + (nestedKind X.prog X.w).draws k) (by rw [hd.at_]; trivial) (.inl rfl) (fun b u hb hu2 => (hsb.2 b hb).trans hu2) ⟨o2, a1⟩ (ndO_new ⟨z, _, o2, es2, ep2, a1, a2, a3, a4, a6, ?_⟩)
  rcases kat_rel (k := k) rel with ⟨e1, e2⟩ | ⟨v0, p0, e1, e2, _⟩
  · rw [storedH_new e2]
    unfold putE
    rw [e1]
    exact Paired.snoc rel ⟨rfl, rfl, rv⟩
  · rw [storedH_old e2]
    unfold putE
    rw [e1]
    exact paired_put rv rel
/-- set() -/
def rSnew (w : World) : List V → Hp → VK → Prop := fun xs H Q => xs = [] ∧ ∀ p H', H p = none → Ex H H' → SetT w H' p [] → (∀ b, b ≠ p → H' b = H b) → Q (.ref p) H'
theorem cr_snew : CallR X (.type "set") (rSnew X.w) := cr_weak cr_sn0 fun xs H Q h => ⟨h.1, fun p hp => h.2 p _ hp (Ex.new hp) ⟨[], ⟨upd_same, fun x hx => nomatch hx⟩, rfl⟩ fun b hb => upd_ne hb⟩
/-- found.add((n, c, m)) -/
def rSadd (w : World) : V → List V → Hp → VK → Prop := fun x xs H Q => ∃ (a t : Addr) (m : Mark) (T : List Mark), x = V.ref a ∧ xs = [V.ref t] ∧ SetT w H a T ∧ NK H (.ref t) (trip m) ∧ T.length + 1 < 64 ∧
  ∀ H' T', SetT w H' a T' → (∀ q, q ∈ T' ↔ q = m ∨ q ∈ T) → T'.length ≤ T.length + 1 → (∀ b, b ≠ a → H' b = H b) → Tk H H' → Q .non H'
theorem mt_sadd (hu : X.A.units + 64 < cLine) : MtR X "set.add" (rSadd X.w) := by
  intro pins s σ H x xs v us Q I rx rxs ⟨a, t, m, T, e1, e2, ⟨L, hs, hL⟩, hk, few, q⟩
  have hlen : L.length = T.length := by
    have := congrArg List.length hL
    simpa using this
  refine mt_snadd hu pins s σ H x xs v us Q I rx rxs ⟨a, t, trip m, L, e1, e2, hs, hk, trip_depth8 m, by omega, fun L' p1 p2 => ?_⟩
  have tk := nk_upd (o := SnO X.w a L') hs.at_
  by_cases hm : trip m ∈ L.map (·.2)
  · have e := p1 hm
    subst e
    refine q _ T ⟨L', hs.put hk (trip_depth8 m) (.inl rfl), hL⟩ (fun y => ⟨.inr, fun z => ?_⟩) (Nat.le_succ _) (fun b hb => upd_ne hb) tk
    rcases z with rfl | z
    · rw [hL] at hm
      obtain ⟨m', h1, h2⟩ := List.mem_map.mp hm
      rw [← trip_inj h2]; exact h1
    · exact z
  · have pm := p2 hm
    have pk := pm.map (·.2)
    rw [List.map_cons, hL] at pk
    obtain ⟨T', h1, h2⟩ := perm_back (f := trip) (L := m :: T) pk rfl
    refine q _ T' ⟨L', hs.put hk (trip_depth8 m) (.inr pm), h2⟩ (fun y => by rw [h1.mem_iff, List.mem_cons]) (by rw [h1.length_eq]; simp) (fun b hb => upd_ne hb) tk
def tSadd (w : World) (to : TE) (t : TA) : TE := fun σ H Q => to σ H fun x H1 => (∃ a T, x = V.ref a ∧ SetT w H1 a T) ∧ t σ H1 fun xs H2 => rSadd w x xs H2 Q
variable {o e : Expr} {es : List Expr} {to : TE} {t : TA} {apos cpos : Pos}
theorem pe_sadd (hu : X.A.units + 64 < cLine) (ho : PE X o to) (ha : PA X (e :: es) t) (b1 : attributeBase o "add" X.env (eval o X.env) = eval o X.env := by rfl)
    (b2 : ((backTo cpos (starEach (e :: es) X.env)).all (fun x => !x.1) && (backToKw cpos (keywordEach [] X.env)).all (fun x => x.1.isSome) && decide ((e :: es).length + ([] : List Keyword).length + (if ([] : List Keyword).isEmpty then 0 else 1) < 30)) = true := by rfl)
    (b3 : (apos.endLine == cpos.line) = true := by rfl) (b4 : starEach (e :: es) X.env = (false, eval e X.env) :: starEach es X.env := by rfl) (b5 : (backTo cpos (starEach es X.env)).any (·.1) = false := by rfl) :
    PE X (.Call (.Attribute o "add" apos) (e :: es) [] cpos) (tSadd X.w to t) := by
  refine ⟨fun pins s σ H Q I h => wpAny_Call_method_late b1 b2 b3 rfl (thn (ho.run pins s σ H _ I h) fun v s1 ⟨x, H1, I1, r1, ty, q1⟩ => ?_)⟩
  obtain ⟨a, T, rfl, L, hs, _⟩ := ty
  obtain ⟨es1, ep, tb, R⟩ := sns_of I1 hs
  cases r1
  have ⟨ob, at_, ex, _⟩ := R.obj
  refine ⟨"set", "set.add", PySem.F.plainAttrs_set, PySem.F.slot_set_add, PySem.F.type_set_add, R.isSet, (fun b hb => ?_), ?_⟩
  · cases hb
    exact ⟨ob, at_, ex.2.1⟩
  have hA := ha.run cpos pins s1 σ H1 _ I1 q1
  rw [b4] at hA ⊢
  exact Calls.callWith_builtin (by show (false || (backTo cpos (starEach es X.env)).any (·.1)) = false; rw [b5] <;> rfl) (Calls.evalArgs_plain (thn hA fun us s2 ⟨vs, H2, I2, r2, q2⟩ => mt_sadd hu pins s2 σ H2 (.ref a) vs (.ref a) us Q I2 rfl r2 q2))
/-- sorted(found) -/
def rSsort (w : World) : List V → Hp → VK → Prop := fun xs H Q => ∃ (a : Addr) (T : List Mark), xs = [V.ref a] ∧ SetT w H a T ∧ (∀ m ∈ T, Low m) ∧
  ∀ p rs ms H', H p = none → Ex H H' → H' p = some (.lst rs) → (∀ b, b ≠ p → H' b = H b) → Canon ms → (∀ q, q ∈ ms ↔ q ∈ T) → Trs H rs ms → Q (.ref p) H'
theorem cr_ssort (hc : X.calm = true) : CallR X (.builtin "sorted") (rSsort X.w) := cr_weak (cr_sortN hc) fun xs H Q h => by
  obtain ⟨a, T, e, ⟨L, hs, hL⟩, lo, q⟩ := h
  refine ⟨a, L, e, hs, fun p hp => ?_, fun L' p pm nd so hp => ?_⟩
  · have hm : p.2 ∈ T.map trip := by rw [← hL]; exact List.mem_map.mpr ⟨p, hp, rfl⟩
    obtain ⟨m, h1, h2⟩ := List.mem_map.mp hm
    exact ⟨m, h2.symm, lo m h1⟩
  · have pk := pm.map (·.2)
    rw [hL] at pk
    obtain ⟨ms, h1, h2⟩ := perm_back (f := trip) (L := T) pk rfl
    have lo2 : ∀ m ∈ ms, Low m := fun m hm => lo m (h1.mem_iff.mp hm)
    exact q p _ ms _ hp (Ex.new hp) upd_same (fun b hb => upd_ne hb) (canon_of h2 lo2 nd so) (fun q => h1.mem_iff) ⟨L', rfl, h2, fun x hx => (hs.key x (pm.mem_iff.mp hx)).1⟩
/-- set(marks) -/
def rSlist (K : PySem.W.Frag) (w : World) : List V → Hp → VK → Prop := fun xs H Q => ∃ (l : Addr) (rs : List V) (ms : List Mark), xs = [V.ref l] ∧ SqL K H l rs ∧ Trs H rs ms ∧ ms.length < 63 ∧
  ∀ a T H', H a = none → Ex H H' → SetT w H' a T → (∀ q, q ∈ T ↔ q ∈ ms) → T.length ≤ ms.length → (∀ b, b ≠ a → H' b = H b) → Q (.ref a) H'
theorem cr_slist (hc : X.calm = true) (hu : X.A.units + 64 < cLine) : CallR X (.type "set") (rSlist X.K X.w) := cr_weak (cr_snL hc hu) fun xs H Q h => by
  obtain ⟨l, rs, ms, e, hl, ⟨ks, e1, e2, e3⟩, few, q⟩ := h
  have hlen : ks.length = ms.length := by
    have := congrArg List.length e2
    simpa using this
  have key : ∀ p ∈ ks, NK H (.ref p.1) p.2 ∧ p.2.depth ≤ 8 := fun p hp => ⟨e3 p hp, by
    have hm : p.2 ∈ ms.map trip := by rw [← e2]; exact List.mem_map.mpr ⟨p, hp, rfl⟩
    obtain ⟨m, _, h2⟩ := List.mem_map.mp hm
    rw [← h2]; exact trip_depth8 m⟩
  refine ⟨l, ks, e, by rw [← e1]; exact hl, key, by omega, fun a L ha T => ?_⟩
  have ex : ∃ T' : List Mark, L.map (·.2) = T'.map trip := by
    have : ∀ L : List NMem, (∀ p ∈ L, p ∈ ks) → ∃ T' : List Mark, L.map (·.2) = T'.map trip := fun L => by
      induction L with
      | nil => exact fun _ => ⟨[], rfl⟩
      | cons p L ih =>
        intro hs
        obtain ⟨T', h1⟩ := ih fun q hq => hs q (List.mem_cons_of_mem _ hq)
        have hm : p.2 ∈ ms.map trip := by rw [← e2]; exact List.mem_map.mpr ⟨p, hs p List.mem_cons_self, rfl⟩
        obtain ⟨m, _, h2⟩ := List.mem_map.mp hm
        exact ⟨m :: T', by rw [List.map_cons, h1, ← h2]; rfl⟩
    exact this L T.sub
  obtain ⟨T', hT⟩ := ex
  have all : ∀ q : Mark, q ∈ T' ↔ q ∈ ms := fun q => by
    constructor
    · intro hq
      have h1 : trip q ∈ L.map (·.2) := by rw [hT]; exact List.mem_map.mpr ⟨q, hq, rfl⟩
      obtain ⟨p, hp, h2⟩ := List.mem_map.mp h1
      have h3 : trip q ∈ ms.map trip := by rw [← e2, ← h2]; exact List.mem_map.mpr ⟨p, T.sub p hp, rfl⟩
      obtain ⟨m, h4, h5⟩ := List.mem_map.mp h3
      rw [← trip_inj h5]; exact h4
    · intro hq
      have h1 : trip q ∈ ks.map (·.2) := by rw [e2]; exact List.mem_map.mpr ⟨q, hq, rfl⟩
      obtain ⟨p, hp, h2⟩ := List.mem_map.mp h1
      have h3 := T.all p (by rw [List.take_length]; exact hp)
      rw [h2, hT] at h3
      obtain ⟨m, h4, h5⟩ := List.mem_map.mp h3
      rw [← trip_inj h5]; exact h4
  have few2 : T'.length ≤ ms.length := by
    have h1 := T.few
    have h2 := congrArg List.length hT
    simp only [List.length_map] at h2
    omega
  exact q a T' _ ha (Ex.new ha) ⟨L, SNS.taken key T ha, hT⟩ all few2 fun b hb => upd_ne hb
end
end M
namespace M
open PySem PySem.Spec L2 Evl
open PyProof.Rows hiding St
section
variable {P : Program} {w : World} {C : Addr} {k : KC} {Ls Ls' : List Addr} {H H' G : Hp} {t t' : KTab}
theorem Stp.exx (x : Stp k Ls H t Ls' H' t') (e : Ex H' G) : Stp k Ls H t Ls' G t' := ⟨x.grows, fun b o hb q => e _ _ (x.old b o hb q), x.ls⟩
theorem Stp.mut (x : Stp k Ls H t Ls' H' t') {a : Addr} {o : HO} (n : H a = none) : Stp k Ls H t Ls' (upd H' a o) t' := ⟨x.grows, fun b u hb q => by rw [upd_ne (ne_of_none q n)]; exact x.old b u hb q, x.ls⟩
theorem Stp.fresh (x : Stp k Ls H t Ls' H' t') {a : Addr} (h1 : a ∉ Ls) (h2 : H a ≠ none) : a ∉ Ls' := fun h => by
  rcases x.ls a h with q | q
  · exact h1 q
  · exact h2 q
theorem Stp.back (h : KS P w C k Ls' H' t') (x : Stp k Ls H t Ls' H' t') {a : Addr} (n : H' a = none) : H a = none := by
  cases e : H a with
  | none => rfl
  | some o => rw [x.old a o (h.new_out n).1 e] at n; cases n
theorem codes_rev (z : Str) : codes (revS z) = (codes z).reverse := by
  unfold codes revS
  simp
theorem codes_at {z : Str} {i c : Nat} (h : z.cps[i]? = some c) : (codes z)[i]? = some c := by
  unfold codes
  rw [Array.getElem?_toList]; exact h
theorem size_codes (z : Str) : z.cps.size = (codes z).length := (codes_len z).symm
end
end M
namespace M
open PySem PySem.Spec L2 Evl
open PyProof.Rows hiding St
def sp_kinit (P : Program) (w : World) (C : Addr) : Sp := fun vs H Q _ => ∃ (x dx : Addr) (S : List (List Nat)) (D : Nat), vs = [.ref x] ∧ H x = some (.ins C dx []) ∧ Sub S D ∧ ∀ (A : KA) H', KS P w C ⟨S, D, x, A⟩ [] H' [(0, [])] → (∀ b o, b ≠ x → H b = some o → H' b = some o) → (∀ b ∈ A.all, H b = none) → Q .non H'
theorem tok0 {S : List (List Nat)} {D : Nat} : TOk Canon S D [(0, [])] := by
  have at_ : ∀ {n : Nat} {x : Nat × List Mark}, ([(0, [])] : KTab)[n]? = some x → n = 0 ∧ x = (0, []) := fun {n x} h => by
    cases n with
    | zero => exact ⟨rfl, (Option.some.inj h).symm⟩
    | succ n => simp at h
  refine ⟨⟨fun n m x h1 h2 => by rw [(at_ h1).1, (at_ h2).1], fun n d ms h => ?_⟩, rfl, fun n d ms h n0 => absurd (at_ h).1 n0⟩
  have := (at_ h).2
  injection this with _ e
  rw [e]
  exact ⟨(fun m h => nomatch h), .nil⟩
end M
end

section
set_option Elab.async false
set_option linter.all false
set_option maxRecDepth 100000
set_option maxHeartbeats 2000000
/-! rows bent, rows alike: what defs about alike rows promise -/
namespace M
open PySem PySem.Spec L2 Evl
open PyProof.Rows hiding St
theorem abc_codes {z : Str} : Abc z ↔ ∀ c ∈ codes z, 97 ≤ c ∧ c ≤ 122 := Iff.rfl
def sp_check_rows : Sp := fun vs H Q _ => ∃ y z : Str, vs = [.str y, .str z] ∧ Abc y ∧ Abc z ∧ y.length ≤ 1000 ∧ z.length ≤ 1000 ∧ ∀ H', Ex H H' → Q .non H'
def sp_not_neg : Sp := fun vs H Q _ => ∃ n : Nat, vs = [.int (n : Nat)] ∧ Q .non H
def sp_check_rd : Sp := fun vs H Q _ => ∃ (y z : Str) (d : Nat), vs = [.str y, .str z, .int (d : Nat)] ∧ Abc y ∧ Abc z ∧ y.length ≤ 1000 ∧ z.length ≤ 1000 ∧ ∀ H', Ex H H' → Q .non H'
def sp_are_alike : Sp := fun vs H Q _ => ∃ (y z : Str) (d : Nat), vs = [.str y, .str z, .int (d : Nat)] ∧ Abc y ∧ Abc z ∧ y.length ≤ 60 ∧ z.length ≤ 60 ∧ d ≤ 8 ∧ ∀ H' (b : Bool), Ex H H' → (b = true ↔ Al d (codes y) (codes z)) → Q (.bl b) H'
/-- the rows of which two rows are made -/
theorem sub_two {y z : Str} (hy : Abc y) (hz : Abc z) (ly : y.length ≤ 60) (lz : z.length ≤ 60) : Sub (subsAll [codes y, codes z]) 8 := by
  have e1 := codes_len y
  have e2 := codes_len z
  refine sub_all (fun r hr => ?_) (fun r hr c hc => ?_) ?_
  · simp only [List.mem_cons, List.not_mem_nil, or_false] at hr
    rcases hr with rfl | rfl <;> omega
  · simp only [List.mem_cons, List.not_mem_nil, or_false] at hr
    rcases hr with rfl | rfl
    · have := (hy c hc).2; omega
    · have := (hz c hc).2; omega
  · unfold subsAll
    simp only [List.flatMap_cons, List.flatMap_nil, List.length_cons, List.length_append, List.length_nil, subs_len]
    have h1 : ((codes y).length + 1) * ((codes y).length + 1) ≤ 61 * 61 := Nat.mul_le_mul (by omega) (by omega)
    have h2 : ((codes z).length + 1) * ((codes z).length + 1) ≤ 61 * 61 := Nat.mul_le_mul (by omega) (by omega)
    omega
/-! ### texts cut -/
theorem mem_cut {z : Str} {lo hi : Option Int} {c : Nat} (h : c ∈ codes (cutS z lo hi)) : c ∈ codes z := by
  unfold codes cutS at h
  simp only [List.toList_toArray] at h
  exact List.mem_of_mem_drop (List.mem_of_mem_take h)
theorem abc_cut {z : Str} {lo hi : Option Int} (h : Abc z) : Abc (cutS z lo hi) := fun c hc => h c (mem_cut hc)
theorem codes_app (y z : Str) : codes (y ++ z) = codes y ++ codes z := by
  unfold codes
  show (y.cps ++ z.cps).toList = _
  simp
theorem len_app (y z : Str) : (y ++ z).length = y.length + z.length := by
  rw [← codes_len, ← codes_len, ← codes_len, codes_app, List.length_append]
theorem abc_app {y z : Str} (h : Abc y) (g : Abc z) : Abc (y ++ z) := fun c hc => by
  have hc : c ∈ codes (y ++ z) := hc
  rw [codes_app] at hc
  rcases List.mem_append.mp hc with hc | hc
  · exact h c hc
  · exact g c hc
theorem abc_rev {z : Str} (h : Abc z) : Abc (revS z) := fun c hc => by
  have hc : c ∈ codes (revS z) := hc
  rw [codes_rev] at hc
  exact h c (List.mem_reverse.mp hc)
theorem len_rev (z : Str) : (revS z).length = z.length := by rw [← codes_len, ← codes_len, codes_rev, List.length_reverse]
theorem abc_one {c : Nat} (h : 97 ≤ c ∧ c ≤ 122) : Abc ⟨#[c]⟩ := fun d hd => by
  have : d = c := by simpa using hd
  rw [this]; exact h
theorem len_cut {z : Str} {lo hi : Nat} : (cutS z (some ((lo : Nat) : Int)) (some ((hi : Nat) : Int))).length ≤ hi - lo := by
  have e : (cutS z (some ((lo : Nat) : Int)) (some ((hi : Nat) : Int))).length = ((z.cps.toList.drop (HT.sIx z.length 0 (some ((lo : Nat) : Int)))).take (HT.sIx z.length z.length (some ((hi : Nat) : Int)) - HT.sIx z.length 0 (some ((lo : Nat) : Int)))).length := by
    show (List.toArray _).size = _
    rw [List.size_toArray]
  rw [e, List.length_take, List.length_drop, HT.sIx_nat, HT.sIx_nat]
  have hl : z.cps.toList.length = z.length := Array.length_toList
  omega
theorem len_to {z : Str} {hi : Nat} : (cutS z none (some ((hi : Nat) : Int))).length ≤ hi := by
  by_cases h : hi ≤ z.length
  · rw [← codes_len, codes_cut1 h, List.length_take]; omega
  · have := cut_len (z := z) (lo := none) (hi := some ((hi : Nat) : Int))
    omega
theorem len_from {z : Str} {n : Nat} : (cutS z (some ((n : Nat) : Int)) none).length ≤ z.length - n := by
  have e : (cutS z (some ((n : Nat) : Int)) none).length = ((z.cps.toList.drop (HT.sIx z.length 0 (some ((n : Nat) : Int)))).take (HT.sIx z.length z.length none - HT.sIx z.length 0 (some ((n : Nat) : Int)))).length := by
    show (List.toArray _).size = _
    rw [List.size_toArray]
  rw [e, List.length_take, List.length_drop, HT.sIx_nat]
  have hl : z.cps.toList.length = z.length := Array.length_toList
  omega
def sp_bent : Sp := fun vs H Q _ => ∃ (H0 : Hp) (p : Addr) (m : Nat) (y z : Str), vs = [.ref p, .str y, .str z] ∧ Pl H0 H p m ∧ m + 4 ≤ 2 ^ 20 ∧ Abc y ∧ y.length ≤ 80 ∧ Names z ∧ ∀ (v : Str) H', Pl H0 H' p (m + 4) → Abc v → v.length ≤ y.length + 3 → Q (.str v) H'
def sp_lalike (n : Nat) : Sp := fun vs H Q _ => ∃ (y z : Str) (d : Nat), vs = [.str y, .str z, .int (d : Nat)] ∧ y.length ≤ 100 ∧ z.length ≤ 100 ∧ d < n ∧ ∀ H' (b : Bool), Ex H H' → (b = true ↔ Al d (codes y) (codes z)) → Q (.bl b) H'
def sp_pair : Sp := fun vs H Q _ => ∃ (H0 : Hp) (p : Addr) (m n : Nat), vs = [.ref p, .int (n : Nat)] ∧ Pl H0 H p m ∧ m + 200 ≤ 2 ^ 20 ∧ n ≤ 60 ∧ ∀ (a : Addr) (y z : Str) H', Pl H0 H' p (m + 200) → H' a = some (.tup [.str y, .str z]) → Abc y → Abc z → y.length ≤ n → z.length ≤ n → Q (.ref a) H'
theorem namesB {k : Int} (h0 : 0 ≤ k) (h3 : k < 4) : ∃ z : Str, atI [V.str "ab", V.str "a", V.str "abc", V.str "xyb"] k = some (.str z) ∧ Names z := by
  have n1 : Names "ab" := ⟨by unfold Abc; decide +kernel, by decide +kernel, by decide +kernel⟩
  have n2 : Names "a" := ⟨by unfold Abc; decide +kernel, by decide +kernel, by decide +kernel⟩
  have n3 : Names "abc" := ⟨by unfold Abc; decide +kernel, by decide +kernel, by decide +kernel⟩
  have n4 : Names "xyb" := ⟨by unfold Abc; decide +kernel, by decide +kernel, by decide +kernel⟩
  rcases (by omega : k = 0 ∨ k = 1 ∨ k = 2 ∨ k = 3) with rfl | rfl | rfl | rfl
  · exact ⟨_, rfl, n1⟩
  · exact ⟨_, rfl, n2⟩
  · exact ⟨_, rfl, n3⟩
  · exact ⟨_, rfl, n4⟩
end M
end

section
set_option Elab.async false
set_option linter.all false
set_option maxRecDepth 100000
set_option maxHeartbeats 2000000
/-! rows turned, renamed, repeated; short rows are told apart -/
namespace M
theorem al_half {d : Nat} {r s : List Nat} (h : Hf d r s) (g : Hf d s r) : Al (d + 1) r s := al_hf.mpr ⟨h, g⟩
theorem Al.hf {d : Nat} {r s : List Nat} (h : Al (d + 1) r s) : Hf d r s := h.1
/-- turned about -/
theorem rev_at {r : List Nat} {i c : Nat} (h : r.reverse[i]? = some c) : ∃ k, r[k]? = some c ∧ i + k + 1 = r.length ∧ r.reverse.take i = (r.drop (k + 1)).reverse ∧ r.reverse.drop (i + 1) = (r.take k).reverse := by
  have hi : i < r.length := by simpa using (List.getElem?_eq_some_iff.mp h).1
  rw [List.getElem?_reverse hi] at h
  refine ⟨r.length - 1 - i, h, by omega, ?_, ?_⟩
  · rw [List.take_reverse, show r.length - 1 - i + 1 = r.length - i by omega]
  · rw [List.drop_reverse, show r.length - (i + 1) = r.length - 1 - i by omega]
theorem at_rev {r : List Nat} {k c : Nat} (h : r[k]? = some c) : ∃ i, r.reverse[i]? = some c ∧ i + k + 1 = r.length ∧ r.reverse.take i = (r.drop (k + 1)).reverse ∧ r.reverse.drop (i + 1) = (r.take k).reverse := by
  have hk := (List.getElem?_eq_some_iff.mp h).1
  have hi : r.length - 1 - k < r.length := by omega
  refine ⟨r.length - 1 - k, ?_, by omega, ?_, ?_⟩
  · rw [List.getElem?_reverse hi, show r.length - 1 - (r.length - 1 - k) = k by omega]; exact h
  · rw [List.take_reverse, show r.length - (r.length - 1 - k) = k + 1 by omega]
  · rw [List.drop_reverse, show r.length - (r.length - 1 - k + 1) = k by omega]
theorem Al.rev : ∀ {d : Nat} {r s : List Nat}, Al d r s → Al d r.reverse s.reverse
  | 0, _, _, _ => trivial
  | d + 1, r, s, h => by
    have half : ∀ {r s : List Nat}, Al (d + 1) r s → Hf d r.reverse s.reverse := fun {r s} h i c e => by
      obtain ⟨k, e1, _, e3, e4⟩ := rev_at e
      obtain ⟨j, f1, a1, a2⟩ := h.1 k c e1
      obtain ⟨j', g1, _, g3, g4⟩ := at_rev f1
      exact ⟨j', g1, by rw [e3, g3]; exact a2.rev, by rw [e4, g4]; exact a1.rev⟩
    exact al_half (half h) (half h.symm)
theorem al_rev {d : Nat} {r s : List Nat} : Al d r.reverse s.reverse ↔ Al d r s := ⟨fun h => by simpa using h.rev, Al.rev⟩
/-- renamed, letters perhaps made one -/
theorem Al.map (f : Nat → Nat) : ∀ {d : Nat} {r s : List Nat}, Al d r s → Al d (r.map f) (s.map f)
  | 0, _, _, _ => trivial
  | d + 1, r, s, h => by
    have half : ∀ {r s : List Nat}, Al (d + 1) r s → Hf d (r.map f) (s.map f) := fun {r s} h i c e => by
      rw [List.getElem?_map] at e
      obtain ⟨c', e1, rfl⟩ := Option.map_eq_some_iff.mp e
      obtain ⟨j, f1, a1, a2⟩ := h.1 i c' e1
      refine ⟨j, by rw [List.getElem?_map, f1]; rfl, ?_, ?_⟩
      · rw [← List.map_take, ← List.map_take]; exact a1.map f
      · rw [← List.map_drop, ← List.map_drop]; exact a2.map f
    exact al_half (half h) (half h.symm)
/-! ### repeated -/
def rep (r : List Nat) (m : Nat) : List Nat := (List.replicate m r).flatten
theorem rep_zero (r : List Nat) : rep r 0 = [] := rfl
theorem rep_succ (r : List Nat) (m : Nat) : rep r (m + 1) = r ++ rep r m := by simp [rep, List.replicate_succ]
theorem rep_len (r : List Nat) : ∀ m, (rep r m).length = m * r.length
  | 0 => by simp [rep]
  | m + 1 => by rw [rep_succ, List.length_append, rep_len r m, Nat.succ_mul, Nat.add_comm]
theorem rep_split {r : List Nat} : ∀ {m i c : Nat}, (rep r m)[i]? = some c → ∃ p o, p < m ∧ r[o]? = some c ∧ (rep r m).take i = rep r p ++ r.take o ∧ (rep r m).drop (i + 1) = r.drop (o + 1) ++ rep r (m - 1 - p)
  | 0, i, c, h => by simp [rep] at h
  | m + 1, i, c, h => by
    rw [rep_succ] at h ⊢
    rcases app_get h with ⟨q, e⟩ | ⟨k, rfl, e⟩
    · exact ⟨0, i, by omega, e, by rw [take_l q, rep_zero]; rfl, by rw [drop_l q]; rfl⟩
    · obtain ⟨p, o, h1, h2, h3, h4⟩ := rep_split e
      refine ⟨p + 1, o, by omega, h2, by rw [take_r, h3, rep_succ, List.append_assoc], ?_⟩
      rw [drop_r, h4, show m + 1 - 1 - (p + 1) = m - 1 - p by omega]
theorem rep_at {r : List Nat} {o c : Nat} (h : r[o]? = some c) : ∀ {q n : Nat}, q < n → ∃ j, (rep r n)[j]? = some c ∧ (rep r n).take j = rep r q ++ r.take o ∧ (rep r n).drop (j + 1) = r.drop (o + 1) ++ rep r (n - 1 - q)
  | 0, n + 1, _ => by
    have ho := (List.getElem?_eq_some_iff.mp h).1
    rw [rep_succ]
    exact ⟨o, by rw [List.getElem?_append_left ho]; exact h, by rw [take_l ho]; rfl, by rw [drop_l ho]; rfl⟩
  | q + 1, n + 1, hq => by
    obtain ⟨j, h1, h2, h3⟩ := rep_at h (q := q) (n := n) (by omega)
    rw [rep_succ]
    refine ⟨r.length + j, by rw [List.getElem?_append_right (by omega), Nat.add_sub_cancel_left]; exact h1, by rw [take_r, h2, rep_succ, List.append_assoc], ?_⟩
    rw [drop_r, h3, show n + 1 - 1 - (q + 1) = n - 1 - q by omega]
theorem al_rep (r : List Nat) : ∀ (d : Nat) {m n : Nat}, m = n ∨ (2 ^ d - 1 ≤ m ∧ 2 ^ d - 1 ≤ n) → Al d (rep r m) (rep r n)
  | 0, _, _, _ => trivial
  | d + 1, m, n, h => by
    have pd : 2 ^ (d + 1) = 2 * 2 ^ d := by rw [Nat.pow_succ, Nat.mul_comm]
    have p0 : 0 < 2 ^ d := Nat.two_pow_pos d
    have half : ∀ {m n : Nat}, m = n ∨ (2 ^ (d + 1) - 1 ≤ m ∧ 2 ^ (d + 1) - 1 ≤ n) → Hf d (rep r m) (rep r n) := fun {m n} h i c e => by
      obtain ⟨p, o, h1, h2, h3, h4⟩ := rep_split e
      have pick : ∃ q, q < n ∧ (p = q ∨ (2 ^ d - 1 ≤ p ∧ 2 ^ d - 1 ≤ q)) ∧ (m - 1 - p = n - 1 - q ∨ (2 ^ d - 1 ≤ m - 1 - p ∧ 2 ^ d - 1 ≤ n - 1 - q)) := by
        rcases h with rfl | ⟨hm, hn⟩
        · exact ⟨p, h1, .inl rfl, .inl rfl⟩
        · by_cases c1 : p < 2 ^ d - 1
          · exact ⟨p, by omega, .inl rfl, .inr (by omega)⟩
          · by_cases c2 : m - 1 - p < 2 ^ d - 1
            · exact ⟨n - 1 - (m - 1 - p), by omega, .inr (by omega), .inl (by omega)⟩
            · exact ⟨2 ^ d - 1, by omega, .inr (by omega), .inr (by omega)⟩
      obtain ⟨q, q1, q2, q3⟩ := pick
      obtain ⟨j, f1, f2, f3⟩ := rep_at h2 q1
      refine ⟨j, f1, ?_, ?_⟩
      · rw [h3, f2]; exact (al_rep r d q2).app (Al.refl _ _)
      · rw [h4, f3]; exact (Al.refl _ _).app (al_rep r d q3)
    exact al_half (half h) (half (h.elim (fun e => .inl e.symm) fun e => .inr ⟨e.2, e.1⟩))
/-! ### one letter -/
theorem rep_one (c m : Nat) : rep [c] m = List.replicate m c := by
  induction m with
  | zero => rfl
  | succ m ih => rw [rep_succ, ih, List.replicate_succ]; rfl
theorem take_rep {c m i : Nat} (h : i ≤ m) : (List.replicate m c).take i = List.replicate i c := by rw [List.take_replicate]; congr 1; omega
theorem one_low (c : Nat) : ∀ (d : Nat) {m n : Nat}, m < n → Al d (List.replicate m c) (List.replicate n c) → 2 ^ d - 1 ≤ m
  | 0, m, n, _, _ => by simp
  | d + 1, m, n, lt, h => by
    have pd : 2 ^ (d + 1) = 2 * 2 ^ d := by rw [Nat.pow_succ, Nat.mul_comm]
    have p0 : 0 < 2 ^ d := Nat.two_pow_pos d
    have both : ∀ {i j : Nat}, Al d (List.replicate i c) (List.replicate j c) → i = j ∨ (2 ^ d - 1 ≤ i ∧ 2 ^ d - 1 ≤ j) := fun {i j} a => by
      rcases Nat.lt_trichotomy i j with q | q | q
      · have := one_low c d q a; exact .inr (by omega)
      · exact .inl q
      · have := one_low c d q a.symm; exact .inr (by omega)
    by_cases big : 2 ^ (d + 1) - 1 ≤ m
    · exact big
    · exfalso
      have hi : min (2 ^ d - 1) m < n := by omega
      obtain ⟨j, e, a1, a2⟩ := h.2 (min (2 ^ d - 1) m) c (by rw [List.getElem?_replicate, if_pos hi])
      have hj : j < m := by simpa using (List.getElem?_eq_some_iff.mp e).1
      rw [take_rep (by omega), take_rep (by omega)] at a1
      rw [List.drop_replicate, List.drop_replicate] at a2
      have b1 := both a1
      have b2 := both a2
      omega
theorem one_al (c d m n : Nat) : Al d (List.replicate m c) (List.replicate n c) ↔ m = n ∨ (2 ^ d - 1 ≤ m ∧ 2 ^ d - 1 ≤ n) := by
  constructor
  · intro a
    rcases Nat.lt_trichotomy m n with q | q | q
    · have := one_low c d q a; exact .inr (by omega)
    · exact .inl q
    · have := one_low c d q a.symm; exact .inr (by omega)
  · intro h
    rw [← rep_one, ← rep_one]
    exact al_rep [c] d h
/-! ### short rows -/
theorem join_at {r : List Nat} {i c : Nat} (h : r[i]? = some c) : r = r.take i ++ c :: r.drop (i + 1) := by
  obtain ⟨hi, e⟩ := List.getElem?_eq_some_iff.mp h
  rw [← e, ← List.drop_eq_getElem_cons hi, List.take_append_drop]
theorem al_nil {d : Nat} {s : List Nat} (h : Al (d + 1) [] s) : s = [] := by
  cases s with
  | nil => rfl
  | cons c s =>
    obtain ⟨j, e, _⟩ := h.2 0 c rfl
    simp at e
theorem al_short : ∀ (d : Nat) {r s : List Nat}, r.length < 2 ^ d - 1 → Al d r s → r = s
  | 0, r, s, h, _ => by simp at h
  | d + 1, r, s, h, a => by
    have pd : 2 ^ (d + 1) = 2 * 2 ^ d := by rw [Nat.pow_succ, Nat.mul_comm]
    have p0 : 0 < 2 ^ d := Nat.two_pow_pos d
    -- a row with a place whose both sides are short
    have simple : ∀ {r s : List Nat}, r.length < 2 ^ (d + 1) - 2 → Al (d + 1) r s → r = s := fun {r s} h a => by
      by_cases z : r.length = 0
      · have := List.length_eq_zero_iff.mp z
        subst this
        exact (al_nil a).symm
      · have hi : (r.length - 1) / 2 < r.length := by omega
        obtain ⟨j, e, a1, a2⟩ := a.1 _ _ (List.getElem?_eq_getElem hi)
        have e1 := al_short d (by rw [List.length_take]; omega) a1
        have e2 := al_short d (by rw [List.length_drop]; omega) a2
        rw [join_at (List.getElem?_eq_getElem hi), join_at e, e1, e2]
    by_cases c1 : r.length < 2 ^ (d + 1) - 2
    · exact simple c1 a
    · by_cases c2 : s.length < 2 ^ (d + 1) - 2
      · exact (simple c2 a.symm).symm
      · have hr : r.length = 2 * (2 ^ d - 1) := by omega
        by_cases t0 : 2 ^ d - 1 = 0
        · have : r = [] := List.length_eq_zero_iff.mp (by omega)
          subst this
          exact (al_nil a).symm
        by_cases c3 : s.length = r.length
        · have h1 : 2 ^ d - 1 - 1 < r.length := by omega
          have h2 : 2 ^ d - 1 < r.length := by omega
          obtain ⟨j, e, a1, a2⟩ := a.1 _ _ (List.getElem?_eq_getElem h1)
          obtain ⟨l, f, b1, b2⟩ := a.1 _ _ (List.getElem?_eq_getElem h2)
          have e1 := al_short d (by rw [List.length_take]; omega) a1
          have f1 := al_short d (by rw [List.length_drop]; omega) b2
          have hj := (List.getElem?_eq_some_iff.mp e).1
          have hl := (List.getElem?_eq_some_iff.mp f).1
          have ej : j = 2 ^ d - 1 - 1 := by
            have := congrArg List.length e1
            simp only [List.length_take] at this
            omega
          have el : l = 2 ^ d - 1 := by
            have := congrArg List.length f1
            simp only [List.length_drop] at this
            omega
          subst ej; subst el
          have k1 : r.take (2 ^ d - 1) = s.take (2 ^ d - 1) := by
            have q : 2 ^ d - 1 = (2 ^ d - 1 - 1) + 1 := by omega
            rw [q, List.take_add_one, List.take_add_one, e, List.getElem?_eq_getElem h1]
            rw [e1]
          have k2 : r.drop (2 ^ d - 1) = s.drop (2 ^ d - 1) := by
            rw [List.drop_eq_getElem_cons h2, List.drop_eq_getElem_cons hl, f1]
            congr 1
            exact (Option.some.inj ((List.getElem?_eq_getElem hl).symm.trans f)).symm
          rw [← List.take_append_drop (2 ^ d - 1) r, ← List.take_append_drop (2 ^ d - 1) s, k1, k2]
        · have big : s.length > r.length := by omega
          have hs : 2 ^ d - 1 < s.length := by omega
          obtain ⟨j, e, a1, a2⟩ := a.2 _ _ (List.getElem?_eq_getElem hs)
          have hj := (List.getElem?_eq_some_iff.mp e).1
          exfalso
          by_cases c4 : j < 2 ^ d - 1
          · have e1 := al_short d (by rw [List.length_take]; omega) a1
            have := congrArg List.length e1
            simp only [List.length_take] at this
            omega
          · have e1 := al_short d (by rw [List.length_drop]; omega) a2
            have := congrArg List.length e1
            simp only [List.length_drop] at this
            omega
/-- the least depth that parts -/
theorem parts_by {r s : List Nat} (ne : r ≠ s) (h : r.length ≤ 60) : ¬ Al 6 r s := fun a => ne (al_short 6 (by have : 2 ^ 6 = 64 := rfl; omega) a)
end M
namespace M
open PySem PySem.Spec L2 Evl
open PyProof.Rows hiding St
theorem fold_app (x : Array Nat) : ∀ (k : Nat) (acc : Array Nat), ((List.replicate k x).foldl (· ++ ·) acc).toList = acc.toList ++ rep x.toList k
  | 0, acc => by simp [rep]
  | k + 1, acc => by
    rw [List.replicate_succ, List.foldl_cons, fold_app x k, rep_succ]
    simp
theorem codes_times (z : Str) (n : Int) : codes (Txt.mul z n) = rep (codes z) n.toNat := by
  unfold Txt.mul
  by_cases h1 : n < 1
  · rw [if_pos h1, show n.toNat = 0 by omega]; rfl
  · rw [if_neg h1]
    by_cases h2 : (n == 1 || z.length == 0) = true
    · rw [if_pos h2]
      rw [Bool.or_eq_true, beq_iff_eq, beq_iff_eq] at h2
      rcases h2 with h2 | h2
      · rw [h2]
        show codes z = rep (codes z) 1
        rw [show (1 : Nat) = 0 + 1 from rfl, rep_succ, rep_zero, List.append_nil]
      · have : codes z = [] := List.length_eq_zero_iff.mp (by rw [codes_len]; exact h2)
        rw [this]
        have : (rep [] n.toNat).length = 0 := by rw [rep_len]; simp
        rw [List.length_eq_zero_iff.mp this]
    · rw [if_neg h2]
      show ((List.replicate n.toNat z.cps).foldl (· ++ ·) #[]).toList = _
      rw [fold_app]
      rfl
theorem mul_ok {z : Str} {n : Nat} (h : z.length * n ≤ 100000) (hn : n ≤ 100000) : MulOk z ((n : Nat) : Int) := by
  have e63 : (2 : Int) ^ 63 = 9223372036854775808 := by decide
  refine ⟨?_, fun h1 h2 => ?_, fun h1 h2 => ?_⟩
  · rw [Bool.or_eq_false_iff]
    exact ⟨decide_eq_false (by omega), decide_eq_false (by omega)⟩
  · have hn0 : 0 < n := by omega
    have : ((z.length : Nat) : Int) ≤ (2 ^ 63 - 1) / ((n : Nat) : Int) := by
      apply Int.le_ediv_of_mul_le (by omega)
      have : ((z.length : Nat) : Int) * ((n : Nat) : Int) ≤ 100000 := by
        have h2 : ((z.length * n : Nat) : Int) ≤ ((100000 : Nat) : Int) := Int.ofNat_le.mpr h
        rw [Int.natCast_mul] at h2
        exact h2
      omega
    omega
  · rw [Int.toNat_natCast]
    refine decide_eq_false ?_
    rw [sizeLine_eq]
    omega
theorem abc_times {z : Str} {n : Int} (h : Abc z) : Abc (Txt.mul z n) := fun c hc => by
  have hc : c ∈ codes (Txt.mul z n) := hc
  rw [codes_times] at hc
  unfold rep at hc
  obtain ⟨l, hl, hcl⟩ := List.mem_flatten.mp hc
  rw [(List.mem_replicate.mp hl).2] at hcl
  exact h c hcl
theorem len_times (z : Str) (n : Int) : (Txt.mul z n).length = n.toNat * z.length := by rw [← codes_len, codes_times, rep_len, codes_len]
def sp_depth_between (P : Program) (w : World) (C : Addr) : Sp := fun vs H Q _ => ∃ (k : KC) (Ls : List Addr) (t : KTab) (y z : Str), vs = [.ref k.x, .str y, .str z] ∧ KS P w C k Ls H t ∧ 7 ≤ k.D ∧ codes y ∈ k.S ∧ codes z ∈ k.S ∧
  (y = z → ∀ t' Ls' H', KS P w C k Ls' H' t' → Stp k Ls H t Ls' H' t' → Q .non H') ∧
  (y ≠ z → ∀ (n : Nat) t' Ls' H', KS P w C k Ls' H' t' → Stp k Ls H t Ls' H' t' → ¬ Al n (codes y) (codes z) → (∀ e, e < n → Al e (codes y) (codes z)) → Q (.int (n : Nat)) H')
def sp_parting_depth : Sp := fun vs H Q _ => ∃ (y z : Str) (_ : Unit), vs = [.str y, .str z] ∧ Abc y ∧ Abc z ∧ y.length ≤ 60 ∧ z.length ≤ 60 ∧ (y = z → ∀ H', Ex H H' → Q .non H') ∧
  (y ≠ z → ∀ (n : Nat) H', Ex H H' → ¬ Al n (codes y) (codes z) → (∀ e, e < n → Al e (codes y) (codes z)) → Q (.int (n : Nat)) H')
theorem codes_ne {y z : Str} (h : y ≠ z) : codes y ≠ codes z := fun e => h (by rw [← codes_back y, ← codes_back z, e])
end M
end

section
set_option Elab.async false
set_option linter.all false
set_option maxRecDepth 100000
set_option maxHeartbeats 2000000
/-! k04: rows put together, renamed -/
namespace M
open PySem PySem.Spec L2 Evl
open PyProof.Rows hiding St
def In3 (z : Str) : Prop := ∀ c ∈ codes z, 97 ≤ c ∧ c ≤ 99
theorem In3.abc {z : Str} (h : In3 z) : Abc z := fun c hc => by have := h c hc; omega
theorem in3_app {y z : Str} (h : In3 y) (g : In3 z) : In3 (y ++ z) := fun c hc => by
  rw [codes_app] at hc
  rcases List.mem_append.mp hc with hc | hc
  · exact h c hc
  · exact g c hc
theorem in3_times {z : Str} {n : Int} (h : In3 z) : In3 (Txt.mul z n) := fun c hc => by
  rw [codes_times] at hc
  unfold rep at hc
  obtain ⟨l, hl, hcl⟩ := List.mem_flatten.mp hc
  rw [(List.mem_replicate.mp hl).2] at hcl
  exact h c hcl
theorem in3_of {z y : Str} (h : ∀ c ∈ z.cps.toList, c ∈ y.cps.toList) (g : In3 y) : In3 z := fun c hc => g c (h c hc)
theorem in3_abc : In3 "abc" := by unfold In3 codes; decide +kernel
theorem in3_ab : In3 "ab" := by unfold In3 codes; decide +kernel
theorem names_ab : Names "ab" := ⟨by unfold Abc; decide +kernel, by decide +kernel, by decide +kernel⟩
theorem names_abc : Names "abc" := ⟨by unfold Abc; decide +kernel, by decide +kernel, by decide +kernel⟩
theorem idx3 {c : Nat} (h : 97 ≤ c ∧ c ≤ 99) : ∃ rest, Builtin.Str.occurrences "abc" ⟨#[c]⟩ 0 ("abc" : Str).length 1 = (c - 97) :: rest := by
  rcases (by omega : c = 97 ∨ c = 98 ∨ c = 99) with rfl | rfl | rfl
  · exact ⟨[], by decide +kernel⟩
  · exact ⟨[], by decide +kernel⟩
  · exact ⟨[], by decide +kernel⟩
def ren (nm : Str) (c : Nat) : Nat := (codes nm).getD (c - 97) 0
def sp_two : Sp := fun vs H Q _ => ∃ (H0 : Hp) (p : Addr) (m d : Nat), vs = [.ref p, .int (d : Nat)] ∧ Pl H0 H p m ∧ m + 40 ≤ 2 ^ 20 ∧ d ≤ 4 ∧ ∀ (a : Addr) (y z : Str) H1 H', Ex H0 H1 → Pl H1 H' p (m + 40) → H1 a = some (.tup [.str y, .str z]) → In3 y → In3 z →
  y.length ≤ 2 * (2 ^ d + 1) + 4 → z.length ≤ 2 * (2 ^ d + 1) + 4 → Al d (codes y) (codes z) → Q (.ref a) H'
def sp_renamed : Sp := fun vs H Q _ => ∃ (y nm : Str), vs = [.str y, .str nm] ∧ y.length ≤ 100 ∧ In3 y ∧ nm.length = 3 ∧ ∀ (z : Str) H', Ex H H' → codes z = (codes y).map (ren nm) → Q (.str z) H'
theorem ren_abc {nm : Str} (h : nm.length = 3) (g : Abc nm) {y z : Str} (hy : In3 y) (e : codes z = (codes y).map (ren nm)) : Abc z ∧ z.length = y.length := by
  have hl := codes_len nm
  refine ⟨fun c hc => ?_, by rw [← codes_len, e, List.length_map, codes_len]⟩
  have hc : c ∈ codes z := hc
  rw [e] at hc
  obtain ⟨b, hb, rfl⟩ := List.mem_map.mp hc
  have h3 := hy b hb
  have hi : b - 97 < (codes nm).length := by omega
  unfold ren
  rw [List.getD_eq_getElem?_getD, List.getElem?_eq_getElem hi]
  exact g _ (List.getElem_mem hi)
theorem least4 {d : Nat} (h : d < 4) : atI [V.int 0, V.int 1, V.int 3, V.int 7] ((d : Nat) : Int) = some (.int ((2 ^ d - 1 : Nat) : Int)) := by
  rcases (by omega : d = 0 ∨ d = 1 ∨ d = 2 ∨ d = 3) with rfl | rfl | rfl | rfl <;> rfl
theorem four3 {i : Nat} {x : V} (h : [V.str "bca", V.str "xyz", V.str "aab", V.str "ccc"][i]? = some x) : ∃ nm : Str, x = .str nm ∧ nm.length = 3 ∧ Abc nm := by
  match i, h with
  | 0, h => cases h; exact ⟨_, rfl, by decide +kernel, by unfold Abc; decide +kernel⟩
  | 1, h => cases h; exact ⟨_, rfl, by decide +kernel, by unfold Abc; decide +kernel⟩
  | 2, h => cases h; exact ⟨_, rfl, by decide +kernel, by unfold Abc; decide +kernel⟩
  | 3, h => cases h; exact ⟨_, rfl, by decide +kernel, by unfold Abc; decide +kernel⟩
  | i + 4, h => simp at h
theorem r62a (d : Nat) : -2 ^ 62 ≤ ((d : Nat) : Int) := Int.le_trans (by decide) (Int.natCast_nonneg d)
theorem r62b {d : Nat} (h : d ≤ 1000) : ((d : Nat) : Int) < 2 ^ 62 := Int.lt_of_le_of_lt (Int.ofNat_le.mpr h) (by decide)
end M
end

section
set_option Elab.async false
set_option linter.all false
set_option maxRecDepth 100000
set_option maxHeartbeats 2000000
/-! k05: rows of one letter -/
namespace M
open PySem PySem.Spec L2 Evl
open PyProof.Rows hiding St
theorem shw_n : ∀ n : Fin 12, Shw (.int (n.val : Nat)) := by
  intro n
  refine ⟨?_, rfl, Nat.zero_le _, ?_⟩
  · revert n; decide +kernel
  · revert n; decide +kernel
theorem shw_nat {n : Nat} (h : n < 12) : Shw (.int (n : Nat)) := shw_n ⟨n, h⟩
theorem shw_none : Shw .none := ⟨rfl, rfl, by decide, by decide +kernel⟩
def sp_least : Sp := fun vs H Q _ => ∃ (d : Nat) (_ _ : Unit), vs = [.int (d : Nat)] ∧ d ≤ 20 ∧ Q (.int ((2 ^ d - 1 : Nat) : Int)) H
theorem names26 : Names "abcdefghijklmnopqrstuvwxyz" := ⟨by unfold Abc; decide +kernel, by decide +kernel, by decide +kernel⟩
theorem codes_one (c : Nat) : codes ⟨#[c]⟩ = [c] := rfl
theorem codes_ones (c n : Nat) : codes (Txt.mul ⟨#[c]⟩ ((n : Nat) : Int)) = List.replicate n c := by rw [codes_mul]; rfl
/-- the least depth at which two rows of one letter part -/
theorem one_parts {c h t n : Nat} (ne : h ≠ t) (h1 : ¬ Al n (List.replicate h c) (List.replicate t c)) (h2 : ∀ e, e < n → Al e (List.replicate h c) (List.replicate t c)) : min h t < 2 ^ n - 1 ∧ ∀ e, e < n → 2 ^ e - 1 ≤ min h t := by
  refine ⟨?_, fun e he => ?_⟩
  · rw [one_al] at h1
    omega
  · have := h2 e he
    rw [one_al] at this
    omega
theorem least_one {m n l : Nat} (h1 : m < 2 ^ n - 1) (h2 : ∀ e, e < n → 2 ^ e - 1 ≤ m) (l0 : 1 ≤ l) (g1 : m < 2 ^ l - 1) (g2 : ∀ e, 1 ≤ e → e < l → 2 ^ e - 1 ≤ m) : n = l := by
  rcases Nat.lt_trichotomy n l with q | q | q
  · have n0 : 1 ≤ n := by
      cases n with
      | zero => simp at h1
      | succ n => omega
    have := g2 n n0 q
    omega
  · exact q
  · have := h2 l q
    omega
end M
end

section
set_option Elab.async false
set_option linter.all false
set_option maxRecDepth 100000
set_option maxHeartbeats 4000000
/-! sorted(list of triples) -/
namespace M
open PySem PySem.Spec L2 Evl
open PyProof.Rows hiding St
section
variable {P : Program} {w : World} {A : Around} {E : Value → Shared → Prop} {s : Shared}
theorem sorted_trl {l : Addr} {L : List NMem} {vs : List Value} {Q : Value → Shared → Prop} (hl : s.heap.IsList l vs.toArray) (ev : vs = L.map fun p => Value.ref p.1) (few : vs.length < 64) (keys : ∀ p ∈ L, NestedIs s.heap p.2 (.ref p.1)) (tri : ∀ p ∈ L, ∃ m, p.2 = trip m ∧ Low m ∧ Tri s.heap p.1 m)
    (fin : ∀ (out : Array Value) (L' : List NMem), out.toList = L'.map (fun q => Value.ref q.1) → L'.Perm L → L'.Pairwise (fun q r => rkN q.2 ≤ rkN r.2) → Q (.ref (s.heap.objs.size + 1)) { s with heap := sortedAll s.heap vs out }) :
    wpAny (model P w) A (call (.builtin "sorted") [.ref l]) Q E s := by
  refine Calls.call_function_entry kind_sorted plain_sorted entry_sorted (args_sorted1 _) ?_
  unfold Builtin.«sorted»
  refine wpAny_bind (m := checkCount "sorted" 1 1 _) (wpAny_pure ?_)
  refine wpAny_bind (collect_list hl ?_ (by rw [sizeLine_eq]; omega))
  refine wpAny_bind (wpAny_newList ?_ (by rw [sizeLine_eq]; omega))
  have hsz : ((s.heap.push (seqObj "list" #[] 0)).update s.heap.objs.size (Obj.mapSeq (· ++ vs.toArray))).objs.size = s.heap.objs.size + 1 := by
    rw [Heap.size_update, size_push']
  have hoL : (((s.heap.push (seqObj "list" #[] 0)).update s.heap.objs.size (Obj.mapSeq (· ++ vs.toArray))).push (seqObj "list" vs.toArray 0)).get? (s.heap.objs.size + 1) = some (seqObj "list" vs.toArray 0) := by
    rw [← hsz]; exact Heap.get?_push_size _ rfl
  have keep : ∀ b o, s.heap.get? b = some o → (((s.heap.push (seqObj "list" #[] 0)).update s.heap.objs.size (Obj.mapSeq (· ++ vs.toArray))).push (seqObj "list" vs.toArray 0)).get? b = some o := fun b o q => by
    have hlt : b < s.heap.objs.size := Heap.lt_size q
    rw [Heap.get?_push_ne _ _ _ (by rw [hsz]; exact Nat.ne_of_lt (Nat.lt_succ_of_lt hlt)), Heap.get?_update_ne _ _ _ _ (Nat.ne_of_lt hlt), Heap.get?_push_ne _ _ _ (Nat.ne_of_lt hlt)]
    exact q
  show wpAny _ _ _ _ _ { s with heap := ((s.heap.push (seqObj "list" #[] 0)).update s.heap.objs.size (Obj.mapSeq (· ++ vs.toArray))).push (seqObj "list" vs.toArray 0) }
  rw [hsz]
  have own : ∀ v ∈ vs, ∃ p ∈ L, v = .ref p.1 := fun v hv => by
    rw [ev] at hv
    obtain ⟨p, hp, e⟩ := List.mem_map.mp hv
    exact ⟨p, hp, e.symm⟩
  have mid : ∀ p ∈ L, ∀ m, Tri s.heap p.1 m → Tri (TS.midHeap (((s.heap.push (seqObj "list" #[] 0)).update s.heap.objs.size (Obj.mapSeq (· ++ vs.toArray))).push (seqObj "list" vs.toArray 0)) (s.heap.objs.size + 1) vs) p.1 m := fun p hp m ⟨o, xs, n, t1, t2, t3, ho, r⟩ =>
    ⟨o, xs, n, t1, t2, t3, TS.midHeap_old (Nat.ne_of_lt (Nat.lt_succ_of_lt (Heap.lt_size ho))) (keep _ _ ho), r⟩
  refine wpAny_bind (wpAny_holding (wpAny_call_entry slot_list_sort ⟨_, hoL, rfl⟩ entry_list_sort (SK.plain_sort (r := rkV L) hoL few (fun h2 Q' hQ' => ?_) fun ps out o1 o2 o3 => ⟨_, rfl, ?_⟩) (args_list_sort _)))
  · obtain ⟨fs, k, hl2, hi⟩ := tri_firsts (h := TS.midHeap (((s.heap.push (seqObj "list" #[] 0)).update s.heap.objs.size (Obj.mapSeq (· ++ vs.toArray))).push (seqObj "list" vs.toArray 0)) (s.heap.objs.size + 1) vs) vs fun v hv => by
      obtain ⟨p, hp, rfl⟩ := own v hv
      obtain ⟨m, _, _, ht⟩ := tri p hp
      exact ⟨_, m, rfl, mid p hp m ht⟩
    refine PySem.W.kat_kind (T := Value.type "int") k (by omega) (fun f hf => ?_) rfl (hQ' _ ?_)
    · obtain ⟨i, t, rfl⟩ := hi f hf
      exact PySem.W.Looks.of_pure rfl
    · intro x y hx hy Q2 E2 hq
      rw [pairsOf_toList] at hx hy
      obtain ⟨p, hp, e1⟩ := own _ (mem_zip_self hx).2
      obtain ⟨q, hq1, e2⟩ := own _ (mem_zip_self hy).2
      obtain ⟨m, em, lm, tm⟩ := tri p hp
      obtain ⟨n, en, ln, tn⟩ := tri q hq1
      rw [e1, e2, rkV_at keys hp, rkV_at keys hq1, em, en, rkN_trip, rkN_trip] at hq
      rw [e1, e2]
      exact tri_lt (mid p hp m tm) (mid q hq1 n tn) lm ln hq
  · obtain ⟨pm, so⟩ := TS.out_rank o1 o2 o3
    obtain ⟨L', p2, e2⟩ := perm_back (f := fun p : NMem => Value.ref p.1) (L := L) (pm.trans (by rw [ev])) rfl
    refine wpAny_pure ⟨_, rfl, fin out L' e2 p2 ?_⟩
    rw [e2, List.pairwise_map] at so
    refine List.Pairwise.imp_of_mem (fun {q r} hq hr h => ?_) so
    rw [rkV_at keys (p2.mem_iff.mp hq), rkV_at keys (p2.mem_iff.mp hr)] at h
    exact h
end
section
variable {X : Cx}
/-- sorted(marks), a list of unlike triples -/
def rLsort (K : PySem.W.Frag) : List V → Hp → VK → Prop := fun xs H Q => ∃ (a : Addr) (rs : List V) (ms : List Mark), xs = [V.ref a] ∧ SqL K H a rs ∧ Trs H rs ms ∧ ms.Nodup ∧ ms.length < 64 ∧ (∀ m ∈ ms, Low m) ∧
  ∀ p rs' ms' H', H p = none → Ex H H' → H' p = some (.lst rs') → (∀ b, b ≠ p → H' b = H b) → Canon ms' → (∀ q, q ∈ ms' ↔ q ∈ ms) → Trs H rs' ms' → Q (.ref p) H'
theorem cr_lsort : CallR X (.builtin "sorted") (rLsort X.K) := by
  intro pins s σ H xs us Q I r ⟨a, rs, ms, e, hs, ⟨L, e1, e2, e3⟩, nd, few, lo, q⟩
  subst e
  rw [Vals.ref1 r]
  obtain ⟨its, rv, pl, hz⟩ := I.list hs
  rw [e1] at rv
  have ev := refs_nm rv
  have hlen : L.length = ms.length := by
    have := congrArg List.length e2
    simpa using this
  have tri : ∀ p ∈ L, ∃ m, p.2 = trip m ∧ Low m := fun p hp => by
    have hm : p.2 ∈ ms.map trip := by rw [← e2]; exact List.mem_map.mpr ⟨p, hp, rfl⟩
    obtain ⟨m, h1, h2⟩ := List.mem_map.mp hm
    exact ⟨m, h2.symm, lo m h1⟩
  refine sorted_trl (L := L) pl.isList ev (by rw [ev, List.length_map]; omega) (fun p hp => (e3 p hp).is I.hok rfl) (fun p hp => ?_) fun out L' eo pm so => ?_
  · obtain ⟨m, h1, h2⟩ := tri p hp
    have k := e3 p hp
    rw [h1] at k
    exact ⟨m, h1, h2, nk_tri I.hok k⟩
  · have pk := pm.map (·.2)
    rw [e2] at pk
    obtain ⟨ms', h1, h2⟩ := perm_back (f := trip) (L := ms) pk rfl
    have lo2 : ∀ m ∈ ms', Low m := fun m hm => lo m (h1.mem_iff.mp hm)
    have nd2 : (L'.map (·.2)).Nodup := by
      rw [h2]
      exact List.pairwise_map.mpr (List.Pairwise.imp (fun {a b} h z => h (trip_inj z)) (h1.nodup_iff.mpr nd))
    obtain ⟨ep, he'⟩ := PyProof.Rows.sortedAll_at s.heap its out
    have hp : H (s.heap.objs.size + 1) = none := I.hok.fresh (Nat.le_succ _)
    refine ⟨.ref _, upd H (s.heap.objs.size + 1) (.lst (L'.map fun q => V.ref q.1)), I.laid (t' := s.toks) (fun _ _ => PyProof.Rows.sortedAll_old) (Nat.le_succ _) ⟨?_, out.toList, ep, by rw [eo]; exact vals_nm L', he'⟩, rfl, ?_⟩
    · rw [List.length_map, pm.length_eq, hlen, sizeLine_eq]; omega
    · exact q _ _ ms' _ hp (Ex.new hp) upd_same (fun b hb => upd_ne hb) (canon_of h2 lo2 nd2 so) (fun q => h1.mem_iff) ⟨L', rfl, h2, fun x hx => e3 x (pm.mem_iff.mp hx)⟩
end
end M
end

section
set_option Elab.async false
set_option linter.all false
set_option maxRecDepth 100000
set_option maxHeartbeats 4000000
/-! a law's own kinds: numbers for lists of marks, told by a dict -/
namespace M
abbrev LTab := List (Nat × List Mark)
def LRep (u : LTab) : Nat → Nat → List Nat → Prop
  | 0, n, _ => n = 0
  | d + 1, n, r => ∃ ms, (n, ms) ∈ u ∧ (∀ i c, r[i]? = some c → ∃ a b, (a, c, b) ∈ ms ∧ LRep u d a (r.take i) ∧ LRep u d b (r.drop (i + 1))) ∧
      (∀ a c b, (a, c, b) ∈ ms → ∃ i, r[i]? = some c ∧ LRep u d a (r.take i) ∧ LRep u d b (r.drop (i + 1)))
def LFits (u : LTab) (d : Nat) (ms : List Mark) (r : List Nat) : Prop :=
  (∀ i c, r[i]? = some c → ∃ a b, (a, c, b) ∈ ms ∧ LRep u d a (r.take i) ∧ LRep u d b (r.drop (i + 1))) ∧ (∀ a c b, (a, c, b) ∈ ms → ∃ i, r[i]? = some c ∧ LRep u d a (r.take i) ∧ LRep u d b (r.drop (i + 1)))
theorem LRep.up {u v : LTab} (g : ∀ x ∈ u, x ∈ v) : ∀ {d n : Nat} {r : List Nat}, LRep u d n r → LRep v d n r
  | 0, _, _, h => h
  | d + 1, n, r, ⟨ms, h, h1, h2⟩ => ⟨ms, g _ h, fun i c e => let ⟨a, b, m, x, y⟩ := h1 i c e; ⟨a, b, m, x.up g, y.up g⟩, fun a c b m => let ⟨i, e, x, y⟩ := h2 a c b m; ⟨i, e, x.up g, y.up g⟩⟩
theorem LFits.up {u v : LTab} (g : ∀ x ∈ u, x ∈ v) {d : Nat} {ms : List Mark} {r : List Nat} (h : LFits u d ms r) : LFits v d ms r :=
  ⟨fun i c e => let ⟨a, b, m, x, y⟩ := h.1 i c e; ⟨a, b, m, x.up g, y.up g⟩, fun a c b m => let ⟨i, e, x, y⟩ := h.2 a c b m; ⟨i, e, x.up g, y.up g⟩⟩
theorem LFits.same {u : LTab} {d : Nat} {ms ms' : List Mark} {r : List Nat} (h : LFits u d ms r) (e : ∀ m, m ∈ ms' ↔ m ∈ ms) : LFits u d ms' r :=
  ⟨fun i c q => let ⟨a, b, m, x, y⟩ := h.1 i c q; ⟨a, b, (e _).mpr m, x, y⟩, fun a c b m => h.2 a c b ((e _).mp m)⟩
structure LOk (S : List (List Nat)) (D : Nat) (u : LTab) : Prop where
  num : ∀ n ms ms', (n, ms) ∈ u → (n, ms') ∈ u → ms = ms'
  one : ∀ n m ms, (n, ms) ∈ u → (m, ms) ∈ u → n = m
  can : ∀ n ms, (n, ms) ∈ u → Canon ms
  nd : u.Nodup
  wit : ∀ n ms, (n, ms) ∈ u → ∃ d r, d + 1 ≤ D ∧ r ∈ S ∧ LFits u d ms r
section
variable {S : List (List Nat)} {D : Nat} {u v : LTab}
theorem LRep.al (T : LOk S D u) : ∀ {d n : Nat} {r s : List Nat}, LRep u d n r → LRep u d n s → Al d r s
  | 0, _, _, _, _, _ => trivial
  | d + 1, n, r, s, ⟨ms, h, h1, h2⟩, ⟨ms', g, g1, g2⟩ => by
    obtain rfl := T.num _ _ _ h g
    refine al_half (fun i c e => ?_) (fun i c e => ?_)
    · obtain ⟨a, b, m, x, y⟩ := h1 i c e
      obtain ⟨j, e2, x2, y2⟩ := g2 a c b m
      exact ⟨j, e2, x.al T x2, y.al T y2⟩
    · obtain ⟨a, b, m, x, y⟩ := g1 i c e
      obtain ⟨j, e2, x2, y2⟩ := h2 a c b m
      exact ⟨j, e2, x.al T x2, y.al T y2⟩
theorem LRep.move : ∀ {d n : Nat} {r s : List Nat}, LRep u d n r → Al d r s → LRep u d n s
  | 0, _, _, _, h, _ => h
  | d + 1, n, r, s, ⟨ms, h, h1, h2⟩, g => by
    refine ⟨ms, h, fun j c e => ?_, fun a c b m => ?_⟩
    · obtain ⟨i, e2, x, y⟩ := g.2 j c e
      obtain ⟨a, b, m, x2, y2⟩ := h1 i c e2
      exact ⟨a, b, m, x2.move x, y2.move y⟩
    · obtain ⟨i, e, x, y⟩ := h2 a c b m
      obtain ⟨j, e2, x2, y2⟩ := g.1 i c e
      exact ⟨j, e2, x.move x2, y.move y2⟩
theorem LRep.one (T : LOk S D u) : ∀ {d n m : Nat} {r : List Nat}, LRep u d n r → LRep u d m r → n = m
  | 0, _, _, _, h, g => h.trans g.symm
  | d + 1, n, m, r, ⟨ms, h, h1, h2⟩, ⟨ms', g, g1, g2⟩ => by
    have half : ∀ {xs ys : List Mark}, (∀ a c b, (a, c, b) ∈ xs → ∃ i, r[i]? = some c ∧ LRep u d a (r.take i) ∧ LRep u d b (r.drop (i + 1))) →
        (∀ i c, r[i]? = some c → ∃ a b, (a, c, b) ∈ ys ∧ LRep u d a (r.take i) ∧ LRep u d b (r.drop (i + 1))) → ∀ m, m ∈ xs → m ∈ ys := fun {xs ys} p q ⟨a, c, b⟩ hm => by
      obtain ⟨i, e, x, y⟩ := p a c b hm
      obtain ⟨a', b', hm', x', y'⟩ := q i c e
      rw [LRep.one T x x', LRep.one T y y']
      exact hm'
    have e : ms = ms' := canon_one _ _ (T.can _ _ h) (T.can _ _ g) fun m => ⟨half h2 g1 m, half g2 h1 m⟩
    subst e
    exact T.one _ _ _ h g
theorem LRep.iff (T : LOk S D u) {d n m : Nat} {r s : List Nat} (h : LRep u d n r) (g : LRep u d m s) : n = m ↔ Al d r s :=
  ⟨fun e => by subst e; exact h.al T g, fun a => LRep.one T (h.move a) g⟩
theorem LOk.few (T : LOk S D u) : u.length ≤ S.length * D := by
  have ex : ∀ x : Nat × List Mark, ∃ p : Nat × List Nat, x ∈ u → (p.1 ∈ List.range D ∧ p.2 ∈ S) ∧ LRep u (p.1 + 1) x.1 p.2 := fun ⟨n, ms⟩ => by
    by_cases q : (n, ms) ∈ u
    · obtain ⟨d, r, h1, h2, h3⟩ := T.wit n ms q
      exact ⟨(d, r), fun _ => ⟨⟨List.mem_range.mpr (by omega), h2⟩, ms, q, h3⟩⟩
    · exact ⟨(0, []), fun z => absurd z q⟩
  let f := fun x => Classical.choose (ex x)
  have hf : ∀ x, x ∈ u → ((f x).1 ∈ List.range D ∧ (f x).2 ∈ S) ∧ LRep u ((f x).1 + 1) x.1 (f x).2 := fun x => Classical.choose_spec (ex x)
  have q := nodup_sub (u.map f) ((List.range D).flatMap fun d => S.map fun r => (d, r)) ?_ ?_
  · rw [List.length_map, pairs_len] at q
    exact q
  · refine List.pairwise_map.mpr (List.Pairwise.imp_of_mem (fun {a b} ha hb (h : a ≠ b) e => ?_) T.nd)
    have h1 := (hf a ha).2
    have h2 := (hf b hb).2
    rw [e] at h1
    have e1 := LRep.one T h1 h2
    obtain ⟨a1, a2⟩ := a
    obtain ⟨b1, b2⟩ := b
    have e1 : a1 = b1 := e1
    subst e1
    exact h (by rw [T.num _ _ _ ha hb])
  · intro p hp
    obtain ⟨n, hn, rfl⟩ := List.mem_map.mp hp
    obtain ⟨⟨h1, h2⟩, _⟩ := hf n hn
    exact List.mem_flatMap.mpr ⟨_, h1, List.mem_map.mpr ⟨_, h2, rfl⟩⟩
theorem LOk.add (T : LOk S D u) {n d : Nat} {ms : List Mark} {r : List Nat} (hc : Canon ms) (n1 : ∀ ms', (n, ms') ∉ u) (n2 : ∀ m, (m, ms) ∉ u) (hd : d + 1 ≤ D) (hr : r ∈ S) (hf : LFits u d ms r) : LOk S D ((n, ms) :: u) := by
  have g : ∀ x ∈ u, x ∈ (n, ms) :: u := fun x h => List.mem_cons_of_mem _ h
  refine ⟨fun k a b h1 h2 => ?_, fun k l a h1 h2 => ?_, fun k a h => ?_, List.nodup_cons.mpr ⟨n1 ms, T.nd⟩, fun k a h => ?_⟩
  · rcases List.mem_cons.mp h1 with e1 | h1
    · rcases List.mem_cons.mp h2 with e2 | h2
      · cases e1; cases e2; rfl
      · cases e1; exact absurd h2 (n1 _)
    · rcases List.mem_cons.mp h2 with e2 | h2
      · cases e2; exact absurd h1 (n1 _)
      · exact T.num _ _ _ h1 h2
  · rcases List.mem_cons.mp h1 with e1 | h1
    · rcases List.mem_cons.mp h2 with e2 | h2
      · cases e1; cases e2; rfl
      · cases e1; exact absurd h2 (n2 _)
    · rcases List.mem_cons.mp h2 with e2 | h2
      · cases e2; exact absurd h1 (n2 _)
      · exact T.one _ _ _ h1 h2
  · rcases List.mem_cons.mp h with e | h
    · cases e; exact hc
    · exact T.can _ _ h
  · rcases List.mem_cons.mp h with e | h
    · cases e; exact ⟨d, r, hd, hr, hf.up g⟩
    · obtain ⟨d', r', h1, h2, h3⟩ := T.wit _ _ h
      exact ⟨d', r', h1, h2, h3.up g⟩
end
end M
namespace M
open PySem PySem.Spec L2 Evl
open PyProof.Rows hiding St
def keyL (ms : List Mark) : NestedKey := .tup [.text "", .tup (ms.map trip)]
theorem keyL_inj {a b : List Mark} (h : keyL a = keyL b) : a = b := by
  unfold keyL at h
  injection h with h
  injection h with _ h
  injection h with h2 _
  injection h2 with h2
  exact trips_inj h2
theorem keyL_depth (ms : List Mark) : (keyL ms).depth ≤ 8 := by
  have := trips_depth ms
  unfold keyL
  simp only [NestedKey.depth, NestedKey.depthAll]
  omega
theorem keyL_ne {ms : List Mark} {z : Str} {d : Nat} : keyL ms ≠ keyR z d := fun h => by
  unfold keyL keyR at h
  injection h with h
  injection h with _ h
  injection h with h2 _
  cases h2
/-- the dict of a law's kinds -/
structure LK (P : Program) (w : World) (S : List (List Nat)) (D : Nat) (H : Hp) (k : Addr) (e : List NEnt) (u : LTab) : Prop where
  sub : Sub S D
  ok : LOk S D u
  nd : ND P w H k e
  once : Once e
  ent : ∀ p ∈ e, (∃ z d n, p.1 = keyR z d ∧ p.2.2 = .int (n : Nat) ∧ codes z ∈ S ∧ d ≤ D ∧ LRep u d n (codes z)) ∨ (∃ ms n, p.1 = keyL ms ∧ p.2.2 = .int (n : Nat) ∧ (n, ms) ∈ u)
  all : ∀ n ms, (n, ms) ∈ u → keyL ms ∈ e.map (·.1)
  low : ∀ n ms, (n, ms) ∈ u → n < e.length
section
variable {P : Program} {w : World} {S : List (List Nat)} {D : Nat} {H H' : Hp} {k : Addr} {e : List NEnt} {u : LTab}
theorem LK.room (h : LK P w S D H k e u) : e.length ≤ 2 ^ 22 := by
  have := h.once.len (L := pairs S (D + 1) (fun d r => keyR ⟨r.toArray⟩ d) ++ u.map fun x => keyL x.2) fun p hp => by
    rcases h.ent p hp with ⟨z, d, n, e1, _, e2, e3, _⟩ | ⟨ms, n, e1, _, e2⟩
    · refine List.mem_append.mpr (.inl ?_)
      rw [e1]
      have := mem_pairs (S := S) (D := D + 1) (f := fun d r => keyR ⟨r.toArray⟩ d) (d := d) (by omega) e2
      rwa [codes_back] at this
    · refine List.mem_append.mpr (.inr ?_)
      rw [e1]
      exact List.mem_map.mpr ⟨_, e2, rfl⟩
  rw [List.length_append, pairs_size, List.length_map] at this
  have h1 := h.ok.few
  have h2 := h.sub.few
  have : S.length * D ≤ S.length * (D + 1) := Nat.mul_le_mul_left _ (Nat.le_succ _)
  omega
theorem LK.size (h : LK P w S D H k e u) : e.length ≤ sizeLine := Nat.le_trans h.room (by decide)
theorem LK.num (h : LK P w S D H k e u) {d n : Nat} {r : List Nat} (g : LRep u d n r) : n < 2 ^ 32 := by
  cases d with
  | zero =>
    have : n = 0 := g
    omega
  | succ d =>
    obtain ⟨ms, hm, _⟩ := g
    have := h.low _ _ hm
    have := h.room
    omega
theorem LK.ex (h : LK P w S D H k e u) (tk : Tk H H') (a : ∀ o, H k = some o → H' k = some o) : LK P w S D H' k e u := ⟨h.sub, h.ok, h.nd.keep tk (a _ h.nd.at_), h.once, h.ent, h.all, h.low⟩
theorem LK.tup (h : LK P w S D H k e u) {ys : List V} : H k ≠ some (.tup ys) := fun z => by
  rw [h.nd.at_] at z
  exact absurd (show HO.ext _ = HO.tup ys from Option.some.inj z) fun y => nomatch y
theorem LK.tk (h : LK P w S D H k e u) (x : ∀ b o, b ≠ k → H b = some o → H' b = some o) : Tk H H' := fun b ys q => x b _ (fun z => h.tup (by rw [← z]; exact q)) q
theorem LK.new {P : Program} {w : World} {S : List (List Nat)} {D : Nat} {H : Hp} {k : Addr} (hS : Sub S D) (at_ : H k = some (NdO P w k [])) : LK P w S D H k [] [] :=
  ⟨hS, ⟨(fun _ _ _ h => nomatch h), (fun _ _ _ h => nomatch h), (fun _ _ h => nomatch h), .nil, (fun _ _ h => nomatch h)⟩, ⟨at_, fun x hx => nomatch hx⟩, List.nodup_nil, (fun p hp => nomatch hp), (fun _ _ h => nomatch h), (fun _ _ h => nomatch h)⟩
theorem LK.getR (h : LK P w S D H k e u) {z : Str} {d : Nat} {v : V} (q : kat e (keyR z d) = some v) : ∃ n : Nat, v = .int (n : Nat) ∧ LRep u d n (codes z) := by
  obtain ⟨p, hp, q1, q2⟩ := kat_mem q
  rcases h.ent p hp with ⟨z', d', n, e1, e2, _, _, e5⟩ | ⟨ms, n, e1, _, _⟩
  · obtain ⟨rfl, rfl⟩ := keyR_inj (q1.symm.trans e1)
    exact ⟨n, by rw [← q2, e2], e5⟩
  · exact absurd (e1.symm.trans q1) keyL_ne
theorem LK.getL (h : LK P w S D H k e u) {ms : List Mark} {v : V} (q : kat e (keyL ms) = some v) : ∃ n : Nat, v = .int (n : Nat) ∧ (n, ms) ∈ u := by
  obtain ⟨p, hp, q1, q2⟩ := kat_mem q
  rcases h.ent p hp with ⟨z', d', n, e1, _⟩ | ⟨ms', n, e1, e2, e3⟩
  · exact absurd (q1.symm.trans e1) keyL_ne
  · obtain rfl := keyL_inj (q1.symm.trans e1)
    exact ⟨n, by rw [← q2, e2], e3⟩
/-- known[line, deep] = n -/
theorem LK.putR (h : LK P w S D H k e u) {tk : Addr} {z : Str} {d n : Nat} (hk : NK H (.ref tk) (keyR z d)) (e1 : codes z ∈ S) (e2 : d ≤ D) (e3 : LRep u d n (codes z)) :
    LK P w S D (upd H k (NdO P w k (putE e (keyR z d) tk (.int (n : Nat))))) k (putE e (keyR z d) tk (.int (n : Nat))) u := by
  refine ⟨h.sub, h.ok, h.nd.putG hk (keyR_depth _ _), h.once.putG, fun p hp => ?_, fun m ms hm => ?_, fun m ms hm => ?_⟩
  · rcases mem_putE hp with ⟨hp, _⟩ | ⟨q1, q2, _⟩
    · exact h.ent p hp
    · exact .inl ⟨z, d, n, q1, q2, e1, e2, e3⟩
  · rw [putE_keys]
    split
    · exact h.all m ms hm
    · exact List.mem_append.mpr (.inl (h.all m ms hm))
  · have l1 := h.low m ms hm
    have l2 := congrArg List.length (putE_keys (xs := e) (k := keyR z d) (t := tk) (v := .int (n : Nat)))
    rw [List.length_map] at l2
    rw [l2]
    split <;> simp <;> omega
/-- known[key] = len(known) -/
theorem LK.putL (h : LK P w S D H k e u) {tk : Addr} {ms : List Mark} {d : Nat} {r : List Nat} (hk : NK H (.ref tk) (keyL ms)) (no : kat e (keyL ms) = none) (hc : Canon ms) (hd : d + 1 ≤ D) (hr : r ∈ S) (hf : LFits u d ms r) :
    LK P w S D (upd H k (NdO P w k (putE e (keyL ms) tk (.int (e.length : Nat))))) k (putE e (keyL ms) tk (.int (e.length : Nat))) ((e.length, ms) :: u) := by
  have nk := kat_none no
  have l2 := congrArg List.length (putE_keys (xs := e) (k := keyL ms) (t := tk) (v := .int (e.length : Nat)))
  rw [List.length_map, no] at l2
  have l3 : (putE e (keyL ms) tk (.int (e.length : Nat))).length = e.length + 1 := by
    rw [l2]
    simp
  have g : ∀ x ∈ u, x ∈ (e.length, ms) :: u := fun x h => List.mem_cons_of_mem _ h
  refine ⟨h.sub, h.ok.add hc (fun ms' q => Nat.lt_irrefl _ (h.low _ _ q)) (fun m q => nk (h.all _ _ q)) hd hr hf, h.nd.putG hk (keyL_depth _), h.once.putG, fun p hp => ?_, fun m ms' hm => ?_, fun m ms' hm => ?_⟩
  · rcases mem_putE hp with ⟨hp, _⟩ | ⟨q1, q2, _⟩
    · rcases h.ent p hp with ⟨z, d, n, e1, e2, e3, e4, e5⟩ | ⟨ms', n, e1, e2, e3⟩
      · exact .inl ⟨z, d, n, e1, e2, e3, e4, e5.up g⟩
      · exact .inr ⟨ms', n, e1, e2, g _ e3⟩
    · exact .inr ⟨ms, e.length, q1, q2, List.mem_cons_self⟩
  · rw [putE_keys, no]
    rcases List.mem_cons.mp hm with q | hm
    · cases q; simp
    · exact List.mem_append.mpr (.inl (h.all m ms' hm))
  · rw [l3]
    rcases List.mem_cons.mp hm with q | hm
    · cases q; omega
    · have := h.low m ms' hm; omega
end
def rLenN (P : Program) (w : World) : List V → Hp → VK → Prop := fun xs H Q => ∃ (d : Addr) (e : List NEnt), xs = [.ref d] ∧ ND P w H d e ∧ e.length ≤ sizeLine ∧ Q (.int ((e.length : Nat) : Int)) H
theorem call_lenN {X : Cx} : CallR X (.builtin "len") (rLenN X.prog X.w) := by
  intro pins s σ H xs us Q I r h
  obtain ⟨d, e, rfl, hd, hz, q⟩ := h
  obtain ⟨u, rfl, rx⟩ := vals1 r
  obtain rfl : u = .ref d := rx
  obtain ⟨z, ys, hm, rel⟩ := nd_of I hd
  have hl : e.length = ys.length := Paired.length rel
  refine call_len_dictH z hm (by rw [← hl]; rw [sizeLine_eq] at hz; omega) ?_
  rw [← hl]
  exact ⟨.int ((e.length : Nat) : Int), H, I.tok _, ⟨_, rfl⟩, q⟩
/-! ### triples as data -/
def tripD (m : Mark) : PyData := .tuple [.int (m.1 : Nat), .str ⟨#[m.2.1]⟩, .int (m.2.2 : Nat)]
theorem eqv_trip (a b : Mark) : PyData.eqv (tripD a) (tripD b) = decide (a = b) := by
  unfold tripD
  simp only [PyData.eqv, PyData.eqvAll, Bool.and_true]
  obtain ⟨a1, a2, a3⟩ := a
  obtain ⟨b1, b2, b3⟩ := b
  apply Bool.eq_iff_iff.mpr
  simp only [Bool.and_eq_true, beq_iff_eq, decide_eq_true_eq, Prod.mk.injEq]
  constructor
  · rintro ⟨h1, h2, h3⟩
    exact ⟨by omega, M.one_inj h2, by omega⟩
  · rintro ⟨rfl, rfl, rfl⟩
    exact ⟨rfl, rfl, rfl⟩
theorem any_trip (ms : List Mark) (m : Mark) : ((ms.map tripD).any fun z => PyData.eqv z (tripD m)) = decide (m ∈ ms) := by
  induction ms with
  | nil => rfl
  | cons x ms ih =>
    rw [List.map_cons, List.any_cons, ih, eqv_trip]
    apply Bool.eq_iff_iff.mpr
    simp only [Bool.or_eq_true, decide_eq_true_eq, List.mem_cons]
    exact ⟨fun h => h.imp (fun e => e.symm) id, fun h => h.imp (fun e => e.symm) id⟩
theorem lay_trip {m : Mark} (h : m.2.1 < 1114112) : (tripD m).canLay0 = true := by
  unfold tripD
  simp only [PyData.canLay0, PyData.canLayAll0, Bool.and_true, Bool.true_and]
  unfold PyData.strOk
  simp [h]
theorem shaped_trip {m : Mark} (h : m.2.1 < 1114112) : SeqAt.shaped (tripD m) = true := by
  unfold SeqAt.shaped
  rw [lay_trip h]
  rfl
theorem trips_all : ∀ {ms : List Mark}, (∀ m ∈ ms, m.2.1 < 1114112) → PyData.canLayAll0 (ms.map tripD) = true ∧ PyData.depthAll (ms.map tripD) ≤ 1
  | [], _ => ⟨rfl, Nat.zero_le _⟩
  | m :: ms, h => by
    obtain ⟨h1, h2⟩ := trips_all fun q hq => h q (List.mem_cons_of_mem _ hq)
    rw [List.map_cons]
    constructor
    · simp only [PyData.canLayAll0, lay_trip (h m List.mem_cons_self), h1, Bool.and_true]
    · have : (tripD m).depth = 1 := rfl
      simp only [PyData.depthAll, this]
      omega
theorem shaped_trips {ms : List Mark} (h : ∀ m ∈ ms, m.2.1 < 1114112) : SeqAt.shaped (.list (ms.map tripD)) = true := by
  obtain ⟨h1, h2⟩ := trips_all h
  unfold SeqAt.shaped
  rw [Bool.and_eq_true, decide_eq_true_eq]
  refine ⟨?_, ?_⟩
  · simp only [PyData.canLay0]; exact h1
  · simp only [PyData.depth]; omega
theorem dp_trip {K : PySem.W.Frag} {H : Hp} {a : Addr} {m : Mark} (h : H a = some (.tup [.int (m.1 : Nat), .str ⟨#[m.2.1]⟩, .int (m.2.2 : Nat)])) : Dp K H (.ref a) (tripD m) := .tup (SqT.of h) (.cons (.int _) (.cons (.str _) (.cons (.int _) .nil)))
theorem dp_trips {K : PySem.W.Frag} {H : Hp} {l : Addr} {rs : List V} {ms : List Mark} (h : H l = some (.lst rs)) (t : Trs H rs ms) : Dp K H (.ref l) (.list (ms.map tripD)) := by
  refine .lst (SqL.of h) ?_
  obtain ⟨L, rfl, e2, e3⟩ := t
  clear h
  revert e2 e3
  induction L generalizing ms with
  | nil =>
    intro e2 e3
    have : ms = [] := by cases ms with | nil => rfl | cons m ms => cases e2
    subst this
    exact .nil
  | cons p L ih =>
    intro e2 e3
    cases ms with
    | nil => cases e2
    | cons m ms =>
      injection e2 with h1 h2
      have k := e3 p List.mem_cons_self
      have h1 : p.2 = trip m := h1
      rw [h1] at k
      exact .cons (dp_trip (nk_trip k)) (ih h2 fun q hq => e3 q (List.mem_cons_of_mem _ hq))
theorem room65 {k : Nat} {A : Around} (r : Room k A) : A.units + 65 < cLine := by
  have := r.un
  omega
def sp_lkind (P : Program) (w : World) (f : Nat) : Sp := fun vs H Q _ => ∃ (S : List (List Nat)) (D : Nat) (e : List NEnt) (u : LTab) (k : Addr) (z : Str) (d : Nat), vs = [.str z, .int (d : Nat), .ref k] ∧ LK P w S D H k e u ∧ d < f ∧ d ≤ D ∧ codes z ∈ S ∧ (∀ c ∈ codes z, c < 1114112) ∧
  ∀ (n : Nat) e' u' H', LK P w S D H' k e' u' → (∀ x ∈ u, x ∈ u') → (∀ b o, b ≠ k → H b = some o → H' b = some o) → LRep u' d n (codes z) → Q (.int (n : Nat)) H'
end M
end

section
set_option Elab.async false
set_option linter.all false
set_option maxRecDepth 100000
set_option maxHeartbeats 2000000
/-! answers and picks -/
namespace M
open PySem PySem.Spec L2 Evl
open PyProof.Rows hiding St
/-- place j of s answers place i of r when d more turns are left -/
def Ans (d : Nat) (r s : List Nat) (i j : Nat) : Prop := r[i]? = s[j]? ∧ i < r.length ∧ j < s.length ∧ Al d (r.take i) (s.take j) ∧ Al d (r.drop (i + 1)) (s.drop (j + 1))
open Classical in
noncomputable def ansB (d : Nat) (r s : List Nat) (i j : Nat) : Bool := decide (Ans d r s i j)
theorem ansB_iff {d : Nat} {r s : List Nat} {i j : Nat} : ansB d r s i j = true ↔ Ans d r s i j := by
  unfold ansB
  simp
noncomputable def good (d : Nat) (r s : List Nat) (i : Nat) : List Nat := (List.range s.length).filter (ansB d r s i)
def natsV (ns : List Nat) : List V := ns.map fun n => V.int (n : Nat)
theorem Ans.down {d : Nat} {r s : List Nat} {i j : Nat} (h : Ans d r s i j) {e : Nat} (he : e ≤ d) : Ans e r s i j := ⟨h.1, h.2.1, h.2.2.1, h.2.2.2.1.mono he, h.2.2.2.2.mono he⟩
theorem marks_same {k : KC} {t : KTab} (T : TOk Canon k.S k.D t) {d e i j : Nat} {r s : List Nat} {ms ns : List Mark} {m n : Mark} (h1 : Places t e ms r) (h2 : Places t e ns s) (g1 : ms[i]? = some m) (g2 : ns[j]? = some n) (he : e ≤ d) (a : Ans d r s i j) : n = m := by
  obtain ⟨a1, c1, b1⟩ := m
  obtain ⟨a2, c2, b2⟩ := n
  obtain ⟨e1, r1, r2⟩ := h1.2 _ _ _ _ g1
  obtain ⟨e2, r3, r4⟩ := h2.2 _ _ _ _ g2
  have a := a.down he
  have := a.1
  rw [e1, e2] at this
  cases this
  rw [(Rep.iff canon_one T.ok r1 r3).mpr a.2.2.2.1, (Rep.iff canon_one T.ok r2 r4).mpr a.2.2.2.2]
theorem filt_succ {L : List Nat} {f : Nat → Bool} {j a : Nat} (h : L[j]? = some a) : (L.take (j + 1)).filter f = (L.take j).filter f ++ (if f a = true then [a] else []) := by
  rw [List.take_succ, h, List.filter_append]
  congr 1
  show List.filter f [a] = _
  rw [List.filter_cons]
  rfl
theorem natsV_at {L : List Nat} {j : Nat} {x : V} (h : (natsV L)[j]? = some x) : ∃ a, L[j]? = some a ∧ x = .int (a : Nat) := by
  unfold natsV at h
  rw [List.getElem?_map] at h
  obtain ⟨a, h1, h2⟩ := Option.map_eq_some_iff.mp h
  exact ⟨a, h1, h2.symm⟩
theorem natsV_len (L : List Nat) : (natsV L).length = L.length := List.length_map _
theorem natsV_snoc (L : List Nat) (a : Nat) : natsV L ++ [.int (a : Nat)] = natsV (L ++ [a]) := by
  unfold natsV
  simp
theorem filt_few (n : Nat) (f : Nat → Bool) : ((List.range n).filter f).length ≤ n := by
  have := List.length_filter_le f (List.range n)
  rwa [List.length_range] at this
theorem rgV_nats (n : Nat) : rgV 0 ((n : Nat) : Int) = natsV ((List.range n).filter fun _ => true) := by
  unfold rgV natsV
  rw [List.filter_eq_self.mpr (fun _ _ => rfl)]
  have : (((n : Nat) : Int) - 0).toNat = n := by omega
  rw [this]
  refine List.map_congr_left fun a _ => ?_
  show V.int (0 + (a : Nat)) = _
  rw [show (0 : Int) + (a : Nat) = (a : Nat) by omega]
theorem good_of {d i : Nat} {r s : List Nat} {f : Nat → Bool} (h : ∀ j, Ans d r s i j → f j = true) : ((List.range s.length).filter f).filter (ansB d r s i) = good d r s i := by
  unfold good
  rw [List.filter_filter]
  refine List.filter_congr fun j _ => ?_
  cases e : ansB d r s i j with
  | false => rfl
  | true => rw [h j (ansB_iff.mp e)]; rfl
def sp_is_good (P : Program) (w : World) (C : Addr) : Sp := fun vs H Q _ => ∃ (k : KC) (Ls : List Addr) (t : KTab) (d i j : Nat) (y z : Str), vs = [.ref k.x, .str y, .int (i : Nat), .str z, .int (j : Nat), .int ((d + 1 : Nat) : Int)] ∧ KS P w C k Ls H t ∧ d ≤ k.D ∧ d ≤ 8 ∧ codes y ∈ k.S ∧ codes z ∈ k.S ∧ i < y.length ∧ j < z.length ∧
  ∀ (b : Bool) t' Ls' H', KS P w C k Ls' H' t' → Stp k Ls H t Ls' H' t' → (b = true ↔ Ans d (codes y) (codes z) i j) → Q (.bl b) H'
def sp_good (P : Program) (w : World) (C : Addr) : Sp := fun vs H Q _ => ∃ (k : KC) (Ls : List Addr) (t : KTab) (d i : Nat) (y z : Str), vs = [.ref k.x, .str y, .int (i : Nat), .str z, .int ((d + 1 : Nat) : Int)] ∧ KS P w C k Ls H t ∧ d ≤ k.D ∧ d ≤ 8 ∧ codes y ∈ k.S ∧ codes z ∈ k.S ∧ i < y.length ∧ (∀ c ∈ codes y, c < 1114112) ∧ (∀ c ∈ codes z, c < 1114112) ∧
  ∀ (l : Addr) t' Ls' H', KS P w C k Ls' H' t' → Stp k Ls H t Ls' H' t' → H l = none → H' l = some (.lst (natsV (good d (codes y) (codes z) i))) → Q (.ref l) H'
def sp_answers : Sp := fun vs H Q _ => ∃ (d i : Nat) (y z : Str), vs = [.str y, .str z, .int ((d + 1 : Nat) : Int), .int (i : Nat)] ∧ Abc y ∧ Abc z ∧ y.length ≤ 60 ∧ z.length ≤ 60 ∧ d ≤ 7 ∧ i < y.length ∧
  ∀ (l : Addr) H', Ex H H' → H l = none → H' l = some (.lst (natsV (good d (codes y) (codes z) i))) → Q (.ref l) H'
end M
namespace M
open PySem PySem.Spec L2 Evl
open PyProof.Rows hiding St
/-- a triple as a list -/
def tripL (m : Mark) : PyData := .list [.int (m.1 : Nat), .str ⟨#[m.2.1]⟩, .int (m.2.2 : Nat)]
theorem eqv_tripL (a b : Mark) : PyData.eqv (tripL a) (tripL b) = decide (a = b) := eqv_trip a b
theorem shaped_tripL {m : Mark} (h : m.2.1 < 1114112) : SeqAt.shaped (tripL m) = true := by
  unfold SeqAt.shaped
  rw [Bool.and_eq_true]
  refine ⟨?_, rfl⟩
  unfold tripL
  simp only [PyData.canLay0, PyData.canLayAll0, Bool.and_true, Bool.true_and]
  unfold PyData.strOk
  simp [h]
theorem dp_tripL {K : PySem.W.Frag} {H : Hp} {a : Addr} {m : Mark} (h : H a = some (.lst [.int (m.1 : Nat), .str ⟨#[m.2.1]⟩, .int (m.2.2 : Nat)])) : Dp K H (.ref a) (tripL m) := .lst (SqL.of h) (.cons (.int _) (.cons (.str _) (.cons (.int _) .nil)))
def sp_ldue (P : Program) (w : World) : Sp := fun vs H Q _ => ∃ (S : List (List Nat)) (D : Nat) (e : List NEnt) (u : LTab) (k : Addr) (y z : Str) (d i : Nat), vs = [.str y, .str z, .int ((d + 1 : Nat) : Int), .int (i : Nat), .ref k] ∧ LK P w S D H k e u ∧ d < 7 ∧ d ≤ D ∧ codes y ∈ S ∧ codes z ∈ S ∧ (∀ c ∈ codes y, c < 1114112) ∧ (∀ c ∈ codes z, c < 1114112) ∧ i < y.length ∧
  ∀ (l : Addr) e' u' H', LK P w S D H' k e' u' → (∀ b o, b ≠ k → H b = some o → H' b = some o) → H l = none → H' l = some (.lst (natsV (good d (codes y) (codes z) i))) → Q (.ref l) H'
end M
namespace M
open PySem PySem.Spec L2 Evl
open PyProof.Rows hiding St
/-- small data: how deep, how heavy -/
structure Sml (d : PyData) (D W : Nat) : Prop where
  s : d.showable = true
  h : d.hasDict = false
  l : d.leavesShort 8 = true
  dp : d.depth ≤ D
  w : d.weight ≤ W
theorem sml_fin : ∀ n : Fin 128, ((PyData.int (n.val : Nat)).showable && (!(PyData.int (n.val : Nat)).hasDict && ((PyData.int (n.val : Nat)).leavesShort 8 && (decide ((PyData.int (n.val : Nat)).depth ≤ 0) && decide ((PyData.int (n.val : Nat)).weight ≤ 7))))) = true := by decide +kernel
theorem sml_int {n : Nat} (h : n < 128) : Sml (.int (n : Nat)) 0 7 := by
  have := sml_fin ⟨n, h⟩
  simp only [Bool.and_eq_true, decide_eq_true_eq, Bool.not_eq_true'] at this
  exact ⟨this.1, this.2.1, this.2.2.1, this.2.2.2.1, this.2.2.2.2⟩
theorem sml_all {D W : Nat} : ∀ {ds : List PyData}, (∀ d ∈ ds, Sml d D W) → PyData.showableAll ds = true ∧ PyData.hasDictAll ds = false ∧ PyData.leavesShortAll 8 ds = true ∧ PyData.depthAll ds ≤ D ∧ PyData.weightAll ds ≤ ds.length * (W + 1)
  | [], _ => ⟨rfl, rfl, rfl, Nat.zero_le _, Nat.zero_le _⟩
  | d :: ds, h => by
    obtain ⟨h1, h2, h3, h4, h5⟩ := sml_all fun q hq => h q (List.mem_cons_of_mem _ hq)
    obtain ⟨g1, g2, g3, g4, g5⟩ := h d List.mem_cons_self
    simp only [PyData.showableAll, PyData.hasDictAll, PyData.leavesShortAll, PyData.depthAll, PyData.weightAll, h1, h2, h3, g1, g2, g3, List.length_cons, Bool.and_true, Bool.or_false, Nat.succ_mul]
    exact ⟨trivial, trivial, trivial, by omega, by omega⟩
theorem sml_list {D W : Nat} {ds : List PyData} (h : ∀ d ∈ ds, Sml d D W) : Sml (.list ds) (D + 1) (ds.length * (W + 1)) := by
  obtain ⟨h1, h2, h3, h4, h5⟩ := sml_all h
  exact ⟨by simpa only [PyData.showable] using h1, by simpa only [PyData.hasDict] using h2, by simpa only [PyData.leavesShort] using h3, by simp only [PyData.depth]; omega, by simpa only [PyData.weight] using h5⟩
theorem sml_tup {D W : Nat} {ds : List PyData} (h : ∀ d ∈ ds, Sml d D W) : Sml (.tuple ds) (D + 1) (ds.length * (W + 1)) := by
  obtain ⟨h1, h2, h3, h4, h5⟩ := sml_all h
  exact ⟨by simpa only [PyData.showable] using h1, by simpa only [PyData.hasDict] using h2, by simpa only [PyData.leavesShort] using h3, by simp only [PyData.depth]; omega, by simpa only [PyData.weight] using h5⟩
theorem Sml.up {d : PyData} {D W D' W' : Nat} (h : Sml d D W) (h1 : D ≤ D') (h2 : W ≤ W') : Sml d D' W' := ⟨h.s, h.h, h.l, by have := h.dp; omega, by have := h.w; omega⟩
theorem Sml.shw {d : PyData} {D W : Nat} (h : Sml d D W) (h1 : D ≤ 50) (h2 : W ≤ 2 ^ 20) : Shw d :=
  ⟨h.s, h.h, by have := h.dp; omega, PyData.shown_fits (B := 8) (by decide) (by decide) h.l (by have := h.w; omega)⟩
/-- a list of small numbers as data -/
def dN (L : List Nat) : PyData := .list (L.map fun n => .int (n : Nat))
theorem sml_dN {L : List Nat} {k : Nat} (h : ∀ n ∈ L, n < 128) (hl : L.length ≤ k) : Sml (dN L) 1 (k * 8) := by
  refine Sml.up (sml_list (D := 0) (W := 7) fun d hd => ?_) (Nat.le_refl _) ?_
  · obtain ⟨n, hn, rfl⟩ := List.mem_map.mp hd
    exact sml_int (h n hn)
  · rw [List.length_map]
    exact Nat.mul_le_mul_right _ hl
theorem sml_dNN {L : List Nat} {k : Nat} (h : ∀ n ∈ L, n < 128) (hl : L.length ≤ k) : Sml (.list [dN L, dN L]) 2 (2 * (k * 8 + 1)) :=
  sml_list (ds := [dN L, dN L]) fun d hd => by
    simp only [List.mem_cons, List.not_mem_nil, or_false] at hd
    rcases hd with rfl | rfl <;> exact sml_dN h hl
theorem dps_nats {K : PySem.W.Frag} {H : Hp} : ∀ (L : List Nat), DpAll K H (natsV L) (L.map fun n => PyData.int (n : Nat))
  | [] => .nil
  | n :: L => .cons (.int _) (dps_nats L)
theorem dp_nats {K : PySem.W.Frag} {H : Hp} {l : Addr} {L : List Nat} (h : H l = some (.lst (natsV L))) : Dp K H (.ref l) (dN L) := .lst (SqL.of h) (dps_nats L)
theorem shaped_dN (L : List Nat) : SeqAt.shaped (dN L) = true := by
  have h : ∀ L : List Nat, PyData.canLayAll0 (L.map fun n => PyData.int (n : Nat)) = true ∧ PyData.depthAll (L.map fun n => PyData.int (n : Nat)) = 0 := fun L => by
    induction L with
    | nil => exact ⟨rfl, rfl⟩
    | cons n L ih => exact ⟨by rw [List.map_cons]; simp only [PyData.canLayAll0, PyData.canLay0, ih.1, Bool.and_true], by rw [List.map_cons]; simp only [PyData.depthAll, PyData.depth, ih.2]; rfl⟩
  unfold SeqAt.shaped dN
  rw [Bool.and_eq_true, decide_eq_true_eq]
  exact ⟨by simp only [PyData.canLay0]; exact (h L).1, by simp only [PyData.depth, (h L).2]; omega⟩
theorem eqv_dN (L M : List Nat) : PyData.eqv (dN L) (dN M) = decide (L = M) := by
  unfold dN
  simp only [PyData.eqv]
  induction L generalizing M with
  | nil => cases M <;> simp [PyData.eqvAll]
  | cons n L ih =>
    cases M with
    | nil => simp [PyData.eqvAll]
    | cons m M =>
      simp only [List.map_cons, PyData.eqvAll, ih, PyData.eqv]
      apply Bool.eq_iff_iff.mpr
      simp only [Bool.and_eq_true, beq_iff_eq, decide_eq_true_eq, List.cons.injEq, Int.natCast_inj]
theorem good_small {d i : Nat} {r s : List Nat} : ∀ n ∈ good d r s i, n < s.length := fun n hn => List.mem_range.mp (List.mem_filter.mp hn).1
theorem good_len {d i : Nat} {r s : List Nat} : (good d r s i).length ≤ s.length := filt_few _ _
theorem al_good {d i : Nat} {r s : List Nat} (a : Al (d + 1) r s) (hi : i < r.length) : good d r s i ≠ [] := fun e => by
  obtain ⟨j, e2, h1, h2⟩ := a.1 i _ (List.getElem?_eq_getElem hi)
  have hj := (List.getElem?_eq_some_iff.mp e2).1
  have : j ∈ good d r s i := List.mem_filter.mpr ⟨List.mem_range.mpr hj, ansB_iff.mpr ⟨by rw [e2, List.getElem?_eq_getElem hi], hi, hj, h1, h2⟩⟩
  rw [e] at this
  exact nomatch this
end M
namespace M
open PySem PySem.Spec L2 Evl
open PyProof.Rows hiding St
theorem Pl.old {H0 H H' : Hp} {p q : Addr} {m : Nat} (h : Pl H0 H p m) (hq : H0 q = none) (np : p ≠ q) (old : ∀ b o, b ≠ q → H b = some o → H' b = some o) : Pl H0 H' p m := by
  obtain ⟨a, b, c, h1, r⟩ := h.at_
  exact ⟨fun b o e => old b o (ne_of_none e hq) (h.ex b o e), h.out, a, b, c, old _ _ np h1, r⟩
theorem Pl.tk {H0 H H' : Hp} {p : Addr} {m : Nat} (h : Pl H0 H p m) (x : ∀ b, b ≠ p → H' b = H b) : Tk H H' := fun b ys e => by
  obtain ⟨a, b', c, h1, _⟩ := h.at_
  rw [x b fun z => by rw [z, h1] at e; exact nomatch e]
  exact e
end M
namespace M
open PySem PySem.Spec L2 Evl
open PyProof.Rows hiding St
def sameM (a b d : Nat) : Bool := decide (a = b ∨ (2 ^ d - 1 ≤ a ∧ 2 ^ d - 1 ≤ b))
def sp_same : Sp := fun vs H Q _ => ∃ (a b d : Nat), vs = [.int (a : Nat), .int (b : Nat), .int (d : Nat)] ∧ a ≤ 100 ∧ b ≤ 100 ∧ d ≤ 10 ∧ Q (.bl (sameM a b d)) H
theorem same_al {a b d c : Nat} : sameM a b d = true ↔ Al d (List.replicate a c) (List.replicate b c) := by
  unfold sameM
  rw [decide_eq_true_eq, one_al]
theorem rep_get {n c i : Nat} (h : i < n) : (List.replicate n c)[i]? = some c := by
  rw [List.getElem?_replicate, if_pos h]
theorem one_ans {d m n i j c : Nat} (hi : i < m) (hj : j < n) : ansB d (List.replicate m c) (List.replicate n c) i j = (sameM i j d && sameM (m - 1 - i) (n - 1 - j) d) := by
  refine Bool.eq_iff_iff.mpr ?_
  rw [ansB_iff, Bool.and_eq_true, same_al (c := c), same_al (c := c)]
  unfold Ans
  rw [rep_get hi, rep_get hj, List.length_replicate, List.length_replicate, List.take_replicate, List.take_replicate, List.drop_replicate, List.drop_replicate, Nat.min_eq_left (Nat.le_of_lt hi), Nat.min_eq_left (Nat.le_of_lt hj),
    show m - (i + 1) = m - 1 - i by omega, show n - (j + 1) = n - 1 - j by omega]
  exact ⟨fun h => ⟨h.2.2.2.1, h.2.2.2.2⟩, fun h => ⟨rfl, hi, hj, h.1, h.2⟩⟩
end M
end

section
set_option Elab.async false
set_option linter.all false
set_option maxRecDepth 100000
set_option maxHeartbeats 2000000
/-! picks without an answer: lists of pairs -/
namespace M
open PySem PySem.Spec L2 Evl
open PyProof.Rows hiding St
def Prs (H : Hp) (rs : List V) (ps : List (Nat × Nat)) : Prop := ∃ L : List (Addr × (Nat × Nat)), rs = L.map (fun p => V.ref p.1) ∧ ps = L.map (·.2) ∧ ∀ p ∈ L, H p.1 = some (.tup [.int (p.2.1 : Nat), .int (p.2.2 : Nat)])
theorem Prs.nil {H : Hp} : Prs H [] [] := ⟨[], rfl, rfl, fun p h => nomatch h⟩
theorem Prs.up {H H' : Hp} (x : Tk H H') {rs : List V} {ps : List (Nat × Nat)} (h : Prs H rs ps) : Prs H' rs ps := by
  obtain ⟨L, h1, h2, h3⟩ := h
  exact ⟨L, h1, h2, fun p hp => x _ _ (h3 p hp)⟩
theorem Prs.len {H : Hp} {rs : List V} {ps : List (Nat × Nat)} (h : Prs H rs ps) : rs.length = ps.length := by
  obtain ⟨L, rfl, rfl, _⟩ := h
  simp
theorem Prs.snoc {H : Hp} {rs : List V} {ps : List (Nat × Nat)} (h : Prs H rs ps) {a : Addr} {x y : Nat} (e : H a = some (.tup [.int (x : Nat), .int (y : Nat)])) : Prs H (rs ++ [.ref a]) (ps ++ [(x, y)]) := by
  obtain ⟨L, rfl, rfl, h3⟩ := h
  refine ⟨L ++ [(a, (x, y))], by simp, by simp, fun p hp => ?_⟩
  rcases List.mem_append.mp hp with hp | hp
  · exact h3 p hp
  · rw [List.mem_singleton.mp hp]; exact e
theorem Prs.at {H : Hp} {rs : List V} {ps : List (Nat × Nat)} (h : Prs H rs ps) {i : Nat} {p : Nat × Nat} (e : ps[i]? = some p) : ∃ a, rs[i]? = some (.ref a) ∧ H a = some (.tup [.int (p.1 : Nat), .int (p.2 : Nat)]) := by
  obtain ⟨L, rfl, rfl, h3⟩ := h
  rw [List.getElem?_map] at e
  obtain ⟨q, h1, rfl⟩ := Option.map_eq_some_iff.mp e
  exact ⟨q.1, by rw [List.getElem?_map, h1]; rfl, h3 q (List.mem_of_getElem? h1)⟩
noncomputable def lone (d : Nat) (r s : List Nat) (i : Nat) : Bool := (good d r s i).isEmpty
noncomputable def side (sd d : Nat) (r s : List Nat) : List (Nat × Nat) := ((List.range r.length).filter (lone d r s)).map fun i => (sd, i)
noncomputable def winP (d : Nat) (r s : List Nat) : List (Nat × Nat) := side 0 d r s ++ side 1 d s r
theorem side_len {sd d : Nat} {r s : List Nat} : (side sd d r s).length ≤ r.length := by
  unfold side
  rw [List.length_map]
  exact filt_few _ _
def sp_picks (P : Program) (w : World) (C : Addr) : Sp := fun vs H Q _ => ∃ (k : KC) (Ls : List Addr) (t : KTab) (d : Nat) (y z : Str), vs = [.ref k.x, .str y, .str z, .int ((d + 1 : Nat) : Int)] ∧ KS P w C k Ls H t ∧ d ≤ k.D ∧ d ≤ 8 ∧ codes y ∈ k.S ∧ codes z ∈ k.S ∧ (∀ c ∈ codes y, c < 1114112) ∧ (∀ c ∈ codes z, c < 1114112) ∧
  ∀ (l : Addr) rs t' Ls' H', KS P w C k Ls' H' t' → Stp k Ls H t Ls' H' t' → H l = none → H' l = some (.lst rs) → Prs H' rs (winP d (codes y) (codes z)) → Q (.ref l) H'
noncomputable def wins (d : Nat) (r s : List Nat) : List (Nat × Nat) := match d with
  | 0 => []
  | d + 1 => winP d r s
def sp_wins : Sp := fun vs H Q _ => ∃ (d : Nat) (y z : Str), vs = [.str y, .str z, .int (d : Nat)] ∧ Abc y ∧ Abc z ∧ y.length ≤ 60 ∧ z.length ≤ 60 ∧ d ≤ 8 ∧
  ∀ (l : Addr) rs H', Ex H H' → H l = none → H' l = some (.lst rs) → Prs H' rs (wins d (codes y) (codes z)) → Q (.ref l) H'
/-- rows that are not alike have a pick without an answer -/
theorem wins_ne {d : Nat} {r s : List Nat} : winP d r s = [] ↔ Al (d + 1) r s := by
  unfold winP side
  rw [List.append_eq_nil_iff, List.map_eq_nil_iff, List.map_eq_nil_iff, List.filter_eq_nil_iff, List.filter_eq_nil_iff]
  have one : ∀ {r s : List Nat}, (∀ i ∈ List.range r.length, ¬ lone d r s i = true) → ∀ i c, r[i]? = some c → ∃ j, s[j]? = some c ∧ Al d (r.take i) (s.take j) ∧ Al d (r.drop (i + 1)) (s.drop (j + 1)) := fun {r s} h i c e => by
    have hi := (List.getElem?_eq_some_iff.mp e).1
    have := h i (List.mem_range.mpr hi)
    unfold lone at this
    rw [List.isEmpty_iff] at this
    obtain ⟨j, hj⟩ := List.exists_mem_of_ne_nil _ this
    have a := ansB_iff.mp (List.mem_filter.mp hj).2
    exact ⟨j, by rw [← a.1, e], a.2.2.2.1, a.2.2.2.2⟩
  constructor
  · intro ⟨h1, h2⟩
    refine ⟨fun i c e => one h1 i c e, fun j c e => ?_⟩
    obtain ⟨i, e2, a1, a2⟩ := one h2 j c e
    exact ⟨i, e2, a1.symm, a2.symm⟩
  · intro a
    refine ⟨fun i hi hl => ?_, fun i hi hl => ?_⟩
    · exact al_good a (List.mem_range.mp hi) (List.isEmpty_iff.mp hl)
    · exact al_good a.symm (List.mem_range.mp hi) (List.isEmpty_iff.mp hl)
theorem mem_wins {d : Nat} {r s : List Nat} {p : Nat × Nat} (h : p ∈ winP d r s) : (p.1 = 0 ∧ p.2 < r.length ∧ good d r s p.2 = []) ∨ (p.1 = 1 ∧ p.2 < s.length ∧ good d s r p.2 = []) := by
  unfold winP side at h
  rcases List.mem_append.mp h with h | h
  · obtain ⟨i, hi, rfl⟩ := List.mem_map.mp h
    exact .inl ⟨rfl, List.mem_range.mp (List.mem_filter.mp hi).1, List.isEmpty_iff.mp (List.mem_filter.mp hi).2⟩
  · obtain ⟨i, hi, rfl⟩ := List.mem_map.mp h
    exact .inr ⟨rfl, List.mem_range.mp (List.mem_filter.mp hi).1, List.isEmpty_iff.mp (List.mem_filter.mp hi).2⟩
end M
namespace M
open PySem PySem.Spec L2 Evl
open PyProof.Rows hiding St
noncomputable def prog (d : Nat) (r s : List Nat) (i : Nat) : List (Nat × Nat) := if i = 0 then [] else if i = 1 then side 0 d r s else winP d r s
theorem range_filt (f : Nat → Bool) (j : Nat) : (List.range (j + 1)).filter f = (List.range j).filter f ++ (if f j = true then [j] else []) := by
  rw [List.range_succ, List.filter_append]
  congr 1
  show List.filter _ [j] = _
  rw [List.filter_cons]
  rfl
theorem lone_false {d i : Nat} {r s : List Nat} : (good d r s i).length = 0 ↔ lone d r s i = true := by
  unfold lone
  rw [List.isEmpty_iff, List.length_eq_zero_iff]
end M
namespace M
open PySem PySem.Spec L2 Evl
open PyProof.Rows hiding St
def seg (r : List Nat) (b e : Nat) : List Nat := (r.drop b).take (e - b)
theorem codes_seg {z : Str} {b e : Nat} (hb : b ≤ e) (h : e ≤ z.length) : codes (cutS z (some ((b : Nat) : Int)) (some ((e : Nat) : Int))) = seg (codes z) b e := by
  have e1 : HT.sIx z.length 0 (some ((b : Nat) : Int)) = b := by rw [HT.sIx_nat]; exact Nat.min_eq_left (by omega)
  have e2 : HT.sIx z.length z.length (some ((e : Nat) : Int)) = e := by rw [HT.sIx_nat]; exact Nat.min_eq_left h
  show ((z.cps.toList.drop (HT.sIx z.length 0 (some ((b : Nat) : Int)))).take (HT.sIx z.length z.length (some ((e : Nat) : Int)) - HT.sIx z.length 0 (some ((b : Nat) : Int)))).toArray.toList = _
  rw [e1, e2]
  rfl
theorem seg_len {r : List Nat} {b e : Nat} (h : e ≤ r.length) : (seg r b e).length = e - b := by
  unfold seg
  rw [List.length_take, List.length_drop]
  omega
theorem seg_take {r : List Nat} {b e i : Nat} (h : b + i ≤ e) : (seg r b e).take i = seg r b (b + i) := by
  unfold seg
  rw [List.take_take, Nat.min_eq_left (by omega), show b + i - b = i by omega]
theorem seg_drop {r : List Nat} {b e i : Nat} : (seg r b e).drop i = seg r (b + i) e := by
  unfold seg
  rw [List.drop_take, List.drop_drop, show e - (b + i) = e - b - i by omega]
theorem seg_all {r : List Nat} : seg r 0 r.length = r := by
  unfold seg
  rw [List.drop_zero, Nat.sub_zero, List.take_length]
/-- a span: two stretches alike -/
def Spn (y z : Str) (d : Nat) (H : Hp) (v : V) : Prop := ∃ (a : Addr) (b e c f : Nat), v = .ref a ∧ H a = some (.tup [.int (b : Nat), .int (e : Nat), .int (c : Nat), .int (f : Nat)]) ∧ b ≤ e ∧ e ≤ y.length ∧ c ≤ f ∧ f ≤ z.length ∧ Al d (seg (codes y) b e) (seg (codes z) c f)
theorem Spn.up {y z : Str} {d d' : Nat} {H H' : Hp} {v : V} (h : Spn y z d H v) (hd : d' ≤ d) (x : Tk H H') : Spn y z d' H' v := by
  obtain ⟨a, b, e, c, f, h1, h2, h3, h4, h5, h6, h7⟩ := h
  exact ⟨a, b, e, c, f, h1, x _ _ h2, h3, h4, h5, h6, h7.mono hd⟩
theorem mem_cutV {xs : List V} {lo hi : Option Int} {v : V} (h : v ∈ cutV xs lo hi) : v ∈ xs := by
  unfold cutV at h
  exact List.mem_of_mem_drop (List.mem_of_mem_take h)
theorem len_cutV {xs : List V} {lo hi : Option Int} : (cutV xs lo hi).length ≤ xs.length := by
  unfold cutV
  rw [List.length_take, List.length_drop]
  omega
theorem al_nil2 {d : Nat} {s : List Nat} (h : Al (d + 1) [] s) : s = [] := by
  cases s with
  | nil => rfl
  | cons c s =>
    obtain ⟨i, e, _⟩ := h.2 0 c rfl
    simp at e
def sp_played : Sp := fun vs H Q _ => ∃ (H0 : Hp) (p : Addr) (m : Nat) (y z : Str) (d : Nat), vs = [.ref p, .str y, .str z, .int (d : Nat)] ∧ Pl H0 H p m ∧ m + 100 ≤ 2 ^ 20 ∧ Abc y ∧ Abc z ∧ y.length ≤ 10 ∧ z.length ≤ 10 ∧ d ≤ 4 ∧ Al d (codes y) (codes z) ∧
  ∀ H', Pl H0 H' p (m + 100) → Q (.bl true) H'
end M
namespace M
open PySem PySem.Spec L2 Evl
open PyProof.Rows hiding St
def dP (ps : List (Nat × Nat)) : PyData := .list (ps.map fun p => .tuple [.int (p.1 : Nat), .int (p.2 : Nat)])
theorem dp_prs {K : PySem.W.Frag} {H : Hp} {l : Addr} {rs : List V} {ps : List (Nat × Nat)} (h : H l = some (.lst rs)) (t : Prs H rs ps) : Dp K H (.ref l) (dP ps) := by
  refine .lst (SqL.of h) ?_
  obtain ⟨L, rfl, rfl, h3⟩ := t
  clear h
  induction L with
  | nil => exact .nil
  | cons p L ih => exact .cons (.tup (SqT.of (h3 p List.mem_cons_self)) (.cons (.int _) (.cons (.int _) .nil))) (ih fun q hq => h3 q (List.mem_cons_of_mem _ hq))
theorem shaped_dP (ps : List (Nat × Nat)) : SeqAt.shaped (dP ps) = true := by
  have h : ∀ ps : List (Nat × Nat), PyData.canLayAll0 (ps.map fun p => PyData.tuple [.int (p.1 : Nat), .int (p.2 : Nat)]) = true ∧ PyData.depthAll (ps.map fun p => PyData.tuple [.int (p.1 : Nat), .int (p.2 : Nat)]) ≤ 1 := fun ps => by
    induction ps with
    | nil => exact ⟨rfl, Nat.zero_le _⟩
    | cons n L ih =>
      have e : (PyData.tuple [.int (n.1 : Nat), .int (n.2 : Nat)]).depth = 1 := rfl
      exact ⟨by rw [List.map_cons]; simp only [PyData.canLayAll0, PyData.canLay0, ih.1, Bool.and_true], by rw [List.map_cons]; simp only [PyData.depthAll, e]; omega⟩
  unfold SeqAt.shaped dP
  rw [Bool.and_eq_true, decide_eq_true_eq]
  have := (h ps).2
  exact ⟨by simp only [PyData.canLay0]; exact (h ps).1, by simp only [PyData.depth]; omega⟩
theorem eqv_dP_nil {ps : List (Nat × Nat)} (h : ps ≠ []) : PyData.eqv (dP ps) (dN []) = false := by
  cases ps with
  | nil => exact absurd rfl h
  | cons p ps => unfold dP dN; simp [PyData.eqv, PyData.eqvAll]
end M
end

section
set_option Elab.async false
set_option linter.all false
set_option maxRecDepth 100000
set_option maxHeartbeats 2000000
/-! k09: a row's members by a law's own kinds -/
namespace M
open PySem PySem.Spec L2 Evl
open PyProof.Rows hiding St
def LPl (u : LTab) (d : Nat) (ms : List Mark) (r : List Nat) : Prop := ms.length = r.length ∧ ∀ i a c b, ms[i]? = some (a, c, b) → r[i]? = some c ∧ LRep u d a (r.take i) ∧ LRep u d b (r.drop (i + 1))
theorem LPl.up {u u' : LTab} {d : Nat} {ms : List Mark} {r : List Nat} (h : LPl u d ms r) (g : ∀ x ∈ u, x ∈ u') : LPl u' d ms r := ⟨h.1, fun i a c b e => let ⟨h1, h2, h3⟩ := h.2 i a c b e; ⟨h1, h2.up g, h3.up g⟩⟩
def sp_lmem (P : Program) (w : World) : Sp := fun vs H Q _ => ∃ (S : List (List Nat)) (D : Nat) (e : List NEnt) (u : LTab) (k : Addr) (z : Str) (d : Nat), vs = [.str z, .int ((d + 1 : Nat) : Int), .ref k] ∧ LK P w S D H k e u ∧ d < 7 ∧ d ≤ D ∧ codes z ∈ S ∧ (∀ c ∈ codes z, c < 1114112) ∧
  ∀ (l : Addr) rs ms e' u' H', LK P w S D H' k e' u' → (∀ x ∈ u, x ∈ u') → (∀ b o, b ≠ k → H b = some o → H' b = some o) → H l = none → H' l = some (.lst rs) → Trs H' rs ms → LPl u' d ms (codes z) → Q (.ref l) H'
/-- a member is among the other row's members if it has an answer -/
theorem lone_mem {S : List (List Nat)} {D d i : Nat} {u : LTab} {ms ns : List Mark} {m : Mark} {r s : List Nat} (T : LOk S D u) (h1 : LPl u d ms r) (h2 : LPl u d ns s) (e : ms[i]? = some m) : (!decide (m ∈ ns)) = lone d r s i := by
  obtain ⟨a, c, b⟩ := m
  obtain ⟨e1, r1, r2⟩ := h1.2 _ _ _ _ e
  have hi := (List.getElem?_eq_some_iff.mp e1).1
  have key : (a, c, b) ∈ ns ↔ good d r s i ≠ [] := by
    constructor
    · intro hm
      obtain ⟨j, hj⟩ := List.getElem?_of_mem hm
      obtain ⟨f1, q1, q2⟩ := h2.2 _ _ _ _ hj
      have hjs := (List.getElem?_eq_some_iff.mp f1).1
      have : j ∈ good d r s i := List.mem_filter.mpr ⟨List.mem_range.mpr hjs, ansB_iff.mpr ⟨by rw [e1, f1], hi, hjs, (LRep.iff T r1 q1).mp rfl, (LRep.iff T r2 q2).mp rfl⟩⟩
      exact List.ne_nil_of_mem this
    · intro hn
      obtain ⟨j, hj⟩ := List.exists_mem_of_ne_nil _ hn
      have an := ansB_iff.mp (List.mem_filter.mp hj).2
      obtain ⟨⟨a', c', b'⟩, hm⟩ : ∃ m', ns[j]? = some m' := ⟨_, List.getElem?_eq_getElem (by rw [h2.1]; exact an.2.2.1)⟩
      obtain ⟨f1, q1, q2⟩ := h2.2 _ _ _ _ hm
      have ec := an.1
      rw [e1, f1] at ec
      cases ec
      rw [(LRep.iff T r1 q1).mpr an.2.2.2.1, (LRep.iff T r2 q2).mpr an.2.2.2.2]
      exact List.mem_of_getElem? hm
  unfold lone
  refine Bool.eq_iff_iff.mpr ?_
  rw [Bool.not_eq_true', decide_eq_false_iff_not, key, List.isEmpty_iff]
  exact ⟨fun h => Classical.byContradiction h, fun h q => q h⟩
end M
namespace M
open PySem PySem.Spec L2 Evl
open PyProof.Rows hiding St
def sp_llone : Sp := fun vs H Q _ => ∃ (f g d : Nat), vs = [.int (f : Nat), .int (g : Nat), .int ((d + 1 : Nat) : Int)] ∧ f ≤ 50 ∧ g ≤ 50 ∧ d ≤ 9 ∧
  ∀ (l : Addr) H', Ex H H' → H l = none → H' l = some (.lst (natsV ((List.range f).filter (lone d (List.replicate f 97) (List.replicate g 97))))) → Q (.ref l) H'
theorem one_good {d f g i : Nat} (hi : i < f) : ((List.range g).filter fun j => sameM i j d).filter (fun j => sameM (f - 1 - i) (g - 1 - j) d) = good d (List.replicate f 97) (List.replicate g 97) i := by
  unfold good
  rw [List.filter_filter, List.length_replicate]
  refine List.filter_congr fun j hj => ?_
  rw [one_ans hi (List.mem_range.mp hj), Bool.and_comm]
end M
namespace M
open PySem PySem.Spec L2 Evl
open PyProof.Rows hiding St
theorem eqv_dP (L N : List (Nat × Nat)) : PyData.eqv (dP L) (dP N) = decide (L = N) := by
  unfold dP
  simp only [PyData.eqv]
  induction L generalizing N with
  | nil => cases N <;> simp [PyData.eqvAll]
  | cons n L ih =>
    cases N with
    | nil => simp [PyData.eqvAll]
    | cons m N =>
      obtain ⟨n1, n2⟩ := n
      obtain ⟨m1, m2⟩ := m
      simp only [List.map_cons, PyData.eqvAll, ih, PyData.eqv, Bool.and_true]
      apply Bool.eq_iff_iff.mpr
      simp only [Bool.and_eq_true, beq_iff_eq, decide_eq_true_eq, List.cons.injEq, Int.natCast_inj, Prod.mk.injEq]
theorem Prs.app {H : Hp} {rs us : List V} {ps qs : List (Nat × Nat)} (h : Prs H rs ps) (g : Prs H us qs) : Prs H (rs ++ us) (ps ++ qs) := by
  obtain ⟨L, rfl, rfl, h3⟩ := h
  obtain ⟨N, rfl, rfl, g3⟩ := g
  refine ⟨L ++ N, by simp, by simp, fun p hp => ?_⟩
  rcases List.mem_append.mp hp with hp | hp
  · exact h3 p hp
  · exact g3 p hp
theorem side_one {sd d f g : Nat} : side sd d (List.replicate f 97) (List.replicate g 97) = ((List.range f).filter (lone d (List.replicate f 97) (List.replicate g 97))).map fun i => (sd, i) := by
  unfold side
  rw [List.length_replicate]
theorem map_take_succ {L : List Nat} {f : Nat → Nat × Nat} {j a : Nat} (h : L[j]? = some a) : (L.take (j + 1)).map f = (L.take j).map f ++ [f a] := by
  rw [List.take_succ, h, List.map_append]
  rfl
end M
namespace M
open PySem PySem.Spec L2 Evl
open PyProof.Rows hiding St
def keyP (H : Hp) : V → Int × Int
  | .ref t => match H t with
    | some (.tup [.int i, .int j]) => (i, j)
    | _ => (0, 0)
  | _ => (0, 0)
theorem keyP_at {H : Hp} {t : Addr} {i j : Int} (e : H t = some (.tup [.int i, .int j])) : keyP H (.ref t) = (i, j) := by
  simp only [keyP, e]
theorem Prs.keys {H : Hp} {rs : List V} {ps : List (Nat × Nat)} (h : Prs H rs ps) : rs.map (keyP H) = ps.map fun p => (((p.1 : Nat) : Int), ((p.2 : Nat) : Int)) := by
  obtain ⟨L, rfl, rfl, h3⟩ := h
  rw [List.map_map, List.map_map]
  refine List.map_congr_left fun p hp => ?_
  show keyP H (.ref p.1) = _
  rw [keyP_at (h3 p hp)]
  rfl
theorem Prs.all {H : Hp} {rs : List V} {ps : List (Nat × Nat)} (h : Prs H rs ps) : ∀ x ∈ rs, ∃ t, x = V.ref t ∧ H t = some (.tup [.int (keyP H x).1, .int (keyP H x).2]) := fun x hx => by
  obtain ⟨L, rfl, rfl, h3⟩ := h
  obtain ⟨p, hp, rfl⟩ := List.mem_map.mp hx
  have e := h3 p hp
  refine ⟨p.1, rfl, ?_⟩
  rw [keyP_at e]
  exact e
theorem Prs.split {H : Hp} {xs : List V} {A B : List (Nat × Nat)} (h : Prs H xs (A ++ B)) : ∃ rs us, xs = rs ++ us ∧ Prs H rs A ∧ Prs H us B := by
  obtain ⟨L, rfl, e, h3⟩ := h
  obtain ⟨L1, L2, rfl, e1, e2⟩ := List.map_eq_append_iff.mp e.symm
  exact ⟨_, _, List.map_append, ⟨L1, rfl, e1.symm, fun p hp => h3 p (List.mem_append.mpr (.inl hp))⟩, ⟨L2, rfl, e2.symm, fun p hp => h3 p (List.mem_append.mpr (.inr hp))⟩⟩
def lexN (p q : Nat × Nat) : Prop := p.1 < q.1 ∨ (p.1 = q.1 ∧ p.2 < q.2)
theorem side_rise {sd d : Nat} {r s : List Nat} : (side sd d r s).Pairwise lexN := by
  unfold side
  refine List.pairwise_map.mpr ?_
  refine List.Pairwise.filter _ ?_
  exact List.pairwise_lt_range.imp fun h => .inr ⟨rfl, h⟩
theorem side_fst {sd d : Nat} {r s : List Nat} : ∀ p ∈ side sd d r s, p.1 = sd := fun p hp => by
  unfold side at hp
  obtain ⟨i, _, rfl⟩ := List.mem_map.mp hp
  rfl
theorem sort_pairs {H : Hp} {xs ys : List V} {A B : List (Nat × Nat)} (h : Prs H xs (A ++ B)) (hA : A.Pairwise lexN) (hB : B.Pairwise lexN) (ab : ∀ a ∈ A, ∀ b ∈ B, b.1 < a.1) (h1 : SrtO.Srtd (ltP (keyP H)) ys) (h2 : SrtO.Stb (ltP (keyP H)) ys xs) : Prs H ys (B ++ A) := by
  obtain ⟨rs, us, rfl, pr, pu⟩ := h.split
  have key : ∀ {vs : List V} {ps : List (Nat × Nat)}, Prs H vs ps → ps.Pairwise lexN → vs.Pairwise fun x y => ltP (keyP H) y x = false := fun {vs ps} p hp => by
    have : (vs.map (keyP H)).Pairwise fun p q => SrtO.lexB q p = false := by
      rw [p.keys]
      refine List.pairwise_map.mpr (hp.imp fun {a b} h => ?_)
      refine SrtO.lexB_no.mpr ?_
      unfold lexN at h
      show ¬ (((b.1 : Nat) : Int) < ((a.1 : Nat) : Int) ∨ (((b.1 : Nat) : Int) = ((a.1 : Nat) : Int) ∧ ((b.2 : Nat) : Int) < ((a.2 : Nat) : Int)))
      omega
    exact List.pairwise_map.mp this
  have pall := Prs.app pu pr
  have hBA : (B ++ A).Pairwise lexN := List.pairwise_append.mpr ⟨hB, hA, fun b hb a ha => .inl (ab a ha b hb)⟩
  have s1 := key pall hBA
  have sw : SrtO.Stb (ltP (keyP H)) (us ++ rs) (rs ++ us) := SrtO.Stb.swap (ltP_swo _) fun a ha b hb => by
    have ka : keyP H a ∈ us.map (keyP H) := List.mem_map.mpr ⟨a, ha, rfl⟩
    have kb : keyP H b ∈ rs.map (keyP H) := List.mem_map.mpr ⟨b, hb, rfl⟩
    rw [pu.keys] at ka
    rw [pr.keys] at kb
    obtain ⟨p, hp, ep⟩ := List.mem_map.mp ka
    obtain ⟨q, hq, eq⟩ := List.mem_map.mp kb
    refine SrtO.lexB_iff.mpr (.inl ?_)
    rw [← ep, ← eq]
    have := ab q hq p hp
    show ((p.1 : Nat) : Int) < ((q.1 : Nat) : Int)
    omega
  have sym : SrtO.Stb (ltP (keyP H)) (rs ++ us) (us ++ rs) := ⟨sw.perm.symm, fun x => (sw.cls x).symm⟩
  rw [SrtO.stb_uniq (ltP_swo _) h1 s1 (h2.trans sym)]
  exact pall
end M
namespace M
open PySem PySem.Spec L2 Evl
open PyProof.Rows hiding St
theorem sml_dP {L : List (Nat × Nat)} {k : Nat} (h : ∀ p ∈ L, p.1 < 128 ∧ p.2 < 128) (hl : L.length ≤ k) : Sml (dP L) 2 (k * 17) := by
  refine Sml.up (sml_list (D := 1) (W := 16) fun d hd => ?_) (Nat.le_refl _) ?_
  · obtain ⟨p, hp, rfl⟩ := List.mem_map.mp hd
    have := h p hp
    exact sml_tup (ds := [.int (p.1 : Nat), .int (p.2 : Nat)]) fun d hd => by
      simp only [List.mem_cons, List.not_mem_nil, or_false] at hd
      rcases hd with rfl | rfl
      · exact sml_int this.1
      · exact sml_int this.2
  · rw [List.length_map]
    exact Nat.mul_le_mul_right _ hl
theorem sml_dPP {L : List (Nat × Nat)} {k : Nat} (h : ∀ p ∈ L, p.1 < 128 ∧ p.2 < 128) (hl : L.length ≤ k) : Sml (.list [dP L, dP L]) 3 (2 * (k * 17 + 1)) :=
  sml_list (ds := [dP L, dP L]) fun d hd => by
    simp only [List.mem_cons, List.not_mem_nil, or_false] at hd
    rcases hd with rfl | rfl <;> exact sml_dP h hl
theorem wins_small {d : Nat} {r s : List Nat} (hr : r.length ≤ 9) (hs : s.length ≤ 9) : (∀ p ∈ wins d r s, p.1 < 128 ∧ p.2 < 128) ∧ (wins d r s).length ≤ 18 := by
  cases d with
  | zero => exact ⟨fun p hp => (nomatch hp), Nat.zero_le _⟩
  | succ d =>
    show (∀ p ∈ winP d r s, _) ∧ (winP d r s).length ≤ 18
    refine ⟨fun p hp => ?_, ?_⟩
    · rcases mem_wins hp with ⟨h1, h2, _⟩ | ⟨h1, h2, _⟩ <;> omega
    · unfold winP
      rw [List.length_append]
      have h1 := side_len (sd := 0) (d := d) (r := r) (s := s)
      have h2 := side_len (sd := 1) (d := d) (r := s) (s := r)
      omega
theorem wins_al {d : Nat} {r s : List Nat} : wins d r s = [] ↔ Al d r s := by
  cases d with
  | zero => exact ⟨fun _ => trivial, fun _ => rfl⟩
  | succ d => exact wins_ne
/-- the picks told about -/
theorem turned_side {sd d : Nat} {r s : List Nat} : (side sd d r s).map (fun p => (1 - p.1, p.2)) = side (1 - sd) d r s := by
  unfold side
  rw [List.map_map]
  rfl
theorem turned_wins {H : Hp} {d : Nat} {r s : List Nat} {xs ys : List V} (h : Prs H xs ((wins d r s).map fun p => (1 - p.1, p.2))) (h1 : SrtO.Srtd (ltP (keyP H)) ys) (h2 : SrtO.Stb (ltP (keyP H)) ys xs) : Prs H ys (wins d s r) := by
  cases d with
  | zero =>
    have e := h.len
    have : xs = [] := List.length_eq_zero_iff.mp e
    subst this
    have : ys = [] := List.Perm.eq_nil h2.perm
    subst this
    exact .nil
  | succ d =>
    have h : Prs H xs ((winP d r s).map fun p => (1 - p.1, p.2)) := h
    unfold winP at h
    rw [List.map_append, turned_side, turned_side] at h
    refine sort_pairs (A := side 1 d r s) (B := side 0 d s r) h side_rise side_rise (fun a ha b hb => ?_) h1 h2
    rw [side_fst a ha, side_fst b hb]
    decide
theorem dN_nil : dN [] = dP [] := rfl
theorem mapP_take_succ {L : List (Nat × Nat)} {f : Nat × Nat → Nat × Nat} {j : Nat} {a : Nat × Nat} (h : L[j]? = some a) : (L.take (j + 1)).map f = (L.take j).map f ++ [f a] := by
  rw [List.take_succ, h, List.map_append]
  rfl
end M
namespace M
theorem mem_wins2 {d : Nat} {r s : List Nat} {p : Nat × Nat} (h : p ∈ wins d r s) : ∃ e, d = e + 1 ∧ ((p.1 = 0 ∧ p.2 < r.length ∧ good e r s p.2 = []) ∨ (p.1 = 1 ∧ p.2 < s.length ∧ good e s r p.2 = [])) := by
  cases d with
  | zero => exact nomatch h
  | succ d => exact ⟨d, rfl, mem_wins h⟩
end M
end

section
set_option Elab.async false
set_option linter.all false
set_option maxRecDepth 100000
set_option maxHeartbeats 2000000
/-! k07: classes of rows -/
namespace M
open PySem PySem.Spec L2 Evl
open PyProof.Rows hiding St
/-- what first_alike answers: the first of the numbers whose row is alike, or none -/
def FirstA (d : Nat) (R : List Str) (ns : List Nat) (y : Str) (v : V) : Prop :=
  (∃ (i n : Nat) (s : Str), ns[i]? = some n ∧ R[n]? = some s ∧ v = .int (n : Nat) ∧ Al d (codes s) (codes y)) ∨ (v = .non ∧ ∀ n ∈ ns, ∀ s, R[n]? = some s → ¬ Al d (codes s) (codes y))
def sp_first (P : Program) (w : World) (C : Addr) : Sp := fun vs H Q _ => ∃ (k : KC) (Ls : List Addr) (t : KTab) (d : Nat) (ra ia : Addr) (R : List Str) (ns : List Nat) (y : Str), vs = [.ref k.x, .ref ra, .ref ia, .str y, .int (d : Nat)] ∧ KS P w C k Ls H t ∧ d ≤ k.D ∧ d ≤ 8 ∧ (∀ s ∈ R, codes s ∈ k.S) ∧ codes y ∈ k.S ∧
  H ra = some (.lst (R.map V.str)) ∧ H ia = some (.lst (natsV ns)) ∧ ra ∉ k.A.all ∧ ia ∉ k.A.all ∧ (∀ n ∈ ns, n < R.length) ∧
  ∀ (v : V) t' Ls' H', KS P w C k Ls' H' t' → Stp k Ls H t Ls' H' t' → FirstA d R ns y v → Q v H'
end M
end

section
set_option Elab.async false
set_option linter.all false
set_option maxRecDepth 100000
set_option maxHeartbeats 2000000
/-! repeats settle; rows drawn by lists of letters -/
namespace M
open PySem PySem.Spec L2 Evl
open PyProof.Rows hiding St
theorem rep_add (r : List Nat) (a b : Nat) : rep r (a + b) = rep r a ++ rep r b := by
  unfold rep
  rw [← List.replicate_append_replicate, List.flatten_append]
theorem rep_take {r : List Nat} {t n : Nat} (h : t ≤ n) : (rep r n).take (t * r.length) = rep r t := by
  obtain ⟨k, rfl⟩ : ∃ k, n = t + k := ⟨n - t, by omega⟩
  rw [rep_add, ← rep_len r t, List.take_left]
/-- from t times on repeats are alike, one less is not -/
def Stl (d : Nat) (r : List Nat) (t : Nat) : Prop := Al d (rep r t) (rep r (t + 1)) ∧ ∀ e, e < t → ¬ Al d (rep r e) (rep r (e + 1))
theorem Stl.one {d : Nat} {r : List Nat} {t s : Nat} (h : Stl d r t) (g : Stl d r s) : t = s := by
  rcases Nat.lt_trichotomy t s with q | q | q
  · exact absurd h.1 (g.2 t q)
  · exact q
  · exact absurd g.1 (h.2 s q)
theorem al_high (d : Nat) (r : List Nat) : Al d (rep r (2 ^ d - 1)) (rep r (2 ^ d - 1 + 1)) := al_rep r d (.inr ⟨Nat.le_refl _, by omega⟩)
theorem Stl.le {d : Nat} {r : List Nat} {t : Nat} (h : Stl d r t) : t ≤ 2 ^ d - 1 := by
  by_cases q : t ≤ 2 ^ d - 1
  · exact q
  · exact absurd (al_high d r) (h.2 _ (by omega))
theorem stl_nil (d : Nat) : Stl d [] 0 := ⟨by
  have : rep [] 1 = [] := List.length_eq_zero_iff.mp (by rw [rep_len]; simp)
  rw [this]
  exact Al.refl _ _, fun e h => by omega⟩
theorem stl_one (d c : Nat) : Stl d [c] (2 ^ d - 1) := ⟨al_high d _, fun e h a => by
  rw [rep_one, rep_one, one_al] at a
  omega⟩
theorem sub_rep {z : Str} {n : Nat} (hz : Abc z) (h : z.length * n ≤ 60) : Sub (subsAll [rep (codes z) n]) 8 := by
  have e1 : (rep (codes z) n).length = z.length * n := by rw [rep_len, codes_len, Nat.mul_comm]
  refine sub_all (fun r hr => ?_) (fun r hr c hc => ?_) ?_
  · obtain rfl := List.mem_singleton.mp hr
    omega
  · obtain rfl := List.mem_singleton.mp hr
    unfold rep at hc
    obtain ⟨l, hl, hcl⟩ := List.mem_flatten.mp hc
    rw [(List.mem_replicate.mp hl).2] at hcl
    have := hz c hcl
    have : c ≤ 122 := this.2
    omega
  · unfold subsAll
    simp only [List.flatMap_cons, List.flatMap_nil, List.length_cons, List.length_append, List.length_nil, subs_len]
    have h1 : ((rep (codes z) n).length + 1) * ((rep (codes z) n).length + 1) ≤ 61 * 61 := Nat.mul_le_mul (by omega) (by omega)
    omega
theorem rep_in {S : List (List Nat)} {D : Nat} (hS : Sub S D) {z : Str} {t n : Nat} (h : rep (codes z) n ∈ S) (ht : t ≤ n) : codes (Txt.mul z ((t : Nat) : Int)) ∈ S := by
  rw [codes_times, Int.toNat_natCast, ← rep_take ht]
  exact hS.tak _ h _
def sp_settled : Sp := fun vs H Q _ => ∃ (d : Nat) (z : Str) (_ : Unit), vs = [.str z, .int (d : Nat)] ∧ Abc z ∧ d ≤ 6 ∧ z.length * 2 ^ d ≤ 60 ∧ ∀ (t : Nat) H', Ex H H' → Stl d (codes z) t → Q (.int (t : Nat)) H'
def sp_lineL : Sp := fun vs H Q _ => ∃ (H0 : Hp) (p l : Addr) (m n : Nat) (cs : List Nat), vs = [.ref p, .ref l, .int n] ∧ Pl H0 H p m ∧ m + n + 2 ≤ 2 ^ 20 ∧ n ≤ 60 ∧ H0 l = some (.lst (oneV cs)) ∧ 0 < cs.length ∧ cs.length ≤ 60 ∧ (∀ c ∈ cs, 97 ≤ c ∧ c ≤ 122) ∧
  ∀ (w : Str) (H' : Hp), Pl H0 H' p (m + n + 2) → Abc w → w.length ≤ n → (∀ c ∈ w.cps.toList, c ∈ cs) → Q (.str w) H'
theorem oneV_get {cs : List Nat} {k : Int} (h0 : 0 ≤ k) (h1 : k < cs.length) : ∃ c, atI (oneV cs) k = some (.str ⟨#[c]⟩) ∧ c ∈ cs := by
  obtain ⟨j, rfl⟩ : ∃ j : Nat, k = j := ⟨k.toNat, by omega⟩
  have hj : j < cs.length := by omega
  exact ⟨cs[j], atI_nat (by unfold oneV; simp [hj]), List.getElem_mem hj⟩
@[reducible] def rLenS (K : PySem.W.Frag) : List V → Hp → VK → Prop := fun xs H Q => ∃ p ys, xs = [.ref p] ∧ (SqL K H p ys ∨ SqT K H p ys) ∧ Q (.int ys.length) H
theorem call_lenS {X : Cx} : CallR X (.builtin "len") (rLenS X.K) := call_len_seq
end M
end

section
set_option Elab.async false
set_option linter.all false
set_option maxRecDepth 100000
set_option maxHeartbeats 2000000
/-! errors raised on the way, caught and told of -/
namespace M
open PySem L2 Evl
open PyProof.Rows hiding St
/-- isinstance(e, (A, B, ..)) in the suite of except .. as e -/
def rIsST (K : PySem.W.Frag) (a : Addr) (cls : Value) (d : Option Addr) : List V → Hp → VK → Prop := fun xs H Q => ∃ (C fI dd tp : Addr) (fs : List (Str × V)) (cs : List V) (us : List Value) (b : Bool), xs = [.ref a, .ref tp] ∧ cls = .ref C ∧ XC K C fI ∧ d = some dd ∧ H dd = some (.xd fs) ∧
  H tp = some (.tup cs) ∧ Paired ClsV cs us ∧ PySem.W.kitAny K (.ref C) us = some b ∧ Q (.bl b) H
theorem call_isST {X : Cx} {a : Addr} {oe : Obj} {cls : Value} {d : Option Addr} {pn : List (Addr × Obj)} (hz : Zc cls d oe) (hf : ∃ vs, oe.data = .fields vs) : CallR (X.suite a ((a, oe) :: pn)) (.builtin "isinstance") (rIsST X.K a cls d) := by
  intro pins s σ H xs us Q I r h
  obtain ⟨C, fI, dd, tp, fs, cs, ws, b, rfl, ec, k, ed, ea, hT, kc, e, q⟩ := h
  subst ec
  subst ed
  obtain ⟨u1, u2, rfl, r1, r2⟩ := vals2 r
  cases (show u1 = Value.ref a from r1)
  cases (show u2 = Value.ref tp from r2)
  obtain ⟨ha, _⟩ := I.pin (a, oe) (List.mem_append_left _ List.mem_cons_self)
  obtain ⟨vs, hd⟩ := hf
  have hx : ObjOk X.prog X.w H s.heap dd (.xd fs) := I.hok dd _ ea
  obtain ⟨mA, hns, hr⟩ := hx
  obtain ⟨od, ho, hl⟩ := lookIn_ns hns
  have J : PySem.W.InstAt s.heap a oe C (some od) := ⟨ha, hz.1, by unfold PySem.W.notCls; rw [hd] <;> rfl, by rw [hz.2]; exact ho⟩
  obtain ⟨_, its, rv, o, h1, h2, n, h3⟩ := (show ObjOk X.prog X.w H s.heap tp (.tup cs) from I.hok tp _ hT)
  have e3 := ClsV.all kc rv
  subst e3
  obtain ⟨oc, odd, dt, sl⟩ := o
  simp only at h2 h3
  subst h2 h3
  exact PySem.W.kia_tup (PySem.W.kitx_exc k.cl k.ga k.gt k.sb k.ca k.ng k.tk k.mr) I.kIn J h1 e (fun z => nomatch z) fun tk => ⟨.bl b, H, I.kept (t' := tk) fun _ _ z => z, rfl, q⟩
/-- e.value there -/
def tXv (K : PySem.W.Frag) (a : Addr) (cls : Value) (d : Option Addr) (te : TE) : TE := fun σ H Q => te σ H fun x H1 => x = .ref a ∧ ∃ (C fI dd : Addr) (fs : List (Str × V)) (v : V), cls = .ref C ∧ XC K C fI ∧ d = some dd ∧ H1 dd = some (.xd fs) ∧ fs.lookup ("value" : Str) = some v ∧ Q v H1
theorem pe_xv {X : Cx} {a : Addr} {oe : Obj} {cls : Value} {d : Option Addr} {pn : List (Addr × Obj)} {e : Expr} {te : TE} {pos : Pos}
    (hz : Zc cls d oe) (hf : ∃ vs, oe.data = .fields vs) (he : PE (X.suite a ((a, oe) :: pn)) e te) (hb : attributeBase e "value" X.env (eval e X.env) = eval e X.env := by rfl) :
    PE (X.suite a ((a, oe) :: pn)) (.Attribute e "value" pos) (tXv X.K a cls d te) := by
  refine ⟨fun pins s σ H Q I h => ?_⟩
  refine attr_of hb (thn (he.run pins s σ H _ I h) fun u s1 hh => ?_)
  obtain ⟨x, H1, I1, rx, ex, C, fI, dd, fs, v, ec, T, ed, ea, l, q⟩ := hh
  subst ex
  obtain rfl : u = Value.ref a := rx
  subst ec
  subst ed
  obtain ⟨ha, _⟩ := I1.pin (a, oe) (List.mem_append_left _ List.mem_cons_self)
  obtain ⟨vs, hd⟩ := hf
  have hx : ObjOk X.prog X.w H1 s1.heap dd (.xd fs) := I1.hok dd _ ea
  obtain ⟨mA, hns, hr⟩ := hx
  obtain ⟨od, ho, hl⟩ := lookIn_ns hns
  obtain ⟨u, hu, ru⟩ := RelO.some_of (v := v) (o := mA "value") (by rw [← l]; exact hr "value")
  have J : PySem.W.InstAt s1.heap a oe C (some od) := ⟨ha, hz.1, by unfold PySem.W.notCls; rw [hd] <;> rfl, by rw [hz.2]; exact ho⟩
  exact HandSPX.exc_get I1.kIn J T.ga T.gt T.sb (PySem.W.findObj_own T.hd T.noV rfl (by rw [hl, hu])) (handed_of ru) ⟨v, H1, I1.tok _, ru, q⟩
/-! ### a call by keyword in the body of try -/
def tCallKS (sp : Sp) (gV : List V → List V → List V) (E : L2.St → XK) (tk : TA) : TE := fun σ H Q => tk σ H fun zs H1 => sp (gV [] zs) H1 Q (E σ)
section
variable {X : Cx} {CX : CXT} {k : Nat} {f C : Addr} {fd : FuncData} {ps ks : List Str} {sp : Sp} {E : L2.St → XK} {x m : Str} {p pos apos : Pos} {kws : List Keyword} {tk : TA} {g : List Value → List Value → List Value} {gV : List V → List V → List V}
theorem run_fnkS {pins : List (Addr × Obj)} {σ : L2.St} {H : Hp} {s : Shared} {Q : VK} {us ws : List Value} {vs zs : List V} (F : FnOk X.prog X.w X.K X.mg X.base CX k f fd ps sp) (hr : Room k X.A) (hb : KBinds X.K fd ps ks g gV) (hx : PassesAt CX X σ (E σ))
    (I : Inv X pins σ H s) (r : Vals vs us) (rz : Vals zs ws) (h : sp (gV vs zs) H Q (E σ)) : wpAny (model X.prog X.w) X.A (call (.ref f) us (ks.zip ws)) (EP X pins σ Q) X.xe s := by
  have r2 := hb.rel r rz
  have hl : (g us ws).length = ps.length := by rw [← r2.length]; exact F.len _ _ _ _ h
  refine wpAny_call (codeAny_mono (F.run X.A X.stack s H ⟨us, ks.zip ws⟩ (g us ws) (gV vs zs) Q (E σ) hr I.env0 (hb.to s us ws I.kIn hl) r2 h) fun r s' hq => ?_)
  cases r with
  | error e => exact hx pins H s e s' I hq
  | ok fl =>
    cases fl with
    | ret u => exact I.after hq
    | next => exact False.elim hq
    | brk => exact False.elim hq
    | cont => exact False.elim hq
theorem pe_callKS0 (F : FnOk X.prog X.w X.K X.mg X.base CX k f fd ps sp) (hr : Room k X.A) (hg : Gl X x) (hm : X.mg x = some (.ref f)) (hk : PySem.W.keepIn X.K (.ref f) = true) (hb : KBinds X.K fd ps ks g gV) (hx : ∀ σ, PassesAt CX X σ (E σ))
    (hkw : PK X kws tk) (hall : (backToKw pos (keywordEach kws X.env)).all (·.1.isSome) = true := by rfl) (hks : (backToKw pos (keywordEach kws X.env)).filterMap (·.1) = ks := by rfl)
    (hdb : (x == ("__debug__" : Str)) = false := by decide) (hpl : ((backTo pos (starEach [] X.env)).any (·.1) || (backToKw pos (keywordEach kws X.env)).any (·.1.isNone)) = false := by rfl) :
    PE X (.Call (.Name x p) [] kws pos) (tCallKS sp gV E tk) := by
  constructor
  intro pins s σ H Q I h
  refine wpAny_Call_Name_kw (ld_glob I hg hm (PySem.W.callWith_KW0 (h₀ := X.base) I.ok.mod.kin hk hall (thn (hkw.run pos pins s σ H _ I h) ?_) hpl) hdb)
  rintro ws s2 ⟨zs, H2, I2, rz, q2⟩
  refine ⟨I2.kIn, ?_⟩
  rw [hks]
  exact run_fnkS F hr hb (hx σ) I2 .nil rz q2
end
/-! ### raise C(v), C one of the package's classes -/
def Thr (C : Addr) (v : V) (H : Hp) (E : XK) : Prop := ∀ d H', Ex H H' → H' d = some (.xd [("value", v)]) → E (.ref C) (some d) H'
theorem Thr.up {C : Addr} {v : V} {H H' : Hp} {E : XK} (h : Thr C v H E) (x : Ex H H') : Thr C v H' E := fun d G y e => h d G (x.trans y) e
theorem raised {K : PySem.W.Frag} {C fI : Addr} (X : XC K C fI) {H : Hp} {v : V} {E : XK} (k : Thr C v H E) : ∀ e, H e = none →
    sp_init K [.ref e, v] (upd H e (exo e C none)) (fun u G => u = .non ∧ ∃ (d : Addr) (fs : List (Str × V)), G e = some (exo e C (some d)) ∧ G d = some (exd d fs) ∧ H d = none ∧ E (.ref C) (some d) (upd (del G e) d (.xd fs))) (fun _ _ _ => False) := fun e he => by
  refine ⟨e, C, fI, v, rfl, X, upd_same, fun d hd hne => ⟨rfl, d, [("value", v)], upd_same, ?_, ?_, ?_⟩⟩
  · rw [upd_ne hne, upd_same]
  · rwa [upd_ne hne] at hd
  · have hd' : H d = none := by rwa [upd_ne hne] at hd
    refine k d _ (fun b o hb => ?_) upd_same
    have n1 : b ≠ e := ne_of_none hb he
    have n2 : b ≠ d := ne_of_none hb hd'
    rw [upd_ne n2, del_ne n1, upd_ne n1, upd_ne n2, upd_ne n1]
    exact hb
/-! ### the first sign that is no letter -/
def isLet (c : Nat) : Bool := decide (97 ≤ c ∧ c ≤ 122)
def bad (r : List Nat) : Option Nat := r.findIdx? fun c => !isLet c
theorem bad_none {z : Str} : bad (codes z) = none ↔ Abc z := by
  unfold bad Abc isLet
  rw [List.findIdx?_eq_none_iff]
  constructor
  · intro h c hc
    have := h c hc
    simpa using this
  · intro h c hc
    have := h c hc
    simpa using this
theorem bad_some {r : List Nat} {i c : Nat} (h1 : ∀ j c, j < i → r[j]? = some c → isLet c = true) (h2 : r[i]? = some c) (h3 : isLet c = false) : bad r = some i := by
  unfold bad
  have hi := (List.getElem?_eq_some_iff.mp h2).1
  rw [List.findIdx?_eq_some_iff_getElem]
  refine ⟨hi, ?_, fun j hj => ?_⟩
  · rw [(List.getElem?_eq_some_iff.mp h2).2, h3]; rfl
  · rw [h1 j _ hj (List.getElem?_eq_getElem (by omega))]; decide
theorem bad_all {r : List Nat} (h : ∀ j c, j < r.length → r[j]? = some c → isLet c = true) : bad r = none := by
  unfold bad
  rw [List.findIdx?_eq_none_iff]
  intro c hc
  obtain ⟨i, hi⟩ := List.getElem?_of_mem hc
  rw [h i c (List.getElem?_eq_some_iff.mp hi).1 hi]; rfl
def sp_check_rowX (C : Addr) : Sp := fun vs H Q E => ∃ (z : Str) (_ _ : Unit), vs = [.str z] ∧ z.length ≤ 1000 ∧ (bad (codes z) = none → ∀ H', Ex H H' → Q .non H') ∧ ∀ i, bad (codes z) = some i → Thr C (.int (i : Nat)) H E
def sp_not_negX (C : Addr) : Sp := fun vs H Q E => ∃ (n : Int) (_ _ : Unit), vs = [.int n] ∧ (0 ≤ n → Q .non H) ∧ (n < 0 → Thr C (.int n) H E)
/-- what is raised for a row and a depth -/
def due28C (CR CN : Addr) (z : Str) (n : Int) : Option (Addr × V) := match bad (codes z) with
  | some i => some (CR, .int (i : Nat))
  | none => if n < 0 then some (CN, .int n) else none
def sp_settledX (CR CN : Addr) : Sp := fun vs H Q E => ∃ (n : Int) (z : Str) (_ : Unit), vs = [.str z, .int n] ∧ z.length ≤ 60 ∧ (∀ C v, due28C CR CN z n = some (C, v) → Thr C v H E) ∧
  (due28C CR CN z n = none → ∀ d : Nat, n = (d : Nat) → d ≤ 6 ∧ z.length * 2 ^ d ≤ 60 ∧ ∀ (t : Nat) H', Ex H H' → Stl d (codes z) t → Q (.int (t : Nat)) H')
/-- of no class of a list -/
theorem kitAny_no {K : PySem.W.Frag} {cs : List Addr} (kit : ∀ (i j : Nat) (c d : Addr), cs[i]? = some c → cs[j]? = some d → PySem.W.kitOne K (.ref c) (.ref d) = some (decide (i = j ∨ j = 11))) {i : Nat} {c : Addr} (hi : cs[i]? = some c) :
    ∀ (js : List Nat) (ds : List Addr), js.map (fun j => cs[j]?) = ds.map some → (js.all fun j => !decide (i = j ∨ j = 11)) = true → PySem.W.kitAny K (.ref c) (ds.map Value.ref) = some false
  | [], [], _, _ => rfl
  | j :: js, d :: ds, h, g => by
    rw [List.map_cons, List.map_cons] at h
    injection h with h1 h2
    rw [List.all_cons, Bool.and_eq_true] at g
    have e := kit i j c d hi h1
    rw [Bool.not_eq_true'] at g
    rw [g.1] at e
    rw [List.map_cons]
    exact kitAny_cons e (fun _ => kitAny_no kit hi js ds h2 g.2) (fun z => nomatch z)
  | [], _ :: _, h, _ => nomatch h
  | _ :: _, [], h, _ => nomatch h
/-- what is told of it -/
def due28 (z : Str) (n : Int) : List V := match bad (codes z) with
  | some i => [.str "r", .int (i : Nat)]
  | none => if n < 0 then [.str "n", .int n] else []
def sp_caught28 : Sp := fun vs H Q _ => ∃ (n : Int) (z : Str) (b : Bool), vs = [.str z, .int n, .bl b] ∧ z.length ≤ 60 ∧ (∀ d : Nat, n = (d : Nat) → d ≤ 6 ∧ z.length * 2 ^ d ≤ 60) ∧
  ∀ (l : Addr) H', Ex H H' → H' l = some (.lst (due28 z n)) → Q (.ref l) H'
theorem due28_cases {CR CN C : Addr} {z : Str} {n : Int} {v : V} (h : due28C CR CN z n = some (C, v)) : (C = CR ∧ due28 z n = [.str "r", v]) ∨ (C = CN ∧ due28 z n = [.str "n", v]) := by
  unfold due28C at h
  unfold due28
  split at h
  · cases h
    exact .inl ⟨rfl, rfl⟩
  · split at h
    · rename_i hn
      cases h
      rw [if_pos hn]
      exact .inr ⟨rfl, rfl⟩
    · cases h
theorem due28_none {CR CN : Addr} {z : Str} {n : Int} (h : due28C CR CN z n = none) : bad (codes z) = none ∧ 0 ≤ n ∧ due28 z n = [] := by
  unfold due28C at h
  unfold due28
  split at h
  · cases h
  · split at h
    · cases h
    · rename_i e hn
      rw [if_neg hn]
      exact ⟨e, by omega, rfl⟩
theorem due28_bad {CR CN : Addr} {z : Str} {n : Int} {i : Nat} (h : bad (codes z) = some i) : due28C CR CN z n = some (CR, .int (i : Nat)) := by unfold due28C; rw [h]
theorem due28_neg {CR CN : Addr} {z : Str} {n : Int} (h : bad (codes z) = none) (hn : n < 0) : due28C CR CN z n = some (CN, .int n) := by
  unfold due28C
  rw [h]
  exact if_pos hn
theorem due28_ok {CR CN : Addr} {z : Str} {n : Int} (h : bad (codes z) = none) (hn : ¬ n < 0) : due28C CR CN z n = none := by
  unfold due28C
  rw [h]
  exact if_neg hn
end M
namespace M
open PySem L2 Evl
open PyProof.Rows hiding St
theorem walk_enumS {x : Str} : Walk (Ites x) x.cps.size (fun _ => True) (fun i H v H' => ∃ T c, v = .ref T ∧ H T = none ∧ H' = upd H T (.tup [.int (i : Nat), .str ⟨#[c]⟩]) ∧ x.cps[i]? = some c) :=
  ⟨fun _ _ hi _ => hi, fun _ _ => Nat.le_refl _, fun i H v H' _ _ y => by
    obtain ⟨T, c, h1, h2, h3, h4⟩ := y
    exact ⟨T, c, h1, h2, h3, h4⟩⟩
/-- the signs that are no letters, by their places below p -/
def bads (r : List Nat) (p : Nat) : List Nat := (List.range p).filter fun i => match r[i]? with | some c => !isLet c | none => false
theorem bads_succ {r : List Nat} {p c : Nat} (h : r[p]? = some c) : bads r (p + 1) = bads r p ++ (if isLet c = true then [] else [p]) := by
  unfold bads
  rw [List.range_succ, List.filter_append]
  congr 1
  rw [List.filter_cons]
  simp only [h]
  cases isLet c <;> rfl
theorem bads_len (r : List Nat) (p : Nat) : (bads r p).length ≤ p := by
  have := List.length_filter_le (fun i => match r[i]? with | some c => !isLet c | none => false) (List.range p)
  rwa [List.length_range] at this
theorem bads_bad (r : List Nat) : bad r = (bads r r.length)[0]? := by
  have gen : ∀ p, p ≤ r.length → (∀ i, (bads r p)[0]? = some i → bad r = some i) ∧ ((bads r p)[0]? = none → ∀ j c, j < p → r[j]? = some c → isLet c = true) := by
    intro p
    induction p with
    | zero => exact fun _ => ⟨(fun i h => nomatch h), fun _ j c h => by omega⟩
    | succ p ih =>
      intro hp
      obtain ⟨ih1, ih2⟩ := ih (by omega)
      have hc : r[p]? = some r[p] := List.getElem?_eq_getElem (by omega)
      rw [bads_succ hc]
      cases e : (bads r p)[0]? with
      | some i =>
        have hne : (bads r p) ≠ [] := fun z => by rw [z] at e; exact nomatch e
        obtain ⟨x, xs, hx⟩ : ∃ x xs, bads r p = x :: xs := by
          cases q : bads r p with
          | nil => exact absurd q hne
          | cons x xs => exact ⟨x, xs, rfl⟩
        have ee : ((bads r p) ++ (if isLet r[p] = true then [] else [p]))[0]? = some i := by rw [hx] at e ⊢; exact e
        rw [ee]
        exact ⟨fun j hj => by cases hj; exact ih1 i e, fun z => nomatch z⟩
      | none =>
        have hnil : bads r p = [] := by
          cases q : bads r p with
          | nil => rfl
          | cons x xs => rw [q] at e; exact nomatch e
        have low := ih2 e
        rw [hnil, List.nil_append]
        cases b : isLet r[p] with
        | true =>
          rw [if_pos rfl]
          refine ⟨(fun i h => nomatch h), fun _ j c hj hjc => ?_⟩
          by_cases q : j < p
          · exact low j c q hjc
          · obtain rfl : j = p := by omega
            rw [hc] at hjc
            cases hjc
            exact b
        | false =>
          rw [if_neg (by decide)]
          exact ⟨fun i h => by cases h; exact bad_some low hc b, fun z => nomatch z⟩
  obtain ⟨g1, g2⟩ := gen r.length (Nat.le_refl _)
  cases e : (bads r r.length)[0]? with
  | some i => exact g1 i e
  | none => exact bad_all (g2 e)
end M
namespace M
open PySem L2 Evl
open PyProof.Rows hiding St
theorem sml_fin2 : ∀ n : Fin 256, ((PyData.int ((n.val : Int) - 128)).showable && (!(PyData.int ((n.val : Int) - 128)).hasDict && ((PyData.int ((n.val : Int) - 128)).leavesShort 8 && (decide ((PyData.int ((n.val : Int) - 128)).depth ≤ 0) && decide ((PyData.int ((n.val : Int) - 128)).weight ≤ 9))))) = true := by decide +kernel
theorem sml_int2 {n : Int} (h : -128 ≤ n) (g : n < 128) : Sml (.int n) 0 9 := by
  have := sml_fin2 ⟨(n + 128).toNat, by omega⟩
  have e : (((n + 128).toNat : Nat) : Int) - 128 = n := by omega
  simp only [Bool.and_eq_true, decide_eq_true_eq, Bool.not_eq_true', e] at this
  exact ⟨this.1, this.2.1, this.2.2.1, this.2.2.2.1, this.2.2.2.2⟩
theorem sml_str {z : Str} (h : ((PyData.str z).showable && (!(PyData.str z).hasDict && ((PyData.str z).leavesShort 8 && (decide ((PyData.str z).depth ≤ 0) && decide ((PyData.str z).weight ≤ 9))))) = true) : Sml (.str z) 0 9 := by
  simp only [Bool.and_eq_true, decide_eq_true_eq, Bool.not_eq_true'] at h
  exact ⟨h.1, h.2.1, h.2.2.1, h.2.2.2.1, h.2.2.2.2⟩
def due28D (z : Str) (n : Int) : List PyData := match bad (codes z) with
  | some i => [.str "r", .int (i : Nat)]
  | none => if n < 0 then [.str "n", .int n] else []
theorem dp_due28 {K : PySem.W.Frag} {H : Hp} {z : Str} {n : Int} : DpAll K H (due28 z n) (due28D z n) := by
  unfold due28 due28D
  split
  · exact .cons (.str _) (.cons (.int _) .nil)
  · split
    · exact .cons (.str _) (.cons (.int _) .nil)
    · exact .nil
theorem bad_lt {r : List Nat} {i : Nat} (h : bad r = some i) : i < r.length := by
  unfold bad at h
  rw [List.findIdx?_eq_some_iff_getElem] at h
  exact h.1
theorem sml_due28 {z : Str} {n : Int} (hl : z.length ≤ 100) (h1 : -128 ≤ n) (h2 : n < 128) : Sml (.list (due28D z n)) 1 20 := by
  have sr : Sml (.str "r") 0 9 := sml_str (by decide +kernel)
  have sn : Sml (.str "n") 0 9 := sml_str (by decide +kernel)
  unfold due28D
  have two : ∀ {a b : PyData}, Sml a 0 9 → Sml b 0 9 → Sml (.list [a, b]) 1 20 := fun {a b} ha hb => sml_list (ds := [a, b]) fun d hd => by
    simp only [List.mem_cons, List.not_mem_nil, or_false] at hd
    rcases hd with rfl | rfl <;> assumption
  split
  · rename_i i e
    have := bad_lt e
    rw [codes_len] at this
    exact two sr (sml_int2 (by omega) (by omega))
  · split
    · exact two sn (sml_int2 h1 h2)
    · exact (sml_list (ds := []) (D := 0) (W := 9) fun d hd => nomatch hd).up (by decide) (by decide)
theorem sml_due28s {z : Str} {n : Int} (hl : z.length ≤ 100) (h1 : -128 ≤ n) (h2 : n < 128) : Sml (.list [.list (due28D z n), .list (due28D z n)]) 2 42 :=
  sml_list (ds := [.list (due28D z n), .list (due28D z n)]) fun d hd => by
    simp only [List.mem_cons, List.not_mem_nil, or_false] at hd
    rcases hd with rfl | rfl <;> exact sml_due28 hl h1 h2
theorem str_get {z : Str} {k : Int} (h0 : 0 ≤ k) (h1 : k < z.length) : ∃ c, atI z.cps.toList k = some c ∧ c ∈ z.cps.toList := by
  obtain ⟨j, rfl⟩ : ∃ j : Nat, k = j := ⟨k.toNat, by omega⟩
  have lt : j < z.cps.toList.length := by
    rw [Array.length_toList]
    have : ((j : Nat) : Int) < z.cps.size := h1
    omega
  exact ⟨z.cps.toList[j], atI_nat (by simp [lt]), List.getElem_mem lt⟩
end M
namespace M
open PySem L2 Evl
open PyProof.Rows hiding St
def exmChk (K : PySem.W.Frag) (p : Addr) (cs : List Addr) : Bool := cs.all fun c => PySem.W.exmOne K (.ref c) (.ref p) == some true
theorem exm_of {K : PySem.W.Frag} {p : Addr} {cs : List Addr} (h : exmChk K p cs = true) (i : Nat) (c : Addr) (hi : cs[i]? = some c) : PySem.W.exmOne K (.ref c) (.ref p) = some true := by
  unfold exmChk at h
  exact beq_iff_eq.mp (List.all_eq_true.mp h _ (List.mem_of_getElem? hi))
end M
end

section
set_option Elab.async false
set_option linter.all false
set_option maxRecDepth 100000
set_option maxHeartbeats 2000000
/-! blocks: rows and lists of rows, with times -/
namespace M
open PySem PySem.Spec L2 Evl
open PyProof.Rows hiding St
theorem str_join : ∀ ys : List Str, (Str.join "" ys).cps.toList = (ys.map codes).flatten
  | [] => rfl
  | [y] => by
    show y.cps.toList = _
    simp [codes]
  | y :: y' :: ys => by
    have ih := str_join (y' :: ys)
    show (y ++ "" ++ Str.join "" (y' :: ys)).cps.toList = _
    have e1 : (y ++ "" ++ Str.join "" (y' :: ys)).cps.toList = codes (y ++ "" ++ Str.join "" (y' :: ys)) := rfl
    rw [e1, codes_app, codes_app, List.map_cons, List.flatten_cons]
    have e2 : codes ("" : Str) = [] := rfl
    rw [e2, List.append_nil]
    congr 1
theorem codes_join (ys : List Str) : codes (Txt.join "" ys) = (ys.map codes).flatten := by
  have : Txt.join "" ys = Str.join "" ys := PySem.StrLaws.glued_eq_join _ _
  rw [this]
  exact str_join ys
inductive Pa where
  | row (z : Str)
  | lst (bs : List (Str × Int))
abbrev Bs := List (Pa × Int)
def Pa.isRow : Pa → Bool
  | .row _ => true
  | .lst _ => false
def rowsB (bs : List (Str × Int)) : Bs := bs.map fun b => (.row b.1, b.2)
def cutT (m : Nat) (t : Int) : Nat := (min t (m : Int)).toNat
def wrI (m : Nat) (bs : List (Str × Int)) : List Nat := (bs.map fun b => rep (codes b.1) (cutT m b.2)).flatten
def wrP (m : Nat) : Pa → List Nat
  | .row z => codes z
  | .lst bs => wrI m bs
def wr (m : Nat) (bs : Bs) : List Nat := (bs.map fun b => rep (wrP m b.1) (cutT m b.2)).flatten
theorem wr_rows (m : Nat) (bs : List (Str × Int)) : wr m (rowsB bs) = wrI m bs := by
  unfold wr wrI rowsB
  rw [List.map_map]
  rfl
/-- laid in the heap -/
def PaAt (H : Hp) (v : V) : Pa → Prop
  | .row z => v = .str z
  | .lst bs => ∃ a vs, v = .ref a ∧ H a = some (.lst vs) ∧ vs.length = bs.length ∧ ∀ (i : Nat) (b : Str × Int), bs[i]? = some b → ∃ t, vs[i]? = some (.ref t) ∧ H t = some (.tup [.str b.1, .int b.2])
def ItsAt (H : Hp) (vs : List V) (bs : Bs) : Prop := vs.length = bs.length ∧ ∀ (i : Nat) (b : Pa × Int), bs[i]? = some b → ∃ t v1, vs[i]? = some (.ref t) ∧ H t = some (.tup [v1, .int b.2]) ∧ PaAt H v1 b.1
def BsAt (H : Hp) (v : V) (bs : Bs) : Prop := ∃ a vs, v = .ref a ∧ H a = some (.lst vs) ∧ ItsAt H vs bs
section
variable {H H' : Hp} {v : V} {p : Pa} {bs : Bs} {vs : List V}
theorem PaAt.up (h : PaAt H v p) (x : Ex H H') : PaAt H' v p := by
  cases p with
  | row z => exact h
  | lst bs =>
    obtain ⟨a, vs, e1, e2, e3, e4⟩ := h
    exact ⟨a, vs, e1, x _ _ e2, e3, fun i b hb => let ⟨t, g1, g2⟩ := e4 i b hb; ⟨t, g1, x _ _ g2⟩⟩
theorem ItsAt.up (h : ItsAt H vs bs) (x : Ex H H') : ItsAt H' vs bs := ⟨h.1, fun i b hb => let ⟨t, v1, g1, g2, g3⟩ := h.2 i b hb; ⟨t, v1, g1, x _ _ g2, g3.up x⟩⟩
theorem BsAt.up (h : BsAt H v bs) (x : Ex H H') : BsAt H' v bs := by
  obtain ⟨a, vs, e1, e2, e3⟩ := h
  exact ⟨a, vs, e1, x _ _ e2, e3.up x⟩
theorem PaAt.rows {bs : List (Str × Int)} (h : PaAt H v (.lst bs)) : BsAt H v (rowsB bs) := by
  obtain ⟨a, vs, e1, e2, e3, e4⟩ := h
  refine ⟨a, vs, e1, e2, by unfold rowsB; rw [List.length_map]; exact e3, fun i b hb => ?_⟩
  unfold rowsB at hb
  rw [List.getElem?_map] at hb
  obtain ⟨b0, h0, rfl⟩ := Option.map_eq_some_iff.mp hb
  obtain ⟨t, g1, g2⟩ := e4 i b0 h0
  exact ⟨t, .str b0.1, g1, g2, rfl⟩
/-- the item that a walk meets -/
theorem ItsAt.at (h : ItsAt H vs bs) {i : Nat} {x : V} (hx : vs[i]? = some x) : ∃ b t v1, bs[i]? = some b ∧ x = .ref t ∧ H t = some (.tup [v1, .int b.2]) ∧ PaAt H v1 b.1 := by
  have hi : i < bs.length := by rw [← h.1]; exact (List.getElem?_eq_some_iff.mp hx).1
  obtain ⟨t, v1, g1, g2, g3⟩ := h.2 i _ (List.getElem?_eq_getElem hi)
  rw [g1] at hx
  cases hx
  exact ⟨_, t, v1, List.getElem?_eq_getElem hi, rfl, g2, g3⟩
end
/-- small enough, no times below 0 -/
structure BsOk (m : Nat) (bs : Bs) : Prop where
  few : bs.length ≤ 50
  pos : ∀ b ∈ bs, 0 ≤ b.2
  part : ∀ b ∈ bs, (wrP m b.1).length ≤ 200
  inn : ∀ b ∈ bs, ∀ cs, b.1 = .lst cs → cs.length ≤ 50 ∧ (∀ c ∈ cs, 0 ≤ c.2) ∧ ∀ c ∈ cs, c.1.length ≤ 200
theorem BsOk.rows {m : Nat} {bs : Bs} (h : BsOk m bs) {b : Pa × Int} (hb : b ∈ bs) {cs : List (Str × Int)} (e : b.1 = .lst cs) : BsOk m (rowsB cs) := by
  obtain ⟨h1, h2, h3⟩ := h.inn b hb cs e
  refine ⟨by unfold rowsB; rw [List.length_map]; exact h1, fun c hc => ?_, fun c hc => ?_, fun c hc ds hd => ?_⟩
  · obtain ⟨c0, g, rfl⟩ := List.mem_map.mp hc
    exact h2 c0 g
  · obtain ⟨c0, g, rfl⟩ := List.mem_map.mp hc
    show (codes c0.1).length ≤ 200
    rw [codes_len]
    exact h3 c0 g
  · obtain ⟨c0, g, rfl⟩ := List.mem_map.mp hc
    exact nomatch hd
theorem cut_eq {m : Nat} {t : Int} (h : 0 ≤ t) : (if (m : Int) < t then (m : Int) else t) = ((cutT m t : Nat) : Int) := by
  unfold cutT
  by_cases q : (m : Int) < t
  · rw [if_pos q]; omega
  · rw [if_neg q]; omega
theorem cut_le {m : Nat} {t : Int} : cutT m t ≤ m := by unfold cutT; omega
def flatB (bs : Bs) : Prop := ∀ b ∈ bs, b.1.isRow = true
theorem flat_rows (bs : List (Str × Int)) : flatB (rowsB bs) := fun b hb => by
  obtain ⟨c0, g, rfl⟩ := List.mem_map.mp hb
  rfl
def sp_written (f : Nat) : Sp := fun vs H Q _ => ∃ (v : V) (m : Nat) (bs : Bs), vs = [v, .int (m : Nat)] ∧ BsAt H v bs ∧ BsOk m bs ∧ 1 ≤ f ∧ (f = 1 → flatB bs) ∧ m ≤ 100 ∧ ∀ (z : Str) H', Ex H H' → codes z = wr m bs → Q (.str z) H'
def sp_times (f : Nat) : Sp := fun vs H Q _ => ∃ (v : V) (m : Nat) (bs : Bs), vs = [v] ∧ BsAt H v bs ∧ BsOk m bs ∧ 1 ≤ f ∧ (f = 1 → flatB bs) ∧ ∀ H', Ex H H' → Q .non H'
def sp_blocks : Sp := fun vs H Q _ => ∃ (v : V) (m : Nat) (bs : Bs), vs = [v] ∧ BsAt H v bs ∧ BsOk m bs ∧ ∀ H', Ex H H' → Q .non H'
def sp_lists : Sp := fun vs H Q _ => ∃ (v : V) (m : Nat) (bs : Bs), vs = [v] ∧ BsAt H v bs ∧ BsOk m bs ∧ ∀ (n : Nat) H', n ≤ 2 → Ex H H' → Q (.int (n : Nat)) H'
def sp_enough : Sp := fun vs H Q _ => ∃ (d : Nat) (_ _ : Unit), vs = [.int (d : Nat)] ∧ d ≤ 6 ∧ Q (.int ((2 ^ d - 1 : Nat) : Int)) H
def sp_far_alike : Sp := fun vs H Q _ => ∃ (v w : V) (d : Nat) (bs cs : Bs), vs = [v, w, .int (d : Nat)] ∧ BsAt H v bs ∧ BsAt H w cs ∧ d ≤ 6 ∧ BsOk (2 ^ d - 1) bs ∧ BsOk (2 ^ d - 1) cs ∧ (∀ c ∈ wr (2 ^ d - 1) bs, 97 ≤ c ∧ c ≤ 122) ∧ (∀ c ∈ wr (2 ^ d - 1) cs, 97 ≤ c ∧ c ≤ 122) ∧
  (wr (2 ^ d - 1) bs).length ≤ 60 ∧ (wr (2 ^ d - 1) cs).length ≤ 60 ∧ ∀ (b : Bool) H', Ex H H' → (b = true ↔ Al d (wr (2 ^ d - 1) bs) (wr (2 ^ d - 1) cs)) → Q (.bl b) H'
/-- what waits, with its depth -/
def WtAt (H : Hp) (v : V) (p : Bs × Nat) : Prop := ∃ t a, v = .ref t ∧ H t = some (.tup [a, .int (p.2 : Nat)]) ∧ BsAt H a p.1
def wtW (p : Bs × Nat) : Nat := if p.2 = 1 then 1 + p.1.length else 1
theorem WtAt.up {H H' : Hp} {v : V} {p : Bs × Nat} (h : WtAt H v p) (x : Ex H H') : WtAt H' v p := by
  obtain ⟨t, a, e1, e2, e3⟩ := h
  exact ⟨t, a, e1, x _ _ e2, e3.up x⟩
theorem kit_sl {K : PySem.W.Frag} : PySem.W.kitOne K (.type "str") (.type "list") = some false := kit_ty k_sl
theorem kit_ll {K : PySem.W.Frag} : PySem.W.kitOne K (.type "list") (.type "list") = some true := kit_ty k_ll
theorem wr_snoc {m : Nat} {bs : Bs} {i : Nat} {b : Pa × Int} (h : bs[i]? = some b) : wr m (bs.take (i + 1)) = wr m (bs.take i) ++ rep (wrP m b.1) (cutT m b.2) := by
  unfold wr
  rw [List.take_succ, h]
  simp
theorem wr_all (m : Nat) (bs : Bs) : wr m (bs.take bs.length) = wr m bs := by rw [List.take_length]
inductive Wts (H : Hp) : List V → List (Bs × Nat) → Prop where
  | nil : Wts H [] []
  | snoc {xs : List V} {ps : List (Bs × Nat)} {v : V} {p : Bs × Nat} (h : Wts H xs ps) (w : WtAt H v p) : Wts H (xs ++ [v]) (ps ++ [p])
theorem Wts.up {H H' : Hp} (x : Ex H H') : ∀ {xs : List V} {ps : List (Bs × Nat)}, Wts H xs ps → Wts H' xs ps
  | _, _, .nil => .nil
  | _, _, .snoc h w => .snoc (h.up x) (w.up x)
theorem Wts.len {H : Hp} : ∀ {xs : List V} {ps : List (Bs × Nat)}, Wts H xs ps → xs.length = ps.length
  | _, _, .nil => rfl
  | _, _, .snoc h _ => by rw [List.length_append, List.length_append, h.len]; rfl
theorem Wts.last {H : Hp} {xs : List V} {qs ps : List (Bs × Nat)} {p : Bs × Nat} (h : Wts H xs qs) (e : qs = ps ++ [p]) : ∃ ys v, xs = ys ++ [v] ∧ Wts H ys ps ∧ WtAt H v p := by
  cases h with
  | nil => exact absurd e (by simp)
  | snoc h w =>
    obtain ⟨rfl, e2⟩ := List.append_inj' e rfl
    cases e2
    exact ⟨_, _, rfl, h, w⟩
def wtS (ps : List (Bs × Nat)) : Nat := (ps.map wtW).sum
theorem wtS_snoc (ps : List (Bs × Nat)) (p : Bs × Nat) : wtS (ps ++ [p]) = wtS ps + wtW p := by simp [wtS]
theorem wt_pos (p : Bs × Nat) : 1 ≤ wtW p := by
  unfold wtW
  split <;> omega
theorem wtS_len : ∀ ps : List (Bs × Nat), ps.length ≤ wtS ps
  | [] => Nat.le_refl _
  | p :: ps => by
    have := wtS_len ps
    have := wt_pos p
    simp only [wtS, List.map_cons, List.sum_cons, List.length_cons] at *
    omega
end M
end

section
set_option Elab.async false
set_option linter.all false
set_option maxRecDepth 100000
set_option maxHeartbeats 2000000
/-! settled repeats and far rows -/
namespace M
open PySem PySem.Spec L2 Evl
open PyProof.Rows hiding St
theorem al_more {d : Nat} {r : List Nat} {t : Nat} (h : Al d (rep r t) (rep r (t + 1))) : ∀ k, Al d (rep r t) (rep r (t + k))
  | 0 => Al.refl _ _
  | k + 1 => by
    have ih := al_more h k
    have e : ∀ j, rep r (j + 1) = r ++ rep r j := fun j => rep_succ r j
    have h2 : Al d (rep r (t + 1)) (rep r (t + k + 1)) := by rw [e, e]; exact (Al.refl _ _).app ih
    exact h.trans h2
theorem Stl.up {d : Nat} {r : List Nat} {t a b : Nat} (h : Stl d r t) (ha : t ≤ a) (hb : t ≤ b) : Al d (rep r a) (rep r b) := by
  obtain ⟨i, rfl⟩ : ∃ i, a = t + i := ⟨a - t, by omega⟩
  obtain ⟨j, rfl⟩ : ∃ j, b = t + j := ⟨b - t, by omega⟩
  exact (al_more h.1 i).symm.trans (al_more h.1 j)
theorem rep_end (r : List Nat) (n : Nat) : rep r (n + 1) = rep r n ++ r := by rw [rep_add, rep_succ r 0, rep_zero, List.append_nil]
theorem rep_rev (r : List Nat) : ∀ n, (rep r n).reverse = rep r.reverse n
  | 0 => rfl
  | n + 1 => by rw [rep_end, List.reverse_append, rep_rev r n, rep_succ]
theorem rep_map (f : Nat → Nat) (r : List Nat) : ∀ n, (rep r n).map f = rep (r.map f) n
  | 0 => rfl
  | n + 1 => by rw [rep_succ, List.map_append, rep_map f r n, rep_succ]
theorem Stl.rev {d : Nat} {r : List Nat} {t : Nat} (h : Stl d r t) : Stl d r.reverse t := by
  refine ⟨by rw [← rep_rev, ← rep_rev]; exact h.1.rev, fun e he a => h.2 e he ?_⟩
  rw [← rep_rev, ← rep_rev] at a
  exact al_rev.mp a
theorem Stl.map {d : Nat} {r : List Nat} {t : Nat} (h : Stl d r t) (f g : Nat → Nat) (hg : ∀ c ∈ r, g (f c) = c) : Stl d (r.map f) t := by
  have back : ∀ n, (rep (r.map f) n).map g = rep r n := fun n => by
    rw [rep_map, List.map_map]
    congr 1
    conv => rhs; rw [← List.map_id r]
    exact List.map_congr_left hg
  refine ⟨by rw [← rep_map, ← rep_map]; exact h.1.map f, fun e he a => h.2 e he ?_⟩
  have := a.map g
  rwa [back, back] at this
theorem rep_many (c s : Nat) : ∀ t, rep (List.replicate s c) t = List.replicate (s * t) c
  | 0 => rfl
  | t + 1 => by rw [rep_succ, rep_many c s t, List.replicate_append_replicate, Nat.mul_succ, Nat.add_comm s]
theorem stl_many {d c s t : Nat} (hs : 1 ≤ s) (h : Stl d (List.replicate s c) t) : 2 ^ d - 1 ≤ s * t ∧ (t = 0 ∨ s * (t - 1) < 2 ^ d - 1) := by
  have al : ∀ e, Al d (rep (List.replicate s c) e) (rep (List.replicate s c) (e + 1)) ↔ 2 ^ d - 1 ≤ s * e := fun e => by
    rw [rep_many, rep_many, one_al]
    have : s * (e + 1) = s * e + s := Nat.mul_succ _ _
    omega
  refine ⟨(al t).mp h.1, ?_⟩
  cases t with
  | zero => exact .inl rfl
  | succ t =>
    right
    have := h.2 t (Nat.lt_succ_self t)
    rw [al] at this
    rw [Nat.add_sub_cancel]
    omega
theorem stl_div {d c s t : Nat} (hs : 1 ≤ s) (h : Stl d (List.replicate s c) t) : t = (2 ^ d - 1 + s - 1) / s := by
  obtain ⟨h1, h2⟩ := stl_many hs h
  have e : (2 ^ d - 1 + s - 1) / s = t ↔ _ := Nat.div_eq_iff hs
  symm
  rw [e]
  have hp := Nat.two_pow_pos d
  rcases h2 with rfl | h2
  · rw [Nat.mul_zero] at h1
    omega
  · cases t with
    | zero => rw [Nat.mul_zero] at h1; omega
    | succ t =>
      rw [Nat.add_sub_cancel] at h2
      have e1 : s * (t + 1) = s * t + s := Nat.mul_succ _ _
      have e2 : (t + 1) * s = t * s + s := Nat.succ_mul _ _
      have e3 : t * s = s * t := Nat.mul_comm _ _
      omega
theorem cut_one {m : Nat} (h : 1 ≤ m) : cutT m 1 = 1 := by unfold cutT; omega
theorem cut_nat {m n : Nat} : cutT m (n : Nat) = min n m := by unfold cutT; omega
theorem wr_two {m : Nat} {n : Int} {z1 z2 : Str} {r : List Nat} (e : r = codes z1 ++ codes z2) : wr m [(.lst [(z1, 1), (z2, 1)], n)] = rep r (cutT m n) := by
  show rep (rep (codes z1) (cutT m 1) ++ (rep (codes z2) (cutT m 1) ++ [])) (cutT m n) ++ [] = _
  rw [List.append_nil, List.append_nil, e]
  by_cases h : m = 0
  · have : cutT m n = 0 := by unfold cutT; omega
    rw [this]
    rfl
  · rw [cut_one (by omega), ← rep_one_n, ← rep_one_n]
where rep_one_n : ∀ {r : List Nat}, r = rep r 1 := by intro r; rw [rep_succ, rep_zero, List.append_nil]
end M
namespace M
open PySem PySem.Spec L2 Evl
open PyProof.Rows hiding St
/-- [(line[:4], 1), (line[4:], 1)], so often -/
def sp_blocks_of : Sp := fun vs H Q _ => ∃ (n : Int) (z : Str) (_ : Unit), vs = [.str z, .int n] ∧ z.length ≤ 100 ∧ ∀ (a t : Addr) (v1 : V) (z1 z2 : Str) H', Ex H H' → H' a = some (.lst [.ref t]) → H' t = some (.tup [v1, .int n]) → PaAt H' v1 (.lst [(z1, 1), (z2, 1)]) →
  codes z = codes z1 ++ codes z2 → z1.length ≤ z.length → z2.length ≤ z.length → Q (.ref a) H'
theorem bs_one {H : Hp} {a t : Addr} {v1 : V} {p : Pa} {n : Int} (ea : H a = some (.lst [.ref t])) (et : H t = some (.tup [v1, .int n])) (hp : PaAt H v1 p) : BsAt H (.ref a) [(p, n)] :=
  ⟨a, _, rfl, ea, rfl, fun i b hb => by
    match i, hb with
    | 0, hb => cases hb; exact ⟨t, v1, rfl, et, hp⟩
    | i + 1, hb => simp at hb⟩
theorem bs_three {H : Hp} {a t1 t2 t3 : Addr} {v1 v2 v3 : V} {p1 p2 p3 : Pa} {n1 n2 n3 : Int} (ea : H a = some (.lst [.ref t1, .ref t2, .ref t3])) (e1 : H t1 = some (.tup [v1, .int n1])) (e2 : H t2 = some (.tup [v2, .int n2])) (e3 : H t3 = some (.tup [v3, .int n3]))
    (h1 : PaAt H v1 p1) (h2 : PaAt H v2 p2) (h3 : PaAt H v3 p3) : BsAt H (.ref a) [(p1, n1), (p2, n2), (p3, n3)] :=
  ⟨a, _, rfl, ea, rfl, fun i b hb => by
    match i, hb with
    | 0, hb => cases hb; exact ⟨t1, v1, rfl, e1, h1⟩
    | 1, hb => cases hb; exact ⟨t2, v2, rfl, e2, h2⟩
    | 2, hb => cases hb; exact ⟨t3, v3, rfl, e3, h3⟩
    | i + 3, hb => simp at hb⟩
theorem rep_1 {r : List Nat} : rep r 1 = r := by rw [rep_succ, rep_zero, List.append_nil]
theorem wr_three {m : Nat} (hm : 1 ≤ m) {n : Int} {z1 z2 y x : Str} {r : List Nat} (e : r = codes z1 ++ codes z2) : wr m [(.row y, 1), (.lst [(z1, 1), (z2, 1)], n), (.row x, 1)] = codes y ++ (rep r (cutT m n) ++ codes x) := by
  show rep (codes y) (cutT m 1) ++ (rep (rep (codes z1) (cutT m 1) ++ (rep (codes z2) (cutT m 1) ++ [])) (cutT m n) ++ (rep (codes x) (cutT m 1) ++ [])) = _
  rw [cut_one hm, rep_1, rep_1, rep_1, rep_1, List.append_nil, List.append_nil, e]
theorem wr_zero (bs : Bs) (h : ∀ b ∈ bs, 0 ≤ b.2) : wr 0 bs = [] := by
  unfold wr
  rw [List.flatten_eq_nil_iff]
  intro l hl
  obtain ⟨b, hb, rfl⟩ := List.mem_map.mp hl
  have : cutT 0 b.2 = 0 := by unfold cutT; have := h b hb; omega
  rw [this]; rfl
theorem wrI_len {m : Nat} {z1 z2 : Str} : (wrI m [(z1, 1), (z2, 1)]).length ≤ z1.length + z2.length := by
  have h1 : ∀ z : Str, (rep (codes z) (cutT m 1)).length ≤ z.length := fun z => by
    rw [rep_len, codes_len]
    have : cutT m 1 ≤ 1 := by unfold cutT; omega
    exact Nat.le_trans (Nat.mul_le_mul_right _ this) (by omega)
  show (rep (codes z1) (cutT m 1) ++ (rep (codes z2) (cutT m 1) ++ [])).length ≤ _
  rw [List.append_nil, List.length_append]
  have := h1 z1
  have := h1 z2
  omega
theorem ok_one {m : Nat} {n : Int} {z1 z2 : Str} (hn : 0 ≤ n) (h1 : z1.length ≤ 50) (h2 : z2.length ≤ 50) : BsOk m [(.lst [(z1, 1), (z2, 1)], n)] := by
  refine ⟨Nat.le_of_ble_eq_true rfl, fun b hb => ?_, fun b hb => ?_, fun b hb cs e => ?_⟩
  · rw [List.mem_singleton.mp hb]; exact hn
  · rw [List.mem_singleton.mp hb]
    have := @wrI_len m z1 z2
    show (wrI m _).length ≤ 200
    omega
  · rw [List.mem_singleton.mp hb] at e
    cases e
    refine ⟨Nat.le_of_ble_eq_true rfl, fun c hc => ?_, fun c hc => ?_⟩
    · simp only [List.mem_cons, List.not_mem_nil, or_false] at hc
      rcases hc with rfl | rfl <;> exact Int.le_of_lt Int.one_pos
    · simp only [List.mem_cons, List.not_mem_nil, or_false] at hc
      rcases hc with rfl | rfl
      · show z1.length ≤ 200; omega
      · show z2.length ≤ 200; omega
theorem ok_three {m : Nat} {n : Int} {z1 z2 y x : Str} (hn : 0 ≤ n) (h1 : z1.length ≤ 50) (h2 : z2.length ≤ 50) (hy : y.length ≤ 50) (hx : x.length ≤ 50) : BsOk m [(.row y, 1), (.lst [(z1, 1), (z2, 1)], n), (.row x, 1)] := by
  have o := ok_one (m := m) hn h1 h2
  have ly := codes_len y
  have lx := codes_len x
  refine ⟨Nat.le_of_ble_eq_true rfl, fun b hb => ?_, fun b hb => ?_, fun b hb cs e => ?_⟩
  · simp only [List.mem_cons, List.not_mem_nil, or_false] at hb
    rcases hb with rfl | rfl | rfl
    · exact Int.le_of_lt Int.one_pos
    · exact hn
    · exact Int.le_of_lt Int.one_pos
  · simp only [List.mem_cons, List.not_mem_nil, or_false] at hb
    rcases hb with rfl | rfl | rfl
    · show (codes y).length ≤ 200; omega
    · exact o.part _ (List.mem_singleton.mpr rfl)
    · show (codes x).length ≤ 200; omega
  · simp only [List.mem_cons, List.not_mem_nil, or_false] at hb
    rcases hb with rfl | rfl | rfl
    · exact nomatch e
    · exact o.inn _ (List.mem_singleton.mpr rfl) cs e
    · exact nomatch e
theorem abc_rep {r : List Nat} {n : Nat} (h : ∀ c ∈ r, 97 ≤ c ∧ c ≤ 122) : ∀ c ∈ rep r n, 97 ≤ c ∧ c ≤ 122 := fun c hc => by
  unfold rep at hc
  obtain ⟨l, hl, hcl⟩ := List.mem_flatten.mp hc
  rw [(List.mem_replicate.mp hl).2] at hcl
  exact h c hcl
theorem codes_to (z : Str) (n : Nat) : codes (cutS z none (some ((n : Nat) : Int))) = (codes z).take n := by
  by_cases h : n ≤ z.length
  · exact codes_cut1 h
  · have e1 : (codes z).take n = (codes z).take z.length := by rw [← codes_len, List.take_length, List.take_of_length_le (by rw [codes_len]; omega)]
    have e2 : cutS z none (some ((n : Nat) : Int)) = cutS z none (some ((z.length : Nat) : Int)) := by
      unfold cutS
      rw [HT.sIx_nat, HT.sIx_nat]
      congr 3
      omega
    rw [e2, codes_cut1 (Nat.le_refl _), e1]
theorem codes_from (z : Str) (n : Nat) : codes (cutS z (some ((n : Nat) : Int)) none) = (codes z).drop n := by
  by_cases h : n ≤ z.length
  · exact codes_cut2 h
  · have e1 : (codes z).drop n = [] := List.drop_eq_nil_of_le (by rw [codes_len]; omega)
    have e2 : (codes (cutS z (some ((n : Nat) : Int)) none)).length = 0 := by
      have := len_from (z := z) (n := n)
      rw [codes_len]
      omega
    rw [e1, List.length_eq_zero_iff.mp e2]
def ren27 (c : Nat) : Nat := if c = 97 then 109 else if c = 98 then 97 else 122
def back27 (c : Nat) : Nat := if c = 109 then 97 else if c = 97 then 98 else 99
theorem ren_back {c : Nat} (h : 97 ≤ c ∧ c ≤ 99) : back27 (ren27 c) = c := by
  rcases (by omega : c = 97 ∨ c = 98 ∨ c = 99) with rfl | rfl | rfl <;> rfl
theorem ren_abc27 {c : Nat} : 97 ≤ ren27 c ∧ ren27 c ≤ 122 := by unfold ren27; split <;> (try split) <;> omega
end M
namespace M
open PySem PySem.Spec L2 Evl
open PyProof.Rows hiding St
theorem far_three {m : Nat} {n : Int} {z1 z2 y x : Str} {r : List Nat} (e : r = codes z1 ++ codes z2) (hn : 0 ≤ n) (hy : Abc y) (hx : Abc x) (hr : ∀ c ∈ r, 97 ≤ c ∧ c ≤ 122) (ly : y.length ≤ 2) (lx : x.length ≤ 2) (lr : m * r.length ≤ 50) :
    (∀ c ∈ wr m [(.row y, 1), (.lst [(z1, 1), (z2, 1)], n), (.row x, 1)], 97 ≤ c ∧ c ≤ 122) ∧ (wr m [(.row y, 1), (.lst [(z1, 1), (z2, 1)], n), (.row x, 1)]).length ≤ 60 := by
  by_cases h : m = 0
  · subst h
    rw [wr_zero _ (fun b hb => by
      simp only [List.mem_cons, List.not_mem_nil, or_false] at hb
      rcases hb with rfl | rfl | rfl
      · exact Int.le_of_lt Int.one_pos
      · exact hn
      · exact Int.le_of_lt Int.one_pos)]
    exact ⟨(fun c hc => nomatch hc), by decide⟩
  · rw [wr_three (by omega) e]
    have c1 := codes_len y
    have c2 := codes_len x
    refine ⟨fun c hc => ?_, ?_⟩
    · rcases List.mem_append.mp hc with hc | hc
      · exact hy c hc
      · rcases List.mem_append.mp hc with hc | hc
        · exact abc_rep hr c hc
        · exact hx c hc
    · rw [List.length_append, List.length_append, rep_len]
      have := Nat.mul_le_mul_right r.length (cut_le (m := m) (t := n))
      omega
theorem al_three {d m : Nat} {n n' : Int} {z1 z2 z3 z4 y x : Str} {r : List Nat} (e : r = codes z1 ++ codes z2) (e' : r = codes z3 ++ codes z4) (hn : 0 ≤ n) (hn' : 0 ≤ n') (a : Al d (rep r (cutT m n)) (rep r (cutT m n'))) :
    Al d (wr m [(.row y, 1), (.lst [(z1, 1), (z2, 1)], n), (.row x, 1)]) (wr m [(.row y, 1), (.lst [(z3, 1), (z4, 1)], n'), (.row x, 1)]) := by
  by_cases h : m = 0
  · subst h
    have z : ∀ (n : Int) (z1 z2 : Str), 0 ≤ n → wr 0 [(.row y, 1), (.lst [(z1, 1), (z2, 1)], n), (.row x, 1)] = [] := fun n z1 z2 hn => wr_zero _ (fun b hb => by
      simp only [List.mem_cons, List.not_mem_nil, or_false] at hb
      rcases hb with rfl | rfl | rfl
      · exact Int.le_of_lt Int.one_pos
      · exact hn
      · exact Int.le_of_lt Int.one_pos)
    rw [z _ _ _ hn, z _ _ _ hn']
    exact Al.refl _ _
  · rw [wr_three (by omega) e, wr_three (by omega) e']
    exact (Al.refl _ _).app (a.app (Al.refl _ _))
end M
end

section
set_option Elab.async false
set_option linter.all false
set_option maxRecDepth 100000
set_option maxHeartbeats 2000000
/-! blocks written out and copied by a law -/
namespace M
open PySem PySem.Spec L2 Evl
open PyProof.Rows hiding St
theorem k_ss' : kitB "str" "str" = some true := by decide +kernel
theorem k_ls' : kitB "list" "str" = some false := by decide +kernel
theorem kit_ss {K : PySem.W.Frag} : PySem.W.kitOne K (.type "str") (.type "str") = some true := kit_ty k_ss'
theorem kit_ls {K : PySem.W.Frag} : PySem.W.kitOne K (.type "list") (.type "str") = some false := kit_ty k_ls'
def sp_copied (f : Nat) : Sp := fun vs H Q _ => ∃ (v : V) (m : Nat) (bs : Bs), vs = [v] ∧ BsAt H v bs ∧ bs.length ≤ 100 ∧ 1 ≤ f ∧ (f = 1 → flatB bs) ∧ (∀ b ∈ bs, ∀ cs, b.1 = .lst cs → cs.length ≤ 100) ∧ ∀ (a : Addr) H', Ex H H' → H a = none → BsAt H' (.ref a) bs → Q (.ref a) H'
theorem ItsAt.snoc {H : Hp} {vs : List V} {bs : Bs} {t : Addr} {v1 : V} {b : Pa × Int} (h : ItsAt H vs bs) (et : H t = some (.tup [v1, .int b.2])) (hp : PaAt H v1 b.1) : ItsAt H (vs ++ [.ref t]) (bs ++ [b]) := by
  refine ⟨by rw [List.length_append, List.length_append, h.1]; rfl, fun i b' hb => ?_⟩
  by_cases q : i < bs.length
  · rw [List.getElem?_append_left q] at hb
    obtain ⟨t', v', g1, g2, g3⟩ := h.2 i b' hb
    exact ⟨t', v', by rw [List.getElem?_append_left (by rw [h.1]; exact q)]; exact g1, g2, g3⟩
  · have q2 : i = bs.length := by
      have := (List.getElem?_eq_some_iff.mp hb).1
      simp at this
      omega
    subst q2
    rw [List.getElem?_append_right (Nat.le_refl _), Nat.sub_self] at hb
    cases hb
    exact ⟨t, v1, by rw [← h.1, List.getElem?_append_right (Nat.le_refl _), Nat.sub_self]; rfl, et, hp⟩
theorem rows_at {H : Hp} {v : V} {cs : List (Str × Int)} (h : BsAt H v (rowsB cs)) : PaAt H v (.lst cs) := by
  obtain ⟨a, vs, rfl, e2, e3, e4⟩ := h
  unfold rowsB at e3 e4
  rw [List.length_map] at e3
  refine ⟨a, vs, rfl, e2, e3, fun i b hb => ?_⟩
  obtain ⟨t, v1, g1, g2, g3⟩ := e4 i (.row b.1, b.2) (by rw [List.getElem?_map, hb]; rfl)
  exact ⟨t, g1, by rw [g2, show v1 = .str b.1 from g3]⟩
theorem wr_len_take {m : Nat} {bs : Bs} (ok : BsOk m bs) (hm : m ≤ 100) : ∀ i, (wr m (bs.take i)).length ≤ i * 20000
  | 0 => by simp [wr]
  | i + 1 => by
    by_cases h : i < bs.length
    · have hb : bs[i]? = some bs[i] := List.getElem?_eq_getElem h
      rw [wr_snoc hb, List.length_append, rep_len]
      have ih := wr_len_take ok hm i
      have h1 := ok.part _ (List.getElem_mem h)
      have h2 := cut_le (m := m) (t := bs[i].2)
      have h3 : cutT m bs[i].2 * (wrP m bs[i].1).length ≤ 100 * 200 := Nat.mul_le_mul (by omega) h1
      omega
    · have e1 : bs.take (i + 1) = bs := List.take_of_length_le (by omega)
      have e2 : bs.take i = bs := List.take_of_length_le (by omega)
      have ih := wr_len_take ok hm i
      rw [e2] at ih
      rw [e1]
      omega
theorem codes_empty : codes ("" : Str) = [] := rfl
end M
namespace M
open PySem PySem.Spec L2 Evl
open PyProof.Rows hiding St
def PaOk : Pa → Prop
  | .row z => z.length ≤ 50
  | .lst cs => cs.length ≤ 3 ∧ ∀ c ∈ cs, 0 ≤ c.2 ∧ c.2 ≤ 9 ∧ c.1.length ≤ 4
theorem wrI_few (m : Nat) : ∀ cs : List (Str × Int), (∀ c ∈ cs, 0 ≤ c.2 ∧ c.2 ≤ 9 ∧ c.1.length ≤ 4) → (wrI m cs).length ≤ cs.length * 36
  | [], _ => by simp [wrI]
  | c :: cs, h => by
    have ih := wrI_few m cs fun q hq => h q (List.mem_cons_of_mem _ hq)
    obtain ⟨h1, h2, h3⟩ := h c List.mem_cons_self
    have e : wrI m (c :: cs) = rep (codes c.1) (cutT m c.2) ++ wrI m cs := rfl
    have h4 : cutT m c.2 ≤ 9 := by unfold cutT; omega
    have h5 : cutT m c.2 * (codes c.1).length ≤ 9 * 4 := Nat.mul_le_mul h4 (by rw [codes_len]; exact h3)
    rw [e, List.length_append, rep_len, List.length_cons, Nat.succ_mul]
    omega
theorem ok_gen {m : Nat} {bs : Bs} (few : bs.length ≤ 50) (h : ∀ b ∈ bs, 0 ≤ b.2 ∧ PaOk b.1) : BsOk m bs := by
  refine ⟨few, fun b hb => (h b hb).1, fun b hb => ?_, fun b hb cs e => ?_⟩
  · obtain ⟨_, h2⟩ := h b hb
    cases hp : b.1 with
    | row z =>
      rw [hp] at h2
      show (codes z).length ≤ 200
      rw [codes_len]
      have h2 : z.length ≤ 50 := h2
      omega
    | lst cs =>
      rw [hp] at h2
      obtain ⟨g1, g2⟩ := h2
      have := wrI_few m cs g2
      show (wrI m cs).length ≤ 200
      omega
  · obtain ⟨_, h2⟩ := h b hb
    rw [e] at h2
    obtain ⟨g1, g2⟩ := h2
    exact ⟨by omega, fun c hc => (g2 c hc).1, fun c hc => by have := (g2 c hc).2.2; omega⟩
theorem wr_1 {m : Nat} {p : Pa} {n : Int} : wr m [(p, n)] = rep (wrP m p) (cutT m n) := by
  show rep (wrP m p) (cutT m n) ++ [] = _
  rw [List.append_nil]
theorem wr_3 {m : Nat} {p1 p2 p3 : Pa} {n1 n2 n3 : Int} : wr m [(p1, n1), (p2, n2), (p3, n3)] = rep (wrP m p1) (cutT m n1) ++ (rep (wrP m p2) (cutT m n2) ++ rep (wrP m p3) (cutT m n3)) := by
  show rep (wrP m p1) (cutT m n1) ++ (rep (wrP m p2) (cutT m n2) ++ (rep (wrP m p3) (cutT m n3) ++ [])) = _
  rw [List.append_nil]
theorem ok_g1 {m : Nat} {p : Pa} {n : Int} (hn : 0 ≤ n) (h : PaOk p) : BsOk m [(p, n)] := ok_gen (Nat.le_of_ble_eq_true rfl) fun b hb => by rw [List.mem_singleton.mp hb]; exact ⟨hn, h⟩
theorem ok_g3 {m : Nat} {p1 p2 p3 : Pa} {n1 n2 n3 : Int} (h1 : 0 ≤ n1) (h2 : 0 ≤ n2) (h3 : 0 ≤ n3) (g1 : PaOk p1) (g2 : PaOk p2) (g3 : PaOk p3) : BsOk m [(p1, n1), (p2, n2), (p3, n3)] := ok_gen (Nat.le_of_ble_eq_true rfl) fun b hb => by
  simp only [List.mem_cons, List.not_mem_nil, or_false] at hb
  rcases hb with rfl | rfl | rfl
  · exact ⟨h1, g1⟩
  · exact ⟨h2, g2⟩
  · exact ⟨h3, g3⟩
def sp_ltimes : Sp := fun vs H Q _ => ∃ (H0 : Hp) (p : Addr) (m : Nat), vs = [.ref p] ∧ Pl H0 H p m ∧ m + 10 ≤ 2 ^ 20 ∧ ∀ (n : Nat) H', Pl H0 H' p (m + 5) → Q (.int (n : Nat)) H'
def sp_oneL : Sp := fun vs H Q _ => ∃ (H0 : Hp) (p : Addr) (m d : Nat), vs = [.ref p, .int (d : Nat)] ∧ Pl H0 H p m ∧ m + 30 ≤ 2 ^ 20 ∧ d ≤ 3 ∧ ∀ H', Pl H0 H' p (m + 20) → Q (.bl true) H'
theorem one_letter_al {d a b c : Nat} : Al d (rep [c] (min a (2 ^ d - 1))) (rep [c] (min b (2 ^ d - 1))) ↔ a = b ∨ 2 ^ d - 1 ≤ min a b := by
  rw [rep_one, rep_one, one_al]
  omega
theorem codes_a : codes ("a" : Str) = [97] := by decide +kernel
theorem codes_b : codes ("b" : Str) = [98] := by decide +kernel
end M
namespace M
open PySem PySem.Spec L2 Evl
open PyProof.Rows hiding St
/-- all that stands, but the pool, is taken for the data -/
theorem Pl.base {H0 H : Hp} {p : Addr} {m : Nat} (h : Pl H0 H p m) : ∃ B, Pl B H p m ∧ Ex H0 B ∧ ∀ b o, b ≠ p → H b = some o → B b = some o := by
  refine ⟨fun b => if b = p then none else H b, ⟨fun b o e => ?_, if_pos rfl, h.at_⟩, fun b o e => ?_, fun b o hb e => by show (if b = p then none else H b) = _; rw [if_neg hb]; exact e⟩
  · have e : (if b = p then none else H b) = some o := e
    by_cases z : b = p
    · rw [if_pos z] at e; exact nomatch e
    · rwa [if_neg z] at e
  · show (if b = p then none else H b) = _
    rw [if_neg fun z => by rw [z, h.out] at e; exact nomatch e]
    exact h.ex _ _ e
theorem Pl.not_tup {H0 H : Hp} {p : Addr} {m : Nat} (h : Pl H0 H p m) {t : Addr} {xs : List V} (e : H t = some (.tup xs)) : t ≠ p := fun z => by
  obtain ⟨a, b, c, e1, _⟩ := h.at_
  rw [z, e1] at e
  exact nomatch e
theorem Pl.not_refs {H0 H : Hp} {p : Addr} {m : Nat} (h : Pl H0 H p m) {t : Addr} {xs : List V} {q : Addr} (e : H t = some (.lst xs)) (e0 : xs[0]? = some (.ref q)) : t ≠ p := fun z => by
  obtain ⟨a, b, c, e1, _⟩ := h.at_
  rw [z, e1] at e
  cases e
  exact nomatch e0
theorem rows_move {H0 H B : Hp} {p : Addr} {m : Nat} (h : Pl H0 H p m) (mv : ∀ b o, b ≠ p → H b = some o → B b = some o) {v : V} {cs : List (Str × Int)} (hb : BsAt H v (rowsB cs)) (ne : cs ≠ []) : BsAt B v (rowsB cs) := by
  obtain ⟨a, vs, rfl, ea, hl, hi⟩ := hb
  obtain ⟨c, cs', rfl⟩ : ∃ c cs', cs = c :: cs' := by
    cases cs with
    | nil => exact absurd rfl ne
    | cons c cs => exact ⟨c, cs, rfl⟩
  obtain ⟨t0, v0, g1, _, _⟩ := hi 0 (.row c.1, c.2) rfl
  refine ⟨a, vs, rfl, mv a _ (h.not_refs ea g1) ea, hl, fun i b hb => ?_⟩
  obtain ⟨t, v1, g1, g2, g3⟩ := hi i b hb
  obtain ⟨c0, _, rfl⟩ := List.mem_map.mp (List.mem_of_getElem? hb)
  exact ⟨t, v1, g1, mv t _ (h.not_tup g2) g2, g3⟩
theorem one_ab' : oneV [97, 98] = [V.str "a", V.str "b"] := rfl
theorem cut_ge {m : Nat} {n : Int} (h : (m : Int) ≤ n) : cutT m n = m := by unfold cutT; omega
theorem wrI_two {m : Nat} (hm : 1 ≤ m) {z1 z2 : Str} : wrI m [(z1, 1), (z2, 1)] = codes z1 ++ codes z2 := by
  show rep (codes z1) (cutT m 1) ++ (rep (codes z2) (cutT m 1) ++ []) = _
  rw [cut_one hm, rep_1, rep_1, List.append_nil]
end M
end

section
set_option Elab.async false
set_option linter.all false
set_option maxRecDepth 100000
set_option maxHeartbeats 4000000
/-! k07: list(d.values()) -/
namespace M
open PySem L2 Evl
open PyProof.Rows hiding St
theorem KV.vals {κ : Type} {kvs : List (κ × V)} {vs : List (κ × Value)} (r : KV kvs vs) : Vals (kvs.map (·.2)) (vs.map (·.2)) := by
  unfold KV at r
  induction r with
  | nil => exact .nil
  | cons r t ih => exact .cons r.2 ih
/-- list(o.values()) -/
def tListVals (td : TE) : TE := fun σ H Q => td σ H fun x H1 => ∃ a kvs, x = V.ref a ∧ H1 a = some (.dK kvs) ∧ ∀ q, H1 q = none → Q (.ref q) (upd H1 q (.lst (kvs.map (·.2))))
theorem pe_listVals {X : Cx} {o : Expr} {p pos apos mpos : Pos} {td : TE} (hc : X.calm = true) (hg : Gl X "list") (hm : X.mg "list" = none) (hd : PE X o td) (hbase : attributeBase o "values" X.env (eval o X.env) = eval o X.env := by rfl) (hline : (apos.endLine == mpos.line) = true := by rfl)
    (hse : starEach [Expr.Call (.Attribute o "values" apos) [] [] mpos] X.env = [(false, eval (Expr.Call (.Attribute o "values" apos) [] [] mpos) X.env)] := by rfl) :
    PE X (.Call (.Name "list" p) [.Call (.Attribute o "values" apos) [] [] mpos] [] pos) (tListVals td) := by
  refine ⟨fun pins s σ H Q I h => ?_⟩
  refine wpAny_Call_Name_kw (ld_blt I hg hm (u := .type "list") (by first | rfl | decide +kernel) ?_ (by first | decide +kernel | decide) (by first | decide +kernel | decide))
  rw [hse]
  refine PySem.callWith_type1 (wpAny_Call_method0_late hbase hline (thn (hd.run pins s σ H _ I h) fun v s1 ⟨x, H1, I1, r1, a, kvs, ex, ha, q⟩ => ?_))
  subst ex
  obtain rfl : v = Value.ref a := r1
  obtain ⟨hz, hsys, vs, rel, dof⟩ := dk_of I1.hok ha
  obtain ⟨ep, dat⟩ := dof.dictAt
  have dat' := dat
  obtain ⟨ob, es, ho, ex, hdat, hko, hpr, hnd⟩ := dat'
  refine ⟨"dict", "dict.values", F.plainAttrs_dict, F.slot_dict_values, F.type_dict_values, ⟨ob, ho, ex.1⟩, fun b e => ?_, Calls.callWith_builtin rfl (PySem.evalArgs_none ?_)⟩
  · cases e
    exact ⟨ob, ho, ex.2.1⟩
  refine call_meetsIn F.slot_dict_values ⟨ob, ho, ex.1⟩ F.entry_dict_values (F.args_dict_values_1 _) (meets_dict_values (mixKind X.prog X.w) a hsys) ⟨⟨vs, dof⟩, ?_⟩
  have k1 : ∀ b u, s1.heap.get? b = some u → (s1.heap.push { cls := .type "dict_values", data := .fields #[.ref a] }).get? b = some u := fun b u e => Heap.get?_push_of_some _ e
  have dat1 : (s1.heap.push { cls := .type "dict_values", data := .fields #[.ref a] }).DictAt (mixKind X.prog X.w) a vs ep := dat.keep k1
  have hl : kvs.length = vs.length := KV.length rel
  refine PySem.W.kdl_call (PySem.W.kdl_values (knd := mixKind X.prog X.w) (kvs := vs) (ep := ep) (r := s1.heap.objs.size) (d := a)) (I.ok.hd hc) ⟨⟨_, Heap.get?_push_size _ rfl, rfl, rfl⟩, dat1⟩ (by rw [← hl]; exact hz) fun h' tk acc' c' hk hD hacc => ?_
  have eA : acc'.toList = vs.map (·.2) := PySem.W.kdl_vals_eq acc'.toList (by rw [Array.length_toList]; exact hacc.1) fun j v e => hacc.2 j v (by rw [← Array.getElem?_toList]; exact e)
  have hsz : s1.heap.objs.size ≤ (s1.heap.push { cls := .type "dict_values", data := .fields #[.ref a] }).objs.size := by rw [Heap.size_push]; omega
  refine ⟨.ref _, upd H1 _ (.lst (kvs.map (·.2))), I1.laid (t' := tk) (fun b u e => hk b u (k1 b u e)) hsz ⟨by rw [List.length_map]; exact hz, acc'.toList, c', by rw [eA]; exact KV.vals rel, by rw [Array.toArray_toList]; exact hD⟩, rfl, q _ (I1.hok.fresh hsz)⟩
end M
namespace M
open PySem L2 Evl
open PyProof.Rows hiding St
def hdC (c : List Nat) : Nat := c.headD 0
def rwC (R : List Str) (n : Nat) : List Nat := codes (R.getD n "")
structure CInv (d : Nat) (R : List Str) (n : Nat) (C : List (List Nat)) : Prop where
  ne : ∀ c ∈ C, c ≠ []
  lt : ∀ c ∈ C, ∀ x ∈ c, x < n
  one : ∀ (i j : Nat) (c c' : List Nat), C[i]? = some c → C[j]? = some c' → Al d (rwC R (hdC c)) (rwC R (hdC c')) → i = j
def NxC (d : Nat) (R : List Str) (n : Nat) (C C' : List (List Nat)) : Prop :=
  (∃ k c, C[k]? = some c ∧ Al d (rwC R (hdC c)) (rwC R n) ∧ C' = C.set k (c ++ [n])) ∨ ((∀ c ∈ C, ¬ Al d (rwC R (hdC c)) (rwC R n)) ∧ C' = C ++ [[n]])
def ClC (d : Nat) (R : List Str) : Nat → List (List Nat) → Prop
  | 0, C => C = []
  | n + 1, C' => ∃ C, ClC d R n C ∧ NxC d R n C C'
theorem hd_app {c : List Nat} (h : c ≠ []) (x : Nat) : hdC (c ++ [x]) = hdC c := by
  cases c with
  | nil => exact absurd rfl h
  | cons a c => rfl
theorem hd_mem {c : List Nat} (h : c ≠ []) : hdC c ∈ c := by
  cases c with
  | nil => exact absurd rfl h
  | cons a c => exact List.mem_cons_self
theorem CInv.next {d : Nat} {R : List Str} {n : Nat} {C C' : List (List Nat)} (I : CInv d R n C) (h : NxC d R n C C') : CInv d R (n + 1) C' := by
  rcases h with ⟨k, c, hk, ha, rfl⟩ | ⟨hn, rfl⟩
  · have hc := I.ne c (List.mem_of_getElem? hk)
    have hkl := (List.getElem?_eq_some_iff.mp hk).1
    have back : ∀ i c', (C.set k (c ++ [n]))[i]? = some c' → ∃ c0, C[i]? = some c0 ∧ hdC c' = hdC c0 := fun i c' hi => by
      rw [List.getElem?_set] at hi
      by_cases q : k = i
      · subst q
        rw [if_pos rfl, if_pos hkl] at hi
        cases hi
        exact ⟨c, hk, hd_app hc n⟩
      · rw [if_neg q] at hi
        exact ⟨c', hi, rfl⟩
    refine ⟨fun c' hc' => ?_, fun c' hc' x hx => ?_, fun i j c1 c2 h1 h2 a => ?_⟩
    · rcases List.mem_or_eq_of_mem_set hc' with h | rfl
      · exact I.ne c' h
      · simp
    · rcases List.mem_or_eq_of_mem_set hc' with h | rfl
      · exact Nat.lt_succ_of_lt (I.lt c' h x hx)
      · rcases List.mem_append.mp hx with hx | hx
        · exact Nat.lt_succ_of_lt (I.lt c (List.mem_of_getElem? hk) x hx)
        · rw [List.mem_singleton.mp hx]; exact Nat.lt_succ_self _
    · obtain ⟨c3, g1, e1⟩ := back i c1 h1
      obtain ⟨c4, g2, e2⟩ := back j c2 h2
      rw [e1, e2] at a
      exact I.one i j c3 c4 g1 g2 a
  · have back : ∀ i c', (C ++ [[n]])[i]? = some c' → (C[i]? = some c' ∧ i < C.length) ∨ (i = C.length ∧ c' = [n]) := fun i c' hi => by
      by_cases q : i < C.length
      · rw [List.getElem?_append_left q] at hi
        exact .inl ⟨hi, q⟩
      · rw [List.getElem?_append_right (by omega)] at hi
        have : i - C.length = 0 := by
          have := (List.getElem?_eq_some_iff.mp hi).1
          simp at this
          omega
        rw [this] at hi
        cases hi
        exact .inr ⟨by omega, rfl⟩
    refine ⟨fun c' hc' => ?_, fun c' hc' x hx => ?_, fun i j c1 c2 h1 h2 a => ?_⟩
    · rcases List.mem_append.mp hc' with h | h
      · exact I.ne c' h
      · rw [List.mem_singleton.mp h]; simp
    · rcases List.mem_append.mp hc' with h | h
      · exact Nat.lt_succ_of_lt (I.lt c' h x hx)
      · rw [List.mem_singleton.mp h] at hx
        rw [List.mem_singleton.mp hx]; exact Nat.lt_succ_self _
    · rcases back i c1 h1 with ⟨g1, l1⟩ | ⟨l1, rfl⟩
      · rcases back j c2 h2 with ⟨g2, l2⟩ | ⟨l2, rfl⟩
        · exact I.one i j c1 c2 g1 g2 a
        · exact absurd a (hn c1 (List.mem_of_getElem? g1))
      · rcases back j c2 h2 with ⟨g2, l2⟩ | ⟨l2, rfl⟩
        · exact absurd a.symm (hn c2 (List.mem_of_getElem? g2))
        · omega
theorem ClC.inv {d : Nat} {R : List Str} : ∀ {n : Nat} {C : List (List Nat)}, ClC d R n C → CInv d R n C
  | 0, _, h => by
    subst h
    exact ⟨(fun c h => nomatch h), (fun c h => nomatch h), (fun i j c c' h => nomatch h)⟩
  | n + 1, _, ⟨C, h, x⟩ => h.inv.next x
theorem NxC.det {d : Nat} {R : List Str} {n : Nat} {C C1 C2 : List (List Nat)} (I : CInv d R n C) (h : NxC d R n C C1) (g : NxC d R n C C2) : C1 = C2 := by
  rcases h with ⟨k, c, hk, ha, rfl⟩ | ⟨hn, rfl⟩
  · rcases g with ⟨k', c', hk', ha', rfl⟩ | ⟨gn, rfl⟩
    · obtain rfl := I.one k k' c c' hk hk' (ha.trans ha'.symm)
      rw [hk] at hk'
      cases hk'
      rfl
    · exact absurd ha (gn c (List.mem_of_getElem? hk))
  · rcases g with ⟨k', c', hk', ha', rfl⟩ | ⟨gn, rfl⟩
    · exact absurd ha' (hn c' (List.mem_of_getElem? hk'))
    · rfl
theorem ClC.det {d : Nat} {R : List Str} : ∀ {n : Nat} {C C' : List (List Nat)}, ClC d R n C → ClC d R n C' → C = C'
  | 0, _, _, h, g => h.trans g.symm
  | n + 1, _, _, ⟨C, h, x⟩, ⟨D, g, y⟩ => by
    obtain rfl := h.det g
    exact x.det h.inv y
/-- lists of numbers in the heap -/
structure LoL (H : Hp) (ls : List Addr) (C : List (List Nat)) : Prop where
  len : ls.length = C.length
  nd : ls.Nodup
  at_ : ∀ (i : Nat) (l : Addr) (c : List Nat), ls[i]? = some l → C[i]? = some c → H l = some (.lst (natsV c))
theorem LoL.up {H H' : Hp} {ls : List Addr} {C : List (List Nat)} (h : LoL H ls C) (x : ∀ l ∈ ls, ∀ o, H l = some o → H' l = some o) : LoL H' ls C :=
  ⟨h.len, h.nd, fun i l c h1 h2 => x l (List.mem_of_getElem? h1) _ (h.at_ i l c h1 h2)⟩
theorem LoL.snoc {H : Hp} {ls : List Addr} {C : List (List Nat)} (h : LoL H ls C) {l : Addr} {c : List Nat} (n : l ∉ ls) (e : H l = some (.lst (natsV c))) : LoL H (ls ++ [l]) (C ++ [c]) := by
  refine ⟨by rw [List.length_append, List.length_append, h.len]; rfl, List.nodup_append.mpr ⟨h.nd, by simp, fun a ha b hb => by rw [List.mem_singleton.mp hb]; exact fun z => n (z ▸ ha)⟩, fun i l' c' h1 h2 => ?_⟩
  by_cases q : i < C.length
  · rw [List.getElem?_append_left (by rw [h.len]; exact q)] at h1
    rw [List.getElem?_append_left q] at h2
    exact h.at_ i l' c' h1 h2
  · rw [List.getElem?_append_right (by rw [h.len]; omega)] at h1
    rw [List.getElem?_append_right (by omega)] at h2
    have hi : i - C.length = 0 := by
      have := (List.getElem?_eq_some_iff.mp h2).1
      simp at this
      omega
    rw [hi] at h2
    rw [h.len, hi] at h1
    cases h1
    cases h2
    exact e
theorem LoL.put {H : Hp} {ls : List Addr} {C : List (List Nat)} (h : LoL H ls C) {k : Nat} {l : Addr} {c : List Nat} (hl : ls[k]? = some l) : LoL (upd H l (.lst (natsV c))) ls (C.set k c) := by
  refine ⟨by rw [List.length_set]; exact h.len, h.nd, fun i l' c' h1 h2 => ?_⟩
  rw [List.getElem?_set] at h2
  by_cases q : k = i
  · subst q
    rw [hl] at h1
    cases h1
    by_cases g : k < C.length
    · rw [if_pos rfl, if_pos g] at h2
      cases h2
      exact upd_same
    · rw [if_pos rfl, if_neg g] at h2
      exact nomatch h2
  · rw [if_neg q] at h2
    have ne : l' ≠ l := fun z => by
      subst z
      have hi := (List.getElem?_eq_some_iff.mp h1)
      have hk := (List.getElem?_eq_some_iff.mp hl)
      exact q ((List.getElem_inj h.nd).mp (hk.2.trans hi.2.symm))
    rw [upd_ne ne]
    exact h.at_ i l' c' h1 h2
/-- the dict: the first number of each class, with its list -/
def kvC (C : List (List Nat)) (ls : List Addr) : List (Key × V) := List.zipWith (fun c l => (Sum.inl ((hdC c : Nat) : Int), V.ref l)) C ls
theorem kvC_snoc {C : List (List Nat)} {ls : List Addr} (h : ls.length = C.length) (c : List Nat) (l : Addr) : kvC (C ++ [c]) (ls ++ [l]) = kvC C ls ++ [(Sum.inl ((hdC c : Nat) : Int), V.ref l)] := by
  unfold kvC
  rw [List.zipWith_append h.symm]
  rfl
theorem kvC_vals : ∀ {C : List (List Nat)} {ls : List Addr}, ls.length = C.length → (kvC C ls).map (·.2) = ls.map V.ref
  | [], [], _ => rfl
  | c :: C, l :: ls, h => by
    show V.ref l :: (kvC C ls).map (·.2) = _
    rw [kvC_vals (by simpa using h)]
    rfl
theorem kvC_set {C : List (List Nat)} {ls : List Addr} {k : Nat} {c : List Nat} {x : Nat} (hk : C[k]? = some c) (hc : c ≠ []) : kvC (C.set k (c ++ [x])) ls = kvC C ls := by
  unfold kvC
  apply List.ext_getElem?
  intro i
  rw [List.getElem?_zipWith, List.getElem?_zipWith, List.getElem?_set]
  by_cases q : k = i
  · subst q
    rw [if_pos rfl, if_pos (List.getElem?_eq_some_iff.mp hk).1, hk]
    cases ls[k]? with
    | none => rfl
    | some l => show some _ = some _; rw [hd_app hc]
  · rw [if_neg q]
end M
namespace M
open PySem L2 Evl
open PyProof.Rows hiding St
theorem kvC_val : ∀ {C : List (List Nat)} {ls : List Addr} {k : Nat} {c : List Nat} {l : Addr}, C[k]? = some c → ls[k]? = some l → (∀ (j : Nat) (c' : List Nat), C[j]? = some c' → hdC c' = hdC c → j = k) → valV (kvC C ls) (Sum.inl ((hdC c : Nat) : Int)) = some (V.ref l)
  | [], _, _, _, _, h, _, _ => nomatch h
  | _ :: _, [], _, _, _, _, h, _ => nomatch h
  | c0 :: C, l0 :: ls, 0, c, l, h, g, _ => by
    cases h
    cases g
    exact valV_pos rfl
  | c0 :: C, l0 :: ls, k + 1, c, l, h, g, one => by
    have ne : hdC c0 ≠ hdC c := fun e => nomatch one 0 c0 rfl e
    show valV ((Sum.inl ((hdC c0 : Nat) : Int), V.ref l0) :: kvC C ls) _ = _
    have e1 : valV ((Sum.inl ((hdC c0 : Nat) : Int), V.ref l0) :: kvC C ls) (Sum.inl ((hdC c : Nat) : Int)) = valV (kvC C ls) (Sum.inl ((hdC c : Nat) : Int)) := by
      unfold valV
      rw [List.find?_cons]
      have : decide ((Sum.inl ((hdC c0 : Nat) : Int) : Key) = Sum.inl ((hdC c : Nat) : Int)) = false := decide_eq_false fun z => ne (by injection z with z; omega)
      rw [this]
    rw [e1]
    exact kvC_val (k := k) h g fun j c' hj e => Nat.succ.inj (one (j + 1) c' hj e)
theorem kvC_put {C : List (List Nat)} {ls : List Addr} {n : Nat} {v : V} (h : ∀ c ∈ C, hdC c < n) : putK (kvC C ls) (Sum.inl ((n : Nat) : Int)) v = kvC C ls ++ [(Sum.inl ((n : Nat) : Int), v)] := by
  unfold putK
  rw [if_neg]
  intro z
  rw [List.any_eq_true] at z
  obtain ⟨p, hp, e⟩ := z
  obtain ⟨i, hi⟩ := List.getElem?_of_mem hp
  unfold kvC at hi
  rw [List.getElem?_zipWith] at hi
  have e := of_decide_eq_true e
  cases hc : C[i]? with
  | none => rw [hc] at hi; exact nomatch hi
  | some c =>
    cases hl : ls[i]? with
    | none => rw [hc, hl] at hi; exact nomatch hi
    | some l =>
      rw [hc, hl] at hi
      cases hi
      have := h c (List.mem_of_getElem? hc)
      injection e with e
      omega
theorem sub_many {R : List Str} (h : ∀ s ∈ R, Abc s ∧ s.length ≤ 60) (hl : R.length ≤ 8) : Sub (subsAll (R.map codes)) 8 := by
  refine sub_all (fun r hr => ?_) (fun r hr c hc => ?_) ?_
  · obtain ⟨s, hs, rfl⟩ := List.mem_map.mp hr
    rw [codes_len]
    exact (h s hs).2
  · obtain ⟨s, hs, rfl⟩ := List.mem_map.mp hr
    have : c ≤ 122 := ((h s hs).1 c hc).2
    omega
  · have b : ∀ R : List Str, (∀ s ∈ R, Abc s ∧ s.length ≤ 60) → ((R.map codes).flatMap subs).length ≤ R.length * (61 * 61) := fun R => by
      induction R with
      | nil => intro _; exact Nat.le_refl _
      | cons s R ih =>
        intro h
        have h1 := ih fun q hq => h q (List.mem_cons_of_mem _ hq)
        have h2 := (h s List.mem_cons_self).2
        have h3 : ((codes s).length + 1) * ((codes s).length + 1) ≤ 61 * 61 := by rw [codes_len]; exact Nat.mul_le_mul (by omega) (by omega)
        rw [List.map_cons, List.flatMap_cons, List.length_append, subs_len, List.length_cons, Nat.succ_mul R.length]
        generalize ((codes s).length + 1) * ((codes s).length + 1) = X at *
        omega
    have := b R h
    have h2 : R.length * (61 * 61) ≤ 8 * (61 * 61) := Nat.mul_le_mul_right _ hl
    unfold subsAll
    rw [List.length_cons]
    omega
def sp_classes : Sp := fun vs H Q _ => ∃ (ra : Addr) (R : List Str) (d : Nat), vs = [.ref ra, .int (d : Nat)] ∧ H ra = some (.lst (R.map V.str)) ∧ (∀ s ∈ R, Abc s ∧ s.length ≤ 60) ∧ R.length ≤ 8 ∧ d ≤ 8 ∧
  ∀ (l : Addr) (ls : List Addr) (C : List (List Nat)) H', Ex H H' → H l = none → l ∉ ls → (∀ a ∈ ls, H a = none) → H' l = some (.lst (ls.map V.ref)) → LoL H' ls C → ClC d R R.length C → Q (.ref l) H'
end M
namespace M
open PySem L2 Evl
open PyProof.Rows hiding St
theorem ClC.few {d : Nat} {R : List Str} : ∀ {n : Nat} {C : List (List Nat)}, ClC d R n C → C.length ≤ n ∧ ∀ c ∈ C, c.length ≤ n
  | 0, _, h => by subst h; exact ⟨Nat.le_refl _, fun c h => nomatch h⟩
  | n + 1, _, ⟨C, h, x⟩ => by
    obtain ⟨h1, h2⟩ := h.few
    rcases x with ⟨k, c, hk, _, rfl⟩ | ⟨_, rfl⟩
    · refine ⟨by rw [List.length_set]; omega, fun c' hc' => ?_⟩
      rcases List.mem_or_eq_of_mem_set hc' with h | rfl
      · have := h2 c' h; omega
      · have := h2 c (List.mem_of_getElem? hk)
        rw [List.length_append]
        show c.length + 1 ≤ n + 1
        omega
    · refine ⟨by rw [List.length_append]; show C.length + 1 ≤ n + 1; omega, fun c' hc' => ?_⟩
      rcases List.mem_append.mp hc' with h | h
      · have := h2 c' h; omega
      · rw [List.mem_singleton.mp h]; show 1 ≤ n + 1; omega
theorem heads_set {C : List (List Nat)} {k x : Nat} {c : List Nat} (hk : C[k]? = some c) (hc : c ≠ []) : (C.set k (c ++ [x])).map hdC = C.map hdC := by
  apply List.ext_getElem?
  intro i
  rw [List.getElem?_map, List.getElem?_map, List.getElem?_set]
  by_cases q : k = i
  · subst q
    rw [if_pos rfl, if_pos (List.getElem?_eq_some_iff.mp hk).1, hk]
    show some _ = some _
    rw [hd_app hc]
  · rw [if_neg q]
end M
end

section
set_option Elab.async false
set_option linter.all false
set_option maxRecDepth 100000
set_option maxHeartbeats 4000000
/-! k19: rows turned about -/
namespace M
open PySem PySem.Spec L2 Evl
open PyProof.Rows hiding St
end M
end

section
set_option Elab.async false
set_option linter.all false
set_option maxRecDepth 100000
set_option maxHeartbeats 4000000
/-! k21: far rows that are near -/
namespace M
open PySem PySem.Spec L2 Evl
open PyProof.Rows hiding St
def sp_bentL : Sp := fun vs H Q _ => ∃ (H0 : Hp) (p l : Addr) (m : Nat) (y : Str) (cs : List Nat), vs = [.ref p, .str y, .ref l] ∧ Pl H0 H p m ∧ m + 4 ≤ 2 ^ 20 ∧ Abc y ∧ y.length ≤ 80 ∧ H0 l = some (.lst (oneV cs)) ∧ 0 < cs.length ∧ cs.length ≤ 60 ∧ (∀ c ∈ cs, 97 ≤ c ∧ c ≤ 122) ∧
  ∀ (v : Str) H', Pl H0 H' p (m + 4) → Abc v → v.length ≤ y.length + 3 → Q (.str v) H'
theorem sml_letters {z : Str} {k : Nat} (h : Abc z) (hl : z.length ≤ k) : Sml (.str z) 0 k := by
  refine ⟨rfl, rfl, ?_, Nat.le_refl _, hl⟩
  simp only [PyData.leavesShort, List.all_eq_true, decide_eq_true_eq]
  intro c hc
  have := h c hc
  have : (122 : Nat) < 16 ^ 8 := by decide
  omega
/-! small blocks -/
def SmP : Pa → Prop
  | .row z => Abc z ∧ z.length ≤ 4
  | .lst cs => cs.length ≤ 2 ∧ ∀ c ∈ cs, 0 ≤ c.2 ∧ c.2 ≤ 2 ∧ Abc c.1 ∧ c.1.length ≤ 4
structure Sm (most : Nat) (bs : Bs) : Prop where
  few : bs.length ≤ 3
  all : ∀ b ∈ bs, 0 ≤ b.2 ∧ b.2 ≤ (most : Int) ∧ SmP b.1
theorem SmP.ok {p : Pa} (h : SmP p) : PaOk p := by
  cases p with
  | row z => show z.length ≤ 50; have := h.2; omega
  | lst cs => exact ⟨Nat.le_trans h.1 (by decide), fun c hc => ⟨(h.2 c hc).1, by have := (h.2 c hc).2.1; omega, (h.2 c hc).2.2.2⟩⟩
theorem Sm.ok {most m : Nat} {bs : Bs} (h : Sm most bs) : BsOk m bs := ok_gen (Nat.le_trans h.few (by decide)) fun b hb => ⟨(h.all b hb).1, (h.all b hb).2.2.ok⟩
/-- written out with any cut from 2^d-1 on, alike -/
theorem rep_al {d : Nat} {r s : List Nat} (a : Al d r s) : ∀ n, Al d (rep r n) (rep s n)
  | 0 => Al.refl _ _
  | n + 1 => by rw [rep_succ, rep_succ]; exact a.app (rep_al a n)
theorem cut_al {d m : Nat} {r s : List Nat} {t : Int} (a : Al d r s) (ht : 0 ≤ t) (hm : t ≤ (m : Int) ∨ 2 ^ d - 1 ≤ m) : Al d (rep r (cutT m t)) (rep s (cutT (2 ^ d - 1) t)) := by
  refine (rep_al a _).trans (al_rep s d ?_)
  unfold cutT
  omega
theorem wrI_al {d m : Nat} : ∀ {cs : List (Str × Int)}, (∀ c ∈ cs, 0 ≤ c.2 ∧ c.2 ≤ (m : Int)) → Al d (wrI m cs) (wrI (2 ^ d - 1) cs)
  | [], _ => Al.refl _ _
  | c :: cs, h => by
    have e : ∀ m, wrI m (c :: cs) = rep (codes c.1) (cutT m c.2) ++ wrI m cs := fun _ => rfl
    rw [e, e]
    exact (cut_al (Al.refl _ _) (h c List.mem_cons_self).1 (.inl (h c List.mem_cons_self).2)).app (wrI_al fun q hq => h q (List.mem_cons_of_mem _ hq))
theorem wr_cons (m : Nat) (b : Pa × Int) (bs : Bs) : wr m (b :: bs) = rep (wrP m b.1) (cutT m b.2) ++ wr m bs := rfl
theorem wr_al {d m : Nat} : ∀ {bs : Bs}, (∀ b ∈ bs, 0 ≤ b.2 ∧ b.2 ≤ (m : Int) ∧ SmP b.1) → 2 ≤ m → Al d (wr m bs) (wr (2 ^ d - 1) bs)
  | [], _, _ => Al.refl _ _
  | b :: bs, h, hm => by
    rw [wr_cons, wr_cons]
    obtain ⟨h1, h2, h3⟩ := h b List.mem_cons_self
    refine (cut_al ?_ h1 (.inl h2)).app (wr_al (fun q hq => h q (List.mem_cons_of_mem _ hq)) hm)
    cases hb : b.1 with
    | row z => exact Al.refl _ _
    | lst cs =>
      rw [hb] at h3
      exact wrI_al fun c hc => ⟨(h3.2 c hc).1, by have := (h3.2 c hc).2.1; omega⟩
theorem cut_mono {m n : Nat} {t : Int} (h : m ≤ n) : cutT m t ≤ cutT n t := by unfold cutT; omega
theorem wrI_mono {m n : Nat} (h : m ≤ n) : ∀ cs : List (Str × Int), (wrI m cs).length ≤ (wrI n cs).length
  | [] => Nat.le_refl _
  | c :: cs => by
    have e : ∀ m, wrI m (c :: cs) = rep (codes c.1) (cutT m c.2) ++ wrI m cs := fun _ => rfl
    rw [e, e, List.length_append, List.length_append, rep_len, rep_len]
    exact Nat.add_le_add (Nat.mul_le_mul_right _ (cut_mono h)) (wrI_mono h cs)
theorem wr_mono {m n : Nat} (h : m ≤ n) : ∀ bs : Bs, (wr m bs).length ≤ (wr n bs).length
  | [] => Nat.le_refl _
  | b :: bs => by
    rw [wr_cons, wr_cons, List.length_append, List.length_append, rep_len, rep_len]
    refine Nat.add_le_add (Nat.mul_le_mul (cut_mono h) ?_) (wr_mono h bs)
    cases b.1 with
    | row z => exact Nat.le_refl _
    | lst cs => exact wrI_mono h cs
theorem wrI_abc {m : Nat} : ∀ {cs : List (Str × Int)}, (∀ c ∈ cs, Abc c.1) → ∀ x ∈ wrI m cs, 97 ≤ x ∧ x ≤ 122
  | [], _, x, hx => nomatch hx
  | c :: cs, h, x, hx => by
    have e : wrI m (c :: cs) = rep (codes c.1) (cutT m c.2) ++ wrI m cs := rfl
    rw [e] at hx
    rcases List.mem_append.mp hx with hx | hx
    · exact abc_rep (fun y hy => h c List.mem_cons_self y hy) x hx
    · exact wrI_abc (fun q hq => h q (List.mem_cons_of_mem _ hq)) x hx
theorem wr_abc {m : Nat} : ∀ {bs : Bs}, (∀ b ∈ bs, SmP b.1) → ∀ x ∈ wr m bs, 97 ≤ x ∧ x ≤ 122
  | [], _, x, hx => nomatch hx
  | b :: bs, h, x, hx => by
    rw [wr_cons] at hx
    rcases List.mem_append.mp hx with hx | hx
    · refine abc_rep (fun y hy => ?_) x hx
      have hb := h b List.mem_cons_self
      cases hb1 : b.1 with
      | row z => rw [hb1] at hy hb; exact hb.1 y hy
      | lst cs => rw [hb1] at hy hb; exact wrI_abc (fun c hc => (hb.2 c hc).2.2.1) y hy
    · exact wr_abc (fun q hq => h q (List.mem_cons_of_mem _ hq)) x hx
/-! as data -/
def dIn (cs : List (Str × Int)) : PyData := .list (cs.map fun c => .tuple [.str c.1, .int c.2])
def dPa : Pa → PyData
  | .row z => .str z
  | .lst cs => dIn cs
def dBs (bs : Bs) : PyData := .list (bs.map fun b => .tuple [dPa b.1, .int b.2])
/-- what _law_small_blocks makes: f levels at the most -/
def cost (f : Nat) : Nat := if f = 1 then 30 else 150
def sp_small (f : Nat) : Sp := fun vs H Q _ => ∃ (H0 : Hp) (p l : Addr) (m dp ms : Nat) (cs : List Nat), vs = [.ref p, .ref l, .int (dp : Nat), .int (ms : Nat)] ∧ Pl H0 H p m ∧ m + cost f ≤ 2 ^ 20 ∧ H0 l = some (.lst (oneV cs)) ∧ 0 < cs.length ∧ cs.length ≤ 60 ∧ (∀ c ∈ cs, 97 ≤ c ∧ c ≤ 122) ∧ (dp = f ∧ 1 ≤ f ∧ f ≤ 2) ∧ ms ≤ 5 ∧
  ∀ (a : Addr) (bs : Bs) (B H' : Hp), Ex H0 B → Pl B H' p (m + cost f) → H a = none → BsAt B (.ref a) bs → Sm ms bs → (f = 1 → flatB bs) → Q (.ref a) H'
theorem Pl.less {B H : Hp} {p : Addr} {m : Nat} (h : Pl B H p m) (D : Addr) : ∃ Hd, Pl Hd H p m ∧ Hd D = none ∧ ∀ b o, b ≠ D → B b = some o → Hd b = some o := by
  refine ⟨fun b => if b = D then none else B b, ⟨fun b o e => ?_, ?_, h.at_⟩, if_pos rfl, fun b o hb e => by show (if b = D then none else B b) = _; rw [if_neg hb]; exact e⟩
  · have e : (if b = D then none else B b) = some o := e
    by_cases z : b = D
    · rw [if_pos z] at e; exact nomatch e
    · rw [if_neg z] at e; exact h.ex _ _ e
  · show (if p = D then none else B p) = none
    split
    · rfl
    · exact h.out
theorem flat_less {B Hd : Hp} {a D : Addr} {ws : List V} {cs : List (Str × Int)} (h : BsAt B (.ref a) (rowsB cs)) (ne : a ≠ D) (eD : B D = some (.lst ws)) (mv : ∀ b o, b ≠ D → B b = some o → Hd b = some o) : BsAt Hd (.ref a) (rowsB cs) := by
  obtain ⟨a', vs, e, ea, hl, hi⟩ := h
  cases e
  refine ⟨a, vs, rfl, mv _ _ ne ea, hl, fun i b hb => ?_⟩
  obtain ⟨t, v1, g1, g2, g3⟩ := hi i b hb
  obtain ⟨c0, _, rfl⟩ := List.mem_map.mp (List.mem_of_getElem? hb)
  exact ⟨t, v1, g1, mv _ _ (fun z => by rw [z, eD] at g2; exact nomatch g2) g2, g3⟩
theorem ItsAt.take {H : Hp} {vs : List V} {bs : Bs} (h : ItsAt H vs bs) (n : Nat) : ItsAt H (vs.take n) (bs.take n) := by
  refine ⟨by rw [List.length_take, List.length_take, h.1], fun i b hb => ?_⟩
  rw [List.getElem?_take] at hb ⊢
  by_cases q : i < n
  · rw [if_pos q] at hb ⊢
    exact h.2 i b hb
  · rw [if_neg q] at hb
    exact nomatch hb
theorem flat_form {bs : Bs} (h : flatB bs) : ∃ cs, bs = rowsB cs := by
  induction bs with
  | nil => exact ⟨[], rfl⟩
  | cons b bs ih =>
    obtain ⟨cs, rfl⟩ := ih fun q hq => h q (List.mem_cons_of_mem _ hq)
    obtain ⟨p, n⟩ := b
    have := h (p, n) List.mem_cons_self
    cases p with
    | row z => exact ⟨(z, n) :: cs, rfl⟩
    | lst ds => exact nomatch this
theorem cutV_take (xs : List V) (n : Nat) : cutV xs none (some ((n : Nat) : Int)) = xs.take n := by
  show (xs.drop 0).take (HT.sIx xs.length xs.length (some ((n : Nat) : Int)) - 0) = _
  rw [HT.sIx_nat, List.drop_zero, Nat.sub_zero]
  by_cases h : n ≤ xs.length
  · congr 1
    omega
  · rw [List.take_of_length_le (by omega), List.take_of_length_le (by omega)]
def sp_mate : Sp := fun vs H Q _ => ∃ (H0 : Hp) (p l : Addr) (v : V) (m : Nat) (bs : Bs) (cs : List Nat), vs = [.ref p, v, .ref l] ∧ Pl H0 H p m ∧ m + 200 ≤ 2 ^ 20 ∧ H0 l = some (.lst (oneV cs)) ∧ 0 < cs.length ∧ cs.length ≤ 60 ∧ (∀ c ∈ cs, 97 ≤ c ∧ c ≤ 122) ∧ BsAt H0 v bs ∧ Sm 3 bs ∧
  ∀ (a : Addr) (bs' : Bs) (B H' : Hp), Ex H0 B → Pl B H' p (m + 200) → BsAt B (.ref a) bs' → Sm 4 bs' → Q (.ref a) H'
theorem bs_move {H0 H B : Hp} {p : Addr} {m : Nat} (h : Pl H0 H p m) (mv : ∀ b o, b ≠ p → H b = some o → B b = some o) {v : V} {bs : Bs} (hb : BsAt H v bs) : BsAt B v bs := by
  have np : ∀ {bs : Bs} {a : Addr} {vs : List V}, H a = some (.lst vs) → ItsAt H vs bs → a ≠ p := fun {bs a vs} ea hi z => by
    obtain ⟨a1, b1, c1, e1, _⟩ := h.at_
    rw [z, e1] at ea
    obtain rfl : vs = _ := by injection ea with ea; injection ea with ea; exact ea.symm
    have hl := hi.1
    obtain ⟨b0, hb0⟩ : ∃ b0, bs[0]? = some b0 := ⟨_, List.getElem?_eq_getElem (by rw [← hl]; show 0 < 3; omega)⟩
    obtain ⟨t, v1, g, _⟩ := hi.2 0 b0 hb0
    exact nomatch g
  have flat : ∀ {v : V} {cs : List (Str × Int)}, BsAt H v (rowsB cs) → BsAt B v (rowsB cs) := fun {v cs} ⟨a, vs, e, ea, hi⟩ => by
    subst e
    refine ⟨a, vs, rfl, mv _ _ (np ea hi) ea, hi.1, fun i b hb => ?_⟩
    obtain ⟨t, v1, g1, g2, g3⟩ := hi.2 i b hb
    obtain ⟨c0, _, rfl⟩ := List.mem_map.mp (List.mem_of_getElem? hb)
    exact ⟨t, v1, g1, mv _ _ (h.not_tup g2) g2, g3⟩
  obtain ⟨a, vs, rfl, ea, hi⟩ := hb
  refine ⟨a, vs, rfl, mv _ _ (np ea hi) ea, hi.1, fun i b hb => ?_⟩
  obtain ⟨t, v1, g1, g2, g3⟩ := hi.2 i b hb
  refine ⟨t, v1, g1, mv _ _ (h.not_tup g2) g2, ?_⟩
  cases hp : b.1 with
  | row z => rw [hp] at g3; exact g3
  | lst cs => rw [hp] at g3; exact rows_at (flat g3.rows)
theorem ItsAt.drop {H : Hp} {vs : List V} {bs : Bs} (h : ItsAt H vs bs) (n : Nat) : ItsAt H (vs.drop n) (bs.drop n) := by
  refine ⟨by rw [List.length_drop, List.length_drop, h.1], fun i b hb => ?_⟩
  rw [List.getElem?_drop] at hb ⊢
  exact h.2 _ b hb
theorem ItsAt.app {H : Hp} {vs ws : List V} {bs cs : Bs} (h : ItsAt H vs bs) (g : ItsAt H ws cs) : ItsAt H (vs ++ ws) (bs ++ cs) := by
  refine ⟨by rw [List.length_append, List.length_append, h.1, g.1], fun i b hb => ?_⟩
  by_cases q : i < bs.length
  · rw [List.getElem?_append_left q] at hb
    rw [List.getElem?_append_left (by rw [h.1]; exact q)]
    exact h.2 i b hb
  · rw [List.getElem?_append_right (by omega)] at hb
    rw [List.getElem?_append_right (by rw [h.1]; omega), h.1]
    exact g.2 _ b hb
theorem ItsAt.reverse {H : Hp} {vs : List V} {bs : Bs} (h : ItsAt H vs bs) : ItsAt H vs.reverse bs.reverse := by
  refine ⟨by rw [List.length_reverse, List.length_reverse, h.1], fun i b hb => ?_⟩
  have hi : i < bs.length := by simpa using (List.getElem?_eq_some_iff.mp hb).1
  rw [List.getElem?_reverse hi] at hb
  rw [List.getElem?_reverse (by rw [h.1]; exact hi), h.1]
  exact h.2 _ b hb
theorem ItsAt.one {H : Hp} {t : Addr} {v1 : V} {b : Pa × Int} (et : H t = some (.tup [v1, .int b.2])) (hp : PaAt H v1 b.1) : ItsAt H [.ref t] [b] :=
  ItsAt.snoc (vs := []) (bs := []) ⟨rfl, fun i b h => nomatch h⟩ et hp
theorem cutV_drop (xs : List V) (n : Nat) : cutV xs (some ((n : Nat) : Int)) none = xs.drop n := by
  show (xs.drop (HT.sIx xs.length 0 (some ((n : Nat) : Int)))).take (xs.length - HT.sIx xs.length 0 (some ((n : Nat) : Int))) = _
  rw [HT.sIx_nat]
  by_cases h : n ≤ xs.length
  · rw [Nat.min_eq_left h, List.take_of_length_le (by rw [List.length_drop]; exact Nat.le_refl _)]
  · rw [List.drop_eq_nil_of_le (by omega), List.drop_eq_nil_of_le (by omega), List.take_nil]
/-! blocks as data -/
theorem dpa_map {K : PySem.W.Frag} {H : Hp} {α : Type} {f : α → PyData} : ∀ {vs : List V} {bs : List α}, vs.length = bs.length → (∀ (i : Nat) (b : α), bs[i]? = some b → ∃ x, vs[i]? = some x ∧ Dp K H x (f b)) → DpAll K H vs (bs.map f)
  | [], [], _, _ => .nil
  | v :: vs, b :: bs, hl, h => by
    obtain ⟨x, e, hx⟩ := h 0 b rfl
    cases e
    exact .cons hx (dpa_map (Nat.succ.inj hl) fun i b hb => h (i + 1) b hb)
theorem dp_flat {K : PySem.W.Frag} {H : Hp} {v : V} {cs : List (Str × Int)} (h : BsAt H v (rowsB cs)) : Dp K H v (dIn cs) := by
  obtain ⟨a, vs, rfl, ea, hl, hi⟩ := h
  refine .lst (SqL.of ea) (dpa_map (by rw [hl]; unfold rowsB; rw [List.length_map]) fun i c hc => ?_)
  obtain ⟨t, v1, g1, g2, g3⟩ := hi i (.row c.1, c.2) (by unfold rowsB; rw [List.getElem?_map, hc]; rfl)
  obtain rfl : v1 = .str c.1 := g3
  exact ⟨_, g1, .tup (SqT.of g2) (.cons (.str _) (.cons (.int _) .nil))⟩
theorem dp_Bs {K : PySem.W.Frag} {H : Hp} {v : V} {bs : Bs} (h : BsAt H v bs) : Dp K H v (dBs bs) := by
  obtain ⟨a, vs, rfl, ea, hl, hi⟩ := h
  refine .lst (SqL.of ea) (dpa_map hl fun i b hb => ?_)
  obtain ⟨t, v1, g1, g2, g3⟩ := hi i b hb
  refine ⟨_, g1, .tup (SqT.of g2) (.cons ?_ (.cons (.int _) .nil))⟩
  cases hp : b.1 with
  | row z =>
    rw [hp] at g3
    obtain rfl : v1 = .str z := g3
    exact .str _
  | lst cs => rw [hp] at g3; exact dp_flat g3.rows
theorem lay_strB {z : Str} (h : Abc z) : (PyData.str z).canLay0 = true := by
  simp only [PyData.canLay0]
  unfold PyData.strOk
  rw [Array.all_eq_true]
  intro i hi
  have := h _ (Array.getElem_mem_toList hi)
  simp only [decide_eq_true_eq]
  omega
theorem lay_all {α : Type} {f : α → PyData} {k : Nat} : ∀ {bs : List α}, (∀ b ∈ bs, (f b).canLay0 = true ∧ (f b).depth ≤ k) → PyData.canLayAll0 (bs.map f) = true ∧ PyData.depthAll (bs.map f) ≤ k
  | [], _ => ⟨rfl, Nat.zero_le _⟩
  | b :: bs, h => by
    obtain ⟨h1, h2⟩ := lay_all fun q hq => h q (List.mem_cons_of_mem _ hq)
    obtain ⟨g1, g2⟩ := h b List.mem_cons_self
    exact ⟨by rw [List.map_cons]; simp only [PyData.canLayAll0, g1, h1, Bool.and_true], by rw [List.map_cons]; simp only [PyData.depthAll]; omega⟩
theorem lay_pair {d : PyData} {n : Int} {k : Nat} (h : d.canLay0 = true) (g : d.depth ≤ k) : (PyData.tuple [d, .int n]).canLay0 = true ∧ (PyData.tuple [d, .int n]).depth ≤ k + 1 := by
  constructor
  · simp only [PyData.canLay0, PyData.canLayAll0, h, Bool.and_true]
  · simp only [PyData.depth, PyData.depthAll]; omega
theorem lay_dIn {cs : List (Str × Int)} (h : ∀ c ∈ cs, Abc c.1) : (dIn cs).canLay0 = true ∧ (dIn cs).depth ≤ 2 := by
  obtain ⟨h1, h2⟩ := lay_all (k := 1) (f := fun c : Str × Int => PyData.tuple [.str c.1, .int c.2]) fun c hc => lay_pair (k := 0) (lay_strB (h c hc)) (Nat.le_refl _)
  unfold dIn
  exact ⟨by simp only [PyData.canLay0]; exact h1, by simp only [PyData.depth]; omega⟩
theorem shaped_dBs {bs : Bs} (h : ∀ b ∈ bs, SmP b.1) : SeqAt.shaped (dBs bs) = true := by
  obtain ⟨h1, h2⟩ := lay_all (k := 3) (f := fun b : Pa × Int => PyData.tuple [dPa b.1, .int b.2]) fun b hb => by
    refine lay_pair (k := 2) ?_ ?_
    · have := h b hb
      cases hp : b.1 with
      | row z => rw [hp] at this; exact lay_strB this.1
      | lst cs => rw [hp] at this; exact (lay_dIn fun c hc => (this.2 c hc).2.2.1).1
    · have := h b hb
      cases hp : b.1 with
      | row z => exact Nat.zero_le _
      | lst cs => rw [hp] at this; exact (lay_dIn fun c hc => (this.2 c hc).2.2.1).2
  unfold SeqAt.shaped dBs
  rw [Bool.and_eq_true, decide_eq_true_eq]
  exact ⟨by simp only [PyData.canLay0]; exact h1, by simp only [PyData.depth]; omega⟩
theorem eqv_dBs_nil (bs : Bs) : PyData.eqv (dBs bs) (dBs []) = decide (bs = []) := by
  cases bs with
  | nil => rfl
  | cons b bs => unfold dBs; simp [PyData.eqv, PyData.eqvAll]
theorem sml_dIn {cs : List (Str × Int)} (h : SmP (.lst cs)) : Sml (dIn cs) 2 34 := by
  refine Sml.up (sml_list (D := 1) (W := 16) fun d hd => ?_) (Nat.le_refl _) ?_
  · obtain ⟨c, hc, rfl⟩ := List.mem_map.mp hd
    obtain ⟨h1, h2, h3, h4⟩ := h.2 c hc
    obtain ⟨n, hn⟩ : ∃ n : Nat, c.2 = n := ⟨c.2.toNat, by omega⟩
    refine Sml.up (sml_tup (D := 0) (W := 7) (ds := [.str c.1, .int c.2]) fun d hd => ?_) (Nat.le_refl _) (by show 2 * 8 ≤ 16; decide)
    simp only [List.mem_cons, List.not_mem_nil, or_false] at hd
    rcases hd with rfl | rfl
    · exact (sml_letters h3 h4).up (Nat.le_refl _) (by decide)
    · rw [hn]; exact sml_int (by omega)
  · rw [List.length_map]
    have := h.1
    omega
theorem sml_dBs {bs : Bs} {k : Nat} (h : Sm k bs) (hk : k ≤ 100) : Sml (dBs bs) 4 213 := by
  refine Sml.up (sml_list (D := 3) (W := 70) fun d hd => ?_) (Nat.le_refl _) ?_
  · obtain ⟨b, hb, rfl⟩ := List.mem_map.mp hd
    obtain ⟨h1, h2, h3⟩ := h.all b hb
    obtain ⟨n, hn⟩ : ∃ n : Nat, b.2 = n := ⟨b.2.toNat, by omega⟩
    refine Sml.up (sml_tup (D := 2) (W := 34) (ds := [dPa b.1, .int b.2]) fun d hd => ?_) (Nat.le_refl _) (by show 2 * 35 ≤ 70; decide)
    simp only [List.mem_cons, List.not_mem_nil, or_false] at hd
    rcases hd with rfl | rfl
    · cases hp : b.1 with
      | row z => rw [hp] at h3; exact (sml_letters h3.1 h3.2).up (by decide) (by decide)
      | lst cs => rw [hp] at h3; exact sml_dIn h3
    · rw [hn]; exact (sml_int (by omega)).up (by decide) (by decide)
  · rw [List.length_map]
    have := h.few
    omega
theorem sml_dBs2 {bs cs : Bs} {j k : Nat} (h : Sm j bs) (hj : j ≤ 100) (g : Sm k cs) (hk : k ≤ 100) : Sml (.list [dBs bs, dBs cs]) 5 428 :=
  sml_list (ds := [dBs bs, dBs cs]) fun d hd => by
    simp only [List.mem_cons, List.not_mem_nil, or_false] at hd
    rcases hd with rfl | rfl
    · exact sml_dBs h hj
    · exact sml_dBs g hk
theorem Sm.swap {bs : Bs} {i : Nat} {b : Pa × Int} (h : Sm 3 bs) (hi : i < bs.length) (g : 0 ≤ b.2 ∧ b.2 ≤ 4 ∧ SmP b.1) : Sm 4 (bs.take i ++ [b] ++ bs.drop (i + 1)) := by
  refine ⟨?_, fun c hc => ?_⟩
  · rw [List.length_append, List.length_append, List.length_take, List.length_drop]
    have := h.few
    show min i bs.length + 1 + (bs.length - (i + 1)) ≤ 3
    omega
  · rcases List.mem_append.mp hc with hc | hc
    · rcases List.mem_append.mp hc with hc | hc
      · obtain ⟨h1, h2, h3⟩ := h.all c (List.mem_of_mem_take hc)
        exact ⟨h1, by omega, h3⟩
      · rw [List.mem_singleton.mp hc]; exact ⟨g.1, by have := g.2.1; omega, g.2.2⟩
    · obtain ⟨h1, h2, h3⟩ := h.all c (List.mem_of_mem_drop hc)
      exact ⟨h1, by omega, h3⟩
theorem Sm.rev {bs : Bs} (h : Sm 3 bs) : Sm 4 bs.reverse := ⟨by rw [List.length_reverse]; exact h.few, fun c hc => by
  obtain ⟨h1, h2, h3⟩ := h.all c (List.mem_reverse.mp hc)
  exact ⟨h1, by omega, h3⟩⟩
theorem cut4_sm {z : Str} (h : Abc z) : SmP (.row (cutS z none (some 4))) := by
  refine ⟨abc_cut h, ?_⟩
  have := congrArg List.length (codes_to z 4)
  rw [codes_len, List.length_take] at this
  show (cutS z none (some ((4 : Nat) : Int))).length ≤ 4
  omega
theorem shw_b2 : ∀ b : Bool, Shw (PyData.list [.bool b, .bool b]) := fun b => by
  refine (Sml.shw (D := 1) (W := 2) (sml_list (D := 0) (W := 0) (ds := [.bool b, .bool b]) fun d hd => ?_)) (by decide) (by decide)
  simp only [List.mem_cons, List.not_mem_nil, or_false] at hd
  rcases hd with rfl | rfl <;> exact ⟨rfl, rfl, rfl, Nat.le_refl _, Nat.le_refl _⟩
theorem far_iff {i j k : Nat} {bs cs : Bs} (h : Sm j bs) (g : Sm k cs) (hj : j ≤ 9) (hk : k ≤ 9) : Al i (wr (2 ^ i - 1) bs) (wr (2 ^ i - 1) cs) ↔ Al i (wr 9 bs) (wr 9 cs) := by
  have a1 : Al i (wr 9 bs) (wr (2 ^ i - 1) bs) := wr_al (fun b hb => ⟨(h.all b hb).1, by have := (h.all b hb).2.1; omega, (h.all b hb).2.2⟩) (by decide)
  have a2 : Al i (wr 9 cs) (wr (2 ^ i - 1) cs) := wr_al (fun b hb => ⟨(g.all b hb).1, by have := (g.all b hb).2.1; omega, (g.all b hb).2.2⟩) (by decide)
  exact ⟨fun q => a1.trans (q.trans a2.symm), fun q => a1.symm.trans (q.trans a2)⟩
theorem wr_low {i : Nat} (hi : i ≤ 3) (bs : Bs) : (wr (2 ^ i - 1) bs).length ≤ (wr 9 bs).length := by
  have : 2 ^ i ≤ 2 ^ 3 := Nat.pow_le_pow_right (by decide) hi
  exact wr_mono (by omega) bs
theorem codes_mid (y : Str) : codes (cutS y (some 4) (some 8)) = ((codes y).drop 4).take 4 := by
  show ((y.cps.toList.drop (HT.sIx y.length 0 (some ((4 : Nat) : Int)))).take (HT.sIx y.length y.length (some ((8 : Nat) : Int)) - HT.sIx y.length 0 (some ((4 : Nat) : Int)))).toArray.toList = (y.cps.toList.drop 4).take 4
  have hl : y.cps.toList.length = y.length := Array.length_toList
  rw [HT.sIx_nat, HT.sIx_nat, List.toList_toArray]
  by_cases h8 : 8 ≤ y.length
  · rw [Nat.min_eq_left h8, Nat.min_eq_left (by omega : 4 ≤ y.length)]
  · by_cases h4 : 4 ≤ y.length
    · rw [Nat.min_eq_left h4, Nat.min_eq_right (by omega : y.length ≤ 8), List.take_of_length_le (by rw [List.length_drop]; omega), List.take_of_length_le (by rw [List.length_drop]; omega)]
    · rw [Nat.min_eq_right (by omega : y.length ≤ 4), List.drop_eq_nil_of_le (by omega), List.drop_eq_nil_of_le (by omega), List.take_nil, List.take_nil]
theorem cut_three (y : Str) : codes (cutS y none (some 4)) ++ (codes (cutS y (some 4) (some 8)) ++ codes (cutS y (some 8) none)) = codes y := by
  have h1 : codes (cutS y none (some 4)) = (codes y).take 4 := codes_to y 4
  have h3 : codes (cutS y (some 8) none) = (codes y).drop 8 := codes_from y 8
  rw [h1, codes_mid, h3, show (codes y).drop 8 = ((codes y).drop 4).drop 4 by rw [List.drop_drop], List.take_append_drop, List.take_append_drop]
end M
end

section
set_option Elab.async false
set_option linter.all false
set_option maxRecDepth 100000
set_option maxHeartbeats 2000000
/-! the question that parts two rows -/
namespace M
open PySem L2 Evl
open PyProof.Rows hiding St
/-- alike rows let the same questions -/
theorem al_lt : ∀ (q : Qn) {d : Nat} {r s : List Nat}, q.deep ≤ d → Al d r s → lt q r = lt q s
  | .any, _, _, _, _, _ => rfl
  | .no q, d, r, s, h, a => by simp only [lt]; rw [al_lt q h a]
  | .both p q, d, r, s, h, a => by
    simp only [Qn.deep] at h
    simp only [lt]; rw [al_lt p (by omega) a, al_lt q (by omega) a]
  | .some p c q, d, r, s, h, a => by
    simp only [Qn.deep] at h
    obtain ⟨d, rfl⟩ : ∃ e, d = e + 1 := ⟨d - 1, by omega⟩
    have one : ∀ {r s : List Nat}, Al (d + 1) r s → lt (.some p c q) r = true → lt (.some p c q) s = true := fun {r s} a h1 => by
      simp only [lt, List.any_eq_true, List.mem_range, Bool.and_eq_true, decide_eq_true_eq] at h1 ⊢
      obtain ⟨i, hi, e, l1, l2⟩ := h1
      obtain ⟨j, e2, a1, a2⟩ := a.1 i c e
      exact ⟨j, (List.getElem?_eq_some_iff.mp e2).1, e2, by rw [← al_lt p (by omega) a1]; exact l1, by rw [← al_lt q (by omega) a2]; exact l2⟩
    exact Bool.eq_iff_iff.mpr ⟨one a, one a.symm⟩
/-! ### the least depth that parts -/
def IsPd (n : Nat) (r s : List Nat) : Prop := ¬ Al n r s ∧ ∀ e, e < n → Al e r s
theorem IsPd.one {n m : Nat} {r s : List Nat} (h : IsPd n r s) (g : IsPd m r s) : n = m := by
  rcases Nat.lt_trichotomy n m with z | z | z
  · exact absurd (g.2 n z) h.1
  · exact z
  · exact absurd (h.2 m z) g.1
theorem IsPd.le {n d : Nat} {r s : List Nat} (h : IsPd n r s) (g : ¬ Al d r s) : n ≤ d := Nat.le_of_not_lt fun z => g (h.2 d z)
theorem IsPd.symm {n : Nat} {r s : List Nat} (h : IsPd n r s) : IsPd n s r := ⟨fun a => h.1 a.symm, fun e he => (h.2 e he).symm⟩
theorem pdn_least : ∀ {d : Nat} {r s : List Nat}, ¬ Al d r s → ∃ n, IsPd n r s
  | 0, _, _, h => absurd trivial h
  | d + 1, r, s, h => by
    by_cases g : Al d r s
    · exact ⟨d + 1, h, fun e he => g.mono (by omega)⟩
    · exact pdn_least g
theorem pdn_ex {r s : List Nat} (h : r ≠ s) : ∃ n, IsPd n r s := pdn_least (d := r.length + 1) fun a => h (al_short (r.length + 1) (by
  have : r.length + 1 < 2 ^ (r.length + 1) := Nat.lt_two_pow_self
  omega) a)
open Classical in
noncomputable def pdn (r s : List Nat) : Nat := if h : ∃ n, IsPd n r s then Classical.choose h else 0
theorem pdn_is {r s : List Nat} (h : r ≠ s) : IsPd (pdn r s) r s := by
  unfold pdn
  rw [dif_pos (pdn_ex h)]
  exact Classical.choose_spec (pdn_ex h)
theorem pdn_eq {n : Nat} {r s : List Nat} (h : IsPd n r s) : pdn r s = n := IsPd.one (pdn_is fun e => h.1 (by rw [e]; exact Al.refl _ _)) h
theorem pdn_pos {r s : List Nat} (h : r ≠ s) : 0 < pdn r s := Nat.pos_of_ne_zero fun z => (pdn_is h).1 (by rw [z]; trivial)
theorem pdn_short {r s : List Nat} {d : Nat} (h : r ≠ s) (hl : r.length < 2 ^ d - 1) : pdn r s ≤ d := (pdn_is h).le fun a => h (al_short d hl a)
/-! ### the question, as it is put together -/
def joined (p q : Qn) : Qn := match p with
  | .any => q
  | _ => .both p q
theorem joined_lt (p q : Qn) (r : List Nat) : lt (joined p q) r = (lt p r && lt q r) := by
  cases p <;> simp [joined, lt]
theorem joined_deep (p q : Qn) : (joined p q).deep = max p.deep q.deep := by
  cases p <;> simp [joined, Qn.deep]
theorem joined_ok {p q : Qn} (h : p.Ok) (g : q.Ok) : (joined p q).Ok := by
  cases p
  · exact g
  all_goals exact ⟨h, g⟩
theorem joined_parts (p q : Qn) : (joined p q).parts ≤ p.parts + q.parts + 1 := by
  cases p <;> simp [joined, Qn.parts] <;> omega
theorem joined_hi (p q : Qn) : (joined p q).hi ≤ max p.hi q.hi + 1 := by
  cases p <;> simp [joined, Qn.hi] <;> omega
open Classical in
noncomputable def noLater (a a2 b b2 : List Nat) : Bool := if a = a2 then false else decide (b = b2 ∨ pdn a a2 ≤ pdn b b2)
section
variable (g : List Nat → List Nat → Qn) (r : List Nat) (i : Nat) (s : List Nat)
noncomputable def qstep (j : Nat) (p : Qn × Qn) : Qn × Qn :=
  if (s[j]? == r[i]?) = true ∧ (lt p.1 (s.take j) && lt p.2 (s.drop (j + 1))) = true then
    (if noLater (r.take i) (s.take j) (r.drop (i + 1)) (s.drop (j + 1)) = true then (joined p.1 (g (r.take i) (s.take j)), p.2) else (p.1, joined p.2 (g (r.drop (i + 1)) (s.drop (j + 1)))))
  else p
noncomputable def qfold : Nat → Qn × Qn
  | 0 => (.any, .any)
  | j + 1 => qstep g r i s j (qfold j)
noncomputable def qat : Qn := .some (qfold g r i s s.length).1 (r.getD i 0) (qfold g r i s s.length).2
end
noncomputable def qbet : Nat → List Nat → List Nat → Qn
  | 0, _, _ => .any
  | f + 1, r, s => match (winP (pdn r s - 1) r s)[0]? with
    | none => .any
    | some (sd, i) => if sd = 0 then qat (qbet f) r i s else .no (qat (qbet f) s i r)
/-- what is wanted of a question for two rows -/
structure Pts (q : Qn) (r s : List Nat) (bp bh : Nat) : Prop where
  yes : lt q r = true
  no : lt q s = false
  deep : q.deep ≤ pdn r s
  ok : (∀ c ∈ r, 97 ≤ c ∧ c ≤ 122) → (∀ c ∈ s, 97 ≤ c ∧ c ≤ 122) → q.Ok
  parts : q.parts ≤ bp
  hi : q.hi ≤ bh
/-- at a place without an answer to so many picks: each place of the other row parts ahead or behind, as the program looks -/
theorem no_later {m i j : Nat} {r s : List Nat} (h : good m r s i = []) (hi : i < r.length) (e : s[j]? = r[i]?) :
    (noLater (r.take i) (s.take j) (r.drop (i + 1)) (s.drop (j + 1)) = true → r.take i ≠ s.take j ∧ pdn (r.take i) (s.take j) ≤ m) ∧
    (noLater (r.take i) (s.take j) (r.drop (i + 1)) (s.drop (j + 1)) = false → r.drop (i + 1) ≠ s.drop (j + 1) ∧ pdn (r.drop (i + 1)) (s.drop (j + 1)) ≤ m) := by
  have hj : j < s.length := by
    rw [List.getElem?_eq_getElem hi] at e
    exact (List.getElem?_eq_some_iff.mp e).1
  have no : ¬ (Al m (r.take i) (s.take j) ∧ Al m (r.drop (i + 1)) (s.drop (j + 1))) := fun a => by
    have : j ∈ good m r s i := List.mem_filter.mpr ⟨List.mem_range.mpr hj, ansB_iff.mpr ⟨e.symm, hi, hj, a.1, a.2⟩⟩
    rw [h] at this
    exact nomatch this
  generalize r.take i = a at *
  generalize s.take j = a2 at *
  generalize r.drop (i + 1) = b at *
  generalize s.drop (j + 1) = b2 at *
  unfold noLater
  by_cases ea : a = a2
  · rw [if_pos ea]
    refine ⟨fun z => (nomatch z), fun _ => ?_⟩
    subst ea
    have nb : ¬ Al m b b2 := fun z => no ⟨Al.refl _ _, z⟩
    have ne : b ≠ b2 := fun z => nb (by rw [z]; exact Al.refl _ _)
    exact ⟨ne, (pdn_is ne).le nb⟩
  · rw [if_neg ea, decide_eq_true_eq, decide_eq_false_iff_not]
    refine ⟨fun z => ⟨ea, ?_⟩, fun z => ?_⟩
    · by_cases na : Al m a a2
      · have nb : ¬ Al m b b2 := fun q => no ⟨na, q⟩
        have ne : b ≠ b2 := fun z => nb (by rw [z]; exact Al.refl _ _)
        have := (pdn_is ne).le nb
        rcases z with z | z
        · exact absurd z ne
        · omega
      · exact (pdn_is ea).le na
    · have ne : b ≠ b2 := fun q => z (.inl q)
      refine ⟨ne, ?_⟩
      by_cases na : Al m a a2
      · exact (pdn_is ne).le fun q => no ⟨na, q⟩
      · have := (pdn_is ea).le na
        have : ¬ pdn a a2 ≤ pdn b b2 := fun q => z (.inr q)
        omega
/-- the questions for ahead and behind so far -/
structure QInv (r : List Nat) (i : Nat) (s : List Nat) (m bp bh : Nat) (j : Nat) (p : Qn × Qn) : Prop where
  yes1 : lt p.1 (r.take i) = true
  yes2 : lt p.2 (r.drop (i + 1)) = true
  d1 : p.1.deep ≤ m
  d2 : p.2.deep ≤ m
  ok : (∀ c ∈ r, 97 ≤ c ∧ c ≤ 122) → (∀ c ∈ s, 97 ≤ c ∧ c ≤ 122) → p.1.Ok ∧ p.2.Ok
  parts : p.1.parts + p.2.parts ≤ 2 + j * (bp + 1)
  h1 : p.1.hi ≤ bh + j
  h2 : p.2.hi ≤ bh + j
  no : ∀ k, k < j → s[k]? = r[i]? → (lt p.1 (s.take k) && lt p.2 (s.drop (k + 1))) = false
theorem mem_tak {c i : Nat} {r : List Nat} (h : c ∈ r.take i) : c ∈ r := List.mem_of_mem_take h
theorem qfold_inv {g : List Nat → List Nat → Qn} {m bp bh i : Nat} {r s : List Nat} (hg : ∀ a b, a.length ≤ r.length → b.length ≤ s.length → a ≠ b → pdn a b ≤ m → Pts (g a b) a b bp bh) (hb : 1 ≤ bh) (h : good m r s i = []) (hi : i < r.length) :
    ∀ j, QInv r i s m bp bh j (qfold g r i s j)
  | 0 => ⟨rfl, rfl, Nat.zero_le _, Nat.zero_le _, fun _ _ => ⟨trivial, trivial⟩, by show 1 + 1 ≤ _; omega, by show 1 ≤ _; omega, by show 1 ≤ _; omega, fun k hk => absurd hk (by omega)⟩
  | j + 1 => by
    have I := qfold_inv hg hb h hi j
    show QInv r i s m bp bh (j + 1) (qstep g r i s j (qfold g r i s j))
    generalize qfold g r i s j = p at *
    have e1 : (j + 1) * (bp + 1) = j * (bp + 1) + (bp + 1) := Nat.succ_mul _ _
    have lr1 : (r.take i).length ≤ r.length := List.length_take_le' _ _
    have lr2 : (r.drop (i + 1)).length ≤ r.length := by rw [List.length_drop]; omega
    have ls1 : (s.take j).length ≤ s.length := List.length_take_le' _ _
    have ls2 : (s.drop (j + 1)).length ≤ s.length := by rw [List.length_drop]; omega
    unfold qstep
    by_cases c1 : (s[j]? == r[i]?) = true ∧ (lt p.1 (s.take j) && lt p.2 (s.drop (j + 1))) = true
    · rw [if_pos c1]
      have e := beq_iff_eq.mp c1.1
      obtain ⟨n1, n2⟩ := no_later h hi e
      by_cases c2 : noLater (r.take i) (s.take j) (r.drop (i + 1)) (s.drop (j + 1)) = true
      · rw [if_pos c2]
        obtain ⟨ne, le⟩ := n1 c2
        have G := hg _ _ lr1 ls1 ne le
        have hp := joined_parts p.1 (g (r.take i) (s.take j))
        have hh := joined_hi p.1 (g (r.take i) (s.take j))
        have g1 := G.parts
        have g2 := G.hi
        have g3 := G.deep
        have i1 := I.parts
        have i2 := I.h1
        have i3 := I.h2
        have i4 := I.d1
        refine ⟨?_, I.yes2, ?_, I.d2, fun a b => ⟨joined_ok (I.ok a b).1 (G.ok (fun c hc => a c (mem_tak hc)) (fun c hc => b c (mem_tak hc))), (I.ok a b).2⟩, ?_, ?_, ?_, fun k hk ek => ?_⟩
        · show lt (joined _ _) _ = true
          rw [joined_lt, I.yes1, G.yes]; rfl
        · show (joined _ _).deep ≤ _
          rw [joined_deep]; omega
        · show (joined _ _).parts + p.2.parts ≤ _
          omega
        · show (joined _ _).hi ≤ _
          omega
        · show p.2.hi ≤ _
          omega
        · show (lt (joined _ _) _ && lt p.2 _) = false
          rw [joined_lt]
          by_cases q : k = j
          · subst q
            rw [G.no]
            simp
          · have := I.no k (by omega) ek
            cases u : lt p.1 (s.take k) with
            | false => rfl
            | true => rw [u, Bool.true_and] at this; rw [this]; simp
      · rw [if_neg c2]
        obtain ⟨ne, le⟩ := n2 (Bool.eq_false_iff.mpr c2)
        have G := hg _ _ lr2 ls2 ne le
        have hp := joined_parts p.2 (g (r.drop (i + 1)) (s.drop (j + 1)))
        have hh := joined_hi p.2 (g (r.drop (i + 1)) (s.drop (j + 1)))
        have g1 := G.parts
        have g2 := G.hi
        have g3 := G.deep
        have i1 := I.parts
        have i2 := I.h1
        have i3 := I.h2
        have i4 := I.d2
        refine ⟨I.yes1, ?_, I.d1, ?_, fun a b => ⟨(I.ok a b).1, joined_ok (I.ok a b).2 (G.ok (fun c hc => a c (List.mem_of_mem_drop hc)) (fun c hc => b c (List.mem_of_mem_drop hc)))⟩, ?_, ?_, ?_, fun k hk ek => ?_⟩
        · show lt (joined _ _) _ = true
          rw [joined_lt, I.yes2, G.yes]; rfl
        · show (joined _ _).deep ≤ _
          rw [joined_deep]; omega
        · show p.1.parts + (joined _ _).parts ≤ _
          omega
        · show p.1.hi ≤ _
          omega
        · show (joined _ _).hi ≤ _
          omega
        · show (lt p.1 _ && lt (joined _ _) _) = false
          rw [joined_lt]
          by_cases q : k = j
          · subst q
            rw [G.no]
            simp
          · have := I.no k (by omega) ek
            cases u : lt p.1 (s.take k) with
            | false => rfl
            | true => rw [u, Bool.true_and] at this; rw [this]; simp
    · rw [if_neg c1]
      have i1 := I.parts
      have i2 := I.h1
      have i3 := I.h2
      refine ⟨I.yes1, I.yes2, I.d1, I.d2, I.ok, by omega, by omega, by omega, fun k hk ek => ?_⟩
      by_cases q : k = j
      · subst q
        refine Bool.eq_false_iff.mpr fun z => c1 ⟨by rw [ek]; exact beq_self_eq_true _, z⟩
      · exact I.no k (by omega) ek
theorem qat_pts {g : List Nat → List Nat → Qn} {m bp bh i : Nat} {r s : List Nat} (hg : ∀ a b, a.length ≤ r.length → b.length ≤ s.length → a ≠ b → pdn a b ≤ m → Pts (g a b) a b bp bh) (hb : 1 ≤ bh) (h : good m r s i = []) (hi : i < r.length) (hp : pdn r s = m + 1) :
    Pts (qat g r i s) r s (3 + s.length * (bp + 1)) (bh + s.length + 1) := by
  have I := qfold_inv hg hb h hi s.length
  have er : r[i]? = some (r.getD i 0) := by rw [List.getD_eq_getElem?_getD, List.getElem?_eq_getElem hi]; rfl
  unfold qat
  generalize qfold g r i s s.length = p at *
  have i1 := I.parts
  have i2 := I.h1
  have i3 := I.h2
  have i4 := I.d1
  have i5 := I.d2
  refine ⟨?_, ?_, ?_, fun a b => ⟨(I.ok a b).1, a _ (List.mem_of_getElem? er), (I.ok a b).2⟩, ?_, ?_⟩
  · simp only [lt, List.any_eq_true, List.mem_range, Bool.and_eq_true, decide_eq_true_eq]
    exact ⟨i, hi, er, I.yes1, I.yes2⟩
  · refine Bool.eq_false_iff.mpr fun z => ?_
    simp only [lt, List.any_eq_true, List.mem_range, Bool.and_eq_true, decide_eq_true_eq] at z
    obtain ⟨j, hj, e, l1, l2⟩ := z
    have := I.no j hj (by rw [e, er])
    rw [l1, l2] at this
    exact nomatch this
  · rw [hp]
    show max _ _ + 1 ≤ _
    omega
  · show _ + _ + 1 ≤ _
    omega
  · show max _ _ + 1 ≤ _
    omega
def bpF (L : Nat) : Nat → Nat
  | 0 => 1
  | f + 1 => 4 + L * (bpF L f + 1)
def bhF (L : Nat) : Nat → Nat
  | 0 => 1
  | f + 1 => bhF L f + L + 2
theorem bhF_pos (L : Nat) : ∀ f, 1 ≤ bhF L f
  | 0 => Nat.le_refl _
  | f + 1 => by have := bhF_pos L f; show 1 ≤ bhF L f + L + 2; omega
theorem pdn_symm {r s : List Nat} (h : r ≠ s) : pdn s r = pdn r s := pdn_eq (pdn_is h).symm
theorem Pts.up {q : Qn} {r s : List Nat} {bp bh bp' bh' : Nat} (h : Pts q r s bp bh) (g1 : bp ≤ bp') (g2 : bh ≤ bh') : Pts q r s bp' bh' := ⟨h.yes, h.no, h.deep, h.ok, Nat.le_trans h.parts g1, Nat.le_trans h.hi g2⟩
theorem qbet_pts (L : Nat) : ∀ (f : Nat) (r s : List Nat), r.length ≤ L → s.length ≤ L → r ≠ s → pdn r s ≤ f → Pts (qbet f r s) r s (bpF L f) (bhF L f)
  | 0, r, s, _, _, ne, le => absurd (pdn_pos ne) (by omega)
  | f + 1, r, s, lr, ls, ne, le => by
    obtain ⟨m, hm⟩ : ∃ m, pdn r s = m + 1 := ⟨pdn r s - 1, by have := pdn_pos ne; omega⟩
    have nw : winP m r s ≠ [] := fun z => (pdn_is ne).1 (by rw [hm]; exact wins_ne.mp z)
    obtain ⟨x, xs, hx⟩ := List.exists_cons_of_ne_nil nw
    have hmem : x ∈ winP m r s := by rw [hx]; exact List.mem_cons_self
    have e0 : (winP (pdn r s - 1) r s)[0]? = some x := by rw [hm, Nat.add_sub_cancel, hx]; rfl
    obtain ⟨sd, i⟩ := x
    have ih : ∀ {r s : List Nat}, r.length ≤ L → s.length ≤ L → ∀ a b, a.length ≤ r.length → b.length ≤ s.length → a ≠ b → pdn a b ≤ m → Pts (qbet f a b) a b (bpF L f) (bhF L f) := by
      intro r s h1 h2 a b ha hb hne hle
      exact qbet_pts L f a b (by omega) (by omega) hne (by omega)
    have mono1 : ∀ n, n ≤ L → 3 + n * (bpF L f + 1) + 1 ≤ bpF L (f + 1) := fun n hn => by
      show _ ≤ 4 + L * (bpF L f + 1)
      have := Nat.mul_le_mul_right (bpF L f + 1) hn
      omega
    have mono2 : ∀ n, n ≤ L → bhF L f + n + 1 + 1 ≤ bhF L (f + 1) := fun n hn => by
      show _ ≤ bhF L f + L + 2
      omega
    rw [qbet, e0]
    show Pts (if sd = 0 then _ else _) r s _ _
    rcases mem_wins hmem with ⟨h0, hi, hg⟩ | ⟨h0, hi, hg⟩
    · have h0 : sd = 0 := h0
      rw [if_pos h0]
      exact (qat_pts (ih lr ls) (bhF_pos L f) hg hi hm).up (by have := mono1 _ ls; omega) (by have := mono2 _ ls; omega)
    · have h0 : sd = 1 := h0
      rw [if_neg (by omega)]
      have hi : i < s.length := hi
      have P : Pts (qat (qbet f) s i r) s r _ _ := qat_pts (ih ls lr) (bhF_pos L f) hg hi (by rw [pdn_symm ne]; exact hm)
      have p1 := P.parts
      have p2 := P.hi
      have p3 := P.deep
      rw [pdn_symm ne] at p3
      have q1 := mono1 _ lr
      have q2 := mono2 _ lr
      refine ⟨?_, ?_, p3, fun a b => P.ok b a, ?_, ?_⟩
      · simp only [lt]; rw [P.no]; rfl
      · simp only [lt]; rw [P.yes]; rfl
      · show _ + 1 ≤ _
        omega
      · show _ + 1 ≤ _
        omega
end M
end

section
set_option Elab.async false
set_option linter.all false
set_option maxRecDepth 100000
set_option maxHeartbeats 2000000
/-! tables of questions for all kinds that have numbers -/
namespace M
open PySem PySem.Spec L2 Evl
open PyProof.Rows hiding St
/-! ### the mathematics -/
/-- the table of a question for kinds: right for the kinds to at least its depth -/
def IsTK (t : KTab) (q : Qn) (ts : List Nat) : Prop := ts.length = t.length ∧ (∀ x ∈ ts, x ≤ 1) ∧ ∀ n d r, Rep t d n r → q.deep ≤ d → ts[n]? = some (if lt q r = true then 1 else 0)
theorem rep_size {t : KTab} (h0 : 0 < t.length) : ∀ {d n : Nat} {r : List Nat}, Rep t d n r → n < t.length
  | 0, n, _, h => by
    have h : n = 0 := h
    omega
  | d + 1, n, _, ⟨ms, h, _⟩ => (List.getElem?_eq_some_iff.mp h).1
def ones (n : Nat) : List Nat := List.replicate n 1
theorem tk_any {t : KTab} (h0 : 0 < t.length) : IsTK t .any (ones t.length) := by
  refine ⟨List.length_replicate, fun x hx => ?_, fun n d r h _ => ?_⟩
  · rw [List.eq_of_mem_replicate hx]; exact Nat.le_refl _
  · unfold ones
    rw [List.getElem?_replicate, if_pos (rep_size h0 h)]
    rfl
theorem tk_get {t : KTab} {q : Qn} {ts : List Nat} (h : IsTK t q ts) {n : Nat} {x : Nat} (e : ts[n]? = some x) : x ≤ 1 := h.2.1 x (List.mem_of_getElem? e)
theorem tk_no {t : KTab} {q : Qn} {ts : List Nat} (h0 : 0 < t.length) (h : IsTK t q ts) : IsTK t (.no q) (List.zipWith (· ^^^ ·) (ones t.length) ts) := by
  refine ⟨by rw [List.length_zipWith, h.1]; unfold ones; simp, fun x hx => ?_, fun n d r hr hd => ?_⟩
  · obtain ⟨i, hi⟩ := List.getElem?_of_mem hx
    rw [List.getElem?_zipWith] at hi
    unfold ones at hi
    rw [List.getElem?_replicate] at hi
    split at hi
    · rename_i a b ha hb
      split at ha
      · cases ha
        have := tk_get h hb
        cases hi
        rcases (by omega : b = 0 ∨ b = 1) with rfl | rfl <;> decide
      · cases ha
    · cases hi
  · have hn := rep_size h0 hr
    rw [List.getElem?_zipWith, h.2.2 n d r hr hd]
    unfold ones
    rw [List.getElem?_replicate, if_pos hn]
    simp only [lt]
    have key : ∀ b : Bool, (some (1 ^^^ (if b = true then 1 else 0)) : Option Nat) = some (if (!b) = true then 1 else 0) := by decide
    exact key _
theorem tk_both {t : KTab} {p q : Qn} {ts us : List Nat} (h : IsTK t p ts) (g : IsTK t q us) : IsTK t (.both p q) (List.zipWith (· &&& ·) ts us) := by
  refine ⟨by rw [List.length_zipWith, h.1, g.1]; simp, fun x hx => ?_, fun n d r hr hd => ?_⟩
  · obtain ⟨i, hi⟩ := List.getElem?_of_mem hx
    rw [List.getElem?_zipWith] at hi
    split at hi
    · rename_i a b ha hb
      have h1 := tk_get h ha
      have h2 := tk_get g hb
      cases hi
      rcases (by omega : a = 0 ∨ a = 1) with rfl | rfl <;> rcases (by omega : b = 0 ∨ b = 1) with rfl | rfl <;> decide
    · cases hi
  · simp only [Qn.deep] at hd
    rw [List.getElem?_zipWith, h.2.2 n d r hr (by omega), g.2.2 n d r hr (by omega)]
    simp only [lt]
    have key : ∀ b c : Bool, (some ((if b = true then 1 else 0) &&& (if c = true then 1 else 0)) : Option Nat) = some (if (b && c) = true then 1 else 0) := by decide
    exact key _ _
/-- marks with their kinds, in the table's sequence: those of the first n kinds, and j of the next -/
def pre (t : KTab) (n : Nat) : List (Nat × Mark) := (List.range n).flatMap fun k => ((t.getD k (0, [])).2).map fun m => (k, m)
theorem pre_succ {t : KTab} {n d : Nat} {ms : List Mark} (h : t[n]? = some (d, ms)) : pre t (n + 1) = pre t n ++ ms.map fun m => (n, m) := by
  unfold pre
  rw [List.range_succ, List.flatMap_append]
  congr 1
  rw [List.flatMap_cons, List.flatMap_nil, List.append_nil, List.getD_eq_getElem?_getD, h]
  rfl
theorem mem_pre {t : KTab} {k : Nat} {m : Mark} : (k, m) ∈ pre t t.length ↔ ∃ d ms, t[k]? = some (d, ms) ∧ m ∈ ms := by
  unfold pre
  rw [List.mem_flatMap]
  constructor
  · rintro ⟨n, hn, h⟩
    obtain ⟨m', hm, e⟩ := List.mem_map.mp h
    cases e
    have hl := List.mem_range.mp hn
    refine ⟨(t[k]).1, (t[k]).2, List.getElem?_eq_getElem hl, ?_⟩
    rw [List.getD_eq_getElem?_getD, List.getElem?_eq_getElem hl] at hm
    exact hm
  · rintro ⟨d, ms, h, hm⟩
    refine ⟨k, List.mem_range.mpr (List.getElem?_eq_some_iff.mp h).1, List.mem_map.mpr ⟨m, ?_, rfl⟩⟩
    rw [List.getD_eq_getElem?_getD, h]
    exact hm
abbrev Ent := Nat × Nat × Nat
/-- the entries of a letter -/
def sel (c : Nat) (P : List (Nat × Mark)) : List Ent := (P.filter fun m => m.2.2.1 == c).map fun m => (m.1, m.2.1, m.2.2.2)
theorem sel_app (c : Nat) (P : List (Nat × Mark)) (m : Nat × Mark) : sel c (P ++ [m]) = sel c P ++ (if m.2.2.1 = c then [(m.1, m.2.1, m.2.2.2)] else []) := by
  unfold sel
  rw [List.filter_append, List.map_append]
  congr 1
  by_cases h : m.2.2.1 = c
  · rw [if_pos h, List.filter_cons, if_pos (beq_iff_eq.mpr h)]; rfl
  · rw [if_neg h, List.filter_cons, if_neg (fun z => h (beq_iff_eq.mp z))]; rfl
theorem mem_sel {c n a b : Nat} {P : List (Nat × Mark)} : (n, a, b) ∈ sel c P ↔ (n, (a, c, b)) ∈ P := by
  unfold sel
  rw [List.mem_map]
  constructor
  · rintro ⟨⟨n', a', c', b'⟩, h, e⟩
    obtain ⟨h1, h2⟩ := List.mem_filter.mp h
    have h2 : c' = c := beq_iff_eq.mp h2
    cases e
    rw [← h2]
    exact h1
  · intro h
    exact ⟨(n, (a, c, b)), List.mem_filter.mpr ⟨h, beq_self_eq_true c⟩, rfl⟩
theorem sel_len (c : Nat) (P : List (Nat × Mark)) : (sel c P).length ≤ P.length := by
  unfold sel
  rw [List.length_map]
  exact List.length_filter_le _ _
/-- a table being made of the first entries of a list -/
def PartK (ts us : List Nat) (E : List Ent) (len j : Nat) (tt : List Nat) : Prop := tt.length = len ∧ (∀ x ∈ tt, x ≤ 1) ∧ ∀ n, tt[n]? = some 1 ↔ n < len ∧ ∃ a b, (n, a, b) ∈ E.take j ∧ ts[a]? = some 1 ∧ us[b]? = some 1
theorem partK_0 (ts us : List Nat) (E : List Ent) (len : Nat) : PartK ts us E len 0 (List.replicate len 0) := by
  refine ⟨List.length_replicate, fun x hx => by rw [List.eq_of_mem_replicate hx]; exact Nat.zero_le _, fun n => ⟨fun h => ?_, fun ⟨_, a, b, h, _⟩ => ?_⟩⟩
  · rw [List.getElem?_replicate] at h
    split at h
    · cases h
    · cases h
  · rw [List.take_zero] at h
    exact nomatch h
theorem partK_yes {ts us : List Nat} {E : List Ent} {len j : Nat} {tt : List Nat} (h : PartK ts us E len j tt) {n a b : Nat} (e : E[j]? = some (n, a, b)) (hn : n < len) (h1 : ts[a]? = some 1) (h2 : us[b]? = some 1) : PartK ts us E len (j + 1) (tt.set n 1) := by
  have et : E.take (j + 1) = E.take j ++ [(n, a, b)] := by rw [List.take_succ, e]; rfl
  refine ⟨by rw [List.length_set]; exact h.1, fun x hx => ?_, fun i => ?_⟩
  · rcases List.mem_or_eq_of_mem_set hx with hx | rfl
    · exact h.2.1 x hx
    · exact Nat.le_refl _
  · rw [et]
    by_cases q : n = i
    · subst q
      rw [List.getElem?_set_self (by rw [h.1]; exact hn)]
      exact ⟨fun _ => ⟨hn, a, b, List.mem_append.mpr (.inr (List.mem_singleton.mpr rfl)), h1, h2⟩, fun _ => rfl⟩
    · rw [List.getElem?_set_ne q, h.2.2 i]
      constructor
      · rintro ⟨g0, x, y, g1, g2, g3⟩
        exact ⟨g0, x, y, List.mem_append.mpr (.inl g1), g2, g3⟩
      · rintro ⟨g0, x, y, g1, g2, g3⟩
        rcases List.mem_append.mp g1 with g1 | g1
        · exact ⟨g0, x, y, g1, g2, g3⟩
        · have := List.mem_singleton.mp g1
          cases this
          exact absurd rfl q
theorem partK_no {ts us : List Nat} {E : List Ent} {len j : Nat} {tt : List Nat} (h : PartK ts us E len j tt) {n a b : Nat} (e : E[j]? = some (n, a, b)) (g : ¬ (ts[a]? = some 1 ∧ us[b]? = some 1)) : PartK ts us E len (j + 1) tt := by
  have et : E.take (j + 1) = E.take j ++ [(n, a, b)] := by rw [List.take_succ, e]; rfl
  refine ⟨h.1, h.2.1, fun i => ?_⟩
  rw [et, h.2.2 i]
  constructor
  · rintro ⟨g0, x, y, g1, g2, g3⟩
    exact ⟨g0, x, y, List.mem_append.mpr (.inl g1), g2, g3⟩
  · rintro ⟨g0, x, y, g1, g2, g3⟩
    rcases List.mem_append.mp g1 with g1 | g1
    · exact ⟨g0, x, y, g1, g2, g3⟩
    · have := List.mem_singleton.mp g1
      cases this
      exact absurd ⟨g2, g3⟩ g
theorem partK_end {t : KTab} {ts us : List Nat} {p q : Qn} {c : Nat} {tt : List Nat} (h0 : 0 < t.length) (h : PartK ts us (sel c (pre t t.length)) t.length (sel c (pre t t.length)).length tt) (hp : IsTK t p ts) (hq : IsTK t q us) : IsTK t (.some p c q) tt := by
  refine ⟨h.1, h.2.1, fun n d r hr hd => ?_⟩
  simp only [Qn.deep] at hd
  obtain ⟨d, rfl⟩ : ∃ e, d = e + 1 := ⟨d - 1, by omega⟩
  have hn := rep_size h0 hr
  obtain ⟨x, hx⟩ : ∃ x, tt[n]? = some x := ⟨_, List.getElem?_eq_getElem (by rw [h.1]; exact hn)⟩
  have hx1 := h.2.1 x (List.mem_of_getElem? hx)
  have key : tt[n]? = some 1 ↔ lt (.some p c q) r = true := by
    rw [h.2.2 n, List.take_length]
    obtain ⟨ms, hms, g1, g2⟩ := hr
    simp only [lt, List.any_eq_true, List.mem_range, Bool.and_eq_true, decide_eq_true_eq]
    constructor
    · rintro ⟨_, a, b, hm, e1, e2⟩
      obtain ⟨d', ms', e3, e4⟩ := mem_pre.mp (mem_sel.mp hm)
      rw [hms] at e3
      cases e3
      obtain ⟨i, hi, r1, r2⟩ := g2 a c b e4
      refine ⟨i, (List.getElem?_eq_some_iff.mp hi).1, hi, ?_, ?_⟩
      · rw [hp.2.2 a d _ r1 (by omega)] at e1
        cases u : lt p (r.take i) with
        | true => rfl
        | false => rw [u] at e1; exact nomatch Option.some.inj e1
      · rw [hq.2.2 b d _ r2 (by omega)] at e2
        cases u : lt q (r.drop (i + 1)) with
        | true => rfl
        | false => rw [u] at e2; exact nomatch Option.some.inj e2
    · rintro ⟨i, hi, e, l1, l2⟩
      obtain ⟨a, b, hm, r1, r2⟩ := g1 i c e
      refine ⟨hn, a, b, mem_sel.mpr (mem_pre.mpr ⟨_, _, hms, hm⟩), ?_, ?_⟩
      · rw [hp.2.2 a d _ r1 (by omega), l1]; rfl
      · rw [hq.2.2 b d _ r2 (by omega), l2]; rfl
  rw [hx] at key ⊢
  by_cases g : lt (.some p c q) r = true
  · rw [if_pos g]; exact key.mpr g
  · rw [if_neg g]
    have : x ≠ 1 := fun z => g (key.mp (by rw [z]))
    congr 1
    omega
/-! ### triples of numbers in a list; the dict of them -/
def Tri3 (H : Hp) (rs : List V) (E : List Ent) : Prop := ∃ L : List (Addr × Ent), rs = L.map (fun p => V.ref p.1) ∧ E = L.map (·.2) ∧ ∀ p ∈ L, H p.1 = some (.tup [.int (p.2.1 : Nat), .int (p.2.2.1 : Nat), .int (p.2.2.2 : Nat)])
theorem Tri3.nil {H : Hp} : Tri3 H [] [] := ⟨[], rfl, rfl, fun p h => nomatch h⟩
theorem Tri3.up {H H' : Hp} (x : Tk H H') {rs : List V} {E : List Ent} (h : Tri3 H rs E) : Tri3 H' rs E := by
  obtain ⟨L, h1, h2, h3⟩ := h
  exact ⟨L, h1, h2, fun p hp => x _ _ (h3 p hp)⟩
theorem Tri3.len {H : Hp} {rs : List V} {E : List Ent} (h : Tri3 H rs E) : rs.length = E.length := by
  obtain ⟨L, rfl, rfl, _⟩ := h
  simp
theorem Tri3.snoc {H : Hp} {rs : List V} {E : List Ent} (h : Tri3 H rs E) {a : Addr} {x y z : Nat} (e : H a = some (.tup [.int (x : Nat), .int (y : Nat), .int (z : Nat)])) : Tri3 H (rs ++ [.ref a]) (E ++ [(x, y, z)]) := by
  obtain ⟨L, rfl, rfl, h3⟩ := h
  refine ⟨L ++ [(a, (x, y, z))], by simp, by simp, fun p hp => ?_⟩
  rcases List.mem_append.mp hp with hp | hp
  · exact h3 p hp
  · rw [List.mem_singleton.mp hp]; exact e
theorem Tri3.at {H : Hp} {rs : List V} {E : List Ent} (h : Tri3 H rs E) {i : Nat} {p : Ent} (e : E[i]? = some p) : ∃ a, rs[i]? = some (.ref a) ∧ H a = some (.tup [.int (p.1 : Nat), .int (p.2.1 : Nat), .int (p.2.2 : Nat)]) := by
  obtain ⟨L, rfl, rfl, h3⟩ := h
  rw [List.getElem?_map] at e
  obtain ⟨q, h1, rfl⟩ := Option.map_eq_some_iff.mp e
  exact ⟨q.1, by rw [List.getElem?_map, h1]; rfl, h3 q (List.mem_of_getElem? h1)⟩
def kcC (c : Nat) : Key := Sum.inr ⟨#[c]⟩
theorem kcC_inj {c d : Nat} (h : kcC c = kcC d) : c = d := by
  unfold kcC at h
  have := Sum.inr.inj h
  exact M.one_inj this
/-- the dict at d holds, letter by letter, the entries of P; its lists are new behind H0 -/
structure MwK (H0 H : Hp) (d : Addr) (kv : List (Key × V)) (P : List (Nat × Mark)) : Prop where
  at_ : H d = some (.dK kv)
  len : kv.length ≤ P.length
  no : ∀ c, (∀ m ∈ P, m.2.2.1 ≠ c) → valV kv (kcC c) = none
  yes : ∀ c, (∃ m ∈ P, m.2.2.1 = c) → ∃ l rs, valV kv (kcC c) = some (.ref l) ∧ H0 l = none ∧ l ≠ d ∧ H l = some (.lst rs) ∧ Tri3 H rs (sel c P)
  inj : ∀ c c' l, valV kv (kcC c) = some (.ref l) → valV kv (kcC c') = some (.ref l) → c = c'
def MwAt (H0 H : Hp) (d : Addr) (P : List (Nat × Mark)) : Prop := ∃ kv, MwK H0 H d kv P
theorem MwK.up {H0 H H' : Hp} {d : Addr} {kv : List (Key × V)} {P : List (Nat × Mark)} (h : MwK H0 H d kv P) (x : Ex H H') : MwK H0 H' d kv P :=
  ⟨x _ _ h.at_, h.len, h.no, fun c hc => let ⟨l, rs, a, b, e, f, g⟩ := h.yes c hc; ⟨l, rs, a, b, e, x _ _ f, g.up (Tk.of x)⟩, h.inj⟩
theorem MwAt.up {H0 H H' : Hp} {d : Addr} {P : List (Nat × Mark)} (h : MwAt H0 H d P) (x : Ex H H') : MwAt H0 H' d P := by
  obtain ⟨kv, h⟩ := h
  exact ⟨kv, h.up x⟩
theorem mem_snoc {P : List (Nat × Mark)} {n a c b c' : Nat} (h : ∃ m ∈ P ++ [(n, (a, c, b))], m.2.2.1 = c') (ne : c ≠ c') : ∃ m ∈ P, m.2.2.1 = c' := by
  obtain ⟨m, hm, e⟩ := h
  rcases List.mem_append.mp hm with hm | hm
  · exact ⟨m, hm, e⟩
  · rw [List.mem_singleton.mp hm] at e
    exact absurd e ne
theorem MwK.put_old {H0 H H1 : Hp} {d l tp : Addr} {kv : List (Key × V)} {P : List (Nat × Mark)} {n a c b : Nat} {rs : List V} (h : MwK H0 H d kv P) (x : Ex H H1) (ht : H1 tp = some (.tup [.int (n : Nat), .int (a : Nat), .int (b : Nat)])) (hl : valV kv (kcC c) = some (.ref l)) (el : H1 l = some (.lst rs)) :
    MwK H0 (upd H1 l (.lst (rs ++ [.ref tp]))) d kv (P ++ [(n, (a, c, b))]) ∧ H0 l = none := by
  have pres : ∃ m ∈ P, m.2.2.1 = c := Classical.byContradiction fun q => by
    have := h.no c fun m hm e => q ⟨m, hm, e⟩
    rw [hl] at this
    exact nomatch this
  obtain ⟨l', rs', e1, e2, e3, e4, e5⟩ := h.yes c pres
  rw [hl] at e1
  cases e1
  have e6 := x _ _ e4
  rw [el] at e6
  cases e6
  have tk : Tk H1 (upd H1 l (.lst (rs ++ [.ref tp]))) := fun q ys e => by
    rw [upd_ne (fun z => by rw [z, el] at e; exact nomatch e)]
    exact e
  have h1 := h.up x
  refine ⟨⟨by rw [upd_ne (Ne.symm e3)]; exact h1.at_, by rw [List.length_append]; exact Nat.le_succ_of_le h1.len, fun c' hc => ?_, fun c' hc => ?_, h1.inj⟩, e2⟩
  · exact h1.no c' fun m hm => hc m (List.mem_append_left _ hm)
  · by_cases q : c = c'
    · subst q
      refine ⟨l, rs ++ [.ref tp], hl, e2, e3, upd_same, ?_⟩
      rw [sel_app, if_pos rfl]
      exact ((e5.up (Tk.of x)).up tk).snoc (tk _ _ ht)
    · obtain ⟨l2, rs2, f1, f2, f3, f4, f5⟩ := h1.yes c' (mem_snoc hc q)
      have nl : l2 ≠ l := fun z => q (h1.inj c c' l hl (by rw [← z]; exact f1))
      refine ⟨l2, rs2, f1, f2, f3, by rw [upd_ne nl]; exact f4, ?_⟩
      rw [sel_app, if_neg q, List.append_nil]
      exact f5.up tk
theorem MwK.put_new {H0 H H1 H3 : Hp} {d l tp : Addr} {kv : List (Key × V)} {P : List (Nat × Mark)} {n a c b : Nat} (h : MwK H0 H d kv P) (x : Ex H H1) (hn : valV kv (kcC c) = none) (nl : H l = none) (nl0 : H0 l = none) (el : H1 l = some (.lst []))
    (x3 : Ex (upd H1 d (.dK (putK kv (kcC c) (.ref l)))) H3) (ht : H3 tp = some (.tup [.int (n : Nat), .int (a : Nat), .int (b : Nat)])) :
    MwK H0 (upd H3 l (.lst [.ref tp])) d (putK kv (kcC c) (.ref l)) (P ++ [(n, (a, c, b))]) := by
  have ld : l ≠ d := fun z => by rw [z, h.at_] at nl; exact nomatch nl
  have ed : H1 d = some (.dK kv) := x _ _ h.at_
  have el2 : upd H1 d (.dK (putK kv (kcC c) (.ref l))) l = some (.lst []) := by rw [upd_ne ld]; exact el
  have el3 := x3 _ _ el2
  have tk1 : Tk H1 (upd H1 d (.dK (putK kv (kcC c) (.ref l)))) := fun q ys e => by
    rw [upd_ne (fun z => by rw [z, ed] at e; exact nomatch e)]
    exact e
  have tk2 : Tk H3 (upd H3 l (.lst [.ref tp])) := fun q ys e => by
    rw [upd_ne (fun z => by rw [z, el3] at e; exact nomatch e)]
    exact e
  have tk : Tk H (upd H3 l (.lst [.ref tp])) := (((Tk.of x).trans tk1).trans (Tk.of x3)).trans tk2
  have abs : ∀ m ∈ P, m.2.2.1 ≠ c := fun m hm e => by
    obtain ⟨l', _, e1, _⟩ := h.yes c ⟨m, hm, e⟩
    rw [hn] at e1
    exact nomatch e1
  have old : ∀ {c' l'}, valV kv (kcC c') = some (.ref l') → ∃ rs, l' ≠ d ∧ l' ≠ l ∧ H l' = some (.lst rs) := fun {c' l'} e => by
    have pres : ∃ m ∈ P, m.2.2.1 = c' := Classical.byContradiction fun q => by
      have := h.no c' fun m hm e => q ⟨m, hm, e⟩
      rw [e] at this
      exact nomatch this
    obtain ⟨l2, rs2, f1, f2, f3, f4, f5⟩ := h.yes c' pres
    rw [e] at f1
    cases f1
    refine ⟨rs2, f3, ?_, f4⟩
    intro z
    rw [z, nl] at f4
    exact nomatch f4
  refine ⟨by rw [upd_ne (Ne.symm ld)]; exact x3 _ _ upd_same, ?_, fun c' hc => ?_, fun c' hc => ?_, fun c1 c2 l' g1 g2 => ?_⟩
  · have := length_putK kv (kcC c) (.ref l)
    have := h.len
    rw [List.length_append]
    show _ ≤ P.length + 1
    omega
  · have q : c ≠ c' := hc _ (List.mem_append.mpr (.inr (List.mem_singleton.mpr rfl)))
    rw [valV_put, if_neg (fun z => q (kcC_inj z).symm)]
    exact h.no c' fun m hm => hc m (List.mem_append_left _ hm)
  · by_cases q : c = c'
    · subst q
      refine ⟨l, [.ref tp], by rw [valV_put, if_pos rfl], nl0, ld, upd_same, ?_⟩
      have e0 : sel c P = [] := by
        unfold sel
        rw [List.filter_eq_nil_iff.mpr fun m hm z => abs m hm (beq_iff_eq.mp z)]
        rfl
      rw [sel_app, if_pos rfl, e0]
      exact (Tri3.nil (H := upd H3 l (.lst [.ref tp]))).snoc (tk2 _ _ ht)
    · obtain ⟨l2, rs2, f1, f2, f3, f4, f5⟩ := h.yes c' (mem_snoc hc q)
      obtain ⟨_, _, nl2, _⟩ := old f1
      refine ⟨l2, rs2, by rw [valV_put, if_neg (fun z => q (kcC_inj z).symm)]; exact f1, f2, f3, ?_, ?_⟩
      · rw [upd_ne nl2]
        refine x3 _ _ ?_
        rw [upd_ne f3]
        exact x _ _ f4
      · rw [sel_app, if_neg q, List.append_nil]
        exact f5.up tk
  · rw [valV_put] at g1 g2
    by_cases q1 : kcC c1 = kcC c
    · rw [if_pos q1] at g1
      cases g1
      by_cases q2 : kcC c2 = kcC c
      · exact (kcC_inj q1).trans (kcC_inj q2).symm
      · rw [if_neg q2] at g2
        obtain ⟨_, _, z, _⟩ := old g2
        exact absurd rfl z
    · rw [if_neg q1] at g1
      by_cases q2 : kcC c2 = kcC c
      · rw [if_pos q2] at g2
        cases g2
        obtain ⟨_, _, z, _⟩ := old g1
        exact absurd rfl z
      · rw [if_neg q2] at g2
        exact h.inj c1 c2 l' g1 g2
/-- the object of kinds that are asked -/
def AAt (C : Addr) (H : Hp) (x : Addr) (t : KTab) : Prop := ∃ (dx lw dm : Addr) (H0 : Hp), H x = some (.ins C dx [(("whole" : Str), V.ref lw), (("marks_with" : Str), V.ref dm)]) ∧ H lw = some (.lst (natV (ones t.length))) ∧ MwAt H0 H dm (pre t t.length)
theorem AAt.up {C : Addr} {H H' : Hp} {x : Addr} {t : KTab} (h : AAt C H x t) (e : Ex H H') : AAt C H' x t := by
  obtain ⟨dx, lw, dm, H0, h1, h2, h3⟩ := h
  exact ⟨dx, lw, dm, H0, e _ _ h1, e _ _ h2, h3.up e⟩
/-! ### what the defs promise -/
def sp_askinit (P : Program) (w : World) (CK CA : Addr) : Sp := fun vs H Q _ => ∃ (x dx : Addr) (k : KC) (Ls : List Addr) (t : KTab), vs = [.ref x, .ref k.x] ∧ H x = some (.ins CA dx []) ∧ KS P w CK k Ls H t ∧ t.length ≤ 200000 ∧
  ∀ H', (∀ b o, b ≠ x → H b = some o → H' b = some o) → AAt CA H' x t → Q .non H'
/-- a table of kinds whose marks speak of kinds it has -/
structure Sound (t : KTab) : Prop where
  pos : 0 < t.length
  few : t.length ≤ 200000
  low : ∀ k m, (k, m) ∈ pre t t.length → k < t.length ∧ m.1 < t.length ∧ m.2.2 < t.length
  many : (pre t t.length).length ≤ 12000000
def sp_askmet (C : Addr) : Sp := fun vs H Q _ => ∃ (x l1 l2 : Addr) (t : KTab) (c : Nat) (a b : Qn) (ts us : List Nat), vs = [.ref x, .ref l1, .str ⟨#[c]⟩, .ref l2] ∧ AAt C H x t ∧ Sound t ∧
  H l1 = some (.lst (natV ts)) ∧ IsTK t a ts ∧ H l2 = some (.lst (natV us)) ∧ IsTK t b us ∧ ∀ l tt H', Ex H H' → H l = none → H' l = some (.lst (natV tt)) → IsTK t (.some a c b) tt → Q (.ref l) H'
theorem pre_len (t : KTab) (k : Nat) (h : ∀ (n d : Nat) (ms : List Mark), t[n]? = some (d, ms) → ms.length ≤ k) : ∀ n, n ≤ t.length → (pre t n).length ≤ n * k
  | 0, _ => by simp [pre]
  | n + 1, hn => by
    have e : t[n]? = some ((t[n]).1, (t[n]).2) := List.getElem?_eq_getElem (by omega)
    rw [pre_succ e, List.length_append, List.length_map, Nat.succ_mul]
    have := pre_len t k h n (by omega)
    have := h n _ _ e
    omega
/-- the tables of a Kinds object -/
theorem TOk.sound {S : List (List Nat)} {D : Nat} {t : KTab} (T : TOk Canon S D t) (B : Sub S D) (hf : t.length ≤ 200000) : Sound t := by
  have h0 : 0 < t.length := (List.getElem?_eq_some_iff.mp T.zero).1
  have wit : ∀ n d ms, t[n]? = some (d, ms) → ms = [] ∨ ∃ e r, d = e + 1 ∧ r ∈ S ∧ Fits t e ms r ∧ Rep t (e + 1) n r := fun n d ms h => by
    by_cases q : n = 0
    · subst q
      rw [T.zero] at h
      cases h
      exact .inl rfl
    · obtain ⟨e, r, rfl, _, hr, hfit⟩ := T.wit n d ms h q
      exact .inr ⟨e, r, rfl, hr, hfit, rep_fits.mpr ⟨ms, h, hfit⟩⟩
  refine ⟨h0, hf, fun k m hm => ?_, ?_⟩
  · obtain ⟨d, ms, h, hm⟩ := mem_pre.mp hm
    refine ⟨(List.getElem?_eq_some_iff.mp h).1, ?_⟩
    rcases wit k d ms h with rfl | ⟨e, r, rfl, _, hfit, _⟩
    · exact nomatch hm
    · obtain ⟨a, c, b⟩ := m
      obtain ⟨i, _, r1, r2⟩ := hfit.2 a c b hm
      exact ⟨rep_size h0 r1, rep_size h0 r2⟩
  · have := pre_len t 60 (fun n d ms h => by
      rcases wit n d ms h with rfl | ⟨e, r, rfl, hr, _, hrep⟩
      · exact Nat.zero_le _
      · exact Nat.le_trans (T.marks canon_one (fun xs h => canon_nodup h) h hrep) (B.len r hr)) t.length (Nat.le_refl _)
    have : t.length * 60 ≤ 200000 * 60 := Nat.mul_le_mul_right _ hf
    omega
def TKAt (H : Hp) (t : KTab) (v : V) (q : Qn) : Prop := ∃ l ts, v = .ref l ∧ H l = some (.lst (natV ts)) ∧ IsTK t q ts
theorem TKAt.up {H H' : Hp} {t : KTab} {v : V} {q : Qn} (h : TKAt H t v q) (e : Ex H H') : TKAt H' t v q := by
  obtain ⟨l, ts, h1, h2, h3⟩ := h
  exact ⟨l, ts, h1, e _ _ h2, h3⟩
def TKAll (H : Hp) (t : KTab) : List V → List Qn → Prop
  | [], [] => True
  | v :: vs, q :: qs => TKAt H t v q ∧ TKAll H t vs qs
  | _, _ => False
theorem TKAll.up {H H' : Hp} {t : KTab} (e : Ex H H') : ∀ {vs : List V} {qs : List Qn}, TKAll H t vs qs → TKAll H' t vs qs
  | [], [], h => h
  | v :: vs, q :: qs, ⟨h, g⟩ => ⟨h.up e, TKAll.up e g⟩
  | [], _ :: _, h => h.elim
  | _ :: _, [], h => h.elim
theorem TKAll.len {H : Hp} {t : KTab} : ∀ {vs : List V} {qs : List Qn}, TKAll H t vs qs → vs.length = qs.length
  | [], [], _ => rfl
  | v :: vs, q :: qs, ⟨_, g⟩ => by rw [List.length_cons, List.length_cons, TKAll.len g]
  | [], _ :: _, h => h.elim
  | _ :: _, [], h => h.elim
theorem TKAll.app {H : Hp} {t : KTab} : ∀ {vs ws : List V} {qs rs : List Qn}, TKAll H t vs qs → TKAll H t ws rs → TKAll H t (vs ++ ws) (qs ++ rs)
  | [], _, [], _, _, h => h
  | v :: vs, _, q :: qs, _, ⟨h, g⟩, f => ⟨h, TKAll.app g f⟩
  | [], _, _ :: _, _, h, _ => h.elim
  | _ :: _, _, [], _, h, _ => h.elim
theorem TKAll.last {H : Hp} {t : KTab} {q : Qn} : ∀ {vs : List V} {qs : List Qn}, TKAll H t vs (qs ++ [q]) → ∃ x, vs[vs.length - 1]? = some x ∧ TKAt H t x q ∧ TKAll H t vs.dropLast qs
  | [v], [], ⟨h, _⟩ => ⟨v, rfl, h, trivial⟩
  | v :: w :: vs, p :: qs, ⟨h, g⟩ => by
    obtain ⟨x, e1, e2, e3⟩ := TKAll.last (vs := w :: vs) g
    refine ⟨x, by simpa using e1, e2, ?_⟩
    rw [List.dropLast_cons₂]
    exact ⟨h, e3⟩
  | [], [], h => h.elim
  | [], _ :: _, h => h.elim
  | [v], _ :: qs, ⟨_, g⟩ => by
    have := TKAll.len g
    simp at this
  | _ :: _ :: _, [], ⟨_, g⟩ => g.elim
def sp_tpartK (K : PySem.W.Frag) (C : Addr) : Sp := fun vs H Q _ => ∃ (H0 : Hp) (v : V) (q : Qn) (lt x : Addr) (t : KTab) (xs : List V) (rest : List Qn), vs = [v, .ref lt, .ref x] ∧ Ex H0 H ∧ H0 lt = none ∧ Da K H0 v q.d ∧ q.Ok ∧ AAt C H0 x t ∧ Sound t ∧
  H lt = some (.lst xs) ∧ TKAll H0 t xs (rest ++ q.kids.reverse) ∧
  ∀ (v' : V) (ys : List V) (H1 H' : Hp), Ex H0 H1 → Ex H1 H' → H1 lt = none → TKAt H1 t v' q → H' lt = some (.lst ys) → TKAll H1 t ys rest → (∀ b o, b ≠ lt → H b = some o → H' b = some o) → Q v' H'
def sp_table_ofK (K : PySem.W.Frag) (C : Addr) : Sp := fun vs H Q _ => ∃ (H0 : Hp) (v : V) (q : Qn) (x : Addr) (t : KTab), vs = [v, .ref x] ∧ Ex H0 H ∧ Dp K H0 v q.d ∧ q.Ok ∧ q.parts ≤ 1000 ∧ AAt C H0 x t ∧ Sound t ∧
  ∀ (l : Addr) (ts : List Nat) (H' : Hp), Ex H H' → H' l = some (.lst (natV ts)) → IsTK t q ts → Q (.ref l) H'
end M
namespace M
open PySem PySem.Spec L2 Evl
open PyProof.Rows hiding St
theorem pre_mono (t : KTab) {n : Nat} : ∀ {m : Nat}, n ≤ m → (pre t n).length ≤ (pre t m).length
  | 0, h => by
    obtain rfl : n = 0 := by omega
    exact Nat.le_refl _
  | m + 1, h => by
    by_cases q : n = m + 1
    · subst q; exact Nat.le_refl _
    · have ih := pre_mono t (n := n) (m := m) (by omega)
      have : (pre t m).length ≤ (pre t (m + 1)).length := by
        unfold pre
        rw [List.range_succ, List.flatMap_append, List.length_append]
        exact Nat.le_add_right _ _
      exact Nat.le_trans ih this
end M
end

section
set_option Elab.async false
set_option linter.all false
set_option maxRecDepth 100000
set_option maxHeartbeats 2000000
/-! far rows and questions -/
namespace M
open PySem PySem.Spec L2 Evl
open PyProof.Rows hiding St
def sp_far_lets (K : PySem.W.Frag) : Sp := fun vs H Q _ => ∃ (H0 : Hp) (v u : V) (q : Qn) (bs : Bs), vs = [v, u] ∧ Ex H0 H ∧ BsAt H v bs ∧ Dp K H0 u q.d ∧ q.Ok ∧ q.parts ≤ 1000 ∧ q.deep ≤ 6 ∧ BsOk (2 ^ q.deep - 1) bs ∧
  (∀ c ∈ wr (2 ^ q.deep - 1) bs, 97 ≤ c ∧ c ≤ 122) ∧ (wr (2 ^ q.deep - 1) bs).length ≤ 60 ∧ ∀ H', Ex H H' → Q (.bl (lt q (wr (2 ^ q.deep - 1) bs))) H'
theorem few_two {y z : Str} (ly : y.length ≤ 60) (lz : z.length ≤ 60) {t : KTab} (T : TOk Canon (subsAll [codes y, codes z]) 8 t) : t.length ≤ 200000 := by
  have h := T.few canon_one
  have e1 := codes_len y
  have e2 := codes_len z
  have : (subsAll [codes y, codes z]).length ≤ 7500 := by
    unfold subsAll
    simp only [List.flatMap_cons, List.flatMap_nil, List.length_cons, List.length_append, List.length_nil, subs_len]
    have h1 : ((codes y).length + 1) * ((codes y).length + 1) ≤ 61 * 61 := Nat.mul_le_mul (by omega) (by omega)
    have h2 : ((codes z).length + 1) * ((codes z).length + 1) ≤ 61 * 61 := Nat.mul_le_mul (by omega) (by omega)
    omega
  have : (subsAll [codes y, codes z]).length * 8 ≤ 7500 * 8 := Nat.mul_le_mul_right _ this
  omega
end M
namespace M
open PySem PySem.Spec L2 Evl
open PyProof.Rows hiding St
/-! ### questions drawn by a list of letters -/
def LsN (H : Hp) (l : Addr) (cs : List Nat) : Prop := H l = some (.lst (oneV cs)) ∧ 0 < cs.length ∧ cs.length ≤ 60
theorem LsN.up {H H' : Hp} {l : Addr} {cs : List Nat} (h : LsN H l cs) (x : Ex H H') : LsN H' l cs := ⟨x _ _ h.1, h.2⟩
def zOf (cs : List Nat) : Str := ⟨cs.toArray⟩
theorem mem_zOf {c : Nat} {cs : List Nat} (h : c ∈ cs) : c ∈ (zOf cs).cps.toList := by
  unfold zOf
  simpa using h
theorem abc_zOf {cs : List Nat} (h : ∀ c ∈ cs, 97 ≤ c ∧ c ≤ 122) : Abc (zOf cs) := fun c hc => h c (by
  unfold zOf at hc
  simpa using hc)
def sp_queryL (K : PySem.W.Frag) (n : Nat) : Sp := fun vs H Q _ => ∃ (H0 : Hp) (p l : Addr) (m : Nat) (cs : List Nat) (dp wd : Int), vs = [.ref p, .ref l, .int dp, .int wd] ∧ Pl H0 H p m ∧ m + 2 * wd.toNat ≤ 2 ^ 20 ∧ 1 ≤ wd ∧ wd < n ∧ LsN H0 l cs ∧
  ∀ (q : Qn) (v : V) (H1 H' : Hp), Ex H0 H1 → Pl H1 H' p (m + 2 * wd.toNat) → Dp K H1 v q.d → q.In (zOf cs) → q.deep ≤ dp.toNat → (q.parts : Int) ≤ wd → Q v H'
def sp_steepL (K : PySem.W.Frag) (n : Nat) : Sp := fun vs H Q _ => ∃ (H0 : Hp) (p l : Addr) (m : Nat) (cs : List Nat) (dp : Int), vs = [.ref p, .ref l, .int dp] ∧ Pl H0 H p m ∧ m + 16 * dp.toNat ≤ 2 ^ 20 ∧ dp < n ∧ LsN H0 l cs ∧
  ∀ (q : Qn) (v : V) (H1 H' : Hp), Ex H0 H1 → Pl H1 H' p (m + 16 * dp.toNat) → Dp K H1 v q.d → q.In (zOf cs) → q.deep ≤ dp.toNat → q.parts ≤ 8 * dp.toNat + 1 → Q v H'
def sp_any_queryL (K : PySem.W.Frag) : Sp := fun vs H Q _ => ∃ (H0 : Hp) (p l : Addr) (m : Nat) (cs : List Nat) (dp wd : Int), vs = [.ref p, .ref l, .int dp, .int wd] ∧ Pl H0 H p m ∧ m + 500 ≤ 2 ^ 20 ∧ 0 ≤ dp ∧ dp ≤ 6 ∧ 1 ≤ wd ∧ wd ≤ 60 ∧ LsN H0 l cs ∧
  ∀ (q : Qn) (v : V) (H1 H' : Hp), Ex H0 H1 → Pl H1 H' p (m + 500) → Dp K H1 v q.d → q.In (zOf cs) → q.deep ≤ dp.toNat → (q.parts : Int) ≤ max (8 * dp + 1) wd → Q v H'
end M
namespace M
open PySem PySem.Spec L2 Evl
open PyProof.Rows hiding St
def sp_fitsQ : Sp := fun vs H Q _ => ∃ (H0 : Hp) (p : Addr) (m : Nat), vs = [.ref p] ∧ Pl H0 H p m ∧ m + 4000 ≤ 2 ^ 20 ∧ ∀ H' : Hp, Pl H0 H' p (m + 4000) → Q (.bl true) H'
/-- a question's answer for blocks of few times, whatever the cut -/
theorem lt_cut {bs : Bs} {j : Nat} (h : Sm j bs) (hj : j ≤ 9) (q : Qn) : lt q (wr (2 ^ q.deep - 1) bs) = lt q (wr 9 bs) :=
  (al_lt q (Nat.le_refl _) (wr_al (d := q.deep) (m := 9) (fun b hb => ⟨(h.all b hb).1, by have := (h.all b hb).2.1; omega, (h.all b hb).2.2⟩) (by decide))).symm
end M
namespace M
open PySem PySem.Spec L2 Evl
open PyProof.Rows hiding St
def farB (z1 z2 u1 u2 : Str) (t : Int) : Bs := [(.row z1, 1), (.lst [(u1, 1), (u2, 1)], t), (.row z2, 1)]
theorem farB_sm {z1 z2 u1 u2 : Str} {t : Int} (a1 : Abc z1) (a2 : Abc z2) (a3 : Abc u1) (a4 : Abc u2) (l1 : z1.length ≤ 2) (l2 : z2.length ≤ 2) (l3 : u1.length ≤ 2) (l4 : u2.length ≤ 2) (ht : 0 ≤ t) : ∀ b ∈ farB z1 z2 u1 u2 t, 0 ≤ b.2 ∧ SmP b.1 := fun b hb => by
  simp only [farB, List.mem_cons, List.not_mem_nil, or_false] at hb
  rcases hb with rfl | rfl | rfl
  · exact ⟨by show (0 : Int) ≤ 1; decide, a1, by omega⟩
  · refine ⟨ht, Nat.le_refl _, fun c hc => ?_⟩
    simp only [List.mem_cons, List.not_mem_nil, or_false] at hc
    rcases hc with rfl | rfl
    · exact ⟨by show (0 : Int) ≤ 1; decide, by show (1 : Int) ≤ 2; decide, a3, by show u1.length ≤ 4; omega⟩
    · exact ⟨by show (0 : Int) ≤ 1; decide, by show (1 : Int) ≤ 2; decide, a4, by show u2.length ≤ 4; omega⟩
  · exact ⟨by show (0 : Int) ≤ 1; decide, a2, by omega⟩
theorem farB_ok {m : Nat} {z1 z2 u1 u2 : Str} {t : Int} (h : ∀ b ∈ farB z1 z2 u1 u2 t, 0 ≤ b.2 ∧ SmP b.1) : BsOk m (farB z1 z2 u1 u2 t) := ok_gen (by show 3 ≤ 50; decide) fun b hb => ⟨(h b hb).1, (h b hb).2.ok⟩
theorem cut_oneQ (m : Nat) : cutT m 1 ≤ 1 := by unfold cutT; omega
theorem farB_len {m : Nat} {z1 z2 u1 u2 : Str} {t : Int} (hm : m ≤ 7) (l1 : z1.length ≤ 2) (l2 : z2.length ≤ 2) (l3 : u1.length ≤ 2) (l4 : u2.length ≤ 2) : (wr m (farB z1 z2 u1 u2 t)).length ≤ 60 := by
  have e : wr m (farB z1 z2 u1 u2 t) = rep (codes z1) (cutT m 1) ++ (rep (rep (codes u1) (cutT m 1) ++ (rep (codes u2) (cutT m 1) ++ [])) (cutT m t) ++ (rep (codes z2) (cutT m 1) ++ [])) := rfl
  have c1 := cut_oneQ m
  have ct : cutT m t ≤ 7 := Nat.le_trans cut_le hm
  rw [e]
  simp only [List.length_append, rep_len, List.length_nil, Nat.add_zero, codes_len]
  have m1 : cutT m 1 * z1.length ≤ 1 * 2 := Nat.mul_le_mul c1 l1
  have m2 : cutT m 1 * z2.length ≤ 1 * 2 := Nat.mul_le_mul c1 l2
  have m3 : cutT m 1 * u1.length ≤ 1 * 2 := Nat.mul_le_mul c1 l3
  have m4 : cutT m 1 * u2.length ≤ 1 * 2 := Nat.mul_le_mul c1 l4
  have m5 : cutT m t * (cutT m 1 * u1.length + cutT m 1 * u2.length) ≤ 7 * 4 := Nat.mul_le_mul ct (by omega)
  omega
theorem farB_at {H : Hp} {lf li t1 t2 t3 t4 t5 : Addr} {z1 z2 u1 u2 : Str} {t : Int} (e1 : H t1 = some (.tup [.str u1, .int 1])) (e2 : H t2 = some (.tup [.str u2, .int 1])) (ei : H li = some (.lst [.ref t1, .ref t2]))
    (e3 : H t3 = some (.tup [.str z1, .int 1])) (e4 : H t4 = some (.tup [.ref li, .int t])) (e5 : H t5 = some (.tup [.str z2, .int 1])) (ef : H lf = some (.lst [.ref t3, .ref t4, .ref t5])) : BsAt H (.ref lf) (farB z1 z2 u1 u2 t) := by
  refine ⟨lf, _, rfl, ef, rfl, fun i b hb => ?_⟩
  unfold farB at hb
  rcases i with _ | _ | _ | i
  · cases hb; exact ⟨t3, _, rfl, e3, rfl⟩
  · cases hb
    refine ⟨t4, _, rfl, e4, li, _, rfl, ei, rfl, fun j c hc => ?_⟩
    rcases j with _ | _ | j
    · cases hc; exact ⟨t1, rfl, e1⟩
    · cases hc; exact ⟨t2, rfl, e2⟩
    · exact nomatch hc
  · cases hb; exact ⟨t5, _, rfl, e5, rfl⟩
  · exact nomatch hb
end M
end

section
set_option Elab.async false
set_option linter.all false
set_option maxRecDepth 100000
set_option maxHeartbeats 2000000
/-! scopes: kinds of rows of few letters by numbers that can be reckoned -/
namespace M
/-- the numbers of a list as bits -/
def bits (xs : List Nat) : Nat := xs.foldr (fun x a => a ||| 1 <<< x) 0
theorem bits_test (xs : List Nat) (x : Nat) : (bits xs).testBit x = decide (x ∈ xs) := by
  induction xs with
  | nil => simp [bits]
  | cons y ys ih =>
    show ((bits ys) ||| 1 <<< y).testBit x = _
    rw [Nat.testBit_or, ih, Nat.one_shiftLeft, Nat.testBit_two_pow]
    apply Bool.eq_iff_iff.mpr
    simp only [Bool.or_eq_true, decide_eq_true_eq, List.mem_cons]
    constructor
    · rintro (h | h)
      · exact .inr h
      · exact .inl h.symm
    · rintro (h | h)
      · exact .inr h.symm
      · exact .inl h
theorem bits_eq {xs ys : List Nat} : bits xs = bits ys ↔ ∀ x, x ∈ xs ↔ x ∈ ys := by
  constructor
  · intro h x
    have := congrArg (fun n => Nat.testBit n x) h
    simpa [bits_test] using this
  · intro h
    apply Nat.eq_of_testBit_eq
    intro i
    rw [bits_test, bits_test]
    simp [h i]
theorem bits_lt {xs : List Nat} {n : Nat} (h : ∀ x ∈ xs, x < n) : bits xs < 2 ^ n := by
  induction xs with
  | nil => exact Nat.two_pow_pos n
  | cons y ys ih =>
    show bits ys ||| 1 <<< y < _
    apply Nat.or_lt_two_pow (ih fun x hx => h x (List.mem_cons_of_mem _ hx))
    rw [Nat.one_shiftLeft]
    exact Nat.pow_lt_pow_right (by decide) (h y List.mem_cons_self)
def kc1 (r : List Nat) : Nat := bits (r.map (· - 97))
def mark2 (r : List Nat) (i : Nat) : Nat := (kc1 (r.take i) * 4 + ((r[i]?).getD 0 - 97)) * 16 + kc1 (r.drop (i + 1))
def kc2 (r : List Nat) : Nat := bits ((List.range r.length).map (mark2 r))
/-- the kind of a row of the first letters, so many, to a depth of their scope -/
def kind (m d : Nat) (r : List Nat) : Nat := if m = 1 then min r.length (2 ^ d - 1) else match d with
  | 0 => 0
  | 1 => kc1 r
  | _ => kc2 r
def Of (m : Nat) (r : List Nat) : Prop := ∀ c ∈ r, 97 ≤ c ∧ c < 97 + m
theorem Of.take {m : Nat} {r : List Nat} (h : Of m r) (i : Nat) : Of m (r.take i) := fun c hc => h c (List.mem_of_mem_take hc)
theorem Of.drop {m : Nat} {r : List Nat} (h : Of m r) (i : Nat) : Of m (r.drop i) := fun c hc => h c (List.mem_of_mem_drop hc)
theorem Of.up {m n : Nat} {r : List Nat} (h : Of m r) (le : m ≤ n) : Of n r := fun c hc => by have := h c hc; omega
theorem Of.app {m : Nat} {r s : List Nat} (h : Of m r) (g : Of m s) : Of m (r ++ s) := fun c hc => by
  rcases List.mem_append.mp hc with q | q
  · exact h c q
  · exact g c q
theorem Of.snoc {m c : Nat} {r : List Nat} (h : Of m r) (h1 : 97 ≤ c) (h2 : c < 97 + m) : Of m (r ++ [c]) := h.app fun x hx => by
  rw [List.mem_singleton.mp hx]; exact ⟨h1, h2⟩
theorem kc1_al {r s : List Nat} (hr : Of 4 r) (hs : Of 4 s) : kc1 r = kc1 s ↔ Al 1 r s := by
  unfold kc1
  rw [bits_eq]
  have mem : ∀ {t : List Nat}, Of 4 t → ∀ c, 97 ≤ c → (c - 97 ∈ t.map (· - 97) ↔ c ∈ t) := fun {t} ht c hc => by
    rw [List.mem_map]
    constructor
    · rintro ⟨y, hy, e⟩
      have e : y - 97 = c - 97 := e
      have := ht y hy
      have : y = c := by omega
      rw [← this]; exact hy
    · exact fun h => ⟨c, h, rfl⟩
  constructor
  · intro h
    have one : ∀ c, 97 ≤ c → (c ∈ r ↔ c ∈ s) := fun c hc => by rw [← mem hr c hc, ← mem hs c hc]; exact h _
    refine ⟨fun i c e => ?_, fun i c e => ?_⟩
    · have hc := List.mem_of_getElem? e
      obtain ⟨j, hj⟩ := List.getElem?_of_mem ((one c (hr c hc).1).mp hc)
      exact ⟨j, hj, trivial, trivial⟩
    · have hc := List.mem_of_getElem? e
      obtain ⟨j, hj⟩ := List.getElem?_of_mem ((one c (hs c hc).1).mpr hc)
      exact ⟨j, hj, trivial, trivial⟩
  · intro h x
    constructor
    · intro hx
      obtain ⟨c, hc, rfl⟩ := List.mem_map.mp hx
      obtain ⟨i, e⟩ := List.getElem?_of_mem hc
      obtain ⟨j, e2, _⟩ := h.1 i c e
      exact List.mem_map.mpr ⟨c, List.mem_of_getElem? e2, rfl⟩
    · intro hx
      obtain ⟨c, hc, rfl⟩ := List.mem_map.mp hx
      obtain ⟨i, e⟩ := List.getElem?_of_mem hc
      obtain ⟨j, e2, _⟩ := h.2 i c e
      exact List.mem_map.mpr ⟨c, List.mem_of_getElem? e2, rfl⟩
theorem kc1_lt {r : List Nat} (hr : Of 4 r) : kc1 r < 16 := bits_lt (n := 4) fun x hx => by
  obtain ⟨c, hc, rfl⟩ := List.mem_map.mp hx
  have := hr c hc
  show c - 97 < 4
  omega
theorem mark2_eq {r s : List Nat} {i j c e : Nat} (hr : Of 4 r) (hs : Of 4 s) (hi : r[i]? = some c) (hj : s[j]? = some e) : mark2 r i = mark2 s j ↔ (c = e ∧ Al 1 (r.take i) (s.take j) ∧ Al 1 (r.drop (i + 1)) (s.drop (j + 1))) := by
  have h1 := hr c (List.mem_of_getElem? hi)
  have h2 := hs e (List.mem_of_getElem? hj)
  rw [← kc1_al (hr.take i) (hs.take j), ← kc1_al (hr.drop _) (hs.drop _)]
  have l1 := kc1_lt (hr.take i)
  have l2 := kc1_lt (hs.take j)
  have l3 := kc1_lt (hr.drop (i + 1))
  have l4 := kc1_lt (hs.drop (j + 1))
  unfold mark2
  rw [hi, hj]
  show (_ * 4 + (c - 97)) * 16 + _ = (_ * 4 + (e - 97)) * 16 + _ ↔ _
  omega
theorem kc2_al {r s : List Nat} (hr : Of 4 r) (hs : Of 4 s) : kc2 r = kc2 s ↔ Al 2 r s := by
  unfold kc2
  rw [bits_eq]
  have mem : ∀ {t : List Nat} (x : Nat), x ∈ (List.range t.length).map (mark2 t) ↔ ∃ i c, t[i]? = some c ∧ mark2 t i = x := fun {t} x => by
    rw [List.mem_map]
    constructor
    · rintro ⟨i, hi, e⟩
      exact ⟨i, _, List.getElem?_eq_getElem (List.mem_range.mp hi), e⟩
    · rintro ⟨i, c, hi, e⟩
      exact ⟨i, List.mem_range.mpr (List.getElem?_eq_some_iff.mp hi).1, e⟩
  constructor
  · intro h
    refine ⟨fun i c e => ?_, fun j c e => ?_⟩
    · obtain ⟨j, c', e', q⟩ := (mem _).mp ((h (mark2 r i)).mp ((mem _).mpr ⟨i, c, e, rfl⟩))
      obtain ⟨rfl, a, b⟩ := (mark2_eq hr hs e e').mp q.symm
      exact ⟨j, e', a, b⟩
    · obtain ⟨i, c', e', q⟩ := (mem _).mp ((h (mark2 s j)).mpr ((mem _).mpr ⟨j, c, e, rfl⟩))
      obtain ⟨rfl, a, b⟩ := (mark2_eq hr hs e' e).mp q
      exact ⟨i, e', a, b⟩
  · intro h x
    rw [mem, mem]
    constructor
    · rintro ⟨i, c, e, rfl⟩
      obtain ⟨j, e', a, b⟩ := h.1 i c e
      exact ⟨j, c, e', ((mark2_eq hr hs e e').mpr ⟨rfl, a, b⟩).symm⟩
    · rintro ⟨j, c, e, rfl⟩
      obtain ⟨i, e', a, b⟩ := h.2 j c e
      exact ⟨i, c, e', (mark2_eq hr hs e' e).mpr ⟨rfl, a, b⟩⟩
def top (m : Nat) : Nat := if m = 1 then 4 else if m = 2 then 2 else 1
def Scope (m d : Nat) : Prop := 1 ≤ m ∧ m ≤ 4 ∧ d ≤ top m
theorem Of.one {r : List Nat} (h : Of 1 r) : r = List.replicate r.length 97 := List.eq_replicate_iff.mpr ⟨rfl, fun c hc => by have := h c hc; omega⟩
theorem kind_al {m d : Nat} {r s : List Nat} (S : Scope m d) (hr : Of m r) (hs : Of m s) : kind m d r = kind m d s ↔ Al d r s := by
  obtain ⟨s1, s2, s3⟩ := S
  unfold kind
  by_cases q : m = 1
  · subst q
    rw [if_pos rfl, if_pos rfl]
    have e1 := hr.one
    have e2 := hs.one
    have := one_al 97 d r.length s.length
    rw [← e1, ← e2] at this
    rw [this]
    omega
  · rw [if_neg q, if_neg q]
    unfold top at s3
    rw [if_neg q] at s3
    match d, s3 with
    | 0, _ => exact ⟨fun _ => trivial, fun _ => rfl⟩
    | 1, _ => exact kc1_al (hr.up s2) (hs.up s2)
    | 2, _ => exact kc2_al (hr.up s2) (hs.up s2)
    | n + 3, h => split at h <;> omega
def lets4 (m : Nat) : List Nat := (List.range m).map (97 + ·)
theorem mem_lets4 {m c : Nat} : c ∈ lets4 m ↔ 97 ≤ c ∧ c < 97 + m := by
  unfold lets4
  rw [List.mem_map]
  constructor
  · rintro ⟨i, hi, rfl⟩
    have := List.mem_range.mp hi
    omega
  · rintro ⟨h1, h2⟩
    exact ⟨c - 97, List.mem_range.mpr (by omega), by omega⟩
/-! ### the least rows -/
abbrev RK := List Nat × Nat
def addK (m d : Nat) (E : List RK) (r : List Nat) : List RK := if E.any (fun p => p.2 == kind m d r) then E else E ++ [(r, kind m d r)]
def turnK (m d : Nat) (E : List RK) (u : List Nat) : List RK := (lets4 m).foldl (fun E c => addK m d E (u ++ [c])) E
def rowAt (E : List RK) (i : Nat) : List Nat := ((E[i]?).map (·.1)).getD []
def runK (m d : Nat) : Nat → List RK
  | 0 => [([], kind m d [])]
  | i + 1 => turnK m d (runK m d i) (rowAt (runK m d i) i)
def cnt (m d : Nat) : Nat := if m = 1 then 2 ^ d else if d = 0 then 1 else if d = 1 then 2 ^ m else 97
def scE (m d : Nat) : List RK := runK m d (cnt m d)
def SC (m d : Nat) : List (List Nat) := (scE m d).map (·.1)
def longest (m : Nat) : Nat := if m = 1 then 16 else if m = 2 then 8 else if m = 3 then 3 else 4
def allL (m : Nat) : Nat → List (List Nat) × List (List Nat)
  | 0 => ([[]], [[]])
  | n + 1 => let l := (allL m n).2.flatMap fun r => (lets4 m).map fun c => r ++ [c]
    ((allL m n).1 ++ l, l)
def lens (m d : Nat) : List Nat := (List.range (cnt m d)).map fun i => (runK m d i).length
def runs (m d : Nat) : Nat → List RK → Nat → Bool
  | 0, E, i => E.length == i
  | n + 1, E, i => decide (i < E.length) && runs m d n (turnK m d E (rowAt E i)) (i + 1)
def okScope (m d : Nat) : Bool := runs m d (cnt m d) [([], kind m d [])] 0 && (decide (((allL m (longest m)).1.foldl (addK m d) []) = scE m d) && (SC m d).all fun r => decide (r.length ≤ longest m))

theorem ok10 : okScope 1 0 = true := by decide +kernel
theorem ok11 : okScope 1 1 = true := by decide +kernel
theorem ok12 : okScope 1 2 = true := by decide +kernel
theorem ok13 : okScope 1 3 = true := by decide +kernel
theorem ok14 : okScope 1 4 = true := by decide +kernel
theorem ok20 : okScope 2 0 = true := by decide +kernel
theorem ok21 : okScope 2 1 = true := by decide +kernel
theorem ok22 : okScope 2 2 = true := by decide +kernel
theorem ok30 : okScope 3 0 = true := by decide +kernel
theorem ok31 : okScope 3 1 = true := by decide +kernel
theorem ok40 : okScope 4 0 = true := by decide +kernel
theorem ok41 : okScope 4 1 = true := by decide +kernel
theorem Scope.all {P : Nat → Nat → Prop} (h10 : P 1 0) (h11 : P 1 1) (h12 : P 1 2) (h13 : P 1 3) (h14 : P 1 4) (h20 : P 2 0) (h21 : P 2 1) (h22 : P 2 2) (h30 : P 3 0) (h31 : P 3 1) (h40 : P 4 0) (h41 : P 4 1) {m d : Nat} (S : Scope m d) : P m d := by
  obtain ⟨s1, s2, s3⟩ := S
  rcases (by omega : m = 1 ∨ m = 2 ∨ m = 3 ∨ m = 4) with rfl | rfl | rfl | rfl
  · have s3 : d ≤ 4 := s3
    rcases (by omega : d = 0 ∨ d = 1 ∨ d = 2 ∨ d = 3 ∨ d = 4) with rfl | rfl | rfl | rfl | rfl <;> assumption
  · have s3 : d ≤ 2 := s3
    rcases (by omega : d = 0 ∨ d = 1 ∨ d = 2) with rfl | rfl | rfl <;> assumption
  · have s3 : d ≤ 1 := s3
    rcases (by omega : d = 0 ∨ d = 1) with rfl | rfl <;> assumption
  · have s3 : d ≤ 1 := s3
    rcases (by omega : d = 0 ∨ d = 1) with rfl | rfl <;> assumption
theorem okS {m d : Nat} (S : Scope m d) : okScope m d = true := Scope.all (P := fun m d => okScope m d = true) ok10 ok11 ok12 ok13 ok14 ok20 ok21 ok22 ok30 ok31 ok40 ok41 S
theorem runs_spec {m d : Nat} : ∀ (n i : Nat), runs m d n (runK m d i) i = true → (∀ j, i ≤ j → j < i + n → j < (runK m d j).length) ∧ (runK m d (i + n)).length = i + n
  | 0, i, h => ⟨fun j h1 h2 => by omega, by simpa [runs] using h⟩
  | n + 1, i, h => by
    unfold runs at h
    rw [Bool.and_eq_true, decide_eq_true_eq] at h
    have e : turnK m d (runK m d i) (rowAt (runK m d i) i) = runK m d (i + 1) := rfl
    rw [e] at h
    obtain ⟨h1, h2⟩ := runs_spec n (i + 1) h.2
    refine ⟨fun j a b => ?_, by rw [show i + (n + 1) = i + 1 + n by omega]; exact h2⟩
    by_cases q : j = i
    · rw [q]; exact h.1
    · exact h1 j (by omega) (by omega)
theorem sc_runs {m d : Nat} (S : Scope m d) : (∀ j, j < cnt m d → j < (runK m d j).length) ∧ (scE m d).length = cnt m d := by
  have := okS S
  unfold okScope at this
  rw [Bool.and_eq_true] at this
  obtain ⟨h1, h2⟩ := runs_spec (cnt m d) 0 this.1
  rw [Nat.zero_add] at h2
  exact ⟨fun j hj => h1 j (Nat.zero_le _) (by omega), h2⟩
theorem sc_firsts {m d : Nat} (S : Scope m d) : (allL m (longest m)).1.foldl (addK m d) [] = scE m d ∧ ∀ r ∈ SC m d, r.length ≤ longest m := by
  have := okS S
  unfold okScope at this
  simp only [Bool.and_eq_true, decide_eq_true_eq, List.all_eq_true] at this
  exact this.2
/-! what the walk keeps -/
structure GoodK (m d : Nat) (E : List RK) : Prop where
  k : ∀ p ∈ E, p.2 = kind m d p.1
  o : ∀ p ∈ E, Of m p.1
  n : (E.map (·.2)).Nodup
theorem GoodK.add {m d : Nat} {E : List RK} (h : GoodK m d E) {r : List Nat} (hr : Of m r) : GoodK m d (addK m d E r) ∧ (∃ F, addK m d E r = E ++ F) ∧ ∃ p ∈ addK m d E r, p.2 = kind m d r := by
  unfold addK
  split
  · rename_i q
    obtain ⟨p, hp, e⟩ := List.any_eq_true.mp q
    exact ⟨h, ⟨[], by simp⟩, p, hp, by simpa using e⟩
  · rename_i q
    refine ⟨⟨fun p hp => ?_, fun p hp => ?_, ?_⟩, ⟨_, rfl⟩, (r, kind m d r), by simp, rfl⟩
    · rcases List.mem_append.mp hp with z | z
      · exact h.k p z
      · rw [List.mem_singleton.mp z]
    · rcases List.mem_append.mp hp with z | z
      · exact h.o p z
      · rw [List.mem_singleton.mp z]; exact hr
    · rw [List.map_append, List.nodup_append]
      refine ⟨h.n, by simp, fun a ha b hb e => ?_⟩
      obtain ⟨p, hp, rfl⟩ := List.mem_map.mp ha
      simp only [List.map_cons, List.map_nil, List.mem_singleton] at hb
      exact q (List.any_eq_true.mpr ⟨p, hp, by simp [e, hb]⟩)
theorem GoodK.adds {m d : Nat} : ∀ (rs : List (List Nat)) {E : List RK}, GoodK m d E → (∀ r ∈ rs, Of m r) → GoodK m d (rs.foldl (addK m d) E) ∧ (∃ F, rs.foldl (addK m d) E = E ++ F) ∧ ∀ r ∈ rs, ∃ p ∈ rs.foldl (addK m d) E, p.2 = kind m d r
  | [], E, h, _ => ⟨h, ⟨[], by simp⟩, fun r hr => (nomatch hr)⟩
  | r :: rs, E, h, o => by
    obtain ⟨h1, ⟨F, hF⟩, p, hp, e⟩ := h.add (o r List.mem_cons_self)
    obtain ⟨g1, ⟨G, hG⟩, g3⟩ := GoodK.adds rs h1 fun s hs => o s (List.mem_cons_of_mem _ hs)
    rw [List.foldl_cons]
    refine ⟨g1, ⟨F ++ G, by rw [hG, hF, List.append_assoc]⟩, fun s hs => ?_⟩
    rcases List.mem_cons.mp hs with rfl | hs
    · exact ⟨p, by rw [hG]; exact List.mem_append.mpr (.inl hp), e⟩
    · exact g3 s hs
theorem turnK_eq {m d : Nat} {E : List RK} {u : List Nat} : turnK m d E u = ((lets4 m).map fun c => u ++ [c]).foldl (addK m d) E := by
  unfold turnK
  rw [List.foldl_map]
theorem GoodK.turn {m d : Nat} {E : List RK} (h : GoodK m d E) {u : List Nat} (hu : Of m u) : GoodK m d (turnK m d E u) ∧ (∃ F, turnK m d E u = E ++ F) ∧ ∀ c ∈ lets4 m, ∃ p ∈ turnK m d E u, p.2 = kind m d (u ++ [c]) := by
  rw [turnK_eq]
  obtain ⟨h1, h2, h3⟩ := GoodK.adds ((lets4 m).map fun c => u ++ [c]) h fun r hr => by
    obtain ⟨c, hc, rfl⟩ := List.mem_map.mp hr
    exact hu.snoc (mem_lets4.mp hc).1 (mem_lets4.mp hc).2
  exact ⟨h1, h2, fun c hc => h3 _ (List.mem_map.mpr ⟨c, hc, rfl⟩)⟩
theorem rowAt_of {m d : Nat} {E : List RK} (h : GoodK m d E) (i : Nat) : Of m (rowAt E i) := by
  unfold rowAt
  cases q : E[i]? with
  | none => exact fun c hc => nomatch hc
  | some p => exact h.o p (List.mem_of_getElem? q)
theorem good_run (m d : Nat) : ∀ i, GoodK m d (runK m d i)
  | 0 => ⟨fun p hp => by rw [show p = _ from List.mem_singleton.mp hp], fun p hp => by rw [show p = _ from List.mem_singleton.mp hp]; exact fun c hc => (nomatch hc), by simp [runK]⟩
  | i + 1 => ((good_run m d i).turn (rowAt_of (good_run m d i) i)).1
theorem run_pre (m d i : Nat) : ∀ n, ∃ F, runK m d (i + n) = runK m d i ++ F
  | 0 => ⟨[], by simp⟩
  | n + 1 => by
    obtain ⟨F, hF⟩ := run_pre m d i n
    obtain ⟨_, ⟨G, hG⟩, _⟩ := (good_run m d (i + n)).turn (rowAt_of (good_run m d (i + n)) (i + n))
    exact ⟨F ++ G, by rw [show i + (n + 1) = i + n + 1 by omega]; show turnK _ _ _ _ = _; rw [hG, hF, List.append_assoc]⟩
theorem sc_good (m d : Nat) : GoodK m d (scE m d) := good_run m d _
theorem sc_mem {m d : Nat} {r : List Nat} : r ∈ SC m d ↔ (r, kind m d r) ∈ scE m d := by
  unfold SC
  rw [List.mem_map]
  constructor
  · rintro ⟨p, hp, rfl⟩
    rw [← (sc_good m d).k p hp]
    exact hp
  · exact fun h => ⟨_, h, rfl⟩
theorem SC.of {m d : Nat} {r : List Nat} (h : r ∈ SC m d) : Of m r := (sc_good m d).o _ (sc_mem.mp h)
theorem sc_len {m d : Nat} (S : Scope m d) : (SC m d).length = cnt m d := by unfold SC; rw [List.length_map]; exact (sc_runs S).2
theorem sc_close {m d : Nat} (S : Scope m d) {u : List Nat} (hu : u ∈ SC m d) {c : Nat} (hc : c ∈ lets4 m) : ∃ v ∈ SC m d, kind m d v = kind m d (u ++ [c]) := by
  have hm := sc_mem.mp hu
  obtain ⟨i, hi⟩ := List.getElem?_of_mem hm
  have hl := (List.getElem?_eq_some_iff.mp hi).1
  rw [(sc_runs S).2] at hl
  have h1 := (sc_runs S).1 i hl
  obtain ⟨F, hF⟩ := run_pre m d i (cnt m d - i)
  rw [show i + (cnt m d - i) = cnt m d by omega] at hF
  have e : (runK m d i)[i]? = some (u, kind m d u) := by
    have : (scE m d)[i]? = (runK m d i ++ F)[i]? := by rw [← hF]; rfl
    rw [List.getElem?_append_left h1] at this
    rw [← this]; exact hi
  have er : rowAt (runK m d i) i = u := by unfold rowAt; rw [e]; rfl
  obtain ⟨_, _, h3⟩ := (good_run m d i).turn (rowAt_of (good_run m d i) i)
  obtain ⟨p, hp, ep⟩ := h3 c hc
  rw [er] at hp ep
  obtain ⟨G, hG⟩ := run_pre m d (i + 1) (cnt m d - (i + 1))
  rw [show i + 1 + (cnt m d - (i + 1)) = cnt m d by omega] at hG
  have hp2 : p ∈ scE m d := by
    show p ∈ runK m d (cnt m d)
    rw [hG]
    refine List.mem_append.mpr (.inl ?_)
    show p ∈ turnK m d (runK m d i) (rowAt (runK m d i) i)
    rw [er]; exact hp
  exact ⟨p.1, List.mem_map.mpr ⟨p, hp2, rfl⟩, by rw [← (sc_good m d).k p hp2]; exact ep⟩
theorem sc_whole {m d : Nat} (S : Scope m d) : ∀ (n : Nat) (r : List Nat), r.length = n → Of m r → ∃ v ∈ SC m d, kind m d v = kind m d r
  | 0, r, hl, _ => by
    obtain rfl := List.length_eq_zero_iff.mp hl
    refine ⟨[], ?_, rfl⟩
    obtain ⟨F, hF⟩ := run_pre m d 0 (cnt m d)
    rw [Nat.zero_add] at hF
    rw [sc_mem]
    show _ ∈ runK m d (cnt m d)
    rw [hF]
    exact List.mem_append.mpr (.inl (by simp [runK]))
  | n + 1, r, hl, hr => by
    rcases List.eq_nil_or_concat r with rfl | ⟨s, c, rfl⟩
    · cases hl
    · rw [List.concat_eq_append] at hr hl ⊢
      have hs : Of m s := fun x hx => hr x (List.mem_append.mpr (.inl hx))
      have hc := hr c (by simp)
      obtain ⟨v, hv, e⟩ := sc_whole S n s (by simpa using hl) hs
      obtain ⟨w, hw, e2⟩ := sc_close S hv (mem_lets4.mpr hc)
      have ho := SC.of hv
      have oc : Of m [c] := fun x hx => by rw [List.mem_singleton.mp hx]; exact hc
      refine ⟨w, hw, e2.trans ((kind_al S (ho.app oc) (hs.app oc)).mpr (Al.app ((kind_al S ho hs).mp e) (Al.refl _ _)))⟩
theorem sc_one {m d : Nat} {u v : List Nat} (hu : u ∈ SC m d) (hv : v ∈ SC m d) (e : kind m d u = kind m d v) : u = v := by
  have h1 := sc_mem.mp hu
  have h2 := sc_mem.mp hv
  obtain ⟨i, hi⟩ := List.getElem?_of_mem h1
  obtain ⟨j, hj⟩ := List.getElem?_of_mem h2
  have n := (sc_good m d).n
  have a : ((scE m d).map (·.2))[i]? = some (kind m d u) := by rw [List.getElem?_map, hi]; rfl
  have b : ((scE m d).map (·.2))[j]? = some (kind m d u) := by rw [List.getElem?_map, hj, e]; rfl
  have ij : i = j := (List.getElem?_inj (List.getElem?_eq_some_iff.mp a).1 n).mp (a.trans b.symm)
  subst ij
  rw [hi] at hj
  injection hj with hj
  injection hj
end M
end

section
set_option Elab.async false
set_option linter.all false
set_option maxRecDepth 100000
set_option maxHeartbeats 2000000
/-! a module's own dict of whole numbers -/
namespace M
open PySem PySem.Spec L2 Evl
open PyProof.Rows hiding St
def entII (w : World) (e : DictEntry) : Option (Int × Int) := match e.key, e.val with
  | .int k _, .int v _ => if e.hash = hashInt k then some (k, v) else none
  | _, _ => none
def KIntI (K : PySem.W.Frag) (w : World) (d : Addr) (f : Int → Option Int) : Prop :=
  ∃ es n kvs, K.lookup d = some ⟨.type "dict", none, .dict es n, #[]⟩ ∧ (d == sysModules) = false ∧ es.toList.map (entII w) = kvs.map some ∧ f = fun z => List.lookup z kvs
theorem kintI_of {K : PySem.W.Frag} {w : World} {a : Addr} {es : Array DictEntry} {n : Nat} {kvs : List (Int × Int)} (l : K.lookup a = some ⟨.type "dict", none, .dict es n, #[]⟩) (lo : (a == sysModules) = false) (hf : es.toList.map (entII w) = kvs.map some) :
    KIntI K w a (fun z => List.lookup z kvs) := ⟨es, n, kvs, l, lo, hf, rfl⟩
theorem entII_some {w : World} {e : DictEntry} {k v : Int} (h : entII w e = some (k, v)) : ∃ t u, e.key = .int k t ∧ e.val = .int v u ∧ e.hash = hashInt k := by
  unfold entII at h
  split at h
  · rename_i k' t v' u h1 h2
    split at h
    · rename_i h3
      cases h
      exact ⟨_, _, h1, h2, h3⟩
    · exact nomatch h
  · exact nomatch h
theorem kII_find {w : World} (z : Int) : ∀ (L : List DictEntry) (kvs : List (Int × Int)), L.map (entII w) = kvs.map some → (∃ v t e, List.lookup z kvs = some v ∧ L.find? (fun e => Value.isInt z e.key) = some e ∧ e.val = .int v t) ∨ (List.lookup z kvs = none ∧ L.find? (fun e => Value.isInt z e.key) = none)
  | [], [], _ => .inr ⟨rfl, rfl⟩
  | [], _ :: _, h => nomatch h
  | _ :: _, [], h => nomatch h
  | e :: L, (k, v) :: kvs, h => by
    rw [List.map_cons, List.map_cons] at h
    injection h with h1 h2
    obtain ⟨t, u, e1, e2, e3⟩ := entII_some h1
    have e4 : Value.isInt z e.key = (k == z) := by rw [e1]; rfl
    by_cases q : k = z
    · refine .inl ⟨v, u, e, ?_, ?_, e2⟩
      · simp [List.lookup, q]
      · simp [List.find?, e4, q]
    · have ne : (z == k) = false := by simpa using fun h => q h.symm
      have ne2 : (k == z) = false := by simpa using q
      rcases kII_find z L kvs h2 with ⟨v', t', e', a, b, c⟩ | ⟨a, b⟩
      · exact .inl ⟨v', t', e', by rw [List.lookup_cons, ne]; exact a, by rw [List.find?_cons, e4, ne2]; exact b, c⟩
      · exact .inr ⟨by rw [List.lookup_cons, ne]; exact a, by rw [List.find?_cons, e4, ne2]; exact b⟩
theorem kII_keys {w : World} {P : Program} : ∀ (L : List DictEntry) (kvs : List (Int × Int)), L.map (entII w) = kvs.map some → ∀ e ∈ L, ∃ k, (intKind P w).is k e.key = true ∧ e.hash = (intKind P w).hash k
  | [], _, _, _, h => nomatch h
  | _ :: _, [], h, _, _ => nomatch h
  | x :: L, (k, v) :: kvs, h, e, he => by
    rw [List.map_cons, List.map_cons] at h
    injection h with h1 h2
    rcases List.mem_cons.mp he with rfl | he
    · obtain ⟨t, u, e1, e2, e3⟩ := entII_some h1
      exact ⟨k, by rw [e1]; show (k == k) = true; simp, e3⟩
    · exact kII_keys L kvs h2 e he
theorem kII_map {K : PySem.W.Frag} {P : Program} {w : World} {h : Heap} {d : Addr} {es : Array DictEntry} {n : Nat} {kvs : List (Int × Int)} (hk : K.In h) (l : K.lookup d = some ⟨.type "dict", none, .dict es n, #[]⟩) (hf : es.toList.map (entII w) = kvs.map some) :
    h.MapOf (intKind P w) d (fun z => findBy (intKind P w).is es z) :=
  ⟨_, es, n, hk _ _ l, ⟨rfl, rfl, rfl⟩, rfl, fun e he => kII_keys es.toList kvs hf e (Array.mem_toList_iff.mpr he), fun _ => rfl⟩
def tKGetI (K : PySem.W.Frag) (w : World) (td ty tx : TE) : TE := fun σ H Q => td σ H fun x H1 => ∃ d f, x = .ref d ∧ KIntI K w d f ∧ ty σ H1 fun y H2 => ∃ z, y = .int z ∧ tx σ H2 fun u H3 => ∃ j, u = .int j ∧ Q (.int ((f z).getD j)) H3
theorem pe_kgetI {X : Cx} {o e f : Expr} {apos cpos : Pos} {td ty tx : TE} (ho : PE X o td) (he : PE X e ty) (hf : PE X f tx) (m : M2 X o "get" apos e f cpos) : PE X (.Call (.Attribute o "get" apos) [e, f] [] cpos) (tKGetI X.K X.w td ty tx) := by
  constructor
  intro pins s σ H Q I h
  refine wpAny_Call_method m.base m.few m.line PySem.F.plainAttrs_dict PySem.F.slot_dict_get PySem.F.type_dict_get (thn (ho.run pins s σ H _ I h) ?_)
  rintro u s1 ⟨x, H1, I1, rx, d, g, rfl, ⟨es, n, kvs, hl, lo, hes, rfl⟩, q1⟩
  cases (show u = Value.ref d from rx)
  have hm0 := kII_map (P := X.prog) I1.kIn hl hes
  refine ⟨hm0.typeIs, fun a ea => ?_, ?_⟩
  · cases ea
    exact ⟨_, I1.kIn _ _ hl, rfl⟩
  rw [m.trees]
  refine Calls.callWith_builtin rfl (Calls.evalArgs_plain (Calls.spliced_cons (thn (he.run pins s1 σ H1 _ I1 q1) ?_)))
  rintro v s2 ⟨y, H2, I2, ry, z, rfl, q2⟩
  obtain ⟨t, rfl⟩ := ry
  refine Calls.spliced_cons (thn (hf.run pins s2 σ H2 _ I2 q2) ?_)
  rintro v2 s3 ⟨y2, H3, I3, r3, j, rfl, q3⟩
  obtain ⟨t3, rfl⟩ := r3
  have hm := kII_map (P := X.prog) I3.kIn hl hes
  have hk : (intKind X.prog X.w).is z (.int z t) = true := by show (z == z) = true; simp
  refine Calls.spliced_nil (call_meetsIn PySem.F.slot_dict_get hm.typeIs PySem.F.entry_dict_get (PySem.F.args_dict_get_3 _ _ _) (meets_dict_get_default (intKind X.prog X.w) d hk lo (.int j t3)) ⟨_, hm, ?_⟩)
  rcases kII_find z es.toList kvs hes with ⟨v, tv, e, a, b, c⟩ | ⟨a, b⟩
  · have fe : findBy (intKind X.prog X.w).is es z = some (.int v tv) := by
      show ((es.find? fun e => Value.isInt z e.key).map (·.val)) = _
      rw [← Array.find?_toList, b]
      show some e.val = _
      rw [c]
    rw [fe]
    show EP X pins σ Q (.int v tv) _
    have q3' : Q (.int v) H3 := by have := q3; rw [show (fun z => List.lookup z kvs) z = some v from a] at this; exact this
    exact ⟨.int v, H3, I3.tok _, ⟨tv, rfl⟩, q3'⟩
  · have fe : findBy (intKind X.prog X.w).is es z = none := by
      show ((es.find? fun e => Value.isInt z e.key).map (·.val)) = _
      rw [← Array.find?_toList, b]
      rfl
    rw [fe]
    have q3' : Q (.int j) H3 := by have := q3; rw [show (fun z => List.lookup z kvs) z = none from a] at this; exact this
    exact ⟨.int j, H3, I3.tok _, ⟨t3, rfl⟩, q3'⟩
end M
end

section
set_option Elab.async false
set_option linter.all false
set_option maxRecDepth 100000
set_option maxHeartbeats 2000000
/-! scopes: the dict of kinds and least rows, specs -/
namespace M
open PySem PySem.Spec L2 Evl
open PyProof.Rows hiding St
def strOf (r : List Nat) : Str := ⟨r.toArray⟩
theorem codes_strOf (r : List Nat) : codes (strOf r) = r := rfl
theorem strOf_codes (z : Str) : strOf (codes z) = z := codes_back z
abbrev NR := Nat × List Nat
def kvR (L : List NR) : List (Key × V) := L.map fun p => (Sum.inl ((p.1 : Nat) : Int), V.str (strOf p.2))
theorem kvR_keys (L : List NR) : (kvR L).map (·.1) = L.map fun p => (Sum.inl ((p.1 : Nat) : Int) : Key) := by
  unfold kvR
  rw [List.map_map]
  rfl
theorem kvR_vals (L : List NR) : (kvR L).map (·.2) = (L.map (·.2)).map fun r => V.str (strOf r) := by
  unfold kvR
  rw [List.map_map, List.map_map]
  rfl
theorem kvR_none {L : List NR} {n : Nat} (h : ∀ p ∈ L, p.1 ≠ n) : valV (kvR L) (Sum.inl ((n : Nat) : Int)) = none := by
  induction L with
  | nil => exact valV_nil
  | cons p L ih =>
    show valV ((Sum.inl ((p.1 : Nat) : Int), V.str (strOf p.2)) :: kvR L) _ = none
    rw [valV_neg (fun e => h p List.mem_cons_self (by injection e with e; omega))]
    exact ih fun q hq => h q (List.mem_cons_of_mem _ hq)
theorem kvR_some {L : List NR} {n : Nat} {r : List Nat} (nd : (L.map (·.1)).Nodup) (h : (n, r) ∈ L) : valV (kvR L) (Sum.inl ((n : Nat) : Int)) = some (.str (strOf r)) := by
  induction L with
  | nil => exact nomatch h
  | cons p L ih =>
    show valV ((Sum.inl ((p.1 : Nat) : Int), V.str (strOf p.2)) :: kvR L) _ = _
    rw [List.map_cons] at nd
    obtain ⟨n1, n2⟩ := List.nodup_cons.mp nd
    rcases List.mem_cons.mp h with rfl | h
    · exact valV_pos rfl
    · rw [valV_neg (fun e => n1 (List.mem_map.mpr ⟨_, h, by injection e with e; show n = p.1; omega⟩))]
      exact ih n2 h
theorem kvR_put {L : List NR} {n : Nat} {r : List Nat} (h : ∀ p ∈ L, p.1 ≠ n) : putK (kvR L) (Sum.inl ((n : Nat) : Int)) (.str (strOf r)) = kvR (L ++ [(n, r)]) := by
  rw [putK_new _ (kvR_none h)]
  unfold kvR
  rw [List.map_append]
  rfl
/-- the numbers of kinds, with the rows of E -/
structure RL (t : KTab) (m d : Nat) (L : List NR) (E : List RK) : Prop where
  rows : L.map (·.2) = E.map (·.1)
  rep : ∀ p ∈ L, Rep t d p.1 p.2
theorem RL.up {t u : KTab} {m d : Nat} {L : List NR} {E : List RK} (h : RL t m d L E) (g : Grows t u) : RL u m d L E := ⟨h.rows, fun p hp => (h.rep p hp).up g⟩
theorem RL.len {t : KTab} {m d : Nat} {L : List NR} {E : List RK} (h : RL t m d L E) : L.length = E.length := by
  have := congrArg List.length h.rows
  simpa using this
theorem RL.of {t : KTab} {m d : Nat} {L : List NR} {E : List RK} (h : RL t m d L E) (g : GoodK m d E) : ∀ p ∈ L, Of m p.2 := fun p hp => by
  have : p.2 ∈ E.map (·.1) := by rw [← h.rows]; exact List.mem_map.mpr ⟨p, hp, rfl⟩
  obtain ⟨q, hq, e⟩ := List.mem_map.mp this
  rw [← e]; exact g.o q hq
theorem rep_iff {S : List (List Nat)} {D : Nat} {t : KTab} (T : TOk Canon S D t) {d a b : Nat} {r s : List Nat} (h : Rep t d a r) (g : Rep t d b s) : a = b ↔ Al d r s := Rep.iff canon_one T.ok h g
theorem RL.any {S : List (List Nat)} {D : Nat} {t : KTab} (T : TOk Canon S D t) {m d : Nat} {L : List NR} {E : List RK} (Sc : Scope m d) (h : RL t m d L E) (g : GoodK m d E) {n : Nat} {r : List Nat} (hr : Of m r) (hn : Rep t d n r) :
    (E.any fun p => p.2 == kind m d r) = true ↔ ∃ p ∈ L, p.1 = n := by
  rw [List.any_eq_true]
  constructor
  · rintro ⟨q, hq, e⟩
    have e : q.2 = kind m d r := by simpa using e
    have : q.1 ∈ L.map (·.2) := by rw [h.rows]; exact List.mem_map.mpr ⟨q, hq, rfl⟩
    obtain ⟨p, hp, ep⟩ := List.mem_map.mp this
    refine ⟨p, hp, (rep_iff T (h.rep p hp) hn).mpr ((kind_al Sc (h.of g p hp) hr).mp ?_)⟩
    rw [ep, ← g.k q hq]; exact e
  · rintro ⟨p, hp, e⟩
    have : p.2 ∈ E.map (·.1) := by rw [← h.rows]; exact List.mem_map.mpr ⟨p, hp, rfl⟩
    obtain ⟨q, hq, eq⟩ := List.mem_map.mp this
    refine ⟨q, hq, ?_⟩
    have a := (rep_iff T (h.rep p hp) hn).mp e
    have := (kind_al Sc (h.of g p hp) hr).mpr a
    rw [g.k q hq, eq, this]
    simp
theorem RL.nodup {S : List (List Nat)} {D : Nat} {t : KTab} (T : TOk Canon S D t) {m d : Nat} {L : List NR} {E : List RK} (Sc : Scope m d) (h : RL t m d L E) (g : GoodK m d E) : (L.map (·.1)).Nodup := by
  have nd := g.n
  have e : E.map (·.2) = L.map fun p => kind m d p.2 := by
    have : E.map (·.2) = (E.map (·.1)).map (kind m d) := by
      rw [List.map_map]
      exact List.map_congr_left fun q hq => g.k q hq
    rw [this, ← h.rows, List.map_map]
    rfl
  rw [e] at nd
  have hof := h.of g
  have hrep := h.rep
  clear e h
  induction L with
  | nil => exact List.nodup_nil
  | cons p L ih =>
    rw [List.map_cons] at nd ⊢
    obtain ⟨n1, n2⟩ := List.nodup_cons.mp nd
    refine List.nodup_cons.mpr ⟨fun hm => ?_, ih n2 (fun q hq => hof q (List.mem_cons_of_mem _ hq)) fun q hq => hrep q (List.mem_cons_of_mem _ hq)⟩
    obtain ⟨q, hq, e⟩ := List.mem_map.mp hm
    have a := (rep_iff T (hrep q (List.mem_cons_of_mem _ hq)) (hrep p List.mem_cons_self)).mp e
    exact n1 (List.mem_map.mpr ⟨q, hq, (kind_al Sc (hof q (List.mem_cons_of_mem _ hq)) (hof p List.mem_cons_self)).mpr a⟩)
theorem RL.add {t : KTab} {m d : Nat} {L : List NR} {E : List RK} (h : RL t m d L E) {n : Nat} {r : List Nat} (hn : Rep t d n r) (no : (E.any fun p => p.2 == kind m d r) = false) : RL t m d (L ++ [(n, r)]) (addK m d E r) := by
  refine ⟨?_, fun p hp => ?_⟩
  · unfold addK
    rw [no, List.map_append, h.rows]
    simp
  · rcases List.mem_append.mp hp with hp | hp
    · exact h.rep p hp
    · rw [List.mem_singleton.mp hp]; exact hn
theorem addK_yes {m d : Nat} {E : List RK} {r : List Nat} (h : (E.any fun p => p.2 == kind m d r) = true) : addK m d E r = E := by unfold addK; rw [if_pos h]
/-- the stage within a turn -/
def stgK (m d i j : Nat) : List RK := ((lets4 m).take j).foldl (fun E c => addK m d E (rowAt (runK m d i) i ++ [c])) (runK m d i)
theorem stgK_zero (m d i : Nat) : stgK m d i 0 = runK m d i := rfl
theorem stgK_succ {m d i j c : Nat} (h : (lets4 m)[j]? = some c) : stgK m d i (j + 1) = addK m d (stgK m d i j) (rowAt (runK m d i) i ++ [c]) := by
  unfold stgK
  rw [List.take_add_one, h, List.foldl_append]
  rfl
theorem stgK_all (m d i : Nat) : stgK m d i (lets4 m).length = runK m d (i + 1) := by
  unfold stgK
  rw [List.take_length]
  rfl
theorem stgK_good (m d i j : Nat) : GoodK m d (stgK m d i j) ∧ ∃ F, stgK m d i j = runK m d i ++ F := by
  have := GoodK.adds (((lets4 m).take j).map fun c => rowAt (runK m d i) i ++ [c]) (good_run m d i) fun r hr => by
    obtain ⟨c, hc, rfl⟩ := List.mem_map.mp hr
    have hc := mem_lets4.mp (List.mem_of_mem_take hc)
    exact (rowAt_of (good_run m d i) i).snoc hc.1 hc.2
  rw [List.foldl_map] at this
  exact ⟨this.1, this.2.1⟩
theorem stgK_le (m d i j : Nat) : (stgK m d i j).length ≤ (runK m d (i + 1)).length := by
  have e : runK m d (i + 1) = (((lets4 m).drop j).map fun c => rowAt (runK m d i) i ++ [c]).foldl (addK m d) (stgK m d i j) := by
    rw [List.foldl_map]
    show turnK m d (runK m d i) (rowAt (runK m d i) i) = _
    unfold turnK stgK
    rw [← List.foldl_append, List.take_append_drop]
  obtain ⟨_, ⟨F, hF⟩, _⟩ := GoodK.adds (((lets4 m).drop j).map fun c => rowAt (runK m d i) i ++ [c]) (stgK_good m d i j).1 fun r hr => by
    obtain ⟨c, hc, rfl⟩ := List.mem_map.mp hr
    have hc := mem_lets4.mp (List.mem_of_mem_drop hc)
    exact (rowAt_of (good_run m d i) i).snoc hc.1 hc.2
  rw [e, hF, List.length_append]
  omega
theorem cnt_le {m d : Nat} (S : Scope m d) : cnt m d ≤ 97 := by
  obtain ⟨h1, h2, h3⟩ := S
  rcases (by omega : m = 1 ∨ m = 2 ∨ m = 3 ∨ m = 4) with rfl | rfl | rfl | rfl
  · have h3 : d ≤ 4 := h3
    exact Nat.le_trans (Nat.pow_le_pow_right (by decide) h3) (by decide)
  all_goals
    unfold cnt
    split
    · omega
    · split
      · omega
      · split <;> omega
theorem run_len {m d i : Nat} (S : Scope m d) (hi : i ≤ cnt m d) : (runK m d i).length ≤ cnt m d := by
  obtain ⟨F, hF⟩ := run_pre m d i (cnt m d - i)
  rw [show i + (cnt m d - i) = cnt m d by omega] at hF
  have := (sc_runs S).2
  have e : (scE m d).length = (runK m d i).length + F.length := by
    show (runK m d (cnt m d)).length = _
    rw [hF, List.length_append]
  omega
theorem run_more {m d i : Nat} (S : Scope m d) (hi : i ≤ cnt m d) : i < (runK m d i).length ↔ i < cnt m d := by
  constructor
  · intro h
    have := run_len S hi
    omega
  · exact fun h => (sc_runs S).1 i h
theorem run_row {m d i : Nat} (S : Scope m d) (hi : i < cnt m d) : rowAt (runK m d i) i ∈ SC m d := by
  obtain ⟨F, hF⟩ := run_pre m d i (cnt m d - i)
  rw [show i + (cnt m d - i) = cnt m d by omega] at hF
  have h1 := (sc_runs S).1 i hi
  unfold SC rowAt
  rw [List.getElem?_eq_getElem h1]
  refine List.mem_map.mpr ⟨(runK m d i)[i], ?_, rfl⟩
  show _ ∈ runK m d (cnt m d)
  rw [hF]
  exact List.mem_append.mpr (.inl (List.getElem_mem h1))
theorem Scope.d4 {m d : Nat} (S : Scope m d) : d ≤ 4 := by
  have h3 := S.2.2
  have : top m ≤ 4 := by unfold top; split <;> (try split) <;> omega
  omega
theorem letters_cut {m : Nat} (h : m ≤ 4) : cutS "abcd" none (some ((m : Nat) : Int)) = strOf (lets4 m) := by
  rcases (by omega : m = 0 ∨ m = 1 ∨ m = 2 ∨ m = 3 ∨ m = 4) with rfl | rfl | rfl | rfl | rfl <;> decide +kernel
theorem RL.at {t : KTab} {m d : Nat} {L : List NR} {E : List RK} (h : RL t m d L E) {i : Nat} (hi : i < E.length) : ∃ n, L[i]? = some (n, rowAt E i) ∧ Rep t d n (rowAt E i) := by
  have hl : i < L.length := by rw [h.len]; exact hi
  have e1 : (L.map (·.2))[i]? = (E.map (·.1))[i]? := by rw [h.rows]
  rw [List.getElem?_map, List.getElem?_map, List.getElem?_eq_getElem hl, List.getElem?_eq_getElem hi] at e1
  have e2 : rowAt E i = L[i].2 := by
    unfold rowAt
    rw [List.getElem?_eq_getElem hi]
    exact (Option.some.inj e1).symm
  refine ⟨L[i].1, ?_, ?_⟩
  · rw [List.getElem?_eq_getElem hl, e2]
  · rw [e2]; exact h.rep _ (List.getElem_mem hl)
theorem nats_at {L : List NR} {i n : Nat} {r : List Nat} (h : L[i]? = some (n, r)) : (natsV (L.map (·.1)))[i]? = some (.int (n : Nat)) := by
  unfold natsV
  rw [List.getElem?_map, List.getElem?_map, h]
  rfl
/-! ### specs -/
def sp_letters_of : Sp := fun vs H Q _ => ∃ (m : Nat) (_ _ : Unit), vs = [.int (m : Nat)] ∧ m ≤ 4 ∧ Q (.str (strOf (lets4 m))) H
def sp_check_scope : Sp := fun vs H Q _ => ∃ (m d : Nat) (_ : Unit), vs = [.int (m : Nat), .int (d : Nat)] ∧ Scope m d ∧ Q .non H
def kvOk (m d : Nat) (k : KC) : Prop := d ≤ k.D ∧ ∀ u ∈ SC m d, ∀ c ∈ lets4 m, u ++ [c] ∈ k.S
def sp_rbk (P : Program) (w : World) (C : Addr) : Sp := fun vs H Q _ => ∃ (k : KC) (Ls : List Addr) (t : KTab) (m d : Nat), vs = [.ref k.x, .int (m : Nat), .int (d : Nat)] ∧ KS P w C k Ls H t ∧ Scope m d ∧ kvOk m d k ∧
  ∀ (a : Addr) (L : List NR) t' Ls' H', KS P w C k Ls' H' t' → Stp k Ls H t Ls' H' t' → H a = none → a ∉ k.A.all → a ∉ Ls' → H' a = some (.dK (kvR L)) → RL t' m d L (scE m d) → Q (.ref a) H'
def sp_least_rows : Sp := fun vs H Q _ => ∃ (m d : Nat) (_ : Unit), vs = [.int (m : Nat), .int (d : Nat)] ∧ Scope m d ∧ ∀ (a : Addr) H', Ex H H' → H a = none → H' a = some (.lst ((SC m d).map fun r => .str (strOf r))) → Q (.ref a) H'
def sp_kind_count : Sp := fun vs H Q _ => ∃ (m d : Nat) (_ : Unit), vs = [.int (m : Nat), .int (d : Nat)] ∧ Scope m d ∧ ∀ H', Ex H H' → Q (.int (cnt m d : Nat)) H'
/-- the rows that the kinds of a scope are told of -/
def scRows (m d : Nat) : List (List Nat) := (SC m d).flatMap fun u => (lets4 m).map fun c => u ++ [c]
def okRows (m d : Nat) : Bool := decide ((subsAll (scRows m d)).length ≤ 30000) && ((scRows m d).all fun r => decide (r.length ≤ 17))
theorem rw10 : okRows 1 0 = true := by decide +kernel
theorem rw11 : okRows 1 1 = true := by decide +kernel
theorem rw12 : okRows 1 2 = true := by decide +kernel
theorem rw13 : okRows 1 3 = true := by decide +kernel
theorem rw14 : okRows 1 4 = true := by decide +kernel
theorem rw20 : okRows 2 0 = true := by decide +kernel
theorem rw21 : okRows 2 1 = true := by decide +kernel
theorem rw22 : okRows 2 2 = true := by decide +kernel
theorem rw30 : okRows 3 0 = true := by decide +kernel
theorem rw31 : okRows 3 1 = true := by decide +kernel
theorem rw40 : okRows 4 0 = true := by decide +kernel
theorem rw41 : okRows 4 1 = true := by decide +kernel
theorem rwS {m d : Nat} (S : Scope m d) : (subsAll (scRows m d)).length ≤ 30000 ∧ ∀ r ∈ scRows m d, r.length ≤ 17 := by
  have := Scope.all (P := fun m d => okRows m d = true) rw10 rw11 rw12 rw13 rw14 rw20 rw21 rw22 rw30 rw31 rw40 rw41 S
  unfold okRows at this
  simpa [Bool.and_eq_true, List.all_eq_true] using this
theorem subsAll_cons (r : List Nat) (rs : List (List Nat)) : (subsAll (r :: rs)).length = (subs r).length + (subsAll rs).length := by
  unfold subsAll
  simp
  omega
/-- the rows of a scope, and a row besides -/
theorem sub_scope {m d : Nat} (S : Scope m d) {r : List Nat} (hr : r.length ≤ 60) (low : ∀ c ∈ r, c < 2 ^ 32) : Sub (subsAll (r :: scRows m d)) 8 := by
  obtain ⟨h1, h2⟩ := rwS S
  have h4 : m ≤ 4 := S.2.1
  refine sub_all (fun s hs => ?_) (fun s hs c hc => ?_) ?_
  · rcases List.mem_cons.mp hs with rfl | hs
    · exact hr
    · have := h2 s hs; omega
  · rcases List.mem_cons.mp hs with rfl | hs
    · exact low c hc
    · obtain ⟨u, hu, hs⟩ := List.mem_flatMap.mp hs
      obtain ⟨x, hx, rfl⟩ := List.mem_map.mp hs
      have hx := mem_lets4.mp hx
      have := (SC.of hu).snoc hx.1 hx.2 c hc
      omega
  · rw [subsAll_cons, subs_len]
    have : (r.length + 1) * (r.length + 1) ≤ 61 * 61 := Nat.mul_le_mul (by omega) (by omega)
    omega
theorem sc_kvOk {m d : Nat} (S : Scope m d) {r : List Nat} {x : Addr} {A : KA} : kvOk m d ⟨subsAll (r :: scRows m d), 8, x, A⟩ := by
  refine ⟨?_, fun u hu c hc => mem_all (List.mem_cons_of_mem _ (List.mem_flatMap.mpr ⟨u, hu, List.mem_map.mpr ⟨c, hc, rfl⟩⟩))⟩
  have h3 := S.2.2
  have : top m ≤ 4 := by unfold top; split <;> (try split) <;> omega
  show d ≤ 8
  omega
end M
end

section
set_option Elab.async false
set_option linter.all false
set_option maxRecDepth 100000
set_option maxHeartbeats 2000000
/-! scopes: a law's lists of rows -/
namespace M
open PySem PySem.Spec L2 Evl
open PyProof.Rows hiding St
def rowsV (R : List (List Nat)) : List V := R.map fun r => V.str (strOf r)
theorem rowsV_len (R : List (List Nat)) : (rowsV R).length = R.length := List.length_map _
theorem rowsV_app (R S : List (List Nat)) : rowsV R ++ rowsV S = rowsV (R ++ S) := by unfold rowsV; rw [List.map_append]
theorem rowsV_at {R : List (List Nat)} {i : Nat} {v : V} (h : (rowsV R)[i]? = some v) : ∃ r, R[i]? = some r ∧ v = .str (strOf r) := by
  unfold rowsV at h
  rw [List.getElem?_map] at h
  obtain ⟨r, h1, h2⟩ := Option.map_eq_some_iff.mp h
  exact ⟨r, h1, h2.symm⟩
theorem at_rowsV {R : List (List Nat)} {i : Nat} {r : List Nat} (h : R[i]? = some r) : (rowsV R)[i]? = some (.str (strOf r)) := by
  unfold rowsV
  rw [List.getElem?_map, h]
  rfl
theorem oneV_rows (cs : List Nat) : oneV cs = rowsV (cs.map fun c => [c]) := by
  unfold oneV rowsV
  rw [List.map_map, List.map_map]
  rfl
theorem str_snoc (u : List Nat) (c : Nat) : strOf u ++ (⟨#[c]⟩ : Str) = strOf (u ++ [c]) := by
  show (⟨u.toArray ++ #[c]⟩ : Str) = ⟨(u ++ [c]).toArray⟩
  simp
theorem strOf_len (u : List Nat) : (strOf u).length = u.length := by have := codes_len (strOf u); rw [codes_strOf] at this; exact this.symm
def dRows (R : List (List Nat)) : PyData := .list (R.map fun r => .str (strOf r))
theorem dps_rows {K : PySem.W.Frag} {H : Hp} : ∀ R : List (List Nat), DpAll K H (rowsV R) (R.map fun r => PyData.str (strOf r))
  | [] => .nil
  | r :: R => .cons (.str _) (dps_rows R)
theorem dp_rows {K : PySem.W.Frag} {H : Hp} {a : Addr} {R : List (List Nat)} (h : H a = some (.lst (rowsV R))) : Dp K H (.ref a) (dRows R) := .lst (SqL.of h) (dps_rows R)
/-- letters, and not too long -/
def Lets (k : Nat) (R : List (List Nat)) : Prop := ∀ r ∈ R, Of 26 r ∧ r.length ≤ k
theorem of_abc {r : List Nat} (h : Of 26 r) : Abc (strOf r) := fun c hc => by
  have := h c hc
  omega
theorem sml_rows {R : List (List Nat)} {k n : Nat} (h : Lets k R) (hl : R.length ≤ n) : Sml (dRows R) 1 (n * (k + 1)) := by
  refine Sml.up (sml_list (D := 0) (W := k) fun d hd => ?_) (Nat.le_refl _) ?_
  · obtain ⟨r, hr, rfl⟩ := List.mem_map.mp hd
    exact sml_letters (of_abc (h r hr).1) (by rw [strOf_len]; exact (h r hr).2)
  · rw [List.length_map]
    exact Nat.mul_le_mul_right _ hl
theorem sml_two {a b : PyData} {D W : Nat} (ha : Sml a D W) (hb : Sml b D W) : Sml (.list [a, b]) (D + 1) (2 * (W + 1)) := sml_list fun d hd => by
  rcases List.mem_cons.mp hd with rfl | hd
  · exact ha
  · rw [List.mem_singleton.mp hd]; exact hb
theorem lay_rows : ∀ {R : List (List Nat)} {k : Nat}, Lets k R → PyData.canLayAll0 (R.map fun r => PyData.str (strOf r)) = true ∧ PyData.depthAll (R.map fun r => PyData.str (strOf r)) = 0
  | [], _, _ => ⟨rfl, rfl⟩
  | r :: R, k, h => by
    obtain ⟨h1, h2⟩ := lay_rows (R := R) (k := k) fun s hs => h s (List.mem_cons_of_mem _ hs)
    have h3 : PyData.strOk (strOf r) = true := by
      show ((r.toArray).all fun c => decide (c < 0x110000)) = true
      simp only [List.all_toArray, List.all_eq_true, decide_eq_true_eq]
      intro c hc
      have := (h r List.mem_cons_self).1 c hc
      omega
    constructor
    · simp only [List.map_cons, PyData.canLayAll0, PyData.canLay0, h3, h1, Bool.and_self]
    · simp only [List.map_cons, PyData.depthAll, PyData.depth, h2]
      rfl
theorem shaped_rows {R : List (List Nat)} {k : Nat} (h : Lets k R) : SeqAt.shaped (dRows R) = true := by
  obtain ⟨h1, h2⟩ := lay_rows h
  unfold SeqAt.shaped dRows
  rw [Bool.and_eq_true, decide_eq_true_eq]
  refine ⟨by simp only [PyData.canLay0]; exact h1, ?_⟩
  simp only [PyData.depth, h2]
  decide
theorem eqv_rows : ∀ (R S : List (List Nat)), PyData.eqv (dRows R) (dRows S) = decide (R = S)
  | [], [] => by simp [dRows, PyData.eqv, PyData.eqvAll]
  | [], s :: S => by simp [dRows, PyData.eqv, PyData.eqvAll]
  | r :: R, [] => by simp [dRows, PyData.eqv, PyData.eqvAll]
  | r :: R, s :: S => by
    have ih := eqv_rows R S
    unfold dRows at ih ⊢
    simp only [List.map_cons, PyData.eqv, PyData.eqvAll] at ih ⊢
    rw [ih]
    apply Bool.eq_iff_iff.mpr
    simp only [Bool.and_eq_true, beq_iff_eq, decide_eq_true_eq, List.cons.injEq]
    constructor
    · rintro ⟨h1, h2⟩
      exact ⟨by have := congrArg codes h1; rwa [codes_strOf, codes_strOf] at this, h2⟩
    · rintro ⟨rfl, rfl⟩
      exact ⟨rfl, rfl⟩
theorem SC.lets {m d : Nat} (S : Scope m d) : Lets 17 (SC m d) := fun r hr => by
  refine ⟨(SC.of hr).up (by have := S.2.1; omega), ?_⟩
  have := (sc_firsts S).2 r hr
  have : longest m ≤ 16 := by unfold longest; split <;> (try split) <;> (try split) <;> omega
  omega
theorem SC.few {m d : Nat} (S : Scope m d) : (SC m d).length ≤ 97 := by rw [sc_len S]; exact cnt_le S
/-! all rows to a length -/
theorem allL_few : ∀ m : Fin 5, ∀ n : Fin 17, n.val ≤ longest m.val → (allL m.val n.val).1.length ≤ 600 ∧ (allL m.val n.val).2.length ≤ 600 := by decide +kernel
theorem allL_le {m n : Nat} (hm : m ≤ 4) (hn : n ≤ longest m) : (allL m n).1.length ≤ 600 ∧ (allL m n).2.length ≤ 600 := by
  have : longest m ≤ 16 := by unfold longest; split <;> (try split) <;> (try split) <;> omega
  exact allL_few ⟨m, by omega⟩ ⟨n, by omega⟩ hn
theorem allL_of (m : Nat) : ∀ n : Nat, (∀ r ∈ (allL m n).1, Of m r ∧ r.length ≤ n) ∧ ∀ r ∈ (allL m n).2, Of m r ∧ r.length = n
  | 0 => ⟨fun r hr => by rw [List.mem_singleton.mp hr]; exact ⟨fun c hc => (nomatch hc), Nat.le_refl _⟩, fun r hr => by rw [List.mem_singleton.mp hr]; exact ⟨fun c hc => (nomatch hc), rfl⟩⟩
  | n + 1 => by
    obtain ⟨h1, h2⟩ := allL_of m n
    have h3 : ∀ r ∈ (allL m (n + 1)).2, Of m r ∧ r.length = n + 1 := fun r hr => by
      obtain ⟨u, hu, hr⟩ := List.mem_flatMap.mp hr
      obtain ⟨c, hc, rfl⟩ := List.mem_map.mp hr
      obtain ⟨a, b⟩ := h2 u hu
      exact ⟨a.snoc (mem_lets4.mp hc).1 (mem_lets4.mp hc).2, by simp [b]⟩
    refine ⟨fun r hr => ?_, h3⟩
    rcases List.mem_append.mp hr with q | q
    · obtain ⟨a, b⟩ := h1 r q
      exact ⟨a, by omega⟩
    · obtain ⟨a, b⟩ := h3 r q
      exact ⟨a, by omega⟩
/-- the last rows, the first so many of the ones ahead gone through -/
def grow (m : Nat) (R : List (List Nat)) : List (List Nat) := R.flatMap fun r => (lets4 m).map fun c => r ++ [c]
theorem allL_succ (m n : Nat) : (allL m (n + 1)).2 = grow m (allL m n).2 ∧ (allL m (n + 1)).1 = (allL m n).1 ++ grow m (allL m n).2 := ⟨rfl, rfl⟩
theorem grow_take {m i : Nat} {R : List (List Nat)} {r : List Nat} (h : R[i]? = some r) : grow m (R.take (i + 1)) = grow m (R.take i) ++ (lets4 m).map fun c => r ++ [c] := by
  unfold grow
  rw [List.take_add_one, h, List.flatMap_append]
  simp
theorem grow_le {m i : Nat} {R : List (List Nat)} : (grow m (R.take i)).length ≤ (grow m R).length := by
  have e : grow m R = grow m (R.take i) ++ grow m (R.drop i) := by
    unfold grow
    rw [← List.flatMap_append, List.take_append_drop]
  rw [e, List.length_append]
  omega
/-! ### specs -/
def sp_alines : Sp := fun vs H Q _ => ∃ (l : Addr) (m n : Nat), vs = [.ref l, .int (n : Nat)] ∧ LsN H l (lets4 m) ∧ m ≤ 4 ∧ n ≤ longest m ∧ ∀ (a : Addr) H', Ex H H' → H a = none → H' a = some (.lst (rowsV (allL m n).1)) → Q (.ref a) H'
def sp_lscope : Sp := fun vs H Q _ => ∃ (H0 : Hp) (p : Addr) (k : Nat), vs = [.ref p] ∧ Pl H0 H p k ∧ k + 20 ≤ 2 ^ 20 ∧ ∀ (a l : Addr) (m d : Nat) (H1 H' : Hp), Ex H0 H1 → Pl H1 H' p (k + 10) → Scope m d → H1 a = some (.tup [.ref l, .int (d : Nat), .int (longest m : Nat)]) → LsN H1 l (lets4 m) → Q (.ref a) H'
def sp_lfirsts : Sp := fun vs H Q _ => ∃ (l : Addr) (m d : Nat), vs = [.ref l, .int (d : Nat), .int (longest m : Nat)] ∧ LsN H l (lets4 m) ∧ Scope m d ∧ ∀ (a : Addr) H', Ex H H' → H a = none → H' a = some (.lst (rowsV (SC m d))) → Q (.ref a) H'
end M
end

section
set_option Elab.async false
set_option linter.all false
set_option maxRecDepth 100000
set_option maxHeartbeats 2000000
/-! a law's numbers of kinds, and its first rows -/
namespace M
open PySem PySem.Spec L2 Evl
open PyProof.Rows hiding St
theorem sc_of1 {d : Nat} (h : d ≤ 4) : SC 1 d = (List.range (2 ^ d)).map fun n => rep [97] n := by
  rcases (by omega : d = 0 ∨ d = 1 ∨ d = 2 ∨ d = 3 ∨ d = 4) with rfl | rfl | rfl | rfl | rfl <;> decide +kernel
theorem mul_a (n : Nat) : Txt.mul "a" ((n : Nat) : Int) = strOf (rep [97] n) := by
  have := codes_times "a" ((n : Nat) : Int)
  rw [← strOf_codes (Txt.mul "a" _), this, Int.toNat_natCast]
  rfl
theorem cnt1 {m : Nat} (S : Scope m 1) : cnt m 1 = 2 ^ m := by
  obtain ⟨h1, h2, _⟩ := S
  rcases (by omega : m = 1 ∨ m = 2 ∨ m = 3 ∨ m = 4) with rfl | rfl | rfl | rfl <;> rfl
theorem inV_nats (n : Nat) (L : List Nat) : inV (.int (n : Nat)) (natsV L) = true ↔ n ∈ L := by
  induction L with
  | nil => simp [inV, natsV]
  | cons x L ih =>
    unfold inV natsV at *
    simp only [List.map_cons, List.any_cons, Bool.or_eq_true, List.mem_cons] at *
    rw [ih]
    constructor
    · rintro (h | h)
      · left
        have := of_decide_eq_true h
        injection this with this
        omega
      · exact .inr h
    · rintro (h | h)
      · left; subst h; exact decide_eq_true rfl
      · exact .inr h
/-- the numbers of a law's kinds, with the rows of E -/
structure LL (u : LTab) (m d : Nat) (L : List NR) (E : List RK) : Prop where
  rows : L.map (·.2) = E.map (·.1)
  rep : ∀ p ∈ L, LRep u d p.1 p.2
section
variable {S : List (List Nat)} {D m d : Nat} {u v : LTab} {L : List NR} {E : List RK}
theorem LL.up (h : LL u m d L E) (g : ∀ x ∈ u, x ∈ v) : LL v m d L E := ⟨h.rows, fun p hp => (h.rep p hp).up g⟩
theorem LL.len (h : LL u m d L E) : L.length = E.length := by
  have := congrArg List.length h.rows
  simpa using this
theorem LL.of (h : LL u m d L E) (g : GoodK m d E) : ∀ p ∈ L, Of m p.2 := fun p hp => by
  have : p.2 ∈ E.map (·.1) := by rw [← h.rows]; exact List.mem_map.mpr ⟨p, hp, rfl⟩
  obtain ⟨q, hq, e⟩ := List.mem_map.mp this
  rw [← e]; exact g.o q hq
theorem LL.any (T : LOk S D u) (Sc : Scope m d) (h : LL u m d L E) (g : GoodK m d E) {n : Nat} {r : List Nat} (hr : Of m r) (hn : LRep u d n r) : (E.any fun p => p.2 == kind m d r) = true ↔ n ∈ L.map (·.1) := by
  rw [List.any_eq_true]
  constructor
  · rintro ⟨q, hq, e⟩
    have e : q.2 = kind m d r := by simpa using e
    have : q.1 ∈ L.map (·.2) := by rw [h.rows]; exact List.mem_map.mpr ⟨q, hq, rfl⟩
    obtain ⟨p, hp, ep⟩ := List.mem_map.mp this
    refine List.mem_map.mpr ⟨p, hp, (LRep.iff T (h.rep p hp) hn).mpr ((kind_al Sc (h.of g p hp) hr).mp ?_)⟩
    rw [ep, ← g.k q hq]; exact e
  · intro hm
    obtain ⟨p, hp, e⟩ := List.mem_map.mp hm
    have : p.2 ∈ E.map (·.1) := by rw [← h.rows]; exact List.mem_map.mpr ⟨p, hp, rfl⟩
    obtain ⟨q, hq, eq⟩ := List.mem_map.mp this
    refine ⟨q, hq, ?_⟩
    have a := (LRep.iff T (h.rep p hp) hn).mp e
    have := (kind_al Sc (h.of g p hp) hr).mpr a
    rw [g.k q hq, eq, this]
    simp
theorem LL.add (h : LL u m d L E) {n : Nat} {r : List Nat} (hn : LRep u d n r) (no : (E.any fun p => p.2 == kind m d r) = false) : LL u m d (L ++ [(n, r)]) (addK m d E r) := by
  refine ⟨?_, fun p hp => ?_⟩
  · unfold addK
    rw [no, List.map_append, h.rows]
    simp
  · rcases List.mem_append.mp hp with hp | hp
    · exact h.rep p hp
    · rw [List.mem_singleton.mp hp]; exact hn
end
/-- the first ones of the rows that stand ahead -/
def fstK (m d i : Nat) : List RK := ((allL m (longest m)).1.take i).foldl (addK m d) []
theorem fstK_succ {m d i : Nat} {r : List Nat} (h : (allL m (longest m)).1[i]? = some r) : fstK m d (i + 1) = addK m d (fstK m d i) r := by
  unfold fstK
  rw [List.take_add_one, h, List.foldl_append]
  rfl
theorem fstK_good {m d : Nat} (i : Nat) : GoodK m d (fstK m d i) := by
  have := GoodK.adds (m := m) (d := d) ((allL m (longest m)).1.take i) (E := []) ⟨fun p h => (nomatch h), fun p h => (nomatch h), List.nodup_nil⟩ fun r hr => ((allL_of m _).1 r (List.mem_of_mem_take hr)).1
  exact this.1
theorem fstK_all {m d : Nat} (S : Scope m d) : fstK m d (allL m (longest m)).1.length = scE m d := by
  unfold fstK
  rw [List.take_length]
  exact (sc_firsts S).1
theorem fstK_le {m d : Nat} (S : Scope m d) (i : Nat) : (fstK m d i).length ≤ 97 := by
  have e : scE m d = ((allL m (longest m)).1.drop i).foldl (addK m d) (fstK m d i) := by
    rw [← (sc_firsts S).1]
    unfold fstK
    rw [← List.foldl_append, List.take_append_drop]
  obtain ⟨_, ⟨F, hF⟩, _⟩ := GoodK.adds ((allL m (longest m)).1.drop i) (fstK_good (d := d) i) fun r hr => ((allL_of m _).1 r (List.mem_of_mem_drop hr)).1
  have := (sc_runs S).2
  have h2 := cnt_le S
  rw [e, hF, List.length_append] at this
  omega
theorem allL_subs : ∀ m : Fin 5, (subsAll (allL m.val (longest m.val)).1).length ≤ 100000 := by decide +kernel
theorem sub_lines {m : Nat} (hm : m ≤ 4) : Sub (subsAll (allL m (longest m)).1) 8 := by
  have hl : longest m ≤ 16 := by unfold longest; split <;> (try split) <;> (try split) <;> omega
  refine sub_all (fun r hr => ?_) (fun r hr c hc => ?_) ?_
  · have := ((allL_of m _).1 r hr).2; omega
  · have := ((allL_of m _).1 r hr).1 c hc; omega
  · have := allL_subs ⟨m, by omega⟩
    have e : (subsAll (allL m (longest m)).1).length ≤ 100000 := this
    omega
end M
end

section
set_option Elab.async false
set_option linter.all false
set_option maxRecDepth 100000
namespace Lw
open PySem L2 Evl M
open PyProof.Rows hiding St
def top (i : Nat) : Stmt := PySem.Challenge.pw_pickdepths_k29_kinds_of_scopes.main.body.getD i (.Pass ⟨0, 0, 0, 0⟩)
abbrev s__wall : Stmt := top 0
theorem sc__wall : FnScope ["k"] ["k"] (defScope s__wall) := ⟨rfl, rfl, rfl, by decide +kernel, rfl, by decide +kernel, by decide +kernel⟩
abbrev s_Kinds___init__ : Stmt := inClass (top 5) 0
theorem sc_Kinds___init__ : FnScope ["self"] ["self"] (defScope s_Kinds___init__) := ⟨rfl, rfl, rfl, by decide +kernel, rfl, by decide +kernel, by decide +kernel⟩
abbrev s_Kinds_alike : Stmt := inClass (top 5) 1
theorem sc_Kinds_alike : FnScope ["self", "row", "other_row", "depth"] ["self", "row", "other_row", "depth"] (defScope s_Kinds_alike) := ⟨rfl, rfl, rfl, by decide +kernel, rfl, by decide +kernel, by decide +kernel⟩
abbrev s_Kinds_of_row : Stmt := inClass (top 5) 2
theorem sc_Kinds_of_row : FnScope ["self", "row", "depth"] ["self", "row", "depth"] (defScope s_Kinds_of_row) := ⟨rfl, rfl, rfl, by decide +kernel, rfl, by decide +kernel, by decide +kernel⟩
abbrev s_Kinds_places : Stmt := inClass (top 5) 3
theorem sc_Kinds_places : FnScope ["self", "row", "depth", "key"] ["self", "row", "depth"] (defScope s_Kinds_places) := ⟨rfl, rfl, rfl, by decide +kernel, rfl, by decide +kernel, by decide +kernel⟩
abbrev s_Kinds_marks_of_places : Stmt := inClass (top 5) 4
theorem sc_Kinds_marks_of_places : FnScope ["self", "row", "depth", "behind", "kinds_behind", "letter", "ahead", "marks"] ["self", "row", "depth"] (defScope s_Kinds_marks_of_places) := ⟨rfl, rfl, rfl, by decide +kernel, rfl, by decide +kernel, by decide +kernel⟩
abbrev s_Kinds_empty : Stmt := inClass (top 5) 5
theorem sc_Kinds_empty : FnScope ["self", "depth"] ["self", "depth"] (defScope s_Kinds_empty) := ⟨rfl, rfl, rfl, by decide +kernel, rfl, by decide +kernel, by decide +kernel⟩
abbrev s_Kinds_numbered : Stmt := inClass (top 5) 6
theorem sc_Kinds_numbered : FnScope ["self", "depth", "marks", "key"] ["self", "depth", "marks"] (defScope s_Kinds_numbered) := ⟨rfl, rfl, rfl, by decide +kernel, rfl, by decide +kernel, by decide +kernel⟩
abbrev s_Kinds_lesser : Stmt := inClass (top 5) 7
theorem sc_Kinds_lesser : FnScope ["self", "kind", "depth", "marks", "found", "ahead", "letter", "behind"] ["self", "kind"] (defScope s_Kinds_lesser) := ⟨rfl, rfl, rfl, by decide +kernel, rfl, by decide +kernel, by decide +kernel⟩
abbrev s_Kinds_added_behind : Stmt := inClass (top 5) 8
theorem sc_Kinds_added_behind : FnScope ["self", "kind", "letter", "key", "depth", "marks", "found", "ahead", "sign", "behind"] ["self", "kind", "letter"] (defScope s_Kinds_added_behind) := ⟨rfl, rfl, rfl, by decide +kernel, rfl, by decide +kernel, by decide +kernel⟩
abbrev s_Kinds_added_ahead : Stmt := inClass (top 5) 9
theorem sc_Kinds_added_ahead : FnScope ["self", "letter", "kind", "key", "depth", "marks", "found", "ahead", "sign", "behind"] ["self", "letter", "kind"] (defScope s_Kinds_added_ahead) := ⟨rfl, rfl, rfl, by decide +kernel, rfl, by decide +kernel, by decide +kernel⟩
abbrev s_kind_count : Stmt := top 9
theorem sc_kind_count : FnScope ["many", "depth"] ["many", "depth"] (defScope s_kind_count) := ⟨rfl, rfl, rfl, by decide +kernel, rfl, by decide +kernel, by decide +kernel⟩
abbrev s_least_rows : Stmt := top 10
theorem sc_least_rows : FnScope ["many", "depth"] ["many", "depth"] (defScope s_least_rows) := ⟨rfl, rfl, rfl, by decide +kernel, rfl, by decide +kernel, by decide +kernel⟩
abbrev s_rows_by_kind : Stmt := top 11
theorem sc_rows_by_kind : FnScope ["kinds", "many", "depth", "first", "rows", "waiting", "done", "kind", "letter", "longer"] ["kinds", "many", "depth"] (defScope s_rows_by_kind) := ⟨rfl, rfl, rfl, by decide +kernel, rfl, by decide +kernel, by decide +kernel⟩
abbrev s_letters_of : Stmt := top 12
theorem sc_letters_of : FnScope ["many"] ["many"] (defScope s_letters_of) := ⟨rfl, rfl, rfl, by decide +kernel, rfl, by decide +kernel, by decide +kernel⟩
abbrev s_check_scope : Stmt := top 13
theorem sc_check_scope : FnScope ["many", "depth"] ["many", "depth"] (defScope s_check_scope) := ⟨rfl, rfl, rfl, by decide +kernel, rfl, by decide +kernel, by decide +kernel⟩
abbrev s__law_pool : Stmt := top 15
theorem sc__law_pool : FnScope ["script", "spot", "cell"] ["script", "spot"] (defScope s__law_pool) := ⟨rfl, rfl, rfl, by decide +kernel, rfl, by decide +kernel, by decide +kernel⟩
abbrev s__law_draw : Stmt := top 16
theorem sc__law_draw : FnScope ["pool", "span", "drawn", "mixed"] ["pool", "span"] (defScope s__law_draw) := ⟨rfl, rfl, rfl, by decide +kernel, rfl, by decide +kernel, by decide +kernel⟩
abbrev s__law_kind : Stmt := top 17
theorem sc__law_kind : FnScope ["line", "deep", "known", "members_here", "spot", "letter", "ahead_here", "member_here", "key"] ["line", "deep", "known"] (defScope s__law_kind) := ⟨rfl, rfl, rfl, by decide +kernel, rfl, by decide +kernel, by decide +kernel⟩
abbrev s__law_all_lines : Stmt := top 18
theorem sc__law_all_lines : FnScope ["names", "longest", "found", "latest", "turn", "longer", "line", "letter"] ["names", "longest"] (defScope s__law_all_lines) := ⟨rfl, rfl, rfl, by decide +kernel, rfl, by decide +kernel, by decide +kernel⟩
abbrev s__law_scope : Stmt := top 19
theorem sc__law_scope : FnScope ["pool", "deep", "found"] ["pool"] (defScope s__law_scope) := ⟨rfl, rfl, rfl, by decide +kernel, rfl, by decide +kernel, by decide +kernel⟩
abbrev s__law_firsts : Stmt := top 20
theorem sc__law_firsts : FnScope ["names", "deep", "longest", "known", "seen", "found", "line", "kind"] ["names", "deep", "longest"] (defScope s__law_firsts) := ⟨rfl, rfl, rfl, by decide +kernel, rfl, by decide +kernel, by decide +kernel⟩
abbrev s__law_right : Stmt := top 21
theorem sc__law_right : FnScope ["pool", "names", "deep", "longest", "due", "known", "span", "told", "seen", "line", "letter", "size"] ["pool"] (defScope s__law_right) := ⟨rfl, rfl, rfl, by decide +kernel, rfl, by decide +kernel, by decide +kernel⟩
abbrev s_law : Stmt := top 22
theorem sc_law : FnScope ["script", "spot", "pool", "turn"] ["script"] (defScope s_law) := ⟨rfl, rfl, rfl, by decide +kernel, rfl, by decide +kernel, by decide +kernel⟩
theorem kbl_least_rows__depth_many {K : PySem.W.Frag} {fd : FuncData} (hb : ∀ (s : Shared) (w0 w1 : Value), BindsTo s fd ⟨[], [("depth", w0), ("many", w1)]⟩ [("many", w1), ("depth", w0)]) : KBinds K fd ["many", "depth"] ["depth", "many"] (fun us ws => match us, ws with | [], [w0, w1] => [w1, w0] | _, _ => []) (fun us ws => match us, ws with | [], [w0, w1] => [w1, w0] | _, _ => []) := by
  refine ⟨fun s us ws _ hl => ?_, fun {vs us zs ws} r1 r2 => ?_⟩
  · rcases us with _ | ⟨u0, us⟩
    · rcases ws with _ | ⟨w0, ws⟩
      · exact nomatch hl
      · rcases ws with _ | ⟨w1, ws⟩
        · exact nomatch hl
        · rcases ws with _ | ⟨w2, ws⟩
          · exact hb s w0 w1
          · exact nomatch hl
    · exact nomatch hl
  · cases r1 with
    | nil =>
      · cases r2 with
        | nil =>
          exact .nil
        | cons q0 r2 =>
          · cases r2 with
            | nil =>
              exact .nil
            | cons q1 r2 =>
              · cases r2 with
                | nil =>
                  exact (.cons q1 (.cons q0 .nil))
                | cons q2 r2 =>
                  exact .nil
    | cons p0 r1 =>
      exact .nil
theorem kbl_kind_count__depth_many {K : PySem.W.Frag} {fd : FuncData} (hb : ∀ (s : Shared) (w0 w1 : Value), BindsTo s fd ⟨[], [("depth", w0), ("many", w1)]⟩ [("many", w1), ("depth", w0)]) : KBinds K fd ["many", "depth"] ["depth", "many"] (fun us ws => match us, ws with | [], [w0, w1] => [w1, w0] | _, _ => []) (fun us ws => match us, ws with | [], [w0, w1] => [w1, w0] | _, _ => []) := by
  refine ⟨fun s us ws _ hl => ?_, fun {vs us zs ws} r1 r2 => ?_⟩
  · rcases us with _ | ⟨u0, us⟩
    · rcases ws with _ | ⟨w0, ws⟩
      · exact nomatch hl
      · rcases ws with _ | ⟨w1, ws⟩
        · exact nomatch hl
        · rcases ws with _ | ⟨w2, ws⟩
          · exact hb s w0 w1
          · exact nomatch hl
    · exact nomatch hl
  · cases r1 with
    | nil =>
      · cases r2 with
        | nil =>
          exact .nil
        | cons q0 r2 =>
          · cases r2 with
            | nil =>
              exact .nil
            | cons q1 r2 =>
              · cases r2 with
                | nil =>
                  exact (.cons q1 (.cons q0 .nil))
                | cons q2 r2 =>
                  exact .nil
    | cons p0 r1 =>
      exact .nil
set_option maxHeartbeats 4000000 in
structure Tx (w : World) (K : PySem.W.Frag) (mg : Str → Option Value) where
  a__wall : Addr
  d__wall : FuncData
  g__wall : mg "_wall" = some (.ref a__wall)
  F__wall : Fun K "_wall" "_wall" s__wall a__wall d__wall
  b__wall : Binds K d__wall ["k"] []
  a_Kinds___init__ : Addr
  d_Kinds___init__ : FuncData
  F_Kinds___init__ : Fun K "__init__" "Kinds.__init__" s_Kinds___init__ a_Kinds___init__ d_Kinds___init__
  b_Kinds___init__ : Binds K d_Kinds___init__ ["self"] []
  a_Kinds_alike : Addr
  d_Kinds_alike : FuncData
  F_Kinds_alike : Fun K "alike" "Kinds.alike" s_Kinds_alike a_Kinds_alike d_Kinds_alike
  b_Kinds_alike : Binds K d_Kinds_alike ["self", "row", "other_row", "depth"] []
  a_Kinds_of_row : Addr
  d_Kinds_of_row : FuncData
  F_Kinds_of_row : Fun K "of_row" "Kinds.of_row" s_Kinds_of_row a_Kinds_of_row d_Kinds_of_row
  b_Kinds_of_row : Binds K d_Kinds_of_row ["self", "row", "depth"] []
  a_Kinds_places : Addr
  d_Kinds_places : FuncData
  F_Kinds_places : Fun K "places" "Kinds.places" s_Kinds_places a_Kinds_places d_Kinds_places
  b_Kinds_places : Binds K d_Kinds_places ["self", "row", "depth"] []
  a_Kinds_marks_of_places : Addr
  d_Kinds_marks_of_places : FuncData
  F_Kinds_marks_of_places : Fun K "marks_of_places" "Kinds.marks_of_places" s_Kinds_marks_of_places a_Kinds_marks_of_places d_Kinds_marks_of_places
  b_Kinds_marks_of_places : Binds K d_Kinds_marks_of_places ["self", "row", "depth"] []
  a_Kinds_empty : Addr
  d_Kinds_empty : FuncData
  F_Kinds_empty : Fun K "empty" "Kinds.empty" s_Kinds_empty a_Kinds_empty d_Kinds_empty
  b_Kinds_empty : Binds K d_Kinds_empty ["self", "depth"] []
  a_Kinds_numbered : Addr
  d_Kinds_numbered : FuncData
  F_Kinds_numbered : Fun K "numbered" "Kinds.numbered" s_Kinds_numbered a_Kinds_numbered d_Kinds_numbered
  b_Kinds_numbered : Binds K d_Kinds_numbered ["self", "depth", "marks"] []
  a_Kinds_lesser : Addr
  d_Kinds_lesser : FuncData
  F_Kinds_lesser : Fun K "lesser" "Kinds.lesser" s_Kinds_lesser a_Kinds_lesser d_Kinds_lesser
  b_Kinds_lesser : Binds K d_Kinds_lesser ["self", "kind"] []
  a_Kinds_added_behind : Addr
  d_Kinds_added_behind : FuncData
  F_Kinds_added_behind : Fun K "added_behind" "Kinds.added_behind" s_Kinds_added_behind a_Kinds_added_behind d_Kinds_added_behind
  b_Kinds_added_behind : Binds K d_Kinds_added_behind ["self", "kind", "letter"] []
  a_Kinds_added_ahead : Addr
  d_Kinds_added_ahead : FuncData
  F_Kinds_added_ahead : Fun K "added_ahead" "Kinds.added_ahead" s_Kinds_added_ahead a_Kinds_added_ahead d_Kinds_added_ahead
  b_Kinds_added_ahead : Binds K d_Kinds_added_ahead ["self", "letter", "kind"] []
  a_kind_count : Addr
  d_kind_count : FuncData
  g_kind_count : mg "kind_count" = some (.ref a_kind_count)
  F_kind_count : Fun K "kind_count" "kind_count" s_kind_count a_kind_count d_kind_count
  b_kind_count : Binds K d_kind_count ["many", "depth"] []
  a_least_rows : Addr
  d_least_rows : FuncData
  g_least_rows : mg "least_rows" = some (.ref a_least_rows)
  F_least_rows : Fun K "least_rows" "least_rows" s_least_rows a_least_rows d_least_rows
  b_least_rows : Binds K d_least_rows ["many", "depth"] []
  a_rows_by_kind : Addr
  d_rows_by_kind : FuncData
  g_rows_by_kind : mg "rows_by_kind" = some (.ref a_rows_by_kind)
  F_rows_by_kind : Fun K "rows_by_kind" "rows_by_kind" s_rows_by_kind a_rows_by_kind d_rows_by_kind
  b_rows_by_kind : Binds K d_rows_by_kind ["kinds", "many", "depth"] []
  a_letters_of : Addr
  d_letters_of : FuncData
  g_letters_of : mg "letters_of" = some (.ref a_letters_of)
  F_letters_of : Fun K "letters_of" "letters_of" s_letters_of a_letters_of d_letters_of
  b_letters_of : Binds K d_letters_of ["many"] []
  a_check_scope : Addr
  d_check_scope : FuncData
  g_check_scope : mg "check_scope" = some (.ref a_check_scope)
  F_check_scope : Fun K "check_scope" "check_scope" s_check_scope a_check_scope d_check_scope
  b_check_scope : Binds K d_check_scope ["many", "depth"] []
  a__law_pool : Addr
  d__law_pool : FuncData
  g__law_pool : mg "_law_pool" = some (.ref a__law_pool)
  F__law_pool : Fun K "_law_pool" "_law_pool" s__law_pool a__law_pool d__law_pool
  b__law_pool : Binds K d__law_pool ["script", "spot"] []
  a__law_draw : Addr
  d__law_draw : FuncData
  g__law_draw : mg "_law_draw" = some (.ref a__law_draw)
  F__law_draw : Fun K "_law_draw" "_law_draw" s__law_draw a__law_draw d__law_draw
  b__law_draw : Binds K d__law_draw ["pool", "span"] []
  a__law_kind : Addr
  d__law_kind : FuncData
  g__law_kind : mg "_law_kind" = some (.ref a__law_kind)
  F__law_kind : Fun K "_law_kind" "_law_kind" s__law_kind a__law_kind d__law_kind
  b__law_kind : Binds K d__law_kind ["line", "deep", "known"] []
  a__law_all_lines : Addr
  d__law_all_lines : FuncData
  g__law_all_lines : mg "_law_all_lines" = some (.ref a__law_all_lines)
  F__law_all_lines : Fun K "_law_all_lines" "_law_all_lines" s__law_all_lines a__law_all_lines d__law_all_lines
  b__law_all_lines : Binds K d__law_all_lines ["names", "longest"] []
  a__law_scope : Addr
  d__law_scope : FuncData
  g__law_scope : mg "_law_scope" = some (.ref a__law_scope)
  F__law_scope : Fun K "_law_scope" "_law_scope" s__law_scope a__law_scope d__law_scope
  b__law_scope : Binds K d__law_scope ["pool"] []
  a__law_firsts : Addr
  d__law_firsts : FuncData
  g__law_firsts : mg "_law_firsts" = some (.ref a__law_firsts)
  F__law_firsts : Fun K "_law_firsts" "_law_firsts" s__law_firsts a__law_firsts d__law_firsts
  b__law_firsts : Binds K d__law_firsts ["names", "deep", "longest"] []
  a__law_right : Addr
  d__law_right : FuncData
  g__law_right : mg "_law_right" = some (.ref a__law_right)
  F__law_right : Fun K "_law_right" "_law_right" s__law_right a__law_right d__law_right
  b__law_right : Binds K d__law_right ["pool"] []
  a_law : Addr
  d_law : FuncData
  g_law : mg "law" = some (.ref a_law)
  F_law : Fun K "law" "law" s_law a_law d_law
  b_law : Binds K d_law ["script"] []
  kb_least_rows__depth_many : KBinds K d_least_rows ["many", "depth"] ["depth", "many"] (fun us ws => match us, ws with | [], [w0, w1] => [w1, w0] | _, _ => []) (fun us ws => match us, ws with | [], [w0, w1] => [w1, w0] | _, _ => [])
  kb_kind_count__depth_many : KBinds K d_kind_count ["many", "depth"] ["depth", "many"] (fun us ws => match us, ws with | [], [w0, w1] => [w1, w0] | _, _ => []) (fun us ws => match us, ws with | [], [w0, w1] => [w1, w0] | _, _ => [])
  a_Kinds : Addr
  g_Kinds : mg "Kinds" = some (.ref a_Kinds)
  C_Kinds : Cls K a_Kinds
  M_Kinds : Mk K a_Kinds a_Kinds___init__
  m_Kinds_alike : Meth K a_Kinds "alike" a_Kinds_alike
  m_Kinds_of_row : Meth K a_Kinds "of_row" a_Kinds_of_row
  m_Kinds_places : Meth K a_Kinds "places" a_Kinds_places
  m_Kinds_marks_of_places : Meth K a_Kinds "marks_of_places" a_Kinds_marks_of_places
  m_Kinds_empty : Meth K a_Kinds "empty" a_Kinds_empty
  m_Kinds_numbered : Meth K a_Kinds "numbered" a_Kinds_numbered
  m_Kinds_lesser : Meth K a_Kinds "lesser" a_Kinds_lesser
  m_Kinds_added_behind : Meth K a_Kinds "added_behind" a_Kinds_added_behind
  m_Kinds_added_ahead : Meth K a_Kinds "added_ahead" a_Kinds_added_ahead
  n_Kinds_known_kinds : NoAttr K a_Kinds "known_kinds"
  n_Kinds_known_places : NoAttr K a_Kinds "known_places"
  n_Kinds_numbers : NoAttr K a_Kinds "numbers"
  n_Kinds_marks : NoAttr K a_Kinds "marks"
  n_Kinds_depths : NoAttr K a_Kinds "depths"
  n_Kinds_lesser_kinds : NoAttr K a_Kinds "lesser_kinds"
  n_Kinds_longer_behind : NoAttr K a_Kinds "longer_behind"
  n_Kinds_longer_ahead : NoAttr K a_Kinds "longer_ahead"
  b_abs : mg "abs" = none
  b_enumerate : mg "enumerate" = none
  b_int : mg "int" = none
  b_len : mg "len" = none
  b_list : mg "list" = none
  b_max : mg "max" = none
  b_min : mg "min" = none
  b_range : mg "range" = none
  b_repr : mg "repr" = none
  b_set : mg "set" = none
  b_sorted : mg "sorted" = none
  b_tuple : mg "tuple" = none
  v_LETTERS : Value
  g_LETTERS : mg "LETTERS" = some v_LETTERS
  r_LETTERS : RelV (.str "abcd") v_LETTERS
  a_DEPTHS : Addr
  g_DEPTHS : mg "DEPTHS" = some (.ref a_DEPTHS)
  ki_DEPTHS : KIntI K w a_DEPTHS (fun z => List.lookup z [((1 : Int), 4), ((2 : Int), 2), ((3 : Int), 1), ((4 : Int), 1)])
  bl : ∀ (s : Shared) (u : Value), BindsTo s d_law ⟨[u], []⟩ [("script", u)]
section
variable {P : Program} {w : World} {K : PySem.W.Frag} {mg : Str → Option Value} {base : Heap}
end
end Lw
end

section
set_option Elab.async false
set_option linter.all false
set_option maxRecDepth 100000
set_option maxHeartbeats 4000000
set_option pp.maxSteps 300
set_option pp.deepTerms false
namespace Lw
open PySem L2 Evl M
open PyProof.Rows hiding St
local macro_rules | `(tactic| walk_at "at") => `(tactic| first | assumption | exact upd_same)
local macro_rules | `(tactic| walk_at "sq") => `(tactic| first | assumption | exact SqL.of (by walk_at "at") | exact SqT.of (by walk_at "at"))
local macro_rules | `(tactic| walk_at "sd") => `(tactic| first | assumption | exact Names.size (by assumption) | omega | decide | exact Nat.le_of_ble_eq_true rfl | exact Or.inl ⟨by decide, by decide⟩ | exact wide_div (b := 200) (by first | assumption | decide) (by first | assumption | decide) (by decide) (by decide) | exact pow_w 10 (by decide) (by decide) (by decide) (by decide))
local macro_rules | `(tactic| walk_at "r1") => `(tactic| first
  | refine ⟨_, rfl, ?_⟩
  | refine ⟨_, _, rfl, rfl, ?_⟩
  | refine And.intro rfl ?_
  | refine ⟨_, _, _, _, rfl, rfl, (by walk_at "sq"), rfl, ?_⟩
  | refine ⟨_, _, _, _, rfl, rfl, (by walk_at "at"), rfl, ?_⟩
  | refine ⟨_, _, rfl, Or.inl (by walk_at "sq"), ?_⟩
  | refine ⟨_, _, rfl, Or.inr (by walk_at "sq"), ?_⟩
  | refine ⟨_, _, rfl, ?_⟩
  | refine Or.inl ⟨_, rfl, ?_⟩
  | refine And.intro (by walk_at "sd") ?_)
local macro_rules | `(tactic| walk_at "rd") => `(tactic| try (walk_at "r1"; walk_at "rd"))
section
variable {P : Program} {w : World} {K : PySem.W.Frag} {mg : Str → Option Value} {base : Heap}
theorem ok__law_draw (T : Tx w K mg) : FnOk P w K mg base CX0 1 T.a__law_draw T.d__law_draw ["pool", "span"] sp_draw := by
  refine T.F__law_draw.ok sc__law_draw (fun vs H Q E h => ?_) (fun cdv A outer s H vs Q E hr h => ?_)
  · obtain ⟨_, _, _, _, rfl, _⟩ := h
    rfl
  obtain ⟨H0, p, m, n, rfl, hP, hm, n0, nb, k⟩ := h
  obtain ⟨a, b, c, hp, a0, b0, b1, c0, c1⟩ := hP.at_
  refine ⟨_, (pss_cons (ps_if (pt_cmpR op_gt (pe_ix ix_list (pv 0) pe_int (fun _ _ => rfl)) pe_int (nomark _)) (pss_cons (ps_set (i := 2) sc__law_draw.nd rfl (Or.inl rfl) (pe_op op_mod (pe_callTy call_int1 (by rfl) T.b_int (by decide +kernel) (pa_cons (pe_ix ix_list (pv 0) pe_int (fun _ _ => rfl)) pa_nil)) (pv 1)))
   (pss_cons (ps_asg (pe_op op_fdivW (pe_ix ix_list (pv 0) pe_int (fun _ _ => rfl)) (pv 1)) (pg_sub (pv 0) pe_int set_list))
   (pss_one (ps_ret (pv 2))))) pss_nil)
   (pss_cons (ps_asg (pe_op op_add (pe_ix ix_list (pv 0) pe_int (fun _ _ => rfl)) pe_int) (pg_sub (pv 0) pe_int set_list))
   (pss_cons (ps_set (i := 3) sc__law_draw.nd rfl (Or.inl rfl) (pe_op op_mod (pe_callTy call_int1 (by rfl) T.b_int (by decide +kernel) (pa_cons (pe_op M.op_powW (pe_op op_add (pe_ix ix_list (pv 0) pe_int (fun _ _ => rfl)) (pe_op op_mul pe_int (pe_ix ix_list (pv 0) pe_int (fun _ _ => rfl)))) pe_int) pa_nil)) pe_int))
   (pss_cons (ps_set (i := 3) sc__law_draw.nd rfl (Or.inl rfl) (pe_op op_mod (pe_callTy call_int1 (by rfl) T.b_int (by decide +kernel) (pa_cons (pe_op M.op_powW (pe_op op_add (pv 3) (pe_op op_mul pe_int (pe_ix ix_list (pv 0) pe_int (fun _ _ => rfl)))) pe_int) pa_nil)) pe_int))
   (pss_one (ps_ret (pe_op op_mod (pe_callTy call_int1 (by rfl) T.b_int (by decide +kernel) (pa_cons (pe_op op_fdivW (pv 3) pe_int) pa_nil)) (pv 1)))))))), ?_⟩
  walk_at "rd"
  refine ite2 (fun q => ?_) (fun q => ?_)
  · walk_at "rd"
    have q1 : 0 < a := of_decide_eq_true q
    refine k _ _ (Int.emod_nonneg _ (by omega)) (Int.emod_lt_of_pos _ n0) ⟨hP.ex.mut hP.out, hP.out, a / n, b, c, ?_, Int.ediv_nonneg a0 (by omega), b0, b1, c0, by omega⟩ (fun b' h => upd_ne h)
    rw [upd_same]; rfl
  · walk_at "rd"
    refine ⟨pow_w 64 (by omega) (by decide) (by decide) (by decide), ?_⟩
    walk_at "rd"
    refine ⟨pow_w 128 ?_ (by decide) (by decide) (by decide), ?_⟩
    · have e := Int.emod_lt_of_pos ((b + 15485863 * (c + 1)) ^ Int.toNat 3) (show (0 : Int) < 162259276829213363391578010288127 by decide)
      have e0 := Int.emod_nonneg ((b + 15485863 * (c + 1)) ^ Int.toNat 3) (show (162259276829213363391578010288127 : Int) ≠ 0 by decide)
      generalize (b + 15485863 * (c + 1)) ^ Int.toNat 3 % 162259276829213363391578010288127 = x at e e0
      show (x + 32452843 * (c + 1)).natAbs < 2 ^ 128
      have : (2 : Nat) ^ 128 = 340282366920938463463374607431768211456 := by decide
      omega
    walk_at "rd"
    refine k _ _ (Int.emod_nonneg _ (by omega)) (Int.emod_lt_of_pos _ n0) ⟨hP.ex.mut hP.out, hP.out, a, b, c + 1, ?_, a0, b0, b1, by omega, by omega⟩ (fun b' h => upd_ne h)
    rw [upd_same]; rfl

end
end Lw
end

section
set_option Elab.async false
set_option linter.all false
set_option maxRecDepth 100000
set_option maxHeartbeats 4000000
set_option pp.maxSteps 300
set_option pp.deepTerms false
namespace Lw
open PySem L2 Evl M
open PyProof.Rows hiding St
local macro_rules | `(tactic| walk_at "at") => `(tactic| first | assumption | exact upd_same)
local macro_rules | `(tactic| walk_at "sq") => `(tactic| first | assumption | exact SqL.of (by walk_at "at") | exact SqT.of (by walk_at "at"))
local macro_rules | `(tactic| walk_at "sd") => `(tactic| first | assumption | exact Names.size (by assumption) | omega | decide | exact Nat.le_of_ble_eq_true rfl | exact Or.inl ⟨by decide, by decide⟩ | exact wide_div (b := 200) (by first | assumption | decide) (by first | assumption | decide) (by decide) (by decide) | exact pow_w 10 (by decide) (by decide) (by decide) (by decide))
local macro_rules | `(tactic| walk_at "r1") => `(tactic| first
  | refine ⟨_, rfl, ?_⟩
  | refine ⟨_, _, rfl, rfl, ?_⟩
  | refine And.intro rfl ?_
  | refine ⟨_, _, _, _, rfl, rfl, (by walk_at "sq"), rfl, ?_⟩
  | refine ⟨_, _, _, _, rfl, rfl, (by walk_at "at"), rfl, ?_⟩
  | refine ⟨_, _, rfl, Or.inl (by walk_at "sq"), ?_⟩
  | refine ⟨_, _, rfl, Or.inr (by walk_at "sq"), ?_⟩
  | refine ⟨_, _, rfl, ?_⟩
  | refine Or.inl ⟨_, rfl, ?_⟩
  | refine And.intro (by walk_at "sd") ?_)
local macro_rules | `(tactic| walk_at "rd") => `(tactic| try (walk_at "r1"; walk_at "rd"))
section
variable {P : Program} {w : World} {K : PySem.W.Frag} {mg : Str → Option Value} {base : Heap}
theorem ok__law_pool (T : Tx w K mg) : FnOk P w K mg base CX0 1 T.a__law_pool T.d__law_pool ["script", "spot"] (sp_pool K) := by
  refine T.F__law_pool.ok sc__law_pool (fun vs H Q E h => ?_) (fun cdv A outer s H vs Q E hr h => ?_)
  · obtain ⟨_, _, _, rfl, _⟩ := h
    rfl
  obtain ⟨a, ns, i, rfl, hS, i0, i1, k⟩ := h
  have fin : ∀ (c : Int) (p : Addr), H p = none → Pl H (upd H p (.lst [.int (if c.natAbs - 10 ^ 18 > (0 : Int) then c.natAbs - 10 ^ 18 else 0), .int (c % 2305843009213693951 + 7368787 * (i + 1)), .int 0])) p 0 := by
    intro c p hp
    have e := Int.emod_lt_of_pos c (show (0 : Int) < 2305843009213693951 by decide)
    have e0 := Int.emod_nonneg c (show (2305843009213693951 : Int) ≠ 0 by decide)
    refine ⟨Ex.new hp, hp, _, _, _, upd_same, ?_, by omega, ?_, by omega, by omega⟩
    · split <;> omega
    · have : (2 : Int) ^ 62 = 4611686018427387904 := by decide
      omega
  refine ⟨_, (pss_cons (ps_set (i := 2) sc__law_pool.nd rfl (Or.inl rfl) pe_int)
   (pss_cons (ps_if (pt_cmpR op_lt (pv 1) (pe_callB call_len_seq (by rfl) T.b_len (by decide +kernel) (pa_cons (pv 0) pa_nil)) (nomark _)) (pss_one (ps_set (i := 2) sc__law_pool.nd rfl (Or.inl rfl) (pe_ix ix_list (pv 0) (pv 1) (fun _ _ => rfl)))) pss_nil)
   (pss_one (ps_ret (pe_lst (pa_cons (pe_callB (call_max2 (by rfl)) (by rfl) T.b_max (by decide +kernel) (pa_cons pe_int (pa_cons (pe_op op_sub (pe_callB call_abs (by rfl) T.b_abs (by decide +kernel) (pa_cons (pv 2) pa_nil)) (pe_op M.op_powW pe_int pe_int)) pa_nil))) (pa_cons (pe_op op_add (pe_op op_mod (pe_callTy call_int1 (by rfl) T.b_int (by decide +kernel) (pa_cons (pv 2) pa_nil)) pe_int) (pe_op op_mul pe_int (pe_op op_add (pv 1) pe_int))) (pa_cons pe_int pa_nil)))))))), ?_⟩
  walk_at "rd"
  refine ite2 (fun q => ?_) (fun q => ?_)
  · have q1 : i < ns.length := by
      have q0 := of_decide_eq_true q
      rw [List.length_map] at q0
      exact q0
    obtain ⟨j, rfl⟩ : ∃ j : Nat, i = j := ⟨i.toNat, by omega⟩
    have q2 : j < ns.length := by omega
    walk_at "rd"
    refine ⟨_, _, _, V.int ns[j], rfl, rfl, hS, atI_nat (by simp [q2]), ?_⟩
    walk_at "rd"
    intro p hp
    refine k p _ ?_
    have e := fin ns[j] p hp
    have e2 : (if ns[j] < 0 then -ns[j] else ns[j]) = (ns[j].natAbs : Int) := by split <;> omega
    rw [← e2] at e
    exact e
  · walk_at "rd"
    exact fun p hp => k p _ (fin 0 p hp)

end
end Lw
end

section
set_option Elab.async false
set_option linter.all false
set_option maxRecDepth 100000
set_option maxHeartbeats 4000000
set_option pp.maxSteps 300
set_option pp.deepTerms false
namespace Lw
open PySem L2 Evl M
open PyProof.Rows hiding St
local macro_rules | `(tactic| walk_at "at") => `(tactic| first | assumption | exact upd_same)
local macro_rules | `(tactic| walk_at "sq") => `(tactic| first | assumption | exact SqL.of (by walk_at "at") | exact SqT.of (by walk_at "at"))
local macro_rules | `(tactic| walk_at "sd") => `(tactic| first | assumption | exact Names.size (by assumption) | omega | decide | exact Nat.le_of_ble_eq_true rfl | exact Or.inl ⟨by decide, by decide⟩ | exact wide_div (b := 200) (by first | assumption | decide) (by first | assumption | decide) (by decide) (by decide) | exact pow_w 10 (by decide) (by decide) (by decide) (by decide))
local macro_rules | `(tactic| walk_at "r1") => `(tactic| first
  | refine ⟨_, rfl, ?_⟩
  | refine ⟨_, _, rfl, rfl, ?_⟩
  | refine And.intro rfl ?_
  | refine ⟨_, _, _, _, rfl, rfl, (by walk_at "sq"), rfl, ?_⟩
  | refine ⟨_, _, _, _, rfl, rfl, (by walk_at "at"), rfl, ?_⟩
  | refine ⟨_, _, rfl, Or.inl (by walk_at "sq"), ?_⟩
  | refine ⟨_, _, rfl, Or.inr (by walk_at "sq"), ?_⟩
  | refine ⟨_, _, rfl, ?_⟩
  | refine Or.inl ⟨_, rfl, ?_⟩
  | refine And.intro (by walk_at "sd") ?_)
local macro_rules | `(tactic| walk_at "rd") => `(tactic| try (walk_at "r1"; walk_at "rd"))
section
variable {P : Program} {w : World} {K : PySem.W.Frag} {mg : Str → Option Value} {base : Heap}
theorem ok_Kinds___init__ (T : Tx w K mg) : FnOk P w K mg base CX0 1 T.a_Kinds___init__ T.d_Kinds___init__ ["self"] (sp_kinit P w T.a_Kinds) := by
  refine T.F_Kinds___init__.ok sc_Kinds___init__ (fun vs H Q E h => ?_) (fun cdv A outer s H vs Q E hr h => ?_)
  · obtain ⟨_, _, _, _, rfl, _⟩ := h
    rfl
  obtain ⟨x, dx, S, D, rfl, hx, hS, q⟩ := h
  refine ⟨_, (pss_cons (ps_fld (pv 0) M.pe_dnewH rfl)
   (pss_cons (ps_fld (pv 0) M.pe_dnewH rfl)
   (pss_cons (ps_fld (pv 0) M.pe_dnewH rfl)
   (pss_cons (ps_fld (pv 0) (pe_lst (pa_cons (pe_tup pa_nil) pa_nil)) rfl)
   (pss_cons (ps_fld (pv 0) (pe_lst (pa_cons pe_int pa_nil)) rfl)
   (pss_cons (ps_fld (pv 0) (pe_disp (pps_cons pe_int pe_int pps_nil) (by rfl) (by rfl) (fun z => by cases z) (by decide)) rfl)
   (pss_cons (ps_fld (pv 0) M.pe_dnewH rfl)
   (pss_one (ps_fld (pv 0) M.pe_dnewH rfl))))))))), ?_⟩
  have all0 : ∀ b o, b ≠ x → H b = some o → H b = some o := fun _ _ _ e => e
  intro a1 G1 n1 e1
  have e1 : G1 = upd H a1 (NdO P w a1 []) := e1
  have z1 : Ex H G1 := by rw [e1]; exact Ex.new n1
  have c1 : G1 a1 = some (NdO P w a1 []) := by rw [e1, upd_same]
  have nx1 : x ≠ a1 := ne_of_none hx n1
  have f1 : H a1 = none := by
    cases q : H a1 with
    | none => rfl
    | some o => exact nomatch (all0 _ _ (Ne.symm nx1) q).symm.trans n1
  have hy1 := z1 _ _ hx
  have all1 : ∀ b o, b ≠ x → H b = some o → _ := fun b o hb e => z1 _ _ (all0 b o hb e)
  walk_at "rd"
  refine ⟨x, T.a_Kinds, dx, [], rfl, hy1, T.C_Kinds, T.n_Kinds_known_kinds, by simp, ?_⟩
  have hw1 : upd G1 x (.ins T.a_Kinds dx (putF "known_kinds" (.ref a1) [])) x = some (.ins T.a_Kinds dx [("known_kinds", .ref a1)]) := upd_same
  have old1 : ∀ b o, b ≠ x → G1 b = some o → upd G1 x (.ins T.a_Kinds dx (putF "known_kinds" (.ref a1) [])) b = some o := fun b o hb e => by rw [upd_ne hb]; exact e
  generalize upd G1 x (.ins T.a_Kinds dx (putF "known_kinds" (.ref a1) [])) = G2 at *
  have c1 := old1 _ _ (Ne.symm nx1) c1
  have alw1 : ∀ b o, b ≠ x → H b = some o → G2 b = some o := fun b o hb e => old1 b o hb (all1 b o hb e)
  walk_at "rd"
  intro a2 G3 n2 e2
  have e2 : G3 = upd G2 a2 (NdO P w a2 []) := e2
  have z2 : Ex G2 G3 := by rw [e2]; exact Ex.new n2
  have c2 : G3 a2 = some (NdO P w a2 []) := by rw [e2, upd_same]
  have nx2 : x ≠ a2 := ne_of_none hw1 n2
  have m1_2 : a1 ≠ a2 := ne_of_none c1 n2
  have f2 : H a2 = none := by
    cases q : H a2 with
    | none => rfl
    | some o => exact nomatch (alw1 _ _ (Ne.symm nx2) q).symm.trans n2
  have c1 := z2 _ _ c1
  have hy2 := z2 _ _ hw1
  have all2 : ∀ b o, b ≠ x → H b = some o → _ := fun b o hb e => z2 _ _ (alw1 b o hb e)
  walk_at "rd"
  refine ⟨x, T.a_Kinds, dx, [("known_kinds", .ref a1)], rfl, hy2, T.C_Kinds, T.n_Kinds_known_places, by simp, ?_⟩
  have hw2 : upd G3 x (.ins T.a_Kinds dx (putF "known_places" (.ref a2) [("known_kinds", .ref a1)])) x = some (.ins T.a_Kinds dx [("known_kinds", .ref a1), ("known_places", .ref a2)]) := upd_same
  have old2 : ∀ b o, b ≠ x → G3 b = some o → upd G3 x (.ins T.a_Kinds dx (putF "known_places" (.ref a2) [("known_kinds", .ref a1)])) b = some o := fun b o hb e => by rw [upd_ne hb]; exact e
  generalize upd G3 x (.ins T.a_Kinds dx (putF "known_places" (.ref a2) [("known_kinds", .ref a1)])) = G4 at *
  have c1 := old2 _ _ (Ne.symm nx1) c1
  have c2 := old2 _ _ (Ne.symm nx2) c2
  have alw2 : ∀ b o, b ≠ x → H b = some o → G4 b = some o := fun b o hb e => old2 b o hb (all2 b o hb e)
  walk_at "rd"
  intro a3 G5 n3 e3
  have e3 : G5 = upd G4 a3 (NdO P w a3 []) := e3
  have z3 : Ex G4 G5 := by rw [e3]; exact Ex.new n3
  have c3 : G5 a3 = some (NdO P w a3 []) := by rw [e3, upd_same]
  have nx3 : x ≠ a3 := ne_of_none hw2 n3
  have m1_3 : a1 ≠ a3 := ne_of_none c1 n3
  have m2_3 : a2 ≠ a3 := ne_of_none c2 n3
  have f3 : H a3 = none := by
    cases q : H a3 with
    | none => rfl
    | some o => exact nomatch (alw2 _ _ (Ne.symm nx3) q).symm.trans n3
  have c1 := z3 _ _ c1
  have c2 := z3 _ _ c2
  have hy3 := z3 _ _ hw2
  have all3 : ∀ b o, b ≠ x → H b = some o → _ := fun b o hb e => z3 _ _ (alw2 b o hb e)
  walk_at "rd"
  refine ⟨x, T.a_Kinds, dx, [("known_kinds", .ref a1), ("known_places", .ref a2)], rfl, hy3, T.C_Kinds, T.n_Kinds_numbers, by simp, ?_⟩
  have hw3 : upd G5 x (.ins T.a_Kinds dx (putF "numbers" (.ref a3) [("known_kinds", .ref a1), ("known_places", .ref a2)])) x = some (.ins T.a_Kinds dx [("known_kinds", .ref a1), ("known_places", .ref a2), ("numbers", .ref a3)]) := upd_same
  have old3 : ∀ b o, b ≠ x → G5 b = some o → upd G5 x (.ins T.a_Kinds dx (putF "numbers" (.ref a3) [("known_kinds", .ref a1), ("known_places", .ref a2)])) b = some o := fun b o hb e => by rw [upd_ne hb]; exact e
  generalize upd G5 x (.ins T.a_Kinds dx (putF "numbers" (.ref a3) [("known_kinds", .ref a1), ("known_places", .ref a2)])) = G6 at *
  have c1 := old3 _ _ (Ne.symm nx1) c1
  have c2 := old3 _ _ (Ne.symm nx2) c2
  have c3 := old3 _ _ (Ne.symm nx3) c3
  have alw3 : ∀ b o, b ≠ x → H b = some o → G6 b = some o := fun b o hb e => old3 b o hb (all3 b o hb e)
  walk_at "rd"
  intro tt ntt
  have xt := Ex.new (o := .tup []) ntt
  have ct : upd G6 tt (.tup []) tt = some (.tup []) := upd_same
  have nxt : x ≠ tt := ne_of_none hw3 ntt
  have hxt := xt _ _ hw3
  have c1 := xt _ _ c1
  have c2 := xt _ _ c2
  have c3 := xt _ _ c3
  have allt : ∀ b o, b ≠ x → H b = some o → upd G6 tt (.tup []) b = some o := fun b o hb e => xt _ _ (alw3 b o hb e)
  generalize upd G6 tt (.tup []) = G7 at *
  walk_at "rd"
  intro a4 n4
  have z4 := Ex.new (o := .lst [.ref tt]) n4
  have c4 : upd G7 a4 (.lst [.ref tt]) a4 = some (.lst [.ref tt]) := upd_same
  have ct := z4 _ _ ct
  have nx4 : x ≠ a4 := ne_of_none hxt n4
  have m1_4 : a1 ≠ a4 := ne_of_none c1 n4
  have m2_4 : a2 ≠ a4 := ne_of_none c2 n4
  have m3_4 : a3 ≠ a4 := ne_of_none c3 n4
  have f4 : H a4 = none := by
    cases q : H a4 with
    | none => rfl
    | some o => exact nomatch (allt _ _ (Ne.symm nx4) q).symm.trans n4
  have c1 := z4 _ _ c1
  have c2 := z4 _ _ c2
  have c3 := z4 _ _ c3
  have hy4 := z4 _ _ hxt
  have all4 : ∀ b o, b ≠ x → H b = some o → _ := fun b o hb e => z4 _ _ (allt b o hb e)
  generalize upd G7 a4 (.lst [.ref tt]) = G8 at *
  walk_at "rd"
  refine ⟨x, T.a_Kinds, dx, [("known_kinds", .ref a1), ("known_places", .ref a2), ("numbers", .ref a3)], rfl, hy4, T.C_Kinds, T.n_Kinds_marks, by simp, ?_⟩
  have hw4 : upd G8 x (.ins T.a_Kinds dx (putF "marks" (.ref a4) [("known_kinds", .ref a1), ("known_places", .ref a2), ("numbers", .ref a3)])) x = some (.ins T.a_Kinds dx [("known_kinds", .ref a1), ("known_places", .ref a2), ("numbers", .ref a3), ("marks", .ref a4)]) := upd_same
  have old4 : ∀ b o, b ≠ x → G8 b = some o → upd G8 x (.ins T.a_Kinds dx (putF "marks" (.ref a4) [("known_kinds", .ref a1), ("known_places", .ref a2), ("numbers", .ref a3)])) b = some o := fun b o hb e => by rw [upd_ne hb]; exact e
  generalize upd G8 x (.ins T.a_Kinds dx (putF "marks" (.ref a4) [("known_kinds", .ref a1), ("known_places", .ref a2), ("numbers", .ref a3)])) = G9 at *
  have c1 := old4 _ _ (Ne.symm nx1) c1
  have c2 := old4 _ _ (Ne.symm nx2) c2
  have c3 := old4 _ _ (Ne.symm nx3) c3
  have c4 := old4 _ _ (Ne.symm nx4) c4
  have ct := old4 _ _ (Ne.symm nxt) ct
  have alw4 : ∀ b o, b ≠ x → H b = some o → G9 b = some o := fun b o hb e => old4 b o hb (all4 b o hb e)
  walk_at "rd"
  intro a5 n5
  have z5 := Ex.new (o := .lst [.int 0]) n5
  have c5 : upd G9 a5 (.lst [.int 0]) a5 = some (.lst [.int 0]) := upd_same
  have nx5 : x ≠ a5 := ne_of_none hw4 n5
  have m1_5 : a1 ≠ a5 := ne_of_none c1 n5
  have m2_5 : a2 ≠ a5 := ne_of_none c2 n5
  have m3_5 : a3 ≠ a5 := ne_of_none c3 n5
  have m4_5 : a4 ≠ a5 := ne_of_none c4 n5
  have f5 : H a5 = none := by
    cases q : H a5 with
    | none => rfl
    | some o => exact nomatch (alw4 _ _ (Ne.symm nx5) q).symm.trans n5
  have c1 := z5 _ _ c1
  have c2 := z5 _ _ c2
  have c3 := z5 _ _ c3
  have c4 := z5 _ _ c4
  have ct := z5 _ _ ct
  have hy5 := z5 _ _ hw4
  have all5 : ∀ b o, b ≠ x → H b = some o → _ := fun b o hb e => z5 _ _ (alw4 b o hb e)
  generalize upd G9 a5 (.lst [.int 0]) = G10 at *
  walk_at "rd"
  refine ⟨x, T.a_Kinds, dx, [("known_kinds", .ref a1), ("known_places", .ref a2), ("numbers", .ref a3), ("marks", .ref a4)], rfl, hy5, T.C_Kinds, T.n_Kinds_depths, by simp, ?_⟩
  have hw5 : upd G10 x (.ins T.a_Kinds dx (putF "depths" (.ref a5) [("known_kinds", .ref a1), ("known_places", .ref a2), ("numbers", .ref a3), ("marks", .ref a4)])) x = some (.ins T.a_Kinds dx [("known_kinds", .ref a1), ("known_places", .ref a2), ("numbers", .ref a3), ("marks", .ref a4), ("depths", .ref a5)]) := upd_same
  have old5 : ∀ b o, b ≠ x → G10 b = some o → upd G10 x (.ins T.a_Kinds dx (putF "depths" (.ref a5) [("known_kinds", .ref a1), ("known_places", .ref a2), ("numbers", .ref a3), ("marks", .ref a4)])) b = some o := fun b o hb e => by rw [upd_ne hb]; exact e
  generalize upd G10 x (.ins T.a_Kinds dx (putF "depths" (.ref a5) [("known_kinds", .ref a1), ("known_places", .ref a2), ("numbers", .ref a3), ("marks", .ref a4)])) = G11 at *
  have c1 := old5 _ _ (Ne.symm nx1) c1
  have c2 := old5 _ _ (Ne.symm nx2) c2
  have c3 := old5 _ _ (Ne.symm nx3) c3
  have c4 := old5 _ _ (Ne.symm nx4) c4
  have c5 := old5 _ _ (Ne.symm nx5) c5
  have ct := old5 _ _ (Ne.symm nxt) ct
  have alw5 : ∀ b o, b ≠ x → H b = some o → G11 b = some o := fun b o hb e => old5 b o hb (all5 b o hb e)
  walk_at "rd"
  intro a6 n6
  refine ⟨upd_same, [(Sum.inl 0, .int 0)], rfl, by decide, ?_⟩
  rw [upd_upd]
  have z6 := Ex.new (o := .dK (mergeK [] [(Sum.inl 0, .int 0)])) n6
  have c6 : upd G11 a6 (.dK (mergeK [] [(Sum.inl 0, .int 0)])) a6 = some (.dK [(Sum.inl 0, .int 0)]) := upd_same
  have nx6 : x ≠ a6 := ne_of_none hw5 n6
  have m1_6 : a1 ≠ a6 := ne_of_none c1 n6
  have m2_6 : a2 ≠ a6 := ne_of_none c2 n6
  have m3_6 : a3 ≠ a6 := ne_of_none c3 n6
  have m4_6 : a4 ≠ a6 := ne_of_none c4 n6
  have m5_6 : a5 ≠ a6 := ne_of_none c5 n6
  have f6 : H a6 = none := by
    cases q : H a6 with
    | none => rfl
    | some o => exact nomatch (alw5 _ _ (Ne.symm nx6) q).symm.trans n6
  have c1 := z6 _ _ c1
  have c2 := z6 _ _ c2
  have c3 := z6 _ _ c3
  have c4 := z6 _ _ c4
  have c5 := z6 _ _ c5
  have ct := z6 _ _ ct
  have hy6 := z6 _ _ hw5
  have all6 : ∀ b o, b ≠ x → H b = some o → _ := fun b o hb e => z6 _ _ (alw5 b o hb e)
  generalize upd G11 a6 (.dK (mergeK [] [(Sum.inl 0, .int 0)])) = G12 at *
  walk_at "rd"
  refine ⟨x, T.a_Kinds, dx, [("known_kinds", .ref a1), ("known_places", .ref a2), ("numbers", .ref a3), ("marks", .ref a4), ("depths", .ref a5)], rfl, hy6, T.C_Kinds, T.n_Kinds_lesser_kinds, by simp, ?_⟩
  have hw6 : upd G12 x (.ins T.a_Kinds dx (putF "lesser_kinds" (.ref a6) [("known_kinds", .ref a1), ("known_places", .ref a2), ("numbers", .ref a3), ("marks", .ref a4), ("depths", .ref a5)])) x = some (.ins T.a_Kinds dx [("known_kinds", .ref a1), ("known_places", .ref a2), ("numbers", .ref a3), ("marks", .ref a4), ("depths", .ref a5), ("lesser_kinds", .ref a6)]) := upd_same
  have old6 : ∀ b o, b ≠ x → G12 b = some o → upd G12 x (.ins T.a_Kinds dx (putF "lesser_kinds" (.ref a6) [("known_kinds", .ref a1), ("known_places", .ref a2), ("numbers", .ref a3), ("marks", .ref a4), ("depths", .ref a5)])) b = some o := fun b o hb e => by rw [upd_ne hb]; exact e
  generalize upd G12 x (.ins T.a_Kinds dx (putF "lesser_kinds" (.ref a6) [("known_kinds", .ref a1), ("known_places", .ref a2), ("numbers", .ref a3), ("marks", .ref a4), ("depths", .ref a5)])) = G13 at *
  have c1 := old6 _ _ (Ne.symm nx1) c1
  have c2 := old6 _ _ (Ne.symm nx2) c2
  have c3 := old6 _ _ (Ne.symm nx3) c3
  have c4 := old6 _ _ (Ne.symm nx4) c4
  have c5 := old6 _ _ (Ne.symm nx5) c5
  have c6 := old6 _ _ (Ne.symm nx6) c6
  have ct := old6 _ _ (Ne.symm nxt) ct
  have alw6 : ∀ b o, b ≠ x → H b = some o → G13 b = some o := fun b o hb e => old6 b o hb (all6 b o hb e)
  walk_at "rd"
  intro a7 G14 n7 e7
  have e7 : G14 = upd G13 a7 (NdO P w a7 []) := e7
  have z7 : Ex G13 G14 := by rw [e7]; exact Ex.new n7
  have c7 : G14 a7 = some (NdO P w a7 []) := by rw [e7, upd_same]
  have nx7 : x ≠ a7 := ne_of_none hw6 n7
  have m1_7 : a1 ≠ a7 := ne_of_none c1 n7
  have m2_7 : a2 ≠ a7 := ne_of_none c2 n7
  have m3_7 : a3 ≠ a7 := ne_of_none c3 n7
  have m4_7 : a4 ≠ a7 := ne_of_none c4 n7
  have m5_7 : a5 ≠ a7 := ne_of_none c5 n7
  have m6_7 : a6 ≠ a7 := ne_of_none c6 n7
  have f7 : H a7 = none := by
    cases q : H a7 with
    | none => rfl
    | some o => exact nomatch (alw6 _ _ (Ne.symm nx7) q).symm.trans n7
  have c1 := z7 _ _ c1
  have c2 := z7 _ _ c2
  have c3 := z7 _ _ c3
  have c4 := z7 _ _ c4
  have c5 := z7 _ _ c5
  have c6 := z7 _ _ c6
  have ct := z7 _ _ ct
  have hy7 := z7 _ _ hw6
  have all7 : ∀ b o, b ≠ x → H b = some o → _ := fun b o hb e => z7 _ _ (alw6 b o hb e)
  walk_at "rd"
  refine ⟨x, T.a_Kinds, dx, [("known_kinds", .ref a1), ("known_places", .ref a2), ("numbers", .ref a3), ("marks", .ref a4), ("depths", .ref a5), ("lesser_kinds", .ref a6)], rfl, hy7, T.C_Kinds, T.n_Kinds_longer_behind, by simp, ?_⟩
  have hw7 : upd G14 x (.ins T.a_Kinds dx (putF "longer_behind" (.ref a7) [("known_kinds", .ref a1), ("known_places", .ref a2), ("numbers", .ref a3), ("marks", .ref a4), ("depths", .ref a5), ("lesser_kinds", .ref a6)])) x = some (.ins T.a_Kinds dx [("known_kinds", .ref a1), ("known_places", .ref a2), ("numbers", .ref a3), ("marks", .ref a4), ("depths", .ref a5), ("lesser_kinds", .ref a6), ("longer_behind", .ref a7)]) := upd_same
  have old7 : ∀ b o, b ≠ x → G14 b = some o → upd G14 x (.ins T.a_Kinds dx (putF "longer_behind" (.ref a7) [("known_kinds", .ref a1), ("known_places", .ref a2), ("numbers", .ref a3), ("marks", .ref a4), ("depths", .ref a5), ("lesser_kinds", .ref a6)])) b = some o := fun b o hb e => by rw [upd_ne hb]; exact e
  generalize upd G14 x (.ins T.a_Kinds dx (putF "longer_behind" (.ref a7) [("known_kinds", .ref a1), ("known_places", .ref a2), ("numbers", .ref a3), ("marks", .ref a4), ("depths", .ref a5), ("lesser_kinds", .ref a6)])) = G15 at *
  have c1 := old7 _ _ (Ne.symm nx1) c1
  have c2 := old7 _ _ (Ne.symm nx2) c2
  have c3 := old7 _ _ (Ne.symm nx3) c3
  have c4 := old7 _ _ (Ne.symm nx4) c4
  have c5 := old7 _ _ (Ne.symm nx5) c5
  have c6 := old7 _ _ (Ne.symm nx6) c6
  have c7 := old7 _ _ (Ne.symm nx7) c7
  have ct := old7 _ _ (Ne.symm nxt) ct
  have alw7 : ∀ b o, b ≠ x → H b = some o → G15 b = some o := fun b o hb e => old7 b o hb (all7 b o hb e)
  walk_at "rd"
  intro a8 G16 n8 e8
  have e8 : G16 = upd G15 a8 (NdO P w a8 []) := e8
  have z8 : Ex G15 G16 := by rw [e8]; exact Ex.new n8
  have c8 : G16 a8 = some (NdO P w a8 []) := by rw [e8, upd_same]
  have nx8 : x ≠ a8 := ne_of_none hw7 n8
  have m1_8 : a1 ≠ a8 := ne_of_none c1 n8
  have m2_8 : a2 ≠ a8 := ne_of_none c2 n8
  have m3_8 : a3 ≠ a8 := ne_of_none c3 n8
  have m4_8 : a4 ≠ a8 := ne_of_none c4 n8
  have m5_8 : a5 ≠ a8 := ne_of_none c5 n8
  have m6_8 : a6 ≠ a8 := ne_of_none c6 n8
  have m7_8 : a7 ≠ a8 := ne_of_none c7 n8
  have f8 : H a8 = none := by
    cases q : H a8 with
    | none => rfl
    | some o => exact nomatch (alw7 _ _ (Ne.symm nx8) q).symm.trans n8
  have c1 := z8 _ _ c1
  have c2 := z8 _ _ c2
  have c3 := z8 _ _ c3
  have c4 := z8 _ _ c4
  have c5 := z8 _ _ c5
  have c6 := z8 _ _ c6
  have c7 := z8 _ _ c7
  have ct := z8 _ _ ct
  have hy8 := z8 _ _ hw7
  have all8 : ∀ b o, b ≠ x → H b = some o → _ := fun b o hb e => z8 _ _ (alw7 b o hb e)
  walk_at "rd"
  refine ⟨x, T.a_Kinds, dx, [("known_kinds", .ref a1), ("known_places", .ref a2), ("numbers", .ref a3), ("marks", .ref a4), ("depths", .ref a5), ("lesser_kinds", .ref a6), ("longer_behind", .ref a7)], rfl, hy8, T.C_Kinds, T.n_Kinds_longer_ahead, by simp, ?_⟩
  have hw8 : upd G16 x (.ins T.a_Kinds dx (putF "longer_ahead" (.ref a8) [("known_kinds", .ref a1), ("known_places", .ref a2), ("numbers", .ref a3), ("marks", .ref a4), ("depths", .ref a5), ("lesser_kinds", .ref a6), ("longer_behind", .ref a7)])) x = some (.ins T.a_Kinds dx [("known_kinds", .ref a1), ("known_places", .ref a2), ("numbers", .ref a3), ("marks", .ref a4), ("depths", .ref a5), ("lesser_kinds", .ref a6), ("longer_behind", .ref a7), ("longer_ahead", .ref a8)]) := upd_same
  have old8 : ∀ b o, b ≠ x → G16 b = some o → upd G16 x (.ins T.a_Kinds dx (putF "longer_ahead" (.ref a8) [("known_kinds", .ref a1), ("known_places", .ref a2), ("numbers", .ref a3), ("marks", .ref a4), ("depths", .ref a5), ("lesser_kinds", .ref a6), ("longer_behind", .ref a7)])) b = some o := fun b o hb e => by rw [upd_ne hb]; exact e
  generalize upd G16 x (.ins T.a_Kinds dx (putF "longer_ahead" (.ref a8) [("known_kinds", .ref a1), ("known_places", .ref a2), ("numbers", .ref a3), ("marks", .ref a4), ("depths", .ref a5), ("lesser_kinds", .ref a6), ("longer_behind", .ref a7)])) = G17 at *
  have c1 := old8 _ _ (Ne.symm nx1) c1
  have c2 := old8 _ _ (Ne.symm nx2) c2
  have c3 := old8 _ _ (Ne.symm nx3) c3
  have c4 := old8 _ _ (Ne.symm nx4) c4
  have c5 := old8 _ _ (Ne.symm nx5) c5
  have c6 := old8 _ _ (Ne.symm nx6) c6
  have c7 := old8 _ _ (Ne.symm nx7) c7
  have c8 := old8 _ _ (Ne.symm nx8) c8
  have ct := old8 _ _ (Ne.symm nxt) ct
  have alw8 : ∀ b o, b ≠ x → H b = some o → G17 b = some o := fun b o hb e => old8 b o hb (all8 b o hb e)
  refine q ⟨a1, a2, a3, a4, a5, a6, a7, a8⟩ G17 ⟨hS, tok0, ⟨dx, hw8⟩, ?_, (fun l hl => nomatch hl), ⟨[], ⟨c1, (fun x hx => nomatch hx)⟩, List.nodup_nil, (fun p hp => nomatch hp)⟩, ⟨[], ⟨c2, (fun x hx => nomatch hx)⟩, List.nodup_nil, (fun p hp => nomatch hp)⟩,
    ⟨[], ⟨c3, (fun x hx => nomatch hx)⟩, List.nodup_nil, (fun p hp => nomatch hp), fun n d ms e n0 => absurd e (by cases n with | zero => exact absurd rfl n0 | succ n => simp)⟩, ⟨[tt], c4, rfl, fun n m d xs e1 e2 => ?_⟩, c5, ⟨[(Sum.inl 0, .int 0)], c6, by simp, by simp, fun p hp => ?_⟩,
    ⟨[], ⟨c7, (fun x hx => nomatch hx)⟩, List.nodup_nil, (fun p hp => nomatch hp)⟩, ⟨[], ⟨c8, (fun x hx => nomatch hx)⟩, List.nodup_nil, (fun p hp => nomatch hp)⟩⟩ alw8 fun b hb => ?_
  · simp only [KA.all, List.nodup_cons, List.mem_cons, List.not_mem_nil, or_false, not_or, not_false_eq_true, List.nodup_nil, and_true]
    exact ⟨⟨m1_2, m1_3, m1_4, m1_5, m1_6, m1_7, m1_8⟩, ⟨m2_3, m2_4, m2_5, m2_6, m2_7, m2_8⟩, ⟨m3_4, m3_5, m3_6, m3_7, m3_8⟩, ⟨m4_5, m4_6, m4_7, m4_8⟩, ⟨m5_6, m5_7, m5_8⟩, ⟨m6_7, m6_8⟩, m7_8⟩
  · cases n with
    | zero =>
      cases e1
      cases e2
      exact .tup ct .nil
    | succ n => simp at e2
  · rw [List.mem_singleton.mp hp]
    exact ⟨0, 0, 0, rfl, rfl, [], rfl, rfl⟩
  · simp only [KA.all, List.mem_cons, List.not_mem_nil, or_false] at hb
    rcases hb with rfl | rfl | rfl | rfl | rfl | rfl | rfl | rfl
    · exact f1
    · exact f2
    · exact f3
    · exact f4
    · exact f5
    · exact f6
    · exact f7
    · exact f8

end
end Lw
end

section
set_option Elab.async false
set_option linter.all false
set_option maxRecDepth 100000
set_option maxHeartbeats 4000000
set_option pp.maxSteps 300
set_option pp.deepTerms false
namespace Lw
open PySem L2 Evl M
open PyProof.Rows hiding St
local macro_rules | `(tactic| walk_at "at") => `(tactic| first | assumption | exact upd_same)
local macro_rules | `(tactic| walk_at "sq") => `(tactic| first | assumption | exact SqL.of (by walk_at "at") | exact SqT.of (by walk_at "at"))
local macro_rules | `(tactic| walk_at "sd") => `(tactic| first | assumption | exact Names.size (by assumption) | omega | decide | exact Nat.le_of_ble_eq_true rfl | exact Or.inl ⟨by decide, by decide⟩ | exact wide_div (b := 200) (by first | assumption | decide) (by first | assumption | decide) (by decide) (by decide) | exact pow_w 10 (by decide) (by decide) (by decide) (by decide))
local macro_rules | `(tactic| walk_at "r1") => `(tactic| first
  | refine ⟨_, rfl, ?_⟩
  | refine ⟨_, _, rfl, rfl, ?_⟩
  | refine And.intro rfl ?_
  | refine ⟨_, _, _, _, rfl, rfl, (by walk_at "sq"), rfl, ?_⟩
  | refine ⟨_, _, _, _, rfl, rfl, (by walk_at "at"), rfl, ?_⟩
  | refine ⟨_, _, rfl, Or.inl (by walk_at "sq"), ?_⟩
  | refine ⟨_, _, rfl, Or.inr (by walk_at "sq"), ?_⟩
  | refine ⟨_, _, rfl, ?_⟩
  | refine Or.inl ⟨_, rfl, ?_⟩
  | refine And.intro (by walk_at "sd") ?_)
local macro_rules | `(tactic| walk_at "rd") => `(tactic| try (walk_at "r1"; walk_at "rd"))
section
variable {P : Program} {w : World} {K : PySem.W.Frag} {mg : Str → Option Value} {base : Heap}
theorem ok_Kinds_numbered (T : Tx w K mg) : FnOk P w K mg base CX0 1 T.a_Kinds_numbered T.d_Kinds_numbered ["self", "depth", "marks"] (sp_numbered P w T.a_Kinds) := by
  refine T.F_Kinds_numbered.ok sc_Kinds_numbered (fun vs H Q E h => ?_) (fun cdv A outer s H vs Q E hr h => ?_)
  · obtain ⟨_, _, _, _, _, _, rfl, _⟩ := h
    rfl
  obtain ⟨k, Ls, t, d, m, ms, rfl, hK, hm, hc, hd, q⟩ := h
  refine ⟨_, (pss_cons (ps_if (pt_cmpR op_eq (pv 1) pe_int (nomark _)) (pss_one (ps_ret pe_int)) pss_nil)
   (pss_cons (ps_set (i := 3) sc_Kinds_numbered.nd rfl (Or.inl rfl) (pe_tup (pa_cons (pv 1) (pa_cons (pv 2) pa_nil))))
   (pss_cons (ps_if (pt_cmpR (M.op_notInN hr.units) (pv 3) (pe_fld (pv 0) rfl) (by rfl)) (pss_cons (M.ps_nputH hr.units (pe_fld (pv 0) rfl) (pv 3) (pe_callB call_len_seq (by rfl) T.b_len (by decide +kernel) (pa_cons (pe_fld (pv 0) rfl) pa_nil)) rfl)
   (pss_cons (ps_expr (pe_bm PySem.F.plainAttrs_list PySem.F.slot_list_append PySem.F.type_list_append mt_append (pe_fld (pv 0) rfl) (pa_cons (pv 2) pa_nil)))
   (pss_one (ps_expr (pe_bm PySem.F.plainAttrs_list PySem.F.slot_list_append PySem.F.type_list_append mt_append (pe_fld (pv 0) rfl) (pa_cons (pv 1) pa_nil)))))) pss_nil)
   (pss_one (ps_ret (pe_ix (M.ix_dictN hr.units) (pe_fld (pv 0) rfl) (pv 3) (fun _ _ => rfl))))))), ?_⟩
  walk_at "rd"
  refine iteI (fun e0 => ?_) (fun e0 => ?_)
  · exact q 0 t Ls H hK .refl ⟨fun _ => rfl, fun e he => by omega⟩
  walk_at "rd"
  intro tk ntk
  have x1 := Ex.new (o := .tup [.int (d : Nat), .ref m]) ntk
  have hK1 := hK.ex x1
  have hm1 := hm.up (Tk.of x1)
  have hkey : NK (upd H tk (.tup [.int (d : Nat), .ref m])) (.ref tk) (keyN d ms) := .tup upd_same (.cons (.int _) (.cons hm1 .nil))
  generalize upd H tk (.tup [.int (d : Nat), .ref m]) = H1 at *
  obtain ⟨dx, hins⟩ := hK1.ins
  obtain ⟨e3, g1, g2, g3, g4, g5, g6⟩ := hK1.get3
  obtain ⟨d, rfl⟩ : ∃ e, d = e + 1 := ⟨d - 1, by omega⟩
  walk_at "rd"
  refine ⟨k.x, T.a_Kinds, dx, _, _, rfl, hins, T.C_Kinds, T.n_Kinds_numbers, rfl, ?_⟩
  refine ⟨tk, k.A.a3, keyN (d + 1) ms, e3, rfl, rfl, hkey, keyN_depth _ _, g1, ?_⟩
  walk_at "rd"
  cases hkat : kat e3 (keyN (d + 1) ms) with
  | some v =>
    refine iteF ?_
    walk_at "rd"
    refine ⟨k.x, T.a_Kinds, dx, _, _, rfl, hins, T.C_Kinds, T.n_Kinds_numbers, rfl, ?_⟩
    walk_at "rd"
    refine ⟨tk, k.A.a3, keyN (d + 1) ms, e3, v, rfl, rfl, hkey, keyN_depth _ _, g1, hkat, ?_⟩
    obtain ⟨n, rfl, hn⟩ := g6 _ _ _ hkat
    exact q n t Ls _ hK1 (Stp.ex x1) ⟨fun z => by omega, fun e he => by rw [hn]⟩
  | none =>
    refine iteT ?_
    obtain ⟨mm, f1, f2, f3⟩ := hK1.k4
    have f5 := hK1.k5
    have nd := hK1.nd
    have hsz := hK1.size
    have n34 : k.A.a3 ≠ k.A.a4 := KA.ap nd 2 3
    have n35 : k.A.a3 ≠ k.A.a5 := KA.ap nd 2 4
    have n45 : k.A.a4 ≠ k.A.a5 := KA.ap nd 3 4
    have o3 : k.x ≠ k.A.a3 := fun z => hK1.out (by rw [z]; simp [KA.all])
    have o4 : k.x ≠ k.A.a4 := fun z => hK1.out (by rw [z]; simp [KA.all])
    have o5 : k.x ≠ k.A.a5 := fun z => hK1.out (by rw [z]; simp [KA.all])
    have hlen : (mm.map V.ref).length = t.length := by rw [List.length_map, f2]
    walk_at "rd"
    refine ⟨k.x, T.a_Kinds, dx, _, _, rfl, hins, T.C_Kinds, T.n_Kinds_marks, rfl, ?_⟩
    refine ⟨k.A.a4, _, rfl, .inl (SqL.of f1), ?_⟩
    walk_at "rd"
    refine ⟨k.x, T.a_Kinds, dx, _, _, rfl, hins, T.C_Kinds, T.n_Kinds_numbers, rfl, ?_⟩
    walk_at "rd"
    rw [hlen]
    refine ⟨tk, k.A.a3, keyN (d + 1) ms, e3, rfl, rfl, hkey, keyN_depth _ _, g1, g4, fun H2 eH2 => ?_⟩
    have eH2 : H2 = upd H1 k.A.a3 (NdO P w k.A.a3 (putE e3 (keyN (d + 1) ms) tk (.int (t.length : Nat)))) := eH2
    have hnd := g1.putG (v := .int (t.length : Nat)) hkey (keyN_depth _ _)
    rw [← eH2] at hnd
    have at2 : ∀ b o, b ≠ k.A.a3 → H1 b = some o → H2 b = some o := fun b o hb e => by rw [eH2, upd_ne hb]; exact e
    have tk2 : Tk H1 H2 := by rw [eH2]; exact (hK1.keeps (by simp [KA.all])).1
    have hkey2 := hkey.up tk2
    have hm2 := hm1.up tk2
    walk_at "rd"
    refine ⟨k.x, T.a_Kinds, dx, _, _, rfl, at2 _ _ o3 hins, T.C_Kinds, T.n_Kinds_marks, rfl, ?_⟩
    refine ⟨.inl ⟨rfl, _, SqL.of (at2 _ _ (Ne.symm n34) f1)⟩, _, rfl, k.A.a4, _, _, rfl, rfl, at2 _ _ (Ne.symm n34) f1, by rw [hlen, sizeLine_eq]; omega, ?_⟩
    have at3 : ∀ b o, b ≠ k.A.a4 → H2 b = some o → upd H2 k.A.a4 (.lst (mm.map V.ref ++ [.ref m])) b = some o := fun b o hb e => by rw [upd_ne hb]; exact e
    have s3 : upd H2 k.A.a4 (.lst (mm.map V.ref ++ [.ref m])) k.A.a4 = some (.lst (mm.map V.ref ++ [.ref m])) := upd_same
    have tk3 : Tk H2 (upd H2 k.A.a4 (.lst (mm.map V.ref ++ [.ref m]))) := fun b ys e => at3 _ _ (fun z => by rw [z, at2 _ _ (Ne.symm n34) f1] at e; exact nomatch e) e
    generalize upd H2 k.A.a4 (.lst (mm.map V.ref ++ [.ref m])) = H3 at *
    have e5 : H3 k.A.a5 = some (.lst (depsV t)) := at3 _ _ (Ne.symm n45) (at2 _ _ (Ne.symm n35) f5)
    walk_at "rd"
    refine ⟨k.x, T.a_Kinds, dx, _, _, rfl, at3 _ _ o4 (at2 _ _ o3 hins), T.C_Kinds, T.n_Kinds_depths, rfl, ?_⟩
    refine ⟨.inl ⟨rfl, _, SqL.of e5⟩, _, rfl, k.A.a5, _, _, rfl, rfl, e5, by unfold depsV; rw [List.length_map, sizeLine_eq]; omega, ?_⟩
    have at4 : ∀ b o, b ≠ k.A.a5 → H3 b = some o → upd H3 k.A.a5 (.lst (depsV t ++ [.int ((d + 1 : Nat) : Int)])) b = some o := fun b o hb e => by rw [upd_ne hb]; exact e
    have s4 : upd H3 k.A.a5 (.lst (depsV t ++ [.int ((d + 1 : Nat) : Int)])) k.A.a5 = some (.lst (depsV t ++ [.int ((d + 1 : Nat) : Int)])) := upd_same
    have tk4 : Tk H3 (upd H3 k.A.a5 (.lst (depsV t ++ [.int ((d + 1 : Nat) : Int)]))) := fun b ys e => at4 _ _ (fun z => by rw [z, e5] at e; exact nomatch e) e
    generalize upd H3 k.A.a5 (.lst (depsV t ++ [.int ((d + 1 : Nat) : Int)])) = H4 at *
    have all : ∀ b o, b ≠ k.A.a3 → b ≠ k.A.a4 → b ≠ k.A.a5 → H1 b = some o → H4 b = some o := fun b o h3 h4 h5 e => at4 _ _ h5 (at3 _ _ h4 (at2 _ _ h3 e))
    have g := Grows.app t [(d + 1, ms)]
    have tnew : (t ++ [(d + 1, ms)])[t.length]? = some (d + 1, ms) := by simp
    obtain ⟨hdD, r, hr, hfit⟩ := hd d rfl
    have new : ∀ n : Nat, t[n]? ≠ some (d + 1, ms) := fun n e => by
      have n0 : n ≠ 0 := fun z => by
        rw [z, hK.tok.zero] at e
        cases e
      exact kat_none hkat (g5 _ _ _ e n0)
    have t0 : t.length ≠ 0 := fun z => by
      have := hK.tok.zero
      rw [List.length_eq_zero_iff.mp z] at this
      cases this
    have split : ∀ {n : Nat} {y : Nat × List Mark}, (t ++ [(d + 1, ms)])[n]? = some y → t[n]? = some y ∨ (n = t.length ∧ y = (d + 1, ms)) := fun {n y} e => by
      by_cases hn : n < t.length
      · rw [List.getElem?_append_left hn] at e; exact .inl e
      · rw [List.getElem?_append_right (by omega)] at e
        have q2 : n - t.length < 1 := by simpa using (List.getElem?_eq_some_iff.mp e).1
        obtain rfl : n = t.length := by omega
        rw [Nat.sub_self] at e
        exact .inr ⟨rfl, (Option.some.inj e).symm⟩
    have hnd4 : ND P w H4 k.A.a3 (putE e3 (keyN (d + 1) ms) tk (.int (t.length : Nat))) := hnd.keep (tk3.trans tk4) (at4 _ _ n35 (at3 _ _ n34 hnd.at_))
    have hK4 : KS P w T.a_Kinds k Ls H4 (t ++ [(d + 1, ms)]) := by
      refine hK1.grow all g (hK.tok.add hc new hdD hr hfit) ⟨_, hnd4, g2.putG, fun p hp => ?_, fun n d' ms' e n0 => ?_⟩ ⟨mm ++ [m], ?_, by simp [f2], fun n m' d' xs e1 e2 => ?_⟩ ?_
      · rcases mem_putE hp with ⟨hp, _⟩ | ⟨q1, q2, _⟩
        · obtain ⟨d', ms', n, h1, h2, h3, h4⟩ := g3 p hp
          exact ⟨d', ms', n, h1, h2, g _ _ h3, h4⟩
        · exact ⟨d + 1, ms, t.length, q1, q2, tnew, t0⟩
      · rw [putE_keys]
        rcases split e with e | ⟨rfl, e'⟩
        · split
          · exact g5 _ _ _ e n0
          · exact List.mem_append.mpr (.inl (g5 _ _ _ e n0))
        · injection e' with h1 h2
          subst h1; subst h2
          split
          · rename_i hh; exact kat_isSome.mp hh
          · simp
      · rw [List.map_append]; exact at4 _ _ n45 s3
      · rcases split e2 with e | ⟨rfl, e'⟩
        · have hn : n < mm.length := by rw [f2]; exact (List.getElem?_eq_some_iff.mp e).1
          rw [List.getElem?_append_left hn] at e1
          exact (((f3 n m' d' xs e1 e).up tk2).up tk3).up tk4
        · injection e' with h1 h2
          subst h1; subst h2
          rw [List.getElem?_append_right (by omega), f2, Nat.sub_self] at e1
          obtain rfl : m = m' := Option.some.inj e1
          exact (hm2.up tk3).up tk4
      · unfold K5
        rw [s4]
        unfold depsV
        rw [List.map_append]
        rfl
    walk_at "rd"
    refine ⟨k.x, T.a_Kinds, dx, _, _, rfl, all _ _ o3 o4 o5 hins, T.C_Kinds, T.n_Kinds_numbers, rfl, ?_⟩
    walk_at "rd"
    refine ⟨tk, k.A.a3, keyN (d + 1) ms, _, _, rfl, rfl, (hkey2.up tk3).up tk4, keyN_depth _ _, hnd4, kat_putE, ?_⟩
    refine q t.length _ Ls H4 hK4 ⟨g, fun b o hb e => all _ _ (fun z => hb (by rw [z]; simp [KA.all])) (fun z => hb (by rw [z]; simp [KA.all])) (fun z => hb (by rw [z]; simp [KA.all])) (x1 _ _ e), fun l hl => .inl hl⟩ ⟨fun z => by omega, fun e he => tnew⟩

end
end Lw
end

section
set_option Elab.async false
set_option linter.all false
set_option maxRecDepth 100000
set_option maxHeartbeats 4000000
set_option pp.maxSteps 300
set_option pp.deepTerms false
namespace Lw
open PySem L2 Evl M
open PyProof.Rows hiding St
local macro_rules | `(tactic| walk_at "at") => `(tactic| first | assumption | exact upd_same)
local macro_rules | `(tactic| walk_at "sq") => `(tactic| first | assumption | exact SqL.of (by walk_at "at") | exact SqT.of (by walk_at "at"))
local macro_rules | `(tactic| walk_at "sd") => `(tactic| first | assumption | exact Names.size (by assumption) | omega | decide | exact Nat.le_of_ble_eq_true rfl | exact Or.inl ⟨by decide, by decide⟩ | exact wide_div (b := 200) (by first | assumption | decide) (by first | assumption | decide) (by decide) (by decide) | exact pow_w 10 (by decide) (by decide) (by decide) (by decide))
local macro_rules | `(tactic| walk_at "r1") => `(tactic| first
  | refine ⟨_, rfl, ?_⟩
  | refine ⟨_, _, rfl, rfl, ?_⟩
  | refine And.intro rfl ?_
  | refine ⟨_, _, _, _, rfl, rfl, (by walk_at "sq"), rfl, ?_⟩
  | refine ⟨_, _, _, _, rfl, rfl, (by walk_at "at"), rfl, ?_⟩
  | refine ⟨_, _, rfl, Or.inl (by walk_at "sq"), ?_⟩
  | refine ⟨_, _, rfl, Or.inr (by walk_at "sq"), ?_⟩
  | refine ⟨_, _, rfl, ?_⟩
  | refine Or.inl ⟨_, rfl, ?_⟩
  | refine And.intro (by walk_at "sd") ?_)
local macro_rules | `(tactic| walk_at "rd") => `(tactic| try (walk_at "r1"; walk_at "rd"))
section
variable {P : Program} {w : World} {K : PySem.W.Frag} {mg : Str → Option Value} {base : Heap}
theorem ok_Kinds_empty (T : Tx w K mg) (G_Kinds_numbered : FnOk P w K mg base CX0 1 T.a_Kinds_numbered T.d_Kinds_numbered ["self", "depth", "marks"] (sp_numbered P w T.a_Kinds)) :
    FnOk P w K mg base CX0 2 T.a_Kinds_empty T.d_Kinds_empty ["self", "depth"] (sp_empty P w T.a_Kinds) := by
  refine T.F_Kinds_empty.ok sc_Kinds_empty (fun vs H Q E h => ?_) (fun cdv A outer s H vs Q E hr h => ?_)
  · obtain ⟨_, _, _, _, rfl, _⟩ := h
    rfl
  obtain ⟨k, Ls, t, d, rfl, hK, hd, q⟩ := h
  refine ⟨_, (pss_one (ps_ret (pe_meth (pv 0) T.C_Kinds T.m_Kinds_numbered G_Kinds_numbered (hr.mono (by omega)) T.b_Kinds_numbered .nil pass0 (pa_cons (pv 1) (pa_cons (pe_tup pa_nil) pa_nil))))), ?_⟩
  walk_at "rd"
  obtain ⟨dx, hins⟩ := hK.ins
  refine ⟨k.x, dx, _, rfl, hins, rfl, ?_⟩
  walk_at "rd"
  intro m hm
  have x1 := Ex.new (o := .tup []) hm
  refine ⟨k, Ls, t, d, m, [], rfl, hK.ex x1, .tup upd_same .nil, ⟨(fun m h => nomatch h), .nil⟩, fun e he => ⟨hd, [], hK.sub.emp, fun i c e => by simp at e, fun a c b h => nomatch h⟩, fun n t' Ls' H' hK' st r => ?_⟩
  refine q n t' Ls' H' hK' (Stp.trans (hK.ex x1) (Stp.ex x1) st) ?_
  cases d with
  | zero => exact r.1 rfl
  | succ d => exact rep_empty (r.2 d rfl)

end
end Lw
end

section
set_option Elab.async false
set_option linter.all false
set_option maxRecDepth 100000
set_option maxHeartbeats 4000000
set_option pp.maxSteps 300
set_option pp.deepTerms false
namespace Lw
open PySem L2 Evl M
open PyProof.Rows hiding St
local macro_rules | `(tactic| walk_at "at") => `(tactic| first | assumption | exact upd_same)
local macro_rules | `(tactic| walk_at "sq") => `(tactic| first | assumption | exact SqL.of (by walk_at "at") | exact SqT.of (by walk_at "at"))
local macro_rules | `(tactic| walk_at "sd") => `(tactic| first | assumption | exact Names.size (by assumption) | omega | decide | exact Nat.le_of_ble_eq_true rfl | exact Or.inl ⟨by decide, by decide⟩ | exact wide_div (b := 200) (by first | assumption | decide) (by first | assumption | decide) (by decide) (by decide) | exact pow_w 10 (by decide) (by decide) (by decide) (by decide))
local macro_rules | `(tactic| walk_at "r1") => `(tactic| first
  | refine ⟨_, rfl, ?_⟩
  | refine ⟨_, _, rfl, rfl, ?_⟩
  | refine And.intro rfl ?_
  | refine ⟨_, _, _, _, rfl, rfl, (by walk_at "sq"), rfl, ?_⟩
  | refine ⟨_, _, _, _, rfl, rfl, (by walk_at "at"), rfl, ?_⟩
  | refine ⟨_, _, rfl, Or.inl (by walk_at "sq"), ?_⟩
  | refine ⟨_, _, rfl, Or.inr (by walk_at "sq"), ?_⟩
  | refine ⟨_, _, rfl, ?_⟩
  | refine Or.inl ⟨_, rfl, ?_⟩
  | refine And.intro (by walk_at "sd") ?_)
local macro_rules | `(tactic| walk_at "rd") => `(tactic| try (walk_at "r1"; walk_at "rd"))
section
variable {P : Program} {w : World} {K : PySem.W.Frag} {mg : Str → Option Value} {base : Heap}
theorem ok_Kinds_lesser (T : Tx w K mg) (G_Kinds_numbered : FnOk P w K mg base CX0 1 T.a_Kinds_numbered T.d_Kinds_numbered ["self", "depth", "marks"] (sp_numbered P w T.a_Kinds)) : ∀ f : Nat,
    FnOk P w K mg base CX0 (f + 2) T.a_Kinds_lesser T.d_Kinds_lesser ["self", "kind"] (sp_lesser P w T.a_Kinds f) := by
  intro f
  induction f with
  | zero => exact fn_void fun vs H Q E ⟨_, _, _, _, _, _, _, _, h, _⟩ => by omega
  | succ f ih =>
  have G_Kinds_lesser := ih
  refine T.F_Kinds_lesser.ok sc_Kinds_lesser (fun vs H Q E h => ?_) (fun cdv A outer s H vs Q E hr h => ?_)
  · obtain ⟨_, _, _, _, _, _, rfl, _⟩ := h
    rfl
  obtain ⟨k, Ls, t, n, d, r, rfl, hK, hf, hr0, hrS, q⟩ := h
  have hu := hu_of hr
  refine ⟨_, (pss_cons (ps_if (pt_cmp (pc_dnotin hu (pv 1) (pe_fld (pv 0) rfl))) (pss_cons (ps_set (i := 2) sc_Kinds_lesser.nd rfl (Or.inl rfl) (pe_op op_sub (pe_ix ix_list (pe_fld (pv 0) rfl) (pv 1) (fun _ _ => rfl)) pe_int))
   (pss_cons (ps_set (i := 3) sc_Kinds_lesser.nd rfl (Or.inl rfl) (pe_ix ix_list (pe_fld (pv 0) rfl) (pv 1) (fun _ _ => rfl)))
   (pss_cons (ps_set (i := 4) sc_Kinds_lesser.nd rfl (Or.inl rfl) (pe_callTy0 M.cr_snew (by rfl) T.b_set (by decide +kernel)))
   (pss_cons (ps_for PassesOwn.never (by rfl) (pi_tup (pv 3)) (pg_tup (by rfl) (pgs_cons (pg_name (i := 5) sc_Kinds_lesser.nd rfl (Or.inl rfl)) (pgs_cons (pg_name (i := 6) sc_Kinds_lesser.nd rfl (Or.inl rfl)) (pgs_cons (pg_name (i := 7) sc_Kinds_lesser.nd rfl (Or.inl rfl)) pgs_nil)))) (pss_one (ps_expr (M.pe_sadd hr.units (pv 4) (pa_cons (pe_tup (pa_cons (pe_meth (pv 0) T.C_Kinds T.m_Kinds_lesser G_Kinds_lesser (hr.mono (by omega)) T.b_Kinds_lesser .nil pass0 (pa_cons (pv 5) pa_nil)) (pa_cons (pv 6) (pa_cons (pe_meth (pv 0) T.C_Kinds T.m_Kinds_lesser G_Kinds_lesser (hr.mono (by omega)) T.b_Kinds_lesser .nil pass0 (pa_cons (pv 7) pa_nil)) pa_nil)))) pa_nil)))))
   (pss_one (ps_dput hu (pe_fld (pv 0) rfl) (pv 1) (pe_meth (pv 0) T.C_Kinds T.m_Kinds_numbered G_Kinds_numbered (hr.mono (by omega)) T.b_Kinds_numbered .nil pass0 (pa_cons (pv 2) (pa_cons (pe_callTy call_tuple_of (by rfl) T.b_tuple (by decide +kernel) (pa_cons (pe_callB (M.cr_ssort (by rfl)) (by rfl) T.b_sorted (by decide +kernel) (pa_cons (pv 4) pa_nil)) pa_nil)) pa_nil))) rfl)))))) pss_nil)
   (pss_one (ps_ret (pe_dget hu (pe_fld (pv 0) rfl) (pv 1) (fun _ _ => rfl))))), ?_⟩
  obtain ⟨dx, hins⟩ := hK.ins
  obtain ⟨kv, g1, g2, g3, g4, g5, g6⟩ := hK.get6
  walk_at "rd"
  refine ⟨k.x, T.a_Kinds, dx, _, _, rfl, hins, T.C_Kinds, T.n_Kinds_lesser_kinds, rfl, ?_⟩
  refine ⟨k.A.a6, _, rfl, DGet.k (k := Sum.inl (n : Nat)) g1, _, rfl, ?_⟩
  cases hv : valV kv (Sum.inl ((n : Nat) : Int)) with
  | some v =>
    refine iteF ?_
    walk_at "rd"
    refine ⟨k.x, T.a_Kinds, dx, _, _, rfl, hins, T.C_Kinds, T.n_Kinds_lesser_kinds, rfl, ?_⟩
    have hg := DGet.k (k := Sum.inl ((n : Nat) : Int)) g1
    rw [hv] at hg
    walk_at "rd"
    refine ⟨k.A.a6, _, rfl, hg, ?_⟩
    obtain ⟨m, d', rfl, s', h1, h2⟩ := g6 n v hv
    obtain rfl := hK.tok.deep h1 hr0
    exact q m t Ls H hK .refl (LW.all ⟨s', h1, h2⟩ hr0)
  | none =>
    refine iteT ?_
    have n0 : n ≠ 0 := fun z => by
      obtain ⟨v, hv2⟩ := valV_there g3
      rw [z] at hv
      exact nomatch hv.symm.trans hv2
    obtain ⟨e, rfl⟩ : ∃ e, d = e + 1 := ⟨d - 1, by
      cases d with
      | zero => exact absurd hr0 n0
      | succ d => rfl⟩
    obtain ⟨ms, hms, hfit⟩ := rep_fits.mp hr0
    obtain ⟨mm, m, e4, em, hnk⟩ := hK.get4 hms
    have hcnt := hK.tok.marks canon_one (fun xs h => canon_nodup h) hms hr0
    have hlen := hK.sub.len r hrS
    walk_at "rd"
    refine ⟨k.x, T.a_Kinds, dx, _, _, rfl, hins, T.C_Kinds, T.n_Kinds_depths, rfl, ?_⟩
    walk_at "rd"
    refine ⟨k.A.a5, _, _, _, rfl, rfl, SqL.of hK.k5, atI_nat (depsV_at hms), ?_⟩
    walk_at "rd"
    refine ⟨k.x, T.a_Kinds, dx, _, _, rfl, hins, T.C_Kinds, T.n_Kinds_marks, rfl, ?_⟩
    walk_at "rd"
    refine ⟨k.A.a4, _, _, _, rfl, rfl, SqL.of e4, atI_nat em, ?_⟩
    walk_at "rd"
    intro a H1 ha x1 hT1 keep1
    have hT1 : SetT w H1 a [] := hT1
    obtain ⟨xs, hxs, htr⟩ := nk_trs hnk
    have hxl := htr.len
    have hK1 := hK.ex x1
    have hout := hK.new_out ha
    have hxs1 := x1 _ _ hxs
    walk_at "rd"
    obtain ⟨Pv, hPv⟩ : ∃ Pv : Nat → L2.St → Hp → Prop, ∀ j σ G, Pv j σ G ↔ ∃ (o5 o6 o7 : Option V) (Tl : List Mark) (t' : KTab) (Ls' : List Addr), σ = [some (.ref k.x), some (.int (n : Nat)), some (.int (((e + 1 : Nat) : Int) - 1)), some (.ref m), some (.ref a), o5, o6, o7] ∧
      KS P w T.a_Kinds k Ls' G t' ∧ Stp k Ls H t Ls' G t' ∧ a ∉ Ls' ∧ SetT w G a Tl ∧ Tl.length ≤ j ∧ (∀ i x c y, i < j → ms[i]? = some (x, c, y) → ∃ x' y', (x', c, y') ∈ Tl ∧ LW t' e x x' ∧ LW t' e y y') ∧
      (∀ x' c y', (x', c, y') ∈ Tl → ∃ x y, (x, c, y) ∈ ms ∧ LW t' e x x' ∧ LW t' e y y') := ⟨_, fun _ _ _ => Iff.rfl⟩
    refine ⟨⟨_, SqT.of hxs1⟩, for_tup (xs := xs) Pv ((hPv _ _ _).mpr ⟨_, _, _, [], t, Ls, rfl, hK1, Stp.ex x1, hout.2.2, hT1, Nat.le_refl _, fun i x c y hi => by omega, fun x' c y' h => nomatch h⟩) (fun j σ G hj h => ?_) (fun j x σ G hx h => ?_) (fun σ G h => ?_)⟩
    · obtain ⟨_, _, _, _, _, _, _, hKj, st, _⟩ := (hPv _ _ _).mp h
      exact SqT.of (st.tk hK _ _ hxs)
    · obtain ⟨o5, o6, o7, Tl, t', Ls', rfl, hKj, st, haj, hTj, hTl, inv1, inv2⟩ := (hPv _ _ _).mp h
      have hj : j < ms.length := by rw [← hxl]; exact (List.getElem?_eq_some_iff.mp hx).1
      obtain ⟨⟨y1, c, y2⟩, hmj⟩ : ∃ y, ms[j]? = some y := ⟨_, List.getElem?_eq_getElem hj⟩
      obtain ⟨b, hb1, hb2⟩ := htr.at hmj
      obtain rfl : x = .ref b := Option.some.inj (hx.symm.trans hb1)
      have hmem := List.mem_of_getElem? hmj
      obtain ⟨i, hic, r1, r2⟩ := hfit.2 _ _ _ hmem
      have hb3 := st.tk hK _ _ hb2
      obtain ⟨dx', hins'⟩ := hKj.ins
      walk_at "rd"
      refine ⟨_, _, rfl, SqT.of hb3, rfl, ?_⟩
      walk_at "rd"
      refine ⟨⟨a, Tl, rfl, hTj⟩, ?_⟩
      walk_at "rd"
      refine ⟨k.x, dx', _, rfl, hins', rfl, ?_⟩
      walk_at "rd"
      refine ⟨k, Ls', t', y1, e, r.take i, rfl, hKj, by omega, r1.up st.grows, hK.sub.tak r hrS i, fun n1 t1 Ls1 G1 hK1' st1 rp1 => ?_⟩
      obtain ⟨dx1, hins1⟩ := hK1'.ins
      walk_at "rd"
      refine ⟨k.x, dx1, _, rfl, hins1, rfl, ?_⟩
      walk_at "rd"
      refine ⟨k, Ls1, t1, y2, e, r.drop (i + 1), rfl, hK1', by omega, (r2.up st.grows).up st1.grows, hK.sub.drp r hrS (i + 1), fun n2 t2 Ls2 G2 hK2 st2 rp2 => ?_⟩
      walk_at "rd"
      intro tt ntt
      have st12 := Stp.trans hK1' st1 st2
      have hTt := hTj.keep (st12.tk hKj) (fun o => st12.old _ o hout.1)
      have xt := Ex.new (o := .tup [.int (n1 : Nat), .str ⟨#[c]⟩, .int (n2 : Nat)]) ntt
      have hkt : NK (upd G2 tt (.tup [.int (n1 : Nat), .str ⟨#[c]⟩, .int (n2 : Nat)])) (.ref tt) (trip (n1, c, n2)) := trip_nk upd_same
      have hK3 := hK2.ex xt
      have hTu := hTt.keep (Tk.of xt) (fun o => xt _ o)
      generalize upd G2 tt (.tup [.int (n1 : Nat), .str ⟨#[c]⟩, .int (n2 : Nat)]) = G3 at *
      refine ⟨a, tt, (n1, c, n2), Tl, rfl, rfl, hTu, hkt, by omega, fun G4 T' hT4 hm4 hl4 keep4 tk4 => ?_⟩
      have stAll := Stp.trans hKj st st12
      have ha2 : a ∉ Ls2 := fun z => by
        rcases st12.ls a z with q1 | q1
        · exact haj q1
        · exact hTj.ne_none q1
      refine (hPv _ _ _).mpr ⟨_, _, _, T', t2, Ls2, rfl, ?_, ⟨stAll.grows, fun b' o hb' e' => ?_, stAll.ls⟩, ha2, hT4, by omega, ?_, ?_⟩
      · refine hK3.move tk4 (fun o e => by rw [keep4 _ (Ne.symm hout.2.1)]; exact e) (fun b' hb' o e => by rw [keep4 _ fun z => hout.1 (by rw [← z]; exact hb')]; exact e) (fun l hl o e => by rw [keep4 _ fun z => ha2 (by rw [← z]; exact hl)]; exact e)
      · rw [keep4 _ fun z => by rw [z, ha] at e'; exact nomatch e']
        exact xt _ _ (stAll.old _ _ hb' e')
      · intro i' x c' y hi' hm'
        by_cases hij : i' < j
        · obtain ⟨x', y', h1, h2, h3⟩ := inv1 i' x c' y hij hm'
          exact ⟨x', y', (hm4 _).mpr (.inr h1), h2.up st12.grows, h3.up st12.grows⟩
        · obtain rfl : i' = j := by omega
          rw [hmj] at hm'
          cases hm'
          exact ⟨n1, n2, (hm4 _).mpr (.inl rfl), ⟨_, (r1.up st.grows).up st12.grows, rp1.up st2.grows⟩, ⟨_, (r2.up st.grows).up st12.grows, rp2⟩⟩
      · intro x' c' y' hm'
        rcases (hm4 _).mp hm' with hm' | hm'
        · cases hm'
          exact ⟨y1, y2, hmem, ⟨_, (r1.up st.grows).up st12.grows, rp1.up st2.grows⟩, ⟨_, (r2.up st.grows).up st12.grows, rp2⟩⟩
        · obtain ⟨x, y, h1, h2, h3⟩ := inv2 x' c' y' hm'
          exact ⟨x, y, h1, h2.up st12.grows, h3.up st12.grows⟩
    · obtain ⟨o5, o6, o7, Tl, t', Ls', rfl, hKj, st, haj, hTj, hTl, inv1, inv2⟩ := (hPv _ _ _).mp h
      rw [hxl] at inv1
      obtain ⟨dx', hins'⟩ := hKj.ins
      have hsz := hKj.size
      have hfit2 := hfit.up st.grows
      have lowT : ∀ m ∈ Tl, Low m := fun ⟨x', c, y'⟩ hm => by
        obtain ⟨x, y, h1, ⟨s1, _, h2⟩, ⟨s2, _, h3⟩⟩ := inv2 x' c y' hm
        obtain ⟨i, hic, _, _⟩ := hfit.2 _ _ _ h1
        have l1 := hKj.tok.lt h2
        have l2 := hKj.tok.lt h3
        exact ⟨by show x' < _; omega, hK.sub.low r hrS c (List.mem_of_getElem? hic), by show y' < _; omega⟩
      walk_at "rd"
      refine ⟨k.x, dx', _, rfl, hins', rfl, ?_⟩
      walk_at "rd"
      refine ⟨a, Tl, rfl, hTj, lowT, fun p rs ms' G1 hp xp ep keepp hcan hmm htrs => ?_⟩
      refine ⟨p, rs, rfl, .inl ⟨SqL.of ep, fun tp htp => ?_⟩⟩
      have xt := Ex.new (o := .tup rs) htp
      have xpt := xp.trans xt
      have hKt := hKj.ex xpt
      have htt : NK (upd G1 tp (.tup rs)) (.ref tp) (.tup (ms'.map trip)) := trs_nk upd_same (htrs.up (Tk.of xpt))
      generalize upd G1 tp (.tup rs) = G2 at *
      rw [show (((e + 1 : Nat) : Int) - 1) = ((e : Nat) : Int) by omega]
      have mfit : ∀ e', e = e' + 1 → Fits t' e' ms' r := fun e' he => by
        subst he
        refine fits_less hfit2 (fun x c y h1 => ?_) (fun x' c y' h1 => ?_)
        · obtain ⟨i, hi⟩ := List.getElem?_of_mem h1
          obtain ⟨x', y', h2, h3, h4⟩ := inv1 i x c y (List.getElem?_eq_some_iff.mp hi).1 hi
          exact ⟨x', y', (hmm _).mpr h2, h3, h4⟩
        · exact inv2 x' c y' ((hmm _).mp h1)
      have hdD : e + 1 ≤ k.D := by
        obtain ⟨_, q1, _⟩ := hK.tok.rep hms
        exact (q1 n0).2
      refine ⟨k, Ls', t', e, tp, ms', rfl, hKt, htt, hcan, fun e' he => ⟨by omega, r, hrS, mfit e' he⟩, fun n' t2 Ls2 G3 hK3 st3 rn => ?_⟩
      have rep' : Rep t2 e n' r := by
        cases e with
        | zero => exact rn.1 rfl
        | succ e' => exact ⟨ms', rn.2 e' rfl, (mfit e' rfl).up st3.grows⟩
      have hr2 := (hr0.up st.grows).up st3.grows
      obtain ⟨dx2, hins2⟩ := hK3.ins
      obtain ⟨kv2, f1, f2, f3, f4, f5, _⟩ := hK3.get6
      refine ⟨_, rfl, k.x, T.a_Kinds, dx2, _, _, rfl, hins2, T.C_Kinds, T.n_Kinds_lesser_kinds, rfl, ?_⟩
      walk_at "rd"
      refine ⟨k.A.a6, _, rfl, DPut.k (k := Sum.inl ((n : Nat) : Int)) f1 f5, ?_⟩
      have hK4 := hK3.put6 f1 f2 f3 f4 (n := n) (m := n') (d := e + 1) ⟨r, hr2, rep'⟩
      have st4 := hK3.stp (a := k.A.a6) (o := .dK (putK kv2 (Sum.inl ((n : Nat) : Int)) (.int (n' : Nat)))) (by simp [KA.all])
      have at4 : upd G3 k.A.a6 (.dK (putK kv2 (Sum.inl ((n : Nat) : Int)) (.int (n' : Nat)))) k.A.a6 = some (.dK (putK kv2 (Sum.inl ((n : Nat) : Int)) (.int (n' : Nat)))) := upd_same
      generalize upd G3 k.A.a6 (.dK (putK kv2 (Sum.inl ((n : Nat) : Int)) (.int (n' : Nat)))) = G4 at *
      obtain ⟨dx4, hins4⟩ := hK4.ins
      have hg := DGet.k (k := Sum.inl ((n : Nat) : Int)) at4
      rw [valV_put, if_pos rfl] at hg
      walk_at "rd"
      refine ⟨k.x, T.a_Kinds, dx4, _, _, rfl, hins4, T.C_Kinds, T.n_Kinds_lesser_kinds, rfl, ?_⟩
      walk_at "rd"
      refine ⟨k.A.a6, _, rfl, hg, ?_⟩
      exact q n' t2 Ls2 G4 hK4 (Stp.trans hKj st (Stp.trans hKt (Stp.ex xpt) (Stp.trans hK3 st3 st4))) rep'

end
end Lw
end

section
set_option Elab.async false
set_option linter.all false
set_option maxRecDepth 100000
set_option maxHeartbeats 4000000
set_option pp.maxSteps 300
set_option pp.deepTerms false
namespace Lw
open PySem L2 Evl M
open PyProof.Rows hiding St
local macro_rules | `(tactic| walk_at "at") => `(tactic| first | assumption | exact upd_same)
local macro_rules | `(tactic| walk_at "sq") => `(tactic| first | assumption | exact SqL.of (by walk_at "at") | exact SqT.of (by walk_at "at"))
local macro_rules | `(tactic| walk_at "sd") => `(tactic| first | assumption | exact Names.size (by assumption) | omega | decide | exact Nat.le_of_ble_eq_true rfl | exact Or.inl ⟨by decide, by decide⟩ | exact wide_div (b := 200) (by first | assumption | decide) (by first | assumption | decide) (by decide) (by decide) | exact pow_w 10 (by decide) (by decide) (by decide) (by decide))
local macro_rules | `(tactic| walk_at "r1") => `(tactic| first
  | refine ⟨_, rfl, ?_⟩
  | refine ⟨_, _, rfl, rfl, ?_⟩
  | refine And.intro rfl ?_
  | refine ⟨_, _, _, _, rfl, rfl, (by walk_at "sq"), rfl, ?_⟩
  | refine ⟨_, _, _, _, rfl, rfl, (by walk_at "at"), rfl, ?_⟩
  | refine ⟨_, _, rfl, Or.inl (by walk_at "sq"), ?_⟩
  | refine ⟨_, _, rfl, Or.inr (by walk_at "sq"), ?_⟩
  | refine ⟨_, _, rfl, ?_⟩
  | refine Or.inl ⟨_, rfl, ?_⟩
  | refine And.intro (by walk_at "sd") ?_)
local macro_rules | `(tactic| walk_at "rd") => `(tactic| try (walk_at "r1"; walk_at "rd"))
section
variable {P : Program} {w : World} {K : PySem.W.Frag} {mg : Str → Option Value} {base : Heap}
theorem ok_Kinds_added_behind (T : Tx w K mg) (G_Kinds_numbered : FnOk P w K mg base CX0 1 T.a_Kinds_numbered T.d_Kinds_numbered ["self", "depth", "marks"] (sp_numbered P w T.a_Kinds))
    (G_Kinds_empty : FnOk P w K mg base CX0 2 T.a_Kinds_empty T.d_Kinds_empty ["self", "depth"] (sp_empty P w T.a_Kinds))
    (GL : ∀ f : Nat, FnOk P w K mg base CX0 (f + 2) T.a_Kinds_lesser T.d_Kinds_lesser ["self", "kind"] (sp_lesser P w T.a_Kinds f)) : ∀ f : Nat,
    FnOk P w K mg base CX0 (f + 3) T.a_Kinds_added_behind T.d_Kinds_added_behind ["self", "kind", "letter"] (sp_behind P w T.a_Kinds f) := by
  intro f
  induction f with
  | zero => exact fn_void fun vs H Q E ⟨_, _, _, _, _, _, _, _, _, h, _⟩ => by omega
  | succ f ih =>
  have G_Kinds_added_behind := ih
  have G_Kinds_lesser := GL (f + 1)
  refine T.F_Kinds_added_behind.ok sc_Kinds_added_behind (fun vs H Q E h => ?_) (fun cdv A outer s H vs Q E hr h => ?_)
  · obtain ⟨_, _, _, _, _, _, _, rfl, _⟩ := h
    rfl
  obtain ⟨k, Ls, t, n, d, c, r, rfl, hK, hf, hdD, hr0, hrS, q⟩ := h
  have hu := hu_of hr
  refine ⟨_, (pss_cons (ps_if (pt_cmpR op_eq (pv 1) pe_int (nomark _)) (pss_one (ps_ret pe_int)) pss_nil)
   (pss_cons (ps_set (i := 3) sc_Kinds_added_behind.nd rfl (Or.inl rfl) (pe_tup (pa_cons (pv 1) (pa_cons (pv 2) pa_nil))))
   (pss_cons (ps_if (pt_cmpR (M.op_notInN hr.units) (pv 3) (pe_fld (pv 0) rfl) (by rfl)) (pss_cons (ps_set (i := 4) sc_Kinds_added_behind.nd rfl (Or.inl rfl) (pe_ix ix_list (pe_fld (pv 0) rfl) (pv 1) (fun _ _ => rfl)))
   (pss_cons (ps_set (i := 5) sc_Kinds_added_behind.nd rfl (Or.inl rfl) (pe_ix ix_list (pe_fld (pv 0) rfl) (pv 1) (fun _ _ => rfl)))
   (pss_cons (ps_set (i := 6) sc_Kinds_added_behind.nd rfl (Or.inl rfl) (pe_callTy0 M.cr_snew (by rfl) T.b_set (by decide +kernel)))
   (pss_cons (ps_for PassesOwn.never (by rfl) (pi_tup (pv 5)) (pg_tup (by rfl) (pgs_cons (pg_name (i := 7) sc_Kinds_added_behind.nd rfl (Or.inl rfl)) (pgs_cons (pg_name (i := 8) sc_Kinds_added_behind.nd rfl (Or.inl rfl)) (pgs_cons (pg_name (i := 9) sc_Kinds_added_behind.nd rfl (Or.inl rfl)) pgs_nil)))) (pss_one (ps_expr (M.pe_sadd hr.units (pv 6) (pa_cons (pe_tup (pa_cons (pv 7) (pa_cons (pv 8) (pa_cons (pe_meth (pv 0) T.C_Kinds T.m_Kinds_added_behind G_Kinds_added_behind (hr.mono (by omega)) T.b_Kinds_added_behind .nil pass0 (pa_cons (pv 9) (pa_cons (pv 2) pa_nil))) pa_nil)))) pa_nil)))))
   (pss_cons (ps_expr (M.pe_sadd hr.units (pv 6) (pa_cons (pe_tup (pa_cons (pe_meth (pv 0) T.C_Kinds T.m_Kinds_lesser G_Kinds_lesser (hr.mono (by omega)) T.b_Kinds_lesser .nil pass0 (pa_cons (pv 1) pa_nil)) (pa_cons (pv 2) (pa_cons (pe_meth (pv 0) T.C_Kinds T.m_Kinds_empty G_Kinds_empty (hr.mono (by omega)) T.b_Kinds_empty .nil pass0 (pa_cons (pe_op op_sub (pv 4) pe_int) pa_nil)) pa_nil)))) pa_nil)))
   (pss_one (M.ps_nputH hr.units (pe_fld (pv 0) rfl) (pv 3) (pe_meth (pv 0) T.C_Kinds T.m_Kinds_numbered G_Kinds_numbered (hr.mono (by omega)) T.b_Kinds_numbered .nil pass0 (pa_cons (pv 4) (pa_cons (pe_callTy call_tuple_of (by rfl) T.b_tuple (by decide +kernel) (pa_cons (pe_callB (M.cr_ssort (by rfl)) (by rfl) T.b_sorted (by decide +kernel) (pa_cons (pv 6) pa_nil)) pa_nil)) pa_nil))) rfl))))))) pss_nil)
   (pss_one (ps_ret (pe_ix (M.ix_dictN hr.units) (pe_fld (pv 0) rfl) (pv 3) (fun _ _ => rfl))))))), ?_⟩
  obtain ⟨dx, hins⟩ := hK.ins
  walk_at "rd"
  refine iteI (fun e0 => ?_) (fun e0 => ?_)
  · obtain rfl : n = 0 := by omega
    refine q 0 t Ls H hK .refl ?_
    cases d with
    | zero => exact (rfl : 0 = 0)
    | succ d => exact absurd rfl (hK.tok.ne hr0)
  have n0 : n ≠ 0 := by omega
  obtain ⟨e, rfl⟩ : ∃ e, d = e + 1 := ⟨d - 1, by
    cases d with
    | zero => exact absurd hr0 n0
    | succ d => rfl⟩
  have hrS0 : r ∈ k.S := by
    have := hK.sub.tak _ hrS r.length
    rwa [List.take_left] at this
  walk_at "rd"
  intro tk ntk
  have x0 := Ex.new (o := .tup [.int (n : Nat), .str ⟨#[c]⟩]) ntk
  have hK0 := hK.ex x0
  have hkey : NK (upd H tk (.tup [.int (n : Nat), .str ⟨#[c]⟩])) (.ref tk) (keyB n c) := .tup upd_same (.cons (.int _) (.cons (.str _) .nil))
  generalize upd H tk (.tup [.int (n : Nat), .str ⟨#[c]⟩]) = H0 at *
  have hins0 := x0 _ _ hins
  obtain ⟨e7, g1, g2, g3, g4, g6⟩ := hK0.get7
  walk_at "rd"
  refine ⟨k.x, T.a_Kinds, dx, _, _, rfl, hins0, T.C_Kinds, T.n_Kinds_longer_behind, rfl, ?_⟩
  refine ⟨tk, k.A.a7, keyB n c, e7, rfl, rfl, hkey, keyB_depth _ _, g1, ?_⟩
  walk_at "rd"
  cases hkat : kat e7 (keyB n c) with
  | some v =>
    refine iteF ?_
    walk_at "rd"
    refine ⟨k.x, T.a_Kinds, dx, _, _, rfl, hins0, T.C_Kinds, T.n_Kinds_longer_behind, rfl, ?_⟩
    walk_at "rd"
    refine ⟨tk, k.A.a7, keyB n c, e7, v, rfl, rfl, hkey, keyB_depth _ _, g1, hkat, ?_⟩
    obtain ⟨m, d', rfl, s', h1, h2⟩ := g6 _ _ _ hkat
    obtain rfl := hK.tok.deep h1 hr0
    exact q m t Ls _ hK0 (Stp.ex x0) (BW.all ⟨s', h1, h2⟩ hr0)
  | none =>
    refine iteT ?_
    obtain ⟨ms, hms, hfit⟩ := rep_fits.mp hr0
    obtain ⟨mm, m, e4, em, hnk⟩ := hK0.get4 hms
    have hcnt := hK.tok.marks canon_one (fun xs h => canon_nodup h) hms hr0
    have hlen := hK.sub.len r hrS0
    walk_at "rd"
    refine ⟨k.x, T.a_Kinds, dx, _, _, rfl, hins0, T.C_Kinds, T.n_Kinds_depths, rfl, ?_⟩
    walk_at "rd"
    refine ⟨k.A.a5, _, _, _, rfl, rfl, SqL.of hK0.k5, atI_nat (depsV_at hms), ?_⟩
    walk_at "rd"
    refine ⟨k.x, T.a_Kinds, dx, _, _, rfl, hins0, T.C_Kinds, T.n_Kinds_marks, rfl, ?_⟩
    walk_at "rd"
    refine ⟨k.A.a4, _, _, _, rfl, rfl, SqL.of e4, atI_nat em, ?_⟩
    walk_at "rd"
    intro a H1 ha x1 hT1 keep1
    have hT1 : SetT w H1 a [] := hT1
    obtain ⟨xs, hxs, htr⟩ := nk_trs hnk
    have hxl := htr.len
    have hK1 := hK0.ex x1
    have hout := hK0.new_out ha
    have hxs1 := x1 _ _ hxs
    walk_at "rd"
    obtain ⟨Pv, hPv⟩ : ∃ Pv : Nat → L2.St → Hp → Prop, ∀ j σ G, Pv j σ G ↔ ∃ (o7 o8 o9 : Option V) (Tl : List Mark) (t' : KTab) (Ls' : List Addr), σ = [some (.ref k.x), some (.int (n : Nat)), some (.str ⟨#[c]⟩), some (.ref tk), some (.int ((e + 1 : Nat) : Int)), some (.ref m), some (.ref a), o7, o8, o9] ∧
      KS P w T.a_Kinds k Ls' G t' ∧ Stp k Ls H0 t Ls' G t' ∧ a ∉ Ls' ∧ SetT w G a Tl ∧ Tl.length ≤ j ∧ (∀ i x c' y, i < j → ms[i]? = some (x, c', y) → ∃ y', (x, c', y') ∈ Tl ∧ BW t' e y y' c) ∧
      (∀ x c' y', (x, c', y') ∈ Tl → ∃ y, (x, c', y) ∈ ms ∧ BW t' e y y' c) := ⟨_, fun _ _ _ => Iff.rfl⟩
    refine ⟨⟨_, SqT.of hxs1⟩, for_tup (xs := xs) Pv ((hPv _ _ _).mpr ⟨_, _, _, [], t, Ls, rfl, hK1, Stp.ex x1, hout.2.2, hT1, Nat.le_refl _, fun i x c y hi => by omega, fun x' c y' h => nomatch h⟩) (fun j σ G hj h => ?_) (fun j x σ G hx h => ?_) (fun σ G h => ?_)⟩
    · obtain ⟨_, _, _, _, _, _, _, hKj, st, _⟩ := (hPv _ _ _).mp h
      exact SqT.of (st.tk hK0 _ _ hxs)
    · obtain ⟨o7, o8, o9, Tl, t', Ls', rfl, hKj, st, haj, hTj, hTl, inv1, inv2⟩ := (hPv _ _ _).mp h
      have hj : j < ms.length := by rw [← hxl]; exact (List.getElem?_eq_some_iff.mp hx).1
      obtain ⟨⟨y1, c1, y2⟩, hmj⟩ : ∃ y, ms[j]? = some y := ⟨_, List.getElem?_eq_getElem hj⟩
      obtain ⟨b, hb1, hb2⟩ := htr.at hmj
      obtain rfl : x = .ref b := Option.some.inj (hx.symm.trans hb1)
      have hmem := List.mem_of_getElem? hmj
      obtain ⟨i, hic, r1, r2⟩ := hfit.2 _ _ _ hmem
      have hi := (List.getElem?_eq_some_iff.mp hic).1
      have hb3 := st.tk hK0 _ _ hb2
      obtain ⟨dx', hins'⟩ := hKj.ins
      have hS2 := hK.sub.drp _ hrS (i + 1)
      rw [drop_l hi] at hS2
      walk_at "rd"
      refine ⟨_, _, rfl, SqT.of hb3, rfl, ?_⟩
      walk_at "rd"
      refine ⟨⟨a, Tl, rfl, hTj⟩, ?_⟩
      walk_at "rd"
      refine ⟨k.x, dx', _, rfl, hins', rfl, ?_⟩
      walk_at "rd"
      refine ⟨k, Ls', t', y2, e, c, r.drop (i + 1), rfl, hKj, by omega, by omega, r2.up st.grows, hS2, fun n2 t2 Ls2 G2 hK2 st12 rp2 => ?_⟩
      walk_at "rd"
      intro tt ntt
      have hTt := hTj.keep (st12.tk hKj) (fun o => st12.old _ o hout.1)
      have xt := Ex.new (o := .tup [.int (y1 : Nat), .str ⟨#[c1]⟩, .int (n2 : Nat)]) ntt
      have hkt : NK (upd G2 tt (.tup [.int (y1 : Nat), .str ⟨#[c1]⟩, .int (n2 : Nat)])) (.ref tt) (trip (y1, c1, n2)) := trip_nk upd_same
      have hK3 := hK2.ex xt
      have hTu := hTt.keep (Tk.of xt) (fun o => xt _ o)
      generalize upd G2 tt (.tup [.int (y1 : Nat), .str ⟨#[c1]⟩, .int (n2 : Nat)]) = G3 at *
      refine ⟨a, tt, (y1, c1, n2), Tl, rfl, rfl, hTu, hkt, by omega, fun G4 T' hT4 hm4 hl4 keep4 tk4 => ?_⟩
      have stAll := Stp.trans hKj st st12
      have ha2 : a ∉ Ls2 := fun z => by
        rcases st12.ls a z with q1 | q1
        · exact haj q1
        · exact hTj.ne_none q1
      have bw : BW t2 e y2 n2 c := ⟨_, (r2.up st.grows).up st12.grows, rp2⟩
      refine (hPv _ _ _).mpr ⟨_, _, _, T', t2, Ls2, rfl, ?_, ⟨stAll.grows, fun b' o hb' e' => ?_, stAll.ls⟩, ha2, hT4, by omega, ?_, ?_⟩
      · refine hK3.move tk4 (fun o e => by rw [keep4 _ (Ne.symm hout.2.1)]; exact e) (fun b' hb' o e => by rw [keep4 _ fun z => hout.1 (by rw [← z]; exact hb')]; exact e) (fun l hl o e => by rw [keep4 _ fun z => ha2 (by rw [← z]; exact hl)]; exact e)
      · rw [keep4 _ fun z => by rw [z, ha] at e'; exact nomatch e']
        exact xt _ _ (stAll.old _ _ hb' e')
      · intro i' x c' y hi' hm'
        by_cases hij : i' < j
        · obtain ⟨y', h1, h2⟩ := inv1 i' x c' y hij hm'
          exact ⟨y', (hm4 _).mpr (.inr h1), h2.up st12.grows⟩
        · obtain rfl : i' = j := by omega
          rw [hmj] at hm'
          cases hm'
          exact ⟨n2, (hm4 _).mpr (.inl rfl), bw⟩
      · intro x' c' y' hm'
        rcases (hm4 _).mp hm' with hm' | hm'
        · cases hm'
          exact ⟨y2, hmem, bw⟩
        · obtain ⟨y, h1, h2⟩ := inv2 x' c' y' hm'
          exact ⟨y, h1, h2.up st12.grows⟩
    · obtain ⟨o7, o8, o9, Tl, t', Ls', rfl, hKj, st, haj, hTj, hTl, inv1, inv2⟩ := (hPv _ _ _).mp h
      rw [hxl] at inv1 hTl
      obtain ⟨dx', hins'⟩ := hKj.ins
      walk_at "rd"
      refine ⟨⟨a, Tl, rfl, hTj⟩, ?_⟩
      walk_at "rd"
      refine ⟨k.x, dx', _, rfl, hins', rfl, ?_⟩
      walk_at "rd"
      refine ⟨k, Ls', t', n, e + 1, r, rfl, hKj, by omega, hr0.up st.grows, hrS0, fun l t1 Ls1 G1 hK1' st1 rpl => ?_⟩
      obtain ⟨dx1, hins1⟩ := hK1'.ins
      walk_at "rd"
      refine ⟨k.x, dx1, _, rfl, hins1, rfl, ?_⟩
      walk_at "rd"
      refine ⟨k, Ls1, t1, e, (by show [V.ref k.x, V.int (((e + 1 : Nat) : Int) - 1)] = _; rw [show (((e + 1 : Nat) : Int) - 1) = ((e : Nat) : Int) by omega]), hK1', by omega, fun em2 t2 Ls2 G2 hK2 st2 rpe => ?_⟩
      walk_at "rd"
      intro tt ntt
      have st12 := Stp.trans hK1' st1 st2
      have hTt := hTj.keep (st12.tk hKj) (fun o => st12.old _ o hout.1)
      have xt := Ex.new (o := .tup [.int (l : Nat), .str ⟨#[c]⟩, .int (em2 : Nat)]) ntt
      have hkt : NK (upd G2 tt (.tup [.int (l : Nat), .str ⟨#[c]⟩, .int (em2 : Nat)])) (.ref tt) (trip (l, c, em2)) := trip_nk upd_same
      have hK3 := hK2.ex xt
      have hTu := hTt.keep (Tk.of xt) (fun o => xt _ o)
      generalize upd G2 tt (.tup [.int (l : Nat), .str ⟨#[c]⟩, .int (em2 : Nat)]) = G3 at *
      refine ⟨a, tt, (l, c, em2), Tl, rfl, rfl, hTu, hkt, by omega, fun G4 T4 hT4 hm4 hl4 keep4 tk4 => ?_⟩
      have stAll := Stp.trans hKj st st12
      have ha2 : a ∉ Ls2 := fun z => by
        rcases st12.ls a z with q1 | q1
        · exact haj q1
        · exact hTj.ne_none q1
      have hK4 : KS P w T.a_Kinds k Ls2 G4 t2 := hK3.move tk4 (fun o e => by rw [keep4 _ (Ne.symm hout.2.1)]; exact e) (fun b' hb' o e => by rw [keep4 _ fun z => hout.1 (by rw [← z]; exact hb')]; exact e) (fun l hl o e => by rw [keep4 _ fun z => ha2 (by rw [← z]; exact hl)]; exact e)
      have st4 : Stp k Ls H0 t Ls2 G4 t2 := ⟨stAll.grows, fun b' o hb' e' => by
        rw [keep4 _ fun z => by rw [z, ha] at e'; exact nomatch e']
        exact xt _ _ (stAll.old _ _ hb' e'), stAll.ls⟩
      have hl2 : Rep t2 e l r := rpl.up st2.grows
      have hsz := hK4.size
      have hfit2 := hfit.up st4.grows
      have hcS : c < 2 ^ 32 := hK.sub.low _ hrS c (by simp)
      have lowT : ∀ m ∈ T4, Low m := fun ⟨x', c', y'⟩ hm => by
        rcases (hm4 _).mp hm with hm | hm
        · cases hm
          have l1 := hK4.tok.lt hl2
          have l2 := hK4.tok.lt rpe
          exact ⟨by show l < _; omega, hcS, by show em2 < _; omega⟩
        · obtain ⟨y, h1, s2, _, h3⟩ := inv2 x' c' y' hm
          obtain ⟨i, hic, h4, _⟩ := hfit2.2 _ _ _ h1
          have l1 := hK4.tok.lt h4
          have l2 := hKj.tok.lt h3
          have l3 := hKj.size
          exact ⟨by show x' < _; omega, hK.sub.low r hrS0 c' (List.mem_of_getElem? hic), by show y' < _; omega⟩
      obtain ⟨dx4, hins4⟩ := hK4.ins
      walk_at "rd"
      refine ⟨k.x, dx4, _, rfl, hins4, rfl, ?_⟩
      walk_at "rd"
      refine ⟨a, T4, rfl, hT4, lowT, fun p rs ms' G5 hp xp ep keepp hcan hmm htrs => ?_⟩
      refine ⟨p, rs, rfl, .inl ⟨SqL.of ep, fun tp htp => ?_⟩⟩
      have xtp := Ex.new (o := .tup rs) htp
      have xpt := xp.trans xtp
      have hKt := hK4.ex xpt
      have htt : NK (upd G5 tp (.tup rs)) (.ref tp) (.tup (ms'.map trip)) := trs_nk upd_same (htrs.up (Tk.of xpt))
      generalize upd G5 tp (.tup rs) = G6 at *
      have mfit : Fits t2 e ms' (r ++ [c]) := by
        refine fits_behind hfit2 hl2 rpe (fun x c' y h1 => ?_) (fun x c' y' h1 => ?_) ((hmm _).mpr ((hm4 _).mpr (.inl rfl)))
        · obtain ⟨i, hi⟩ := List.getElem?_of_mem h1
          obtain ⟨y', h2, h3⟩ := inv1 i x c' y (List.getElem?_eq_some_iff.mp hi).1 hi
          exact ⟨y', (hmm _).mpr ((hm4 _).mpr (.inr h2)), h3.up st12.grows⟩
        · rcases (hm4 _).mp ((hmm _).mp h1) with h2 | h2
          · exact .inl h2
          · obtain ⟨y, h3, h4⟩ := inv2 x c' y' h2
            exact .inr ⟨y, h3, h4.up st12.grows⟩
      refine ⟨k, Ls2, t2, e + 1, tp, ms', rfl, hKt, htt, hcan, fun e' he => ⟨hdD, r ++ [c], hrS, by cases he; exact mfit⟩, fun n' t3 Ls3 G7 hK7 st7 rn => ?_⟩
      have rep' : Rep t3 (e + 1) n' (r ++ [c]) := ⟨ms', rn.2 e rfl, mfit.up st7.grows⟩
      have hr3 := (hr0.up st4.grows).up st7.grows
      obtain ⟨dx7, hins7⟩ := hK7.ins
      obtain ⟨e9, f1, f2, f3, f4, _⟩ := hK7.get7
      have stf := Stp.trans hKt (Stp.ex xpt) st7
      have hkey7 := hkey.up ((st4.tk hK0).trans (stf.tk hK4))
      refine ⟨_, rfl, k.x, T.a_Kinds, dx7, _, _, rfl, hins7, T.C_Kinds, T.n_Kinds_longer_behind, rfl, ?_⟩
      walk_at "rd"
      refine ⟨tk, k.A.a7, keyB n c, e9, rfl, rfl, hkey7, keyB_depth _ _, f1, f4, fun G8 eG8 => ?_⟩
      have eG8 : G8 = upd G7 k.A.a7 (NdO P w k.A.a7 (putE e9 (keyB n c) tk (.int (n' : Nat)))) := eG8
      have hK8 := hK7.put7 f1 f2 f3 hkey7 hdD hr3 hrS rep'
      have st8 := hK7.stp (a := k.A.a7) (o := NdO P w k.A.a7 (putE e9 (keyB n c) tk (.int (n' : Nat)))) (by simp [KA.all])
      have hnd8 := f1.putG (v := .int (n' : Nat)) hkey7 (keyB_depth _ _)
      have hkey8 := hkey7.up (st8.tk hK7)
      rw [← eG8] at hK8 st8 hnd8 hkey8
      obtain ⟨dx8, hins8⟩ := hK8.ins
      walk_at "rd"
      refine ⟨k.x, T.a_Kinds, dx8, _, _, rfl, hins8, T.C_Kinds, T.n_Kinds_longer_behind, rfl, ?_⟩
      walk_at "rd"
      refine ⟨tk, k.A.a7, keyB n c, _, _, rfl, rfl, hkey8, keyB_depth _ _, hnd8, kat_putE, ?_⟩
      exact q n' t3 Ls3 G8 hK8 (Stp.trans hK0 (Stp.ex x0) (Stp.trans hK4 st4 (Stp.trans hK7 stf st8))) rep'

end
end Lw
end

section
set_option Elab.async false
set_option linter.all false
set_option maxRecDepth 100000
set_option maxHeartbeats 4000000
set_option pp.maxSteps 300
set_option pp.deepTerms false
namespace Lw
open PySem L2 Evl M
open PyProof.Rows hiding St
local macro_rules | `(tactic| walk_at "at") => `(tactic| first | assumption | exact upd_same)
local macro_rules | `(tactic| walk_at "sq") => `(tactic| first | assumption | exact SqL.of (by walk_at "at") | exact SqT.of (by walk_at "at"))
local macro_rules | `(tactic| walk_at "sd") => `(tactic| first | assumption | exact Names.size (by assumption) | omega | decide | exact Nat.le_of_ble_eq_true rfl | exact Or.inl ⟨by decide, by decide⟩ | exact wide_div (b := 200) (by first | assumption | decide) (by first | assumption | decide) (by decide) (by decide) | exact pow_w 10 (by decide) (by decide) (by decide) (by decide))
local macro_rules | `(tactic| walk_at "r1") => `(tactic| first
  | refine ⟨_, rfl, ?_⟩
  | refine ⟨_, _, rfl, rfl, ?_⟩
  | refine And.intro rfl ?_
  | refine ⟨_, _, _, _, rfl, rfl, (by walk_at "sq"), rfl, ?_⟩
  | refine ⟨_, _, _, _, rfl, rfl, (by walk_at "at"), rfl, ?_⟩
  | refine ⟨_, _, rfl, Or.inl (by walk_at "sq"), ?_⟩
  | refine ⟨_, _, rfl, Or.inr (by walk_at "sq"), ?_⟩
  | refine ⟨_, _, rfl, ?_⟩
  | refine Or.inl ⟨_, rfl, ?_⟩
  | refine And.intro (by walk_at "sd") ?_)
local macro_rules | `(tactic| walk_at "rd") => `(tactic| try (walk_at "r1"; walk_at "rd"))
section
variable {P : Program} {w : World} {K : PySem.W.Frag} {mg : Str → Option Value} {base : Heap}
theorem ok_letters_of (T : Tx w K mg) : FnOk P w K mg base CX0 1 T.a_letters_of T.d_letters_of ["many"] sp_letters_of := by
  refine T.F_letters_of.ok sc_letters_of (fun vs H Q E h => ?_) (fun cdv A outer s H vs Q E hr h => ?_)
  · obtain ⟨_, _, _, rfl, _⟩ := h
    rfl
  obtain ⟨m, _, _, rfl, hm, k⟩ := h
  refine ⟨_, (pss_one (ps_ret (pe_slice sl_str (pe_glob (v := .str "abcd") (by rfl) T.g_LETTERS T.r_LETTERS) po_none (po_some (pv 0))))), ?_⟩
  walk_at "rd"
  show Q (V.str (cutS "abcd" none (some ((m : Nat) : Int)))) H
  rw [letters_cut hm]
  exact k

end
end Lw
end

section
set_option Elab.async false
set_option linter.all false
set_option maxRecDepth 100000
set_option maxHeartbeats 4000000
set_option pp.maxSteps 300
set_option pp.deepTerms false
namespace Lw
open PySem L2 Evl M
open PyProof.Rows hiding St
local macro_rules | `(tactic| walk_at "at") => `(tactic| first | assumption | exact upd_same)
local macro_rules | `(tactic| walk_at "sq") => `(tactic| first | assumption | exact SqL.of (by walk_at "at") | exact SqT.of (by walk_at "at"))
local macro_rules | `(tactic| walk_at "sd") => `(tactic| first | assumption | exact Names.size (by assumption) | omega | decide | exact Nat.le_of_ble_eq_true rfl | exact Or.inl ⟨by decide, by decide⟩ | exact wide_div (b := 200) (by first | assumption | decide) (by first | assumption | decide) (by decide) (by decide) | exact pow_w 10 (by decide) (by decide) (by decide) (by decide))
local macro_rules | `(tactic| walk_at "r1") => `(tactic| first
  | refine ⟨_, rfl, ?_⟩
  | refine ⟨_, _, rfl, rfl, ?_⟩
  | refine And.intro rfl ?_
  | refine ⟨_, _, _, _, rfl, rfl, (by walk_at "sq"), rfl, ?_⟩
  | refine ⟨_, _, _, _, rfl, rfl, (by walk_at "at"), rfl, ?_⟩
  | refine ⟨_, _, rfl, Or.inl (by walk_at "sq"), ?_⟩
  | refine ⟨_, _, rfl, Or.inr (by walk_at "sq"), ?_⟩
  | refine ⟨_, _, rfl, ?_⟩
  | refine Or.inl ⟨_, rfl, ?_⟩
  | refine And.intro (by walk_at "sd") ?_)
local macro_rules | `(tactic| walk_at "rd") => `(tactic| try (walk_at "r1"; walk_at "rd"))
section
variable {P : Program} {w : World} {K : PySem.W.Frag} {mg : Str → Option Value} {base : Heap}
theorem ok_check_scope (T : Tx w K mg) : FnOk P w K mg base CX0 1 T.a_check_scope T.d_check_scope ["many", "depth"] sp_check_scope := by
  refine T.F_check_scope.ok sc_check_scope (fun vs H Q E h => ?_) (fun cdv A outer s H vs Q E hr h => ?_)
  · obtain ⟨_, _, _, rfl, _⟩ := h
    rfl
  obtain ⟨m, d, _, rfl, hS, k⟩ := h
  refine ⟨_, (pss_one (ps_if (pt_not (pt_chain op_le op_le pe_int (pv 1) (M.pe_kgetI (pe_glob (v := .ref T.a_DEPTHS) (by rfl) T.g_DEPTHS rfl) (pv 0) (pe_un un_neg pe_int) ⟨by rfl, by rfl, by rfl, by rfl⟩))) (pss_one ps_never) pss_nil)), ?_⟩
  walk_at "rd"
  refine iteD (fun _ => ?_) (fun h => absurd (Int.natCast_nonneg d) h)
  refine ⟨T.a_DEPTHS, _, rfl, T.ki_DEPTHS, ?_⟩
  walk_at "rd"
  have hd : ((d : Nat) : Int) ≤ (List.lookup ((m : Nat) : Int) [((1 : Int), (4 : Int)), (2, 2), (3, 1), (4, 1)]).getD (-1) := by
    obtain ⟨h1, h2, h3⟩ := hS
    rcases (by omega : m = 1 ∨ m = 2 ∨ m = 3 ∨ m = 4) with rfl | rfl | rfl | rfl
    · have : d ≤ 4 := h3
      show ((d : Nat) : Int) ≤ 4
      omega
    · have : d ≤ 2 := h3
      show ((d : Nat) : Int) ≤ 2
      omega
    · have : d ≤ 1 := h3
      show ((d : Nat) : Int) ≤ 1
      omega
    · have : d ≤ 1 := h3
      show ((d : Nat) : Int) ≤ 1
      omega
  refine iteND (fun h => absurd hd h) (fun _ => ?_)
  exact k

end
end Lw
end

section
set_option Elab.async false
set_option linter.all false
set_option maxRecDepth 100000
set_option maxHeartbeats 4000000
set_option pp.maxSteps 300
set_option pp.deepTerms false
namespace Lw
open PySem L2 Evl M
open PyProof.Rows hiding St
local macro_rules | `(tactic| walk_at "at") => `(tactic| first | assumption | exact upd_same)
local macro_rules | `(tactic| walk_at "sq") => `(tactic| first | assumption | exact SqL.of (by walk_at "at") | exact SqT.of (by walk_at "at"))
local macro_rules | `(tactic| walk_at "sd") => `(tactic| first | assumption | exact Names.size (by assumption) | omega | decide | exact Nat.le_of_ble_eq_true rfl | exact Or.inl ⟨by decide, by decide⟩ | exact wide_div (b := 200) (by first | assumption | decide) (by first | assumption | decide) (by decide) (by decide) | exact pow_w 10 (by decide) (by decide) (by decide) (by decide))
local macro_rules | `(tactic| walk_at "r1") => `(tactic| first
  | refine ⟨_, rfl, ?_⟩
  | refine ⟨_, _, rfl, rfl, ?_⟩
  | refine And.intro rfl ?_
  | refine ⟨_, _, _, _, rfl, rfl, (by walk_at "sq"), rfl, ?_⟩
  | refine ⟨_, _, _, _, rfl, rfl, (by walk_at "at"), rfl, ?_⟩
  | refine ⟨_, _, rfl, Or.inl (by walk_at "sq"), ?_⟩
  | refine ⟨_, _, rfl, Or.inr (by walk_at "sq"), ?_⟩
  | refine ⟨_, _, rfl, ?_⟩
  | refine Or.inl ⟨_, rfl, ?_⟩
  | refine And.intro (by walk_at "sd") ?_)
local macro_rules | `(tactic| walk_at "rd") => `(tactic| try (walk_at "r1"; walk_at "rd"))
section
variable {P : Program} {w : World} {K : PySem.W.Frag} {mg : Str → Option Value} {base : Heap}
theorem ok_rows_by_kind (T : Tx w K mg) (G_Kinds_empty : FnOk P w K mg base CX0 2 T.a_Kinds_empty T.d_Kinds_empty ["self", "depth"] (sp_empty P w T.a_Kinds))
    (GB : ∀ f : Nat, FnOk P w K mg base CX0 (f + 3) T.a_Kinds_added_behind T.d_Kinds_added_behind ["self", "kind", "letter"] (sp_behind P w T.a_Kinds f))
    (G_letters_of : FnOk P w K mg base CX0 1 T.a_letters_of T.d_letters_of ["many"] sp_letters_of) :
    FnOk P w K mg base CX0 13 T.a_rows_by_kind T.d_rows_by_kind ["kinds", "many", "depth"] (sp_rbk P w T.a_Kinds) := by
  have G_Kinds_added_behind := GB 9
  refine T.F_rows_by_kind.ok sc_rows_by_kind (fun vs H Q E h => ?_) (fun cdv A outer s H vs Q E hr h => ?_)
  · obtain ⟨_, _, _, _, _, rfl, _⟩ := h
    rfl
  obtain ⟨k, Ls, t, m, d, rfl, hK, hS, hkv, q⟩ := h
  have hu := hu_of hr
  refine ⟨_, (pss_cons (ps_set (i := 3) sc_rows_by_kind.nd rfl (Or.inl rfl) (pe_meth (pv 0) T.C_Kinds T.m_Kinds_empty G_Kinds_empty (hr.mono (by omega)) T.b_Kinds_empty .nil pass0 (pa_cons (pv 2) pa_nil)))
   (pss_cons (ps_set (i := 4) sc_rows_by_kind.nd rfl (Or.inl rfl) (pe_disp (pps_cons (pv 3) pe_str pps_nil) (by rfl) (by rfl) (fun z => by cases z) (by decide)))
   (pss_cons (ps_set (i := 5) sc_rows_by_kind.nd rfl (Or.inl rfl) (pe_lst (pa_cons (pv 3) pa_nil)))
   (pss_cons (ps_set (i := 6) sc_rows_by_kind.nd rfl (Or.inl rfl) pe_int)
   (pss_cons (ps_while PassesOwn.never (pt_cmpR op_lt (pv 6) (pe_callB call_len_seq (by rfl) T.b_len (by decide +kernel) (pa_cons (pv 5) pa_nil)) (nomark _)) (pss_cons (ps_set (i := 7) sc_rows_by_kind.nd rfl (Or.inl rfl) (pe_ix ix_list (pv 5) (pv 6) (fun _ _ => rfl)))
   (pss_cons (ps_aug (i := 6) sc_rows_by_kind.nd rfl (Or.inl rfl) pe_int ip_add)
   (pss_one (ps_for PassesOwn.never (by rfl) (pi_str (pe_call G_letters_of (hr.mono (by omega)) (by rfl) T.g_letters_of T.F_letters_of.kp T.b_letters_of .nil pass0 (pa_cons (pv 1) pa_nil))) (pg_name (i := 8) sc_rows_by_kind.nd rfl (Or.inl rfl)) (pss_cons (ps_set (i := 9) sc_rows_by_kind.nd rfl (Or.inl rfl) (pe_meth (pv 0) T.C_Kinds T.m_Kinds_added_behind G_Kinds_added_behind (hr.mono (by omega)) T.b_Kinds_added_behind .nil pass0 (pa_cons (pv 7) (pa_cons (pv 8) pa_nil))))
   (pss_one (ps_if (pt_cmp (pc_dnotin hu (pv 9) (pv 4))) (pss_cons (ps_dput hu (pv 4) (pv 9) (pe_op op_add_str (pe_dget hu (pv 4) (pv 7) (fun _ _ => rfl)) (pv 8)) rfl)
   (pss_one (ps_expr (pe_bm PySem.F.plainAttrs_list PySem.F.slot_list_append PySem.F.type_list_append mt_append (pv 5) (pa_cons (pv 9) pa_nil))))) pss_nil))))))))
   (pss_one (ps_ret (pv 4)))))))), ?_⟩
  have hc97 := cnt_le hS
  have hd4 := hS.d4
  obtain ⟨dx, hins⟩ := hK.ins
  walk_at "rd"
  refine ⟨k.x, dx, _, rfl, hins, rfl, ?_⟩
  walk_at "rd"
  refine ⟨k, Ls, t, d, rfl, hK, hkv.1, fun n0 t1 Ls1 H1 hK1 st1 rp0 => ?_⟩
  walk_at "rd"
  intro da nda
  have oda := hK1.new_out nda
  have ndaH : H da = none := st1.back hK1 nda
  have x2 : Ex H1 (upd H1 da (.dK [])) := Ex.new nda
  walk_at "rd"
  refine ⟨upd_same, [(Sum.inl ((n0 : Nat) : Int), .str "")], rfl, (by show 1 ≤ 15; decide), ?_⟩
  have x3 : Ex H1 (upd (upd H1 da (.dK [])) da (.dK (mergeK [] [(Sum.inl ((n0 : Nat) : Int), .str "")]))) := (Ex.refl _).mut nda |>.mut nda
  have eda : upd (upd H1 da (.dK [])) da (.dK (mergeK [] [(Sum.inl ((n0 : Nat) : Int), .str "")])) da = some (.dK (kvR [(n0, [])])) := upd_same
  generalize upd (upd H1 da (.dK [])) da _ = H2 at *
  clear x2
  have hK2 := hK1.ex x3
  have st2 := st1.exx x3
  walk_at "rd"
  intro wa nwa
  have owa := hK2.new_out nwa
  have nwaH : H wa = none := st2.back hK2 nwa
  have dw : da ≠ wa := ne_of_none eda nwa
  have x4 := Ex.new (o := .lst [.int (n0 : Nat)]) nwa
  have ewa : upd H2 wa (.lst [.int (n0 : Nat)]) wa = some (.lst (natsV [n0])) := upd_same
  have eda4 := x4 _ _ eda
  have hK3 := hK2.ex x4
  have st3 := st2.exx x4
  generalize upd H2 wa _ = H3 at *
  walk_at "rd"
  obtain ⟨R, hR⟩ : ∃ R : List NR → List RK → KTab → List Addr → Hp → Prop, ∀ L E t' Ls' G, R L E t' Ls' G ↔ (KS P w T.a_Kinds k Ls' G t' ∧ Stp k Ls H t Ls' G t' ∧ da ∉ Ls' ∧ wa ∉ Ls' ∧ G da = some (.dK (kvR L)) ∧ G wa = some (.lst (natsV (L.map (·.1)))) ∧ RL t' m d L E) := ⟨_, fun _ _ _ _ _ => Iff.rfl⟩
  obtain ⟨Pv, hPv⟩ : ∃ Pv : Nat → L2.St → Hp → Prop, ∀ mz σ G, Pv mz σ G ↔ ∃ (i : Nat) (L : List NR) (t' : KTab) (Ls' : List Addr) (o7 o8 o9 : Option V), mz = cnt m d - i ∧ i ≤ cnt m d ∧ σ = [some (.ref k.x), some (.int (m : Nat)), some (.int (d : Nat)), some (.int (n0 : Nat)), some (.ref da), some (.ref wa), some (.int (i : Nat)), o7, o8, o9] ∧ R L (runK m d i) t' Ls' G := ⟨_, fun _ _ _ => Iff.rfl⟩
  refine ⟨Pv, ⟨_, (hPv _ _ _).mpr ⟨0, [(n0, [])], t1, Ls1, _, _, _, rfl, Nat.zero_le _, rfl, (hR _ _ _ _ _).mpr ⟨hK3, st3, oda.2.2, owa.2.2, eda4, ewa, ⟨rfl, fun p hp => by rw [List.mem_singleton.mp hp]; exact rp0⟩⟩⟩⟩, ?_⟩
  rintro mz σ G h
  obtain ⟨i, L, t', Ls', o7, o8, o9, rfl, hi, rfl, hRR⟩ := (hPv _ _ _).mp h
  obtain ⟨hKi, sti, fda, fwa, gda, gwa, hRL⟩ := (hR _ _ _ _ _).mp hRR
  have hll := hRL.len
  have hlen := run_len hS hi
  walk_at "rd"
  refine iteD (fun lt => ?_) (fun nlt => ?_)
  · have hi2 : i < cnt m d := (run_more hS hi).mp (by rw [natsV_len, List.length_map] at lt; omega)
    obtain ⟨n, hn, rpn⟩ := hRL.at ((run_more hS hi).mpr hi2)
    refine ⟨fun σ' G' => ∃ m', m' < cnt m d - i ∧ Pv m' σ' G', fun _ _ h => h, ?_⟩
    walk_at "rd"
    refine ⟨wa, _, _, _, rfl, rfl, SqL.of gwa, atI_nat (nats_at hn), ?_⟩
    walk_at "rd"
    refine ⟨m, (), (), rfl, hS.2.1, ?_⟩
    have ei : ((i : Nat) : Int) + 1 = ((i + 1 : Nat) : Int) := by omega
    have hrow := run_row hS hi2
    have horow := SC.of hrow
    generalize hu2 : rowAt (runK m d i) i = u at *
    have hmem : (n, u) ∈ L := List.mem_of_getElem? hn
    walk_at "rd"
    obtain ⟨Pj, hPj⟩ : ∃ Pj : Nat → L2.St → Hp → Prop, ∀ j σ G, Pj j σ G ↔ ∃ (L : List NR) (t' : KTab) (Ls' : List Addr) (o8 o9 : Option V), σ = [some (.ref k.x), some (.int (m : Nat)), some (.int (d : Nat)), some (.int (n0 : Nat)), some (.ref da), some (.ref wa), some (.int ((i + 1 : Nat) : Int)), some (.int (n : Nat)), o8, o9] ∧ R L (stgK m d i j) t' Ls' G ∧ (n, u) ∈ L := ⟨_, fun _ _ _ => Iff.rfl⟩
    refine for_str Pj ((hPj _ _ _).mpr ⟨L, t', Ls', _, _, by rw [← ei]; rfl, (hR _ _ _ _ _).mpr ⟨hKi, sti, fda, fwa, gda, gwa, hRL⟩, hmem⟩) (fun j c σ G hc h => ?_) (fun σ G h => ?_)
    · obtain ⟨L, t', Ls', o8, o9, rfl, hRR, hmem⟩ := (hPj _ _ _).mp h
      obtain ⟨hKi, sti, fda, fwa, gda, gwa, hRL⟩ := (hR _ _ _ _ _).mp hRR
      obtain ⟨hgood, _⟩ := stgK_good m d i j
      have hll := hRL.len
      have hle := stgK_le m d i j
      have hlen := run_len hS (i := i + 1) (by omega)
      have hcc : (lets4 m)[j]? = some c := by
        have : (lets4 m).toArray[j]? = some c := hc
        simpa using this
      have hcm := List.mem_of_getElem? hcc
      have hcb := mem_lets4.mp hcm
      have hlc : u.length ≤ 60 := hKi.sub.len _ (by have := hKi.sub.tak _ (hkv.2 u hrow c hcm) u.length; rwa [List.take_left] at this)
      have hs2 := stgK_succ (d := d) (i := i) hcc
      rw [hu2] at hs2
      obtain ⟨dx, hins⟩ := hKi.ins
      walk_at "rd"
      refine ⟨k.x, dx, _, rfl, hins, rfl, ?_⟩
      walk_at "rd"
      refine ⟨k, Ls', t', n, d, c, u, rfl, hKi, by omega, hkv.1, hRL.rep _ hmem, hkv.2 u hrow c hcm, fun n2 t2 Ls2 G2 hK2 st2 rp2 => ?_⟩
      have gda2 := st2.old _ _ oda.1 gda
      have gwa2 := st2.old _ _ owa.1 gwa
      have fda2 := st2.fresh fda (by rw [gda]; exact nofun)
      have fwa2 := st2.fresh fwa (by rw [gwa]; exact nofun)
      have hRL2 := hRL.up st2.grows
      have sti2 := Stp.trans hKi sti st2
      have hany := hRL2.any hK2.tok hS hgood (horow.snoc hcb.1 hcb.2) rp2
      walk_at "rd"
      by_cases old : ∃ p ∈ L, p.1 = n2
      · obtain ⟨p, hp, ep⟩ := old
        have hv := kvR_some (RL.nodup hK2.tok hS hRL2 hgood) (show (n2, p.2) ∈ L by rw [← ep]; exact hp)
        refine ⟨da, _, rfl, .inl ⟨_, _, .inl gda2, rfl, hv.symm⟩, ?_⟩
        walk_at "rd"
        refine (hPj _ _ _).mpr ⟨L, t2, Ls2, _, _, rfl, (hR _ _ _ _ _).mpr ⟨hK2, sti2, fda2, fwa2, gda2, gwa2, ?_⟩, hmem⟩
        rw [hs2, addK_yes (hany.mpr ⟨p, hp, ep⟩)]
        exact hRL2
      · have hno : ∀ p ∈ L, p.1 ≠ n2 := fun p hp e => old ⟨p, hp, e⟩
        have hv := kvR_none hno
        have hvu := kvR_some (RL.nodup hK2.tok hS hRL2 hgood) hmem
        have hanyf : ((stgK m d i j).any fun p => p.2 == kind m d (u ++ [c])) = false := by
          cases z : (stgK m d i j).any fun p => p.2 == kind m d (u ++ [c]) with
          | false => rfl
          | true => exact absurd (hany.mp z) old
        refine ⟨da, _, rfl, .inl ⟨_, _, .inl gda2, rfl, hv.symm⟩, ?_⟩
        walk_at "rd"
        refine ⟨da, _, rfl, .inl ⟨_, _, .inl gda2, rfl, hvu.symm⟩, ?_⟩
        walk_at "rd"
        have lu : (strOf u).length = u.length := by have := codes_len (strOf u); rw [codes_strOf] at this; exact this.symm
        have l1 : (⟨#[c]⟩ : Str).length = 1 := rfl
        refine ⟨Nat.le_trans (by rw [lu, l1]; omega : _ ≤ 100) (by decide), ?_⟩
        have ez : strOf u ++ (⟨#[c]⟩ : Str) = strOf (u ++ [c]) := by
          show (⟨u.toArray ++ #[c]⟩ : Str) = ⟨(u ++ [c]).toArray⟩
          simp
        rw [ez]
        walk_at "rd"
        have klen : (kvR L).length ≤ 100 := by unfold kvR; rw [List.length_map]; omega
        refine ⟨da, upd G2 da (.dK (putK (kvR L) (Sum.inl ((n2 : Nat) : Int)) (.str (strOf (u ++ [c]))))), rfl, .inl ⟨_, _, gda2, rfl, Nat.lt_of_le_of_lt klen (by decide), rfl⟩, ?_⟩
        rw [kvR_put hno]
        have hK3 := hK2.mut (o := .dK (kvR (L ++ [(n2, u ++ [c])]))) oda.1 oda.2.1 fda2 (fun ys q => by rw [gda2] at q; exact nomatch q)
        have st3 := sti2.mut (o := .dK (kvR (L ++ [(n2, u ++ [c])]))) ndaH
        have gda3 : upd G2 da (.dK (kvR (L ++ [(n2, u ++ [c])]))) da = some (.dK (kvR (L ++ [(n2, u ++ [c])]))) := upd_same
        have gwa3 : upd G2 da (.dK (kvR (L ++ [(n2, u ++ [c])]))) wa = some (.lst (natsV (L.map (·.1)))) := by rw [upd_ne (Ne.symm dw)]; exact gwa2
        generalize upd G2 da _ = G3 at *
        walk_at "rd"
        refine ⟨.inl ⟨rfl, _, SqL.of gwa3⟩, ?_⟩
        walk_at "rd"
        refine ⟨wa, _, _, rfl, rfl, gwa3, Nat.lt_of_le_of_lt (by rw [natsV_len, List.length_map]; omega : _ ≤ 100) (by decide), ?_⟩
        refine (hPj _ _ _).mpr ⟨L ++ [(n2, u ++ [c])], t2, Ls2, _, _, rfl, (hR _ _ _ _ _).mpr ⟨hK3.mut owa.1 owa.2.1 fwa2 (fun ys q => by rw [gwa3] at q; exact nomatch q), st3.mut nwaH, fda2, fwa2, ?_, ?_, ?_⟩, List.mem_append.mpr (.inl hmem)⟩
        · rw [upd_ne dw]; exact gda3
        · rw [upd_same, natsV_snoc, List.map_append]; rfl
        · rw [hs2]
          exact hRL2.add rp2 hanyf
    · obtain ⟨L, t', Ls', o8, o9, rfl, hRR, hmem⟩ := (hPj _ _ _).mp h
      have el : (strOf (lets4 m)).cps.size = (lets4 m).length := by show (lets4 m).toArray.size = _; simp
      rw [el, stgK_all] at hRR
      exact ⟨cnt m d - (i + 1), by omega, (hPv _ _ _).mpr ⟨i + 1, L, t', Ls', _, _, _, rfl, by omega, rfl, hRR⟩⟩
  · have hic : i = cnt m d := by
      have : ¬ i < L.length := fun z => nlt (by rw [natsV_len, List.length_map]; omega)
      have := (run_more hS hi).mpr
      omega
    subst hic
    walk_at "rd"
    exact q da L t' Ls' G hKi sti ndaH oda.1 fda gda hRL

end
end Lw
end

section
set_option Elab.async false
set_option linter.all false
set_option maxRecDepth 100000
set_option maxHeartbeats 4000000
set_option pp.maxSteps 300
set_option pp.deepTerms false
namespace Lw
open PySem L2 Evl M
open PyProof.Rows hiding St
local macro_rules | `(tactic| walk_at "at") => `(tactic| first | assumption | exact upd_same)
local macro_rules | `(tactic| walk_at "sq") => `(tactic| first | assumption | exact SqL.of (by walk_at "at") | exact SqT.of (by walk_at "at"))
local macro_rules | `(tactic| walk_at "sd") => `(tactic| first | assumption | exact Names.size (by assumption) | omega | decide | exact Nat.le_of_ble_eq_true rfl | exact Or.inl ⟨by decide, by decide⟩ | exact wide_div (b := 200) (by first | assumption | decide) (by first | assumption | decide) (by decide) (by decide) | exact pow_w 10 (by decide) (by decide) (by decide) (by decide))
local macro_rules | `(tactic| walk_at "r1") => `(tactic| first
  | refine ⟨_, rfl, ?_⟩
  | refine ⟨_, _, rfl, rfl, ?_⟩
  | refine And.intro rfl ?_
  | refine ⟨_, _, _, _, rfl, rfl, (by walk_at "sq"), rfl, ?_⟩
  | refine ⟨_, _, _, _, rfl, rfl, (by walk_at "at"), rfl, ?_⟩
  | refine ⟨_, _, rfl, Or.inl (by walk_at "sq"), ?_⟩
  | refine ⟨_, _, rfl, Or.inr (by walk_at "sq"), ?_⟩
  | refine ⟨_, _, rfl, ?_⟩
  | refine Or.inl ⟨_, rfl, ?_⟩
  | refine And.intro (by walk_at "sd") ?_)
local macro_rules | `(tactic| walk_at "rd") => `(tactic| try (walk_at "r1"; walk_at "rd"))
section
variable {P : Program} {w : World} {K : PySem.W.Frag} {mg : Str → Option Value} {base : Heap}
theorem ok_least_rows (T : Tx w K mg) (G_check_scope : FnOk P w K mg base CX0 1 T.a_check_scope T.d_check_scope ["many", "depth"] sp_check_scope)
    (G_Kinds___init__ : FnOk P w K mg base CX0 1 T.a_Kinds___init__ T.d_Kinds___init__ ["self"] (sp_kinit P w T.a_Kinds))
    (G_rows_by_kind : FnOk P w K mg base CX0 13 T.a_rows_by_kind T.d_rows_by_kind ["kinds", "many", "depth"] (sp_rbk P w T.a_Kinds)) :
    FnOk P w K mg base CX0 14 T.a_least_rows T.d_least_rows ["many", "depth"] sp_least_rows := by
  refine T.F_least_rows.ok sc_least_rows (fun vs H Q E h => ?_) (fun cdv A outer s H vs Q E hr h => ?_)
  · obtain ⟨_, _, _, rfl, _⟩ := h
    rfl
  obtain ⟨m, d, _, rfl, hS, k⟩ := h
  refine ⟨_, (pss_cons (ps_expr (pe_call G_check_scope (hr.mono (by omega)) (by rfl) T.g_check_scope T.F_check_scope.kp T.b_check_scope .nil pass0 (pa_cons (pv 0) (pa_cons (pv 1) pa_nil))))
   (pss_one (ps_ret (M.pe_listVals rfl (by rfl) T.b_list (pe_call G_rows_by_kind (hr.mono (by omega)) (by rfl) T.g_rows_by_kind T.F_rows_by_kind.kp T.b_rows_by_kind .nil pass0 (pa_cons (pe_make0 T.M_Kinds G_Kinds___init__ (hr.mono (by omega)) (by rfl) T.g_Kinds T.b_Kinds___init__ .nil pass0) (pa_cons (pv 0) (pa_cons (pv 1) pa_nil)))))))), ?_⟩
  walk_at "rd"
  refine ⟨m, d, (), rfl, hS, ?_⟩
  walk_at "rd"
  intro x dx nx ndx ne
  have x2 : Ex H (upd (upd H dx (.own x)) x (.ins T.a_Kinds dx [])) := (Ex.new ndx).trans (Ex.new (by rw [upd_ne (Ne.symm ne)]; exact nx))
  have hx : upd (upd H dx (.own x)) x (.ins T.a_Kinds dx []) x = some (.ins T.a_Kinds dx []) := upd_same
  generalize upd (upd H dx (.own x)) x (.ins T.a_Kinds dx []) = H2 at *
  refine ⟨x, dx, subsAll ([] :: scRows m d), 8, rfl, hx, sub_scope hS (by decide) (fun c hc => nomatch hc), fun A H3 hK old al => ?_⟩
  have x3 : Ex H H3 := fun b o e => old b o (ne_of_none e nx) (x2 b o e)
  have fin : ∀ {t' Ls' H4}, Stp ⟨subsAll ([] :: scRows m d), 8, x, A⟩ [] H3 [(0, [])] Ls' H4 t' → Ex H H4 := fun st b' o e => st.old b' o (fun h => nomatch e.symm.trans (fresh_back x2 (al b' h))) (x3 b' o e)
  refine ⟨rfl, ?_⟩
  walk_at "rd"
  refine ⟨⟨subsAll ([] :: scRows m d), 8, x, A⟩, [], _, m, d, rfl, hK, hS, sc_kvOk hS, fun a L t' Ls' H4 hK4 st4 na oa fa ea hRL => ?_⟩
  walk_at "rd"
  refine ⟨a, _, rfl, ea, fun q nq => ?_⟩
  have x4 := fin st4
  walk_at "rd"
  refine k q _ (x4.trans (Ex.new nq)) (fresh_back x4 nq) ?_
  rw [upd_same, kvR_vals, hRL.rows]
  rfl

end
end Lw
end

section
set_option Elab.async false
set_option linter.all false
set_option maxRecDepth 100000
set_option maxHeartbeats 4000000
set_option pp.maxSteps 300
set_option pp.deepTerms false
namespace Lw
open PySem L2 Evl M
open PyProof.Rows hiding St
local macro_rules | `(tactic| walk_at "at") => `(tactic| first | assumption | exact upd_same)
local macro_rules | `(tactic| walk_at "sq") => `(tactic| first | assumption | exact SqL.of (by walk_at "at") | exact SqT.of (by walk_at "at"))
local macro_rules | `(tactic| walk_at "sd") => `(tactic| first | assumption | exact Names.size (by assumption) | omega | decide | exact Nat.le_of_ble_eq_true rfl | exact Or.inl ⟨by decide, by decide⟩ | exact wide_div (b := 200) (by first | assumption | decide) (by first | assumption | decide) (by decide) (by decide) | exact pow_w 10 (by decide) (by decide) (by decide) (by decide))
local macro_rules | `(tactic| walk_at "r1") => `(tactic| first
  | refine ⟨_, rfl, ?_⟩
  | refine ⟨_, _, rfl, rfl, ?_⟩
  | refine And.intro rfl ?_
  | refine ⟨_, _, _, _, rfl, rfl, (by walk_at "sq"), rfl, ?_⟩
  | refine ⟨_, _, _, _, rfl, rfl, (by walk_at "at"), rfl, ?_⟩
  | refine ⟨_, _, rfl, Or.inl (by walk_at "sq"), ?_⟩
  | refine ⟨_, _, rfl, Or.inr (by walk_at "sq"), ?_⟩
  | refine ⟨_, _, rfl, ?_⟩
  | refine Or.inl ⟨_, rfl, ?_⟩
  | refine And.intro (by walk_at "sd") ?_)
local macro_rules | `(tactic| walk_at "rd") => `(tactic| try (walk_at "r1"; walk_at "rd"))
section
variable {P : Program} {w : World} {K : PySem.W.Frag} {mg : Str → Option Value} {base : Heap}
theorem ok_kind_count (T : Tx w K mg) (G_least_rows : FnOk P w K mg base CX0 14 T.a_least_rows T.d_least_rows ["many", "depth"] sp_least_rows) :
    FnOk P w K mg base CX0 15 T.a_kind_count T.d_kind_count ["many", "depth"] sp_kind_count := by
  refine T.F_kind_count.ok sc_kind_count (fun vs H Q E h => ?_) (fun cdv A outer s H vs Q E hr h => ?_)
  · obtain ⟨_, _, _, rfl, _⟩ := h
    rfl
  obtain ⟨m, d, _, rfl, hS, k⟩ := h
  refine ⟨_, (pss_one (ps_ret (pe_callB call_len_seq (by rfl) T.b_len (by decide +kernel) (pa_cons (pe_call G_least_rows (hr.mono (by omega)) (by rfl) T.g_least_rows T.F_least_rows.kp T.b_least_rows .nil pass0 (pa_cons (pv 0) (pa_cons (pv 1) pa_nil))) pa_nil)))), ?_⟩
  walk_at "rd"
  refine ⟨m, d, (), rfl, hS, fun a H' x na ea => ?_⟩
  walk_at "rd"
  rw [List.length_map, sc_len hS]
  exact k H' x

end
end Lw
end

section
set_option Elab.async false
set_option linter.all false
set_option maxRecDepth 100000
set_option maxHeartbeats 4000000
set_option pp.maxSteps 300
set_option pp.deepTerms false
namespace Lw
open PySem L2 Evl M
open PyProof.Rows hiding St
local macro_rules | `(tactic| walk_at "at") => `(tactic| first | assumption | exact upd_same)
local macro_rules | `(tactic| walk_at "sq") => `(tactic| first | assumption | exact SqL.of (by walk_at "at") | exact SqT.of (by walk_at "at"))
local macro_rules | `(tactic| walk_at "sd") => `(tactic| first | assumption | exact Names.size (by assumption) | omega | decide | exact Nat.le_of_ble_eq_true rfl | exact Or.inl ⟨by decide, by decide⟩ | exact wide_div (b := 200) (by first | assumption | decide) (by first | assumption | decide) (by decide) (by decide) | exact pow_w 10 (by decide) (by decide) (by decide) (by decide))
local macro_rules | `(tactic| walk_at "r1") => `(tactic| first
  | refine ⟨_, rfl, ?_⟩
  | refine ⟨_, _, rfl, rfl, ?_⟩
  | refine And.intro rfl ?_
  | refine ⟨_, _, _, _, rfl, rfl, (by walk_at "sq"), rfl, ?_⟩
  | refine ⟨_, _, _, _, rfl, rfl, (by walk_at "at"), rfl, ?_⟩
  | refine ⟨_, _, rfl, Or.inl (by walk_at "sq"), ?_⟩
  | refine ⟨_, _, rfl, Or.inr (by walk_at "sq"), ?_⟩
  | refine ⟨_, _, rfl, ?_⟩
  | refine Or.inl ⟨_, rfl, ?_⟩
  | refine And.intro (by walk_at "sd") ?_)
local macro_rules | `(tactic| walk_at "rd") => `(tactic| try (walk_at "r1"; walk_at "rd"))
section
variable {P : Program} {w : World} {K : PySem.W.Frag} {mg : Str → Option Value} {base : Heap}
theorem ok__law_all_lines (T : Tx w K mg) : FnOk P w K mg base CX0 1 T.a__law_all_lines T.d__law_all_lines ["names", "longest"] sp_alines := by
  refine T.F__law_all_lines.ok sc__law_all_lines (fun vs H Q E h => ?_) (fun cdv A outer s H vs Q E hr h => ?_)
  · obtain ⟨_, _, _, rfl, _⟩ := h
    rfl
  obtain ⟨l, m, n, rfl, hl, hm, hn, k⟩ := h
  refine ⟨_, (pss_cons (ps_par (i := 2) (j := 3) (by rfl) sc__law_all_lines.nd rfl rfl (by decide) rfl rfl (pa_cons (pe_lst (pa_cons pe_str pa_nil)) (pa_cons (pe_lst (pa_cons pe_str pa_nil)) pa_nil)) (by rfl))
   (pss_cons (ps_for PassesOwn.never (by rfl) (pi_range1 (by rfl) T.b_range (pa_cons (pv 1) pa_nil)) (pg_name (i := 4) sc__law_all_lines.nd rfl (Or.inl rfl)) (pss_cons (ps_set (i := 5) sc__law_all_lines.nd rfl (Or.inl rfl) (pe_lst pa_nil))
   (pss_cons (ps_for PassesOwn.never (by rfl) (pi_list (pv 3)) (pg_name (i := 6) sc__law_all_lines.nd rfl (Or.inr rfl)) (pss_one (ps_expr (pe_bm PySem.F.plainAttrs_list PySem.F.slot_list_extend PySem.F.type_list_extend mt_extend (pv 5) (pa_cons (pe_lc (own := [("letter", 7)]) (g := gName 7) (tt := tYes) (by rfl) sc__law_all_lines.nd (pi_list (pv 0)) (blkOk_by (own := [("letter", 7)]) (N := ["names", "longest", "found", "latest", "turn", "longer", "line", "letter"]) (sc := defScope s__law_all_lines) (by decide +kernel)) (fun _ _ _ _ _ => (pg_name (i := 7) sc__law_all_lines.nd rfl (Or.inl rfl))) (fun _ _ _ _ _ => pts_nil) (fun _ _ _ _ _ => (pe_op op_add_str (pv 6) (pv 7)))) pa_nil)))))
   (pss_one (ps_par (i := 2) (j := 3) (by rfl) sc__law_all_lines.nd rfl rfl (by decide) rfl rfl (pa_cons (pe_op op_cat (pv 2) (pv 5)) (pa_cons (pv 5) pa_nil)) (by rfl))))))
   (pss_one (ps_ret (pv 2))))), ?_⟩
  walk_at "rd"
  intro fa nfa
  have x1 := Ex.new (o := .lst [.str ""]) nfa
  have e1 : upd H fa (.lst [.str ""]) fa = some (.lst (rowsV (allL m 0).1)) := upd_same
  generalize upd H fa (.lst [.str ""]) = H1 at *
  walk_at "rd"
  intro la nla
  have x2 := Ex.new (o := .lst [.str ""]) nla
  have e2 : upd H1 la (.lst [.str ""]) la = some (.lst (rowsV (allL m 0).2)) := upd_same
  have e12 := x2 _ _ e1
  generalize upd H1 la (.lst [.str ""]) = H2 at *
  walk_at "rd"
  have ln : longest m ≤ 16 := by unfold longest; split <;> (try split) <;> (try split) <;> omega
  refine ⟨r62b (by omega), ?_⟩
  have hw : ((n : Nat) : Int).toNat = n := Int.toNat_natCast n
  generalize Int.toNat _ = n1 at *
  subst hw
  obtain ⟨Pv, hPv⟩ : ∃ Pv : Nat → L2.St → Hp → Prop, ∀ j σ G, Pv j σ G ↔ ∃ (fa la : Addr) (o4 o5 o6 o7 : Option V), σ = [some (.ref l), some (.int (n1 : Nat)), some (.ref fa), some (.ref la), o4, o5, o6, o7] ∧ Ex H G ∧ H fa = none ∧ G fa = some (.lst (rowsV (allL m j).1)) ∧ G la = some (.lst (rowsV (allL m j).2)) := ⟨_, fun _ _ _ => Iff.rfl⟩
  refine for_range Pv ((hPv _ _ _).mpr ⟨fa, la, _, _, _, _, rfl, x1.trans x2, nfa, e12, e2⟩) (fun j σ G hj h => ?_) (fun σ G h => ?_)
  · obtain ⟨fa, la, o4, o5, o6, o7, rfl, xG, nf, ef, el⟩ := (hPv _ _ _).mp h
    have hj1 : j + 1 ≤ n1 := by have : j < n1 := hj; omega
    obtain ⟨f1, f2⟩ := allL_le hm (show j ≤ longest m by omega)
    obtain ⟨g1, g2⟩ := allL_le hm (show j + 1 ≤ longest m by omega)
    obtain ⟨s2, s1⟩ := allL_succ m j
    have hl1 := hl.up xG
    walk_at "rd"
    intro lo nlo
    have xlo := Ex.new (o := .lst []) nlo
    have elo : upd G lo (.lst []) lo = some (.lst (rowsV (grow m ((allL m j).2.take 0)))) := upd_same
    have fl : fa ≠ lo := ne_of_none ef nlo
    have ll : la ≠ lo := ne_of_none el nlo
    have lll : l ≠ lo := ne_of_none hl1.1 nlo
    walk_at "rd"
    refine ⟨⟨_, SqL.of (xlo _ _ el)⟩, ?_⟩
    obtain ⟨Pi, hPi⟩ : ∃ Pi : Nat → L2.St → Hp → Prop, ∀ i σ J, Pi i σ J ↔ ∃ (o4 o6 o7 : Option V), σ = [some (.ref l), some (.int (n1 : Nat)), some (.ref fa), some (.ref la), o4, some (.ref lo), o6, o7] ∧ Ex G J ∧ J lo = some (.lst (rowsV (grow m ((allL m j).2.take i)))) := ⟨_, fun _ _ _ => Iff.rfl⟩
    refine for_list (xs := rowsV (allL m j).2) Pi ((hPi _ _ _).mpr ⟨_, _, _, rfl, xlo, elo⟩) (fun i σ J hi h => ?_) (fun i x σ J hx h => ?_) (fun σ J h => ?_)
    · obtain ⟨_, _, _, rfl, xJ, _⟩ := (hPi _ _ _).mp h
      exact SqL.of (xJ _ _ el)
    · obtain ⟨o4, o6, o7, rfl, xJ, eJ⟩ := (hPi _ _ _).mp h
      obtain ⟨r, hr, rfl⟩ := rowsV_at hx
      have hrm := List.mem_of_getElem? hr
      have hrl := ((allL_of m j).2 r hrm).2
      have glen := grow_le (m := m) (i := i) (R := (allL m j).2)
      have hl2 := hl1.up xJ
      have lr : (strOf r).length + 1 ≤ 100 := by rw [strOf_len]; omega
      walk_at "rd"
      refine ⟨.inl ⟨rfl, _, SqL.of eJ⟩, ?_⟩
      walk_at "rd"
      refine ⟨⟨_, SqL.of hl2.1⟩, fun D nD => ?_⟩
      have loD : lo ≠ D := ne_of_none eJ nD
      have xD := Ex.new (o := .lst []) nD
      obtain ⟨Pk, hPk⟩ : ∃ Pk : Nat → Hp → Prop, ∀ a W, Pk a W ↔ Ex J W ∧ W D = some (.lst (rowsV (((lets4 m).take a).map fun c => r ++ [c]))) := ⟨_, fun _ _ => Iff.rfl⟩
      refine lc_list (xs := oneV (lets4 m)) Pk ((hPk _ _).mpr ⟨xD, upd_same⟩) (fun a W ha h => by
        obtain ⟨xW, _⟩ := (hPk _ _).mp h
        exact SqL.of (xW _ _ hl2.1)) (fun a x W hx h => ?_) (fun W h => ?_)
      · obtain ⟨xW, eW⟩ := (hPk _ _).mp h
        rw [oneV_rows] at hx
        obtain ⟨c', hc', rfl⟩ := rowsV_at hx
        rw [List.getElem?_map] at hc'
        obtain ⟨c, hc, rfl⟩ := Option.map_eq_some_iff.mp hc'
        walk_at "rd"
        refine ⟨Nat.le_trans (show (strOf r).length + (strOf [c]).length ≤ 100 from lr) (by decide), ?_⟩
        have e : strOf r ++ strOf [c] = strOf (r ++ [c]) := str_snoc r c
        rw [e]
        refine ⟨_, eW, ?_, (hPk _ _).mpr ⟨?_, ?_⟩⟩
        · rw [rowsV_len, List.length_map, List.length_take]
          exact Nat.lt_of_le_of_lt (by have : (lets4 m).length = m := by simp [lets4]
                                       omega : _ ≤ 100) (by decide)
        · exact fun b o eb => by rw [upd_ne (ne_of_none eb nD)]; exact xW b o eb
        · rw [upd_same, List.take_add_one, hc, List.map_append]
          show some (HO.lst (rowsV _ ++ rowsV [r ++ [c]])) = _
          rw [rowsV_app]
          rfl
      · obtain ⟨xW, eW⟩ := (hPk _ _).mp h
        rw [oneV_len, List.take_length] at eW
        have eJ2 := xW _ _ eJ
        walk_at "rd"
        refine ⟨lo, D, _, _, rfl, rfl, eJ2, eW, ?_, ?_⟩
        · rw [rowsV_len, rowsV_len, List.length_map]
          have : (lets4 m).length = m := by simp [lets4]
          refine Nat.le_trans (?_ : _ ≤ 700) (by decide)
          rw [s2] at g2
          omega
        · rw [rowsV_app, ← grow_take hr]
          refine (hPi _ _ _).mpr ⟨_, _, _, rfl, fun b o eb => ?_, upd_same⟩
          rw [upd_ne (ne_of_none eb nlo)]
          exact xW b o (xJ b o eb)
    · obtain ⟨o4, o6, o7, rfl, xJ, eJ⟩ := (hPi _ _ _).mp h
      rw [rowsV_len, List.take_length] at eJ
      walk_at "rd"
      refine ⟨fa, lo, _, _, rfl, rfl, xJ _ _ ef, eJ, ?_, fun q nq => ?_⟩
      · rw [rowsV_len, rowsV_len]
        rw [s1, List.length_append] at g1
        exact Nat.le_trans g1 (by decide)
      have xq := Ex.new (o := .lst (rowsV (allL m j).1 ++ rowsV (grow m (allL m j).2))) nq
      have eq : upd J q (.lst (rowsV (allL m j).1 ++ rowsV (grow m (allL m j).2))) q = some (.lst (rowsV (allL m (j + 1)).1)) := by rw [upd_same, rowsV_app, s1]
      walk_at "rd"
      exact (hPv _ _ _).mpr ⟨q, lo, _, _, _, _, rfl, (xG.trans xJ).trans xq, fresh_back (xG.trans xJ) nq, eq, by rw [s2]; exact xq _ _ eJ⟩
  · obtain ⟨fa, la, o4, o5, o6, o7, rfl, xG, nf, ef, el⟩ := (hPv _ _ _).mp h
    walk_at "rd"
    exact k fa G xG nf ef

end
end Lw
end

section
set_option Elab.async false
set_option linter.all false
set_option maxRecDepth 100000
set_option maxHeartbeats 4000000
set_option pp.maxSteps 300
set_option pp.deepTerms false
namespace Lw
open PySem L2 Evl M
open PyProof.Rows hiding St
local macro_rules | `(tactic| walk_at "at") => `(tactic| first | assumption | exact upd_same)
local macro_rules | `(tactic| walk_at "sq") => `(tactic| first | assumption | exact SqL.of (by walk_at "at") | exact SqT.of (by walk_at "at"))
local macro_rules | `(tactic| walk_at "sd") => `(tactic| first | assumption | exact Names.size (by assumption) | omega | decide | exact Nat.le_of_ble_eq_true rfl | exact Or.inl ⟨by decide, by decide⟩ | exact wide_div (b := 200) (by first | assumption | decide) (by first | assumption | decide) (by decide) (by decide) | exact pow_w 10 (by decide) (by decide) (by decide) (by decide))
local macro_rules | `(tactic| walk_at "r1") => `(tactic| first
  | refine ⟨_, rfl, ?_⟩
  | refine ⟨_, _, rfl, rfl, ?_⟩
  | refine And.intro rfl ?_
  | refine ⟨_, _, _, _, rfl, rfl, (by walk_at "sq"), rfl, ?_⟩
  | refine ⟨_, _, _, _, rfl, rfl, (by walk_at "at"), rfl, ?_⟩
  | refine ⟨_, _, rfl, Or.inl (by walk_at "sq"), ?_⟩
  | refine ⟨_, _, rfl, Or.inr (by walk_at "sq"), ?_⟩
  | refine ⟨_, _, rfl, ?_⟩
  | refine Or.inl ⟨_, rfl, ?_⟩
  | refine And.intro (by walk_at "sd") ?_)
local macro_rules | `(tactic| walk_at "rd") => `(tactic| try (walk_at "r1"; walk_at "rd"))
section
variable {P : Program} {w : World} {K : PySem.W.Frag} {mg : Str → Option Value} {base : Heap}
theorem ok__law_scope (T : Tx w K mg) (G__law_draw : FnOk P w K mg base CX0 1 T.a__law_draw T.d__law_draw ["pool", "span"] sp_draw) :
    FnOk P w K mg base CX0 2 T.a__law_scope T.d__law_scope ["pool"] sp_lscope := by
  refine T.F__law_scope.ok sc__law_scope (fun vs H Q E h => ?_) (fun cdv A outer s H vs Q E hr h => ?_)
  · obtain ⟨_, _, _, rfl, _⟩ := h
    rfl
  obtain ⟨H0, p, k0, rfl, hP, hk, k⟩ := h
  refine ⟨_, (pss_cons (ps_set (i := 1) sc__law_scope.nd rfl (Or.inl rfl) (pe_call G__law_draw (hr.mono (by omega)) (by rfl) T.g__law_draw T.F__law_draw.kp T.b__law_draw .nil pass0 (pa_cons (pv 0) (pa_cons pe_int pa_nil))))
   (pss_cons (ps_set (i := 2) sc__law_scope.nd rfl (Or.inl rfl) (pe_lst (pa_cons (pe_tup (pa_cons (pe_lst (pa_cons pe_str pa_nil)) (pa_cons (pv 1) (pa_cons pe_int pa_nil)))) (pa_cons (pe_tup (pa_cons (pe_lst (pa_cons pe_str (pa_cons pe_str pa_nil))) (pa_cons (pe_callB (call_min2 (by rfl)) (by rfl) T.b_min (by decide +kernel) (pa_cons (pv 1) (pa_cons pe_int pa_nil))) (pa_cons pe_int pa_nil)))) (pa_cons (pe_tup (pa_cons (pe_lst (pa_cons pe_str (pa_cons pe_str (pa_cons pe_str pa_nil)))) (pa_cons (pe_callB (call_min2 (by rfl)) (by rfl) T.b_min (by decide +kernel) (pa_cons (pv 1) (pa_cons pe_int pa_nil))) (pa_cons pe_int pa_nil)))) pa_nil)))))
   (pss_one (ps_ret (pe_ix ix_list (pe_op op_cat (pv 2) (pe_lst (pa_cons (pe_tup (pa_cons (pe_lst (pa_cons pe_str (pa_cons pe_str (pa_cons pe_str (pa_cons pe_str pa_nil))))) (pa_cons (pe_callB (call_min2 (by rfl)) (by rfl) T.b_min (by decide +kernel) (pa_cons (pv 1) (pa_cons pe_int pa_nil))) (pa_cons pe_int pa_nil)))) pa_nil))) (pe_call G__law_draw (hr.mono (by omega)) (by rfl) T.g__law_draw T.F__law_draw.kp T.b__law_draw .nil pass0 (pa_cons (pv 0) (pa_cons pe_int pa_nil))) (fun _ _ => rfl)))))), ?_⟩
  walk_at "rd"
  refine ⟨H0, p, k0, 5, rfl, hP, by omega, by decide, by decide, fun v1 H1 v0 v2 hP1 _ => ?_⟩
  obtain ⟨d, rfl⟩ : ∃ d : Nat, v1 = d := ⟨v1.toNat, by omega⟩
  walk_at "rd"
  have d4 : d ≤ 4 := by omega
  intro l1 n1
  obtain ⟨hP2, x1, e1⟩ := hP1.new (o := .lst [.str "a"]) n1
  generalize upd H1 l1 _ = H2 at *
  generalize upd H0 l1 _ = B1 at *
  walk_at "rd"
  intro t1 m1
  obtain ⟨hP3, x2, f1⟩ := hP2.new (o := .tup [.ref l1, .int ((d : Nat) : Int), .int 16]) m1
  generalize upd H2 t1 _ = H3 at *
  generalize upd B1 t1 _ = B2 at *
  have d2 : (if (2 : Int) < ((d : Nat) : Int) then (2 : Int) else ((d : Nat) : Int)) = ((min d 2 : Nat) : Int) := by split <;> omega
  have d1 : (if (1 : Int) < ((d : Nat) : Int) then (1 : Int) else ((d : Nat) : Int)) = ((min d 1 : Nat) : Int) := by split <;> omega
  walk_at "rd"
  intro l2 n2
  obtain ⟨hP4, x3, e2⟩ := hP3.new (o := .lst [.str "a", .str "b"]) n2
  generalize upd H3 l2 _ = H4 at *
  generalize upd B2 l2 _ = B3 at *
  walk_at "rd"
  rw [d2]
  intro t2 m2
  obtain ⟨hP5, x4, f2⟩ := hP4.new (o := .tup [.ref l2, .int ((min d 2 : Nat) : Int), .int 8]) m2
  generalize upd H4 t2 _ = H5 at *
  generalize upd B3 t2 _ = B4 at *
  walk_at "rd"
  intro l3 n3
  obtain ⟨hP6, x5, e3⟩ := hP5.new (o := .lst [.str "a", .str "b", .str "c"]) n3
  generalize upd H5 l3 _ = H6 at *
  generalize upd B4 l3 _ = B5 at *
  walk_at "rd"
  rw [d1]
  intro t3 m3
  obtain ⟨hP7, x6, f3⟩ := hP6.new (o := .tup [.ref l3, .int ((min d 1 : Nat) : Int), .int 3]) m3
  generalize upd H6 t3 _ = H7 at *
  generalize upd B5 t3 _ = B6 at *
  walk_at "rd"
  intro q1 u1
  obtain ⟨hP8, x7, g1⟩ := hP7.new (o := .lst [.ref t1, .ref t2, .ref t3]) u1
  generalize upd H7 q1 _ = H8 at *
  generalize upd B6 q1 _ = B7 at *
  walk_at "rd"
  intro l4 n4
  obtain ⟨hP9, x8, e4⟩ := hP8.new (o := .lst [.str "a", .str "b", .str "c", .str "d"]) n4
  generalize upd H8 l4 _ = H9 at *
  generalize upd B7 l4 _ = B8 at *
  walk_at "rd"
  rw [d1]
  intro t4 m4
  obtain ⟨hP10, x9, f4⟩ := hP9.new (o := .tup [.ref l4, .int ((min d 1 : Nat) : Int), .int 4]) m4
  generalize upd H9 t4 _ = H10 at *
  generalize upd B8 t4 _ = B9 at *
  walk_at "rd"
  intro q2 u2
  obtain ⟨hP11, x10, g2⟩ := hP10.new (o := .lst [.ref t4]) u2
  generalize upd H10 q2 _ = H11 at *
  generalize upd B9 q2 _ = B10 at *
  walk_at "rd"
  refine ⟨q1, q2, _, _, rfl, rfl, hP11.ex _ _ (x10 _ _ (x9 _ _ (x8 _ _ g1))), hP11.ex _ _ g2, Nat.le_trans (Nat.le_of_ble_eq_true rfl : _ ≤ 100) (by decide), fun q3 u3 => ?_⟩
  obtain ⟨hP12, x11, g3⟩ := hP11.new (o := .lst ([.ref t1, .ref t2, .ref t3] ++ [.ref t4])) u3
  generalize upd H11 q3 _ = H12 at *
  generalize upd B10 q3 _ = B11 at *
  walk_at "rd"
  refine ⟨B11, p, _, 4, rfl, hP12, by omega, by decide, by decide, fun kc H13 c0 c1 hP13 _ => ?_⟩
  have z4 : Ex B8 B11 := (x9.trans x10).trans x11
  have z3 : Ex B5 B11 := ((x6.trans x7).trans x8).trans z4
  have z2 : Ex B3 B11 := (x4.trans x5).trans z3
  have z1 : Ex B1 B11 := (x2.trans x3).trans z2
  have w0 : Ex H0 B11 := x1.trans z1
  have w4 := (x10.trans x11) _ _ f4
  have w3 := (((x7.trans x8).trans x9).trans (x10.trans x11)) _ _ f3
  have w2 := ((((x5.trans x6).trans x7).trans x8).trans (x9.trans (x10.trans x11))) _ _ f2
  have w1 := ((((x3.trans x4).trans x5).trans x6).trans (((x7.trans x8).trans x9).trans (x10.trans x11))) _ _ f1
  have g := hP13.ex _ _ g3
  rcases (by omega : kc = 0 ∨ kc = 1 ∨ kc = 2 ∨ kc = 3) with rfl | rfl | rfl | rfl
  · refine ⟨_, _, _, _, rfl, rfl, SqL.of g, rfl, ?_⟩
    exact k t1 l1 1 d B11 H13 w0 (hP13.mono (by omega)) ⟨by decide, by decide, d4⟩ w1 ⟨z1 _ _ e1, by decide, by decide⟩
  · refine ⟨_, _, _, _, rfl, rfl, SqL.of g, rfl, ?_⟩
    exact k t2 l2 2 (min d 2) B11 H13 w0 (hP13.mono (by omega)) ⟨by decide, by decide, show min d 2 ≤ 2 by omega⟩ w2 ⟨z2 _ _ e2, by decide, by decide⟩
  · refine ⟨_, _, _, _, rfl, rfl, SqL.of g, rfl, ?_⟩
    exact k t3 l3 3 (min d 1) B11 H13 w0 (hP13.mono (by omega)) ⟨by decide, by decide, show min d 1 ≤ 1 by omega⟩ w3 ⟨z3 _ _ e3, by decide, by decide⟩
  · refine ⟨_, _, _, _, rfl, rfl, SqL.of g, rfl, ?_⟩
    exact k t4 l4 4 (min d 1) B11 H13 w0 (hP13.mono (by omega)) ⟨by decide, by decide, show min d 1 ≤ 1 by omega⟩ w4 ⟨z4 _ _ e4, by decide, by decide⟩

end
end Lw
end

section
set_option Elab.async false
set_option linter.all false
set_option maxRecDepth 100000
set_option maxHeartbeats 4000000
set_option pp.maxSteps 300
set_option pp.deepTerms false
namespace Lw
open PySem L2 Evl M
open PyProof.Rows hiding St
local macro_rules | `(tactic| walk_at "at") => `(tactic| first | assumption | exact upd_same)
local macro_rules | `(tactic| walk_at "sq") => `(tactic| first | assumption | exact SqL.of (by walk_at "at") | exact SqT.of (by walk_at "at"))
local macro_rules | `(tactic| walk_at "sd") => `(tactic| first | assumption | exact Names.size (by assumption) | omega | decide | exact Nat.le_of_ble_eq_true rfl | exact Or.inl ⟨by decide, by decide⟩ | exact wide_div (b := 200) (by first | assumption | decide) (by first | assumption | decide) (by decide) (by decide) | exact pow_w 10 (by decide) (by decide) (by decide) (by decide))
local macro_rules | `(tactic| walk_at "r1") => `(tactic| first
  | refine ⟨_, rfl, ?_⟩
  | refine ⟨_, _, rfl, rfl, ?_⟩
  | refine And.intro rfl ?_
  | refine ⟨_, _, _, _, rfl, rfl, (by walk_at "sq"), rfl, ?_⟩
  | refine ⟨_, _, _, _, rfl, rfl, (by walk_at "at"), rfl, ?_⟩
  | refine ⟨_, _, rfl, Or.inl (by walk_at "sq"), ?_⟩
  | refine ⟨_, _, rfl, Or.inr (by walk_at "sq"), ?_⟩
  | refine ⟨_, _, rfl, ?_⟩
  | refine Or.inl ⟨_, rfl, ?_⟩
  | refine And.intro (by walk_at "sd") ?_)
local macro_rules | `(tactic| walk_at "rd") => `(tactic| try (walk_at "r1"; walk_at "rd"))
section
variable {P : Program} {w : World} {K : PySem.W.Frag} {mg : Str → Option Value} {base : Heap}
theorem ok__law_kind (T : Tx w K mg) : ∀ f : Nat, FnOk P w K mg base CX0 (f + 1) T.a__law_kind T.d__law_kind ["line", "deep", "known"] (sp_lkind P w f) := by
  intro f
  induction f with
  | zero => exact fn_void fun vs H Q E ⟨_, _, _, _, _, _, _, _, _, h, _⟩ => by omega
  | succ f ih =>
  have G__law_kind := ih
  refine T.F__law_kind.ok sc__law_kind (fun vs H Q E h => ?_) (fun cdv A outer s H vs Q E hr h => ?_)
  · obtain ⟨_, _, _, _, _, _, _, rfl, _⟩ := h
    rfl
  obtain ⟨S, D, e, u, kd, z, d, rfl, hK, hf, hdD, hzS, hlo, q⟩ := h
  refine ⟨_, (pss_cons (ps_if (pt_cmpR op_eq (pv 1) pe_int (nomark _)) (pss_one (ps_ret pe_int)) pss_nil)
   (pss_cons (ps_if (pt_cmpR (M.op_notInN hr.units) (pe_tup (pa_cons (pv 0) (pa_cons (pv 1) pa_nil))) (pv 2) (by rfl)) (pss_cons (ps_set (i := 3) sc__law_kind.nd rfl (Or.inl rfl) (pe_lst pa_nil))
   (pss_cons (ps_for PassesOwn.never (by rfl) (M.pi_enumS (by rfl) T.b_enumerate (pa_cons (pv 0) pa_nil)) (pg_tup (by rfl) (pgs_cons (pg_name (i := 4) sc__law_kind.nd rfl (Or.inl rfl)) (pgs_cons (pg_name (i := 5) sc__law_kind.nd rfl (Or.inl rfl)) pgs_nil))) (pss_cons (ps_set (i := 6) sc__law_kind.nd rfl (Or.inl rfl) (pe_call G__law_kind (hr.mono (by omega)) (by rfl) T.g__law_kind T.F__law_kind.kp T.b__law_kind .nil pass0 (pa_cons (pe_slice sl_str (pv 0) po_none (po_some (pv 4))) (pa_cons (pe_op op_sub (pv 1) pe_int) (pa_cons (pv 2) pa_nil)))))
   (pss_cons (ps_set (i := 7) sc__law_kind.nd rfl (Or.inl rfl) (pe_tup (pa_cons (pv 6) (pa_cons (pv 5) (pa_cons (pe_call G__law_kind (hr.mono (by omega)) (by rfl) T.g__law_kind T.F__law_kind.kp T.b__law_kind .nil pass0 (pa_cons (pe_slice sl_str (pv 0) (po_some (pe_op op_add (pv 4) pe_int)) po_none) (pa_cons (pe_op op_sub (pv 1) pe_int) (pa_cons (pv 2) pa_nil)))) pa_nil)))))
   (pss_one (ps_if (pt_cmpR (op_notInD (M.room65 hr)) (pv 7) (pv 3) (by rfl)) (pss_one (ps_expr (pe_bm PySem.F.plainAttrs_list PySem.F.slot_list_append PySem.F.type_list_append mt_append (pv 3) (pa_cons (pv 7) pa_nil)))) pss_nil)))))
   (pss_cons (ps_set (i := 8) sc__law_kind.nd rfl (Or.inl rfl) (pe_tup (pa_cons pe_str (pa_cons (pe_callTy call_tuple_of (by rfl) T.b_tuple (by decide +kernel) (pa_cons (pe_callB M.cr_lsort (by rfl) T.b_sorted (by decide +kernel) (pa_cons (pv 3) pa_nil)) pa_nil)) pa_nil))))
   (pss_cons (ps_if (pt_cmpR (M.op_notInN hr.units) (pv 8) (pv 2) (by rfl)) (pss_one (M.ps_nputH hr.units (pv 2) (pv 8) (pe_callB M.call_lenN (by rfl) T.b_len (by decide +kernel) (pa_cons (pv 2) pa_nil)) rfl)) pss_nil)
   (pss_one (M.ps_nputH hr.units (pv 2) (pe_tup (pa_cons (pv 0) (pa_cons (pv 1) pa_nil))) (pe_ix (M.ix_dictN hr.units) (pv 2) (pv 8) (fun _ _ => rfl)) rfl)))))) pss_nil)
   (pss_one (ps_ret (pe_ix (M.ix_dictN hr.units) (pv 2) (pe_tup (pa_cons (pv 0) (pa_cons (pv 1) pa_nil))) (fun _ _ => rfl)))))), ?_⟩
  have hlen := hK.sub.len _ hzS
  have hzl := codes_len z
  walk_at "rd"
  refine iteI (fun e0 => ?_) (fun e0 => ?_)
  · obtain rfl : d = 0 := by omega
    exact q 0 e u H hK (fun x h => h) (fun b o _ h => h) rfl
  obtain ⟨d, rfl⟩ : ∃ e, d = e + 1 := ⟨d - 1, by omega⟩
  walk_at "rd"
  intro tk ntk
  have x0 := Ex.new (o := .tup [.str z, .int ((d + 1 : Nat) : Int)]) ntk
  have hK0 := hK.ex (Tk.of x0) (fun o => x0 _ o)
  have hkey : NK (upd H tk (.tup [.str z, .int ((d + 1 : Nat) : Int)])) (.ref tk) (keyR z (d + 1)) := .tup upd_same (.cons (.str _) (.cons (.int _) .nil))
  generalize upd H tk (.tup [.str z, .int ((d + 1 : Nat) : Int)]) = H0 at *
  walk_at "rd"
  refine ⟨tk, kd, keyR z (d + 1), e, rfl, rfl, hkey, keyR_depth _ _, hK0.nd, ?_⟩
  walk_at "rd"
  -- what is told at the end
  have last : ∀ (e' : List NEnt) (u' : LTab) (G : Hp) (n : Nat), LK P w S D G kd e' u' → (∀ x ∈ u, x ∈ u') → (∀ b o, b ≠ kd → H b = some o → G b = some o) → kat e' (keyR z (d + 1)) = some (.int (n : Nat)) → LRep u' (d + 1) n (codes z) → ∀ tk', G tk' = none →
      rIxN P w (.ref kd) (.ref tk') (upd G tk' (.tup [.str z, .int ((d + 1 : Nat) : Int)])) Q := fun e' u' G n hG g old hk hr tk' ntk' => by
    have xg := Ex.new (o := .tup [.str z, .int ((d + 1 : Nat) : Int)]) ntk'
    have hG' := hG.ex (Tk.of xg) (fun o => xg _ o)
    refine ⟨tk', kd, keyR z (d + 1), e', _, rfl, rfl, .tup upd_same (.cons (.str _) (.cons (.int _) .nil)), keyR_depth _ _, hG'.nd, hk, ?_⟩
    exact q n e' u' _ hG' g (fun b o hb ho => xg _ _ (old b o hb ho)) hr
  cases hkat : kat e (keyR z (d + 1)) with
  | some v =>
    refine iteF ?_
    obtain ⟨n, rfl, hn⟩ := hK.getR hkat
    walk_at "rd"
    intro tk' ntk'
    exact last e u H0 n hK0 (fun x h => h) (fun b o _ h => x0 _ _ h) hkat hn tk' ntk'
  | none =>
    refine iteT ?_
    walk_at "rd"
    intro mh nmh
    have nmhH : H mh = none := fresh_back x0 nmh
    have nkd : mh ≠ kd := fun z => by rw [z, hK0.nd.at_] at nmh; exact nomatch nmh
    have x1 := Ex.new (o := .lst []) nmh
    have hK1 := hK0.ex (Tk.of x1) (fun o => x1 _ o)
    have emh : upd H0 mh (.lst []) mh = some (.lst []) := upd_same
    have x01 := x0.trans x1
    generalize upd H0 mh (.lst []) = H1 at *
    walk_at "rd"
    obtain ⟨Pv, hPv⟩ : ∃ Pv : Nat → L2.St → Hp → Prop, ∀ j σ G, Pv j σ G ↔ ∃ (o4 o5 o6 o7 o8 : Option V) (rs : List V) (ms : List Mark) (e' : List NEnt) (u' : LTab), σ = [some (.str z), some (.int ((d + 1 : Nat) : Int)), some (.ref kd), some (.ref mh), o4, o5, o6, o7, o8] ∧
      LK P w S D G kd e' u' ∧ (∀ x ∈ u, x ∈ u') ∧ (∀ b o, b ≠ kd → H b = some o → G b = some o) ∧ G mh = some (.lst rs) ∧ Trs G rs ms ∧ ms.Nodup ∧ ms.length ≤ j ∧ (∀ m ∈ ms, m.2.1 < 1114112) ∧
      (∀ i c, i < j → (codes z)[i]? = some c → ∃ a b, (a, c, b) ∈ ms ∧ LRep u' d a ((codes z).take i) ∧ LRep u' d b ((codes z).drop (i + 1))) ∧
      (∀ a c b, (a, c, b) ∈ ms → ∃ i, (codes z)[i]? = some c ∧ LRep u' d a ((codes z).take i) ∧ LRep u' d b ((codes z).drop (i + 1))) := ⟨_, fun _ _ _ => Iff.rfl⟩
    refine for_enumS Pv ((hPv _ _ _).mpr ⟨_, _, _, _, _, [], [], e, u, rfl, hK1, fun x h => h, fun b o _ h => x01 _ _ h, emh, .nil, .nil, Nat.le_refl _, (fun m h => nomatch h), fun i c h => by omega, fun a c b h => nomatch h⟩) (fun j c t σ G hc hT h => ?_) (fun σ G h => ?_)
    · obtain ⟨o4, o5, o6, o7, o8, rs, ms, e', u', rfl, hKj, g, old, em, htr, nd, hml, hm7, inv1, inv2⟩ := (hPv _ _ _).mp h
      have hcc := codes_at hc
      have hj := (List.getElem?_eq_some_iff.mp hcc).1
      have hjz : j ≤ z.length := by omega
      walk_at "rd"
      refine ⟨_, _, rfl, SqT.of upd_same, rfl, ?_⟩
      have xt := Ex.new (o := .tup [.int (j : Nat), .str ⟨#[c]⟩]) hT
      have hKt := hKj.ex (Tk.of xt) (fun o => xt _ o)
      have oldt : ∀ b o, b ≠ kd → H b = some o → upd G t (.tup [.int (j : Nat), .str ⟨#[c]⟩]) b = some o := fun b o hb h => xt _ _ (old b o hb h)
      have emt := xt _ _ em
      have htrt := htr.up (Tk.of xt)
      generalize upd G t (.tup [.int (j : Nat), .str ⟨#[c]⟩]) = G1 at *
      walk_at "rd"
      refine ⟨Nat.le_trans (by omega : z.length ≤ 100) (by decide), ?_⟩
      walk_at "rd"
      have c1 := codes_cut1 (z := z) (i := j) hjz
      have c2 := codes_cut2 (z := z) (i := j + 1) (by omega)
      refine ⟨S, D, e', u', kd, cutS z none (some (j : Int)), d, (by show [V.str _, V.int (((d + 1 : Nat) : Int) - 1), V.ref kd] = _; rw [show (((d + 1 : Nat) : Int) - 1) = ((d : Nat) : Int) by omega]), hKt, by omega, by omega, by rw [c1]; exact hK.sub.tak _ hzS j, fun c hc => hlo c (mem_cut hc), fun n1 e1 u1 G2 hK2 g2 old2 r1 => ?_⟩
      rw [c1] at r1
      walk_at "rd"
      refine ⟨Nat.le_trans (by omega : z.length ≤ 100) (by decide), ?_⟩
      walk_at "rd"
      refine ⟨S, D, e1, u1, kd, cutS z (some ((j : Int) + 1)) none, d, (by show [V.str _, V.int (((d + 1 : Nat) : Int) - 1), V.ref kd] = _; rw [show (((d + 1 : Nat) : Int) - 1) = ((d : Nat) : Int) by omega]), hK2, by omega, by omega, by
        have : codes (cutS z (some ((j : Int) + 1)) none) = _ := c2
        rw [this]; exact hK.sub.drp _ hzS (j + 1), fun c hc => hlo c (mem_cut hc), fun n2 e2 u2 G3 hK3 g3 old3 r2 => ?_⟩
      have r2 : LRep u2 d n2 (codes (cutS z (some ((j + 1 : Nat) : Int)) none)) := r2
      rw [c2] at r2
      have gg : ∀ x ∈ u', x ∈ u2 := fun x h => g3 x (g2 x h)
      walk_at "rd"
      intro tt ntt
      have em3 := old3 _ _ nkd (old2 _ _ nkd emt)
      have tk13 := (hKt.tk old2).trans (hK2.tk old3)
      have htr3 := htrt.up tk13
      have xtt := Ex.new (o := .tup [.int (n1 : Nat), .str ⟨#[c]⟩, .int (n2 : Nat)]) ntt
      have ett : upd G3 tt (.tup [.int (n1 : Nat), .str ⟨#[c]⟩, .int (n2 : Nat)]) tt = some (.tup [.int (n1 : Nat), .str ⟨#[c]⟩, .int (n2 : Nat)]) := upd_same
      have hK4 := hK3.ex (Tk.of xtt) (fun o => xtt _ o)
      have old4 : ∀ b o, b ≠ kd → H b = some o → upd G3 tt (.tup [.int (n1 : Nat), .str ⟨#[c]⟩, .int (n2 : Nat)]) b = some o := fun b o hb h => xtt _ _ (old3 _ _ hb (old2 _ _ hb (oldt b o hb h)))
      have em4 := xtt _ _ em3
      have htr4 := htr3.up (Tk.of xtt)
      generalize upd G3 tt (.tup [.int (n1 : Nat), .str ⟨#[c]⟩, .int (n2 : Nat)]) = G4 at *
      have c7 : c < 1114112 := hlo c (List.mem_of_getElem? hcc)
      walk_at "rd"
      refine ⟨tripD (n1, c, n2), ms.map tripD, dp_trip ett, dp_trips em4 htr4, shaped_trip c7, shaped_trips hm7, ?_⟩
      walk_at "rd"
      rw [any_trip]
      have inv2' : ∀ a c b, (a, c, b) ∈ ms → ∃ i, (codes z)[i]? = some c ∧ LRep u2 d a ((codes z).take i) ∧ LRep u2 d b ((codes z).drop (i + 1)) := fun a c b h => let ⟨i, h1, h2, h3⟩ := inv2 a c b h; ⟨i, h1, h2.up gg, h3.up gg⟩
      refine iteND (fun hn => ?_) (fun hy => ?_)
      · walk_at "rd"
        have hrl := htr4.len
        refine ⟨.inl ⟨rfl, _, SqL.of em4⟩, _, rfl, mh, _, _, rfl, rfl, em4, by rw [hrl, sizeLine_eq]; omega, ?_⟩
        have tkm : Tk G4 (upd G4 mh (.lst (rs ++ [.ref tt]))) := fun b ys q => by rw [upd_ne fun z => by rw [z, em4] at q; exact nomatch q]; exact q
        refine (hPv _ _ _).mpr ⟨_, _, _, _, _, rs ++ [.ref tt], ms ++ [(n1, c, n2)], e2, u2, rfl, hK4.ex tkm (fun o h => by rw [upd_ne (Ne.symm nkd)]; exact h), fun x h => gg x (g x h), fun b o hb h => ?_, upd_same, (htr4.snoc (trip_nk ett)).up tkm, ?_, by simp; omega, fun m hm => ?_, fun i c' hi hc' => ?_, fun a c' b hm => ?_⟩
        · rw [upd_ne (ne_of_none h nmhH)]; exact old4 b o hb h
        · refine List.nodup_append.mpr ⟨nd, by simp, fun a ha b hb q => hn ?_⟩
          have : b = (n1, c, n2) := by simpa using hb
          rw [← this, ← q]; exact ha
        · rcases List.mem_append.mp hm with hm | hm
          · exact hm7 m hm
          · rw [List.mem_singleton.mp hm]; exact c7
        · by_cases hij : i < j
          · obtain ⟨a, b, h1, h2, h3⟩ := inv1 i c' hij hc'
            exact ⟨a, b, List.mem_append.mpr (.inl h1), h2.up gg, h3.up gg⟩
          · obtain rfl : i = j := by omega
            rw [hcc] at hc'
            obtain rfl := Option.some.inj hc'
            exact ⟨n1, n2, by simp, r1.up g3, r2⟩
        · rcases List.mem_append.mp hm with hm | hm
          · exact inv2' a c' b hm
          · have := List.mem_singleton.mp hm
            cases this
            exact ⟨j, hcc, r1.up g3, r2⟩
      · refine (hPv _ _ _).mpr ⟨_, _, _, _, _, rs, ms, e2, u2, rfl, hK4, fun x h => gg x (g x h), old4, em4, htr4, nd, by omega, hm7, fun i c' hi hc' => ?_, inv2'⟩
        by_cases hij : i < j
        · obtain ⟨a, b, h1, h2, h3⟩ := inv1 i c' hij hc'
          exact ⟨a, b, h1, h2.up gg, h3.up gg⟩
        · obtain rfl : i = j := by omega
          rw [hcc] at hc'
          obtain rfl := Option.some.inj hc'
          exact ⟨n1, n2, hy, r1.up g3, r2⟩
    · obtain ⟨o4, o5, o6, o7, o8, rs, ms, e', u', rfl, hKj, g, old, em, htr, nd, hml, hm7, inv1, inv2⟩ := (hPv _ _ _).mp h
      rw [size_codes] at inv1 hml
      have fit : LFits u' d ms (codes z) := ⟨fun i c hc => inv1 i c (List.getElem?_eq_some_iff.mp hc).1 hc, inv2⟩
      have lowM : ∀ m ∈ ms, Low m := fun ⟨a, c, b⟩ hm => by
        obtain ⟨i, _, h2, h3⟩ := inv2 a c b hm
        have := hm7 _ hm
        exact ⟨hKj.num h2, by show c < _; have : c < 1114112 := this; omega, hKj.num h3⟩
      have hrl := htr.len
      walk_at "rd"
      refine ⟨mh, rs, ms, rfl, SqL.of em, htr, nd, by omega, lowM, fun p rs' ms' G1 hp xp ep keepp hcan hmm htrs => ?_⟩
      refine ⟨p, rs', rfl, .inl ⟨SqL.of ep, fun tp htp => ?_⟩⟩
      have xtp := Ex.new (o := .tup rs') htp
      have xpt := xp.trans xtp
      have hK2 := hKj.ex (Tk.of xpt) (fun o => xpt _ o)
      have htt : NK (upd G1 tp (.tup rs')) (.ref tp) (.tup (ms'.map trip)) := trs_nk upd_same (htrs.up (Tk.of xpt))
      have old2 : ∀ b o, b ≠ kd → H b = some o → upd G1 tp (.tup rs') b = some o := fun b o hb h => xpt _ _ (old b o hb h)
      generalize upd G1 tp (.tup rs') = G2 at *
      walk_at "rd"
      intro tq ntq
      have xq := Ex.new (o := .tup [.str "", .ref tp]) ntq
      have hK3 := hK2.ex (Tk.of xq) (fun o => xq _ o)
      have hkq : NK (upd G2 tq (.tup [.str "", .ref tp])) (.ref tq) (keyL ms') := .tup upd_same (.cons (.str _) (.cons (htt.up (Tk.of xq)) .nil))
      have old3 : ∀ b o, b ≠ kd → H b = some o → upd G2 tq (.tup [.str "", .ref tp]) b = some o := fun b o hb h => xq _ _ (old2 b o hb h)
      generalize upd G2 tq (.tup [.str "", .ref tp]) = G3 at *
      have fit' : LFits u' d ms' (codes z) := fit.same hmm
      walk_at "rd"
      refine ⟨tq, kd, keyL ms', e', rfl, rfl, hkq, keyL_depth _, hK3.nd, ?_⟩
      walk_at "rd"
      -- the last store, and what is told
      have fin : ∀ (e2 : List NEnt) (u2 : LTab) (G4 : Hp) (n : Nat), LK P w S D G4 kd e2 u2 → (∀ x ∈ u', x ∈ u2) → (∀ b o, b ≠ kd → H b = some o → G4 b = some o) → kat e2 (keyL ms') = some (.int (n : Nat)) → (n, ms') ∈ u2 → NK G4 (.ref tq) (keyL ms') → True := fun _ _ _ _ _ _ _ _ _ _ => trivial
      cases hk2 : kat e' (keyL ms') with
      | some v =>
        refine iteF ?_
        obtain ⟨n, rfl, hn⟩ := hKj.getL hk2
        walk_at "rd"
        refine ⟨tq, kd, keyL ms', e', _, rfl, rfl, hkq, keyL_depth _, hK3.nd, hk2, ?_⟩
        walk_at "rd"
        intro tr ntr
        have xr := Ex.new (o := .tup [.str z, .int ((d + 1 : Nat) : Int)]) ntr
        have hK4 := hK3.ex (Tk.of xr) (fun o => xr _ o)
        have hkr : NK (upd G3 tr (.tup [.str z, .int ((d + 1 : Nat) : Int)])) (.ref tr) (keyR z (d + 1)) := .tup upd_same (.cons (.str _) (.cons (.int _) .nil))
        have old4 : ∀ b o, b ≠ kd → H b = some o → upd G3 tr (.tup [.str z, .int ((d + 1 : Nat) : Int)]) b = some o := fun b o hb h => xr _ _ (old3 b o hb h)
        generalize upd G3 tr (.tup [.str z, .int ((d + 1 : Nat) : Int)]) = G4 at *
        have rep : LRep u' (d + 1) n (codes z) := ⟨ms', hn, fit'⟩
        refine ⟨tr, kd, keyR z (d + 1), e', rfl, rfl, hkr, keyR_depth _ _, hK4.nd, hK4.size, fun G5 eG5 => ?_⟩
        have eG5 : G5 = upd G4 kd (NdO P w kd (putE e' (keyR z (d + 1)) tr (.int (n : Nat)))) := eG5
        have hK5 := hK4.putR hkr hzS hdD rep
        rw [← eG5] at hK5
        walk_at "rd"
        intro ts nts
        exact last _ u' G5 n hK5 g (fun b o hb h => by rw [eG5, upd_ne hb]; exact old4 b o hb h) kat_putE rep ts nts
      | none =>
        refine iteT ?_
        walk_at "rd"
        refine ⟨kd, e', rfl, hK3.nd, hK3.size, ?_⟩
        walk_at "rd"
        refine ⟨tq, kd, keyL ms', e', rfl, rfl, hkq, keyL_depth _, hK3.nd, hK3.size, fun G4 eG4 => ?_⟩
        have eG4 : G4 = upd G3 kd (NdO P w kd (putE e' (keyL ms') tq (.int (e'.length : Nat)))) := eG4
        have hK4 := hK3.putL hkq hk2 hcan hdD hzS fit'
        have old4 : ∀ b o, b ≠ kd → G3 b = some o → G4 b = some o := fun b o hb h => by rw [eG4, upd_ne hb]; exact h
        have hkq4 := hkq.up (hK3.tk old4)
        rw [← eG4] at hK4
        walk_at "rd"
        refine ⟨tq, kd, keyL ms', _, _, rfl, rfl, hkq4, keyL_depth _, hK4.nd, kat_putE, ?_⟩
        walk_at "rd"
        intro tr ntr
        have xr := Ex.new (o := .tup [.str z, .int ((d + 1 : Nat) : Int)]) ntr
        have hK5 := hK4.ex (Tk.of xr) (fun o => xr _ o)
        have hkr : NK (upd G4 tr (.tup [.str z, .int ((d + 1 : Nat) : Int)])) (.ref tr) (keyR z (d + 1)) := .tup upd_same (.cons (.str _) (.cons (.int _) .nil))
        have old5 : ∀ b o, b ≠ kd → H b = some o → upd G4 tr (.tup [.str z, .int ((d + 1 : Nat) : Int)]) b = some o := fun b o hb h => xr _ _ (old4 _ _ hb (old3 b o hb h))
        generalize upd G4 tr (.tup [.str z, .int ((d + 1 : Nat) : Int)]) = G5 at *
        have gu : ∀ x ∈ u', x ∈ (e'.length, ms') :: u' := fun x h => List.mem_cons_of_mem _ h
        have rep : LRep ((e'.length, ms') :: u') (d + 1) e'.length (codes z) := ⟨ms', List.mem_cons_self, fit'.up gu⟩
        refine ⟨tr, kd, keyR z (d + 1), _, rfl, rfl, hkr, keyR_depth _ _, hK5.nd, hK5.size, fun G6 eG6 => ?_⟩
        have eG6 : G6 = upd G5 kd (NdO P w kd (putE (putE e' (keyL ms') tq (.int (e'.length : Nat))) (keyR z (d + 1)) tr (.int (e'.length : Nat)))) := eG6
        have hK6 := hK5.putR hkr hzS hdD rep
        rw [← eG6] at hK6
        walk_at "rd"
        intro ts nts
        exact last _ _ G6 e'.length hK6 (fun x h => gu x (g x h)) (fun b o hb h => by rw [eG6, upd_ne hb]; exact old5 b o hb h) kat_putE rep ts nts

end
end Lw
end

section
set_option Elab.async false
set_option linter.all false
set_option maxRecDepth 100000
set_option maxHeartbeats 4000000
set_option pp.maxSteps 300
set_option pp.deepTerms false
namespace Lw
open PySem L2 Evl M
open PyProof.Rows hiding St
local macro_rules | `(tactic| walk_at "at") => `(tactic| first | assumption | exact upd_same)
local macro_rules | `(tactic| walk_at "sq") => `(tactic| first | assumption | exact SqL.of (by walk_at "at") | exact SqT.of (by walk_at "at"))
local macro_rules | `(tactic| walk_at "sd") => `(tactic| first | assumption | exact Names.size (by assumption) | omega | decide | exact Nat.le_of_ble_eq_true rfl | exact Or.inl ⟨by decide, by decide⟩ | exact wide_div (b := 200) (by first | assumption | decide) (by first | assumption | decide) (by decide) (by decide) | exact pow_w 10 (by decide) (by decide) (by decide) (by decide))
local macro_rules | `(tactic| walk_at "r1") => `(tactic| first
  | refine ⟨_, rfl, ?_⟩
  | refine ⟨_, _, rfl, rfl, ?_⟩
  | refine And.intro rfl ?_
  | refine ⟨_, _, _, _, rfl, rfl, (by walk_at "sq"), rfl, ?_⟩
  | refine ⟨_, _, _, _, rfl, rfl, (by walk_at "at"), rfl, ?_⟩
  | refine ⟨_, _, rfl, Or.inl (by walk_at "sq"), ?_⟩
  | refine ⟨_, _, rfl, Or.inr (by walk_at "sq"), ?_⟩
  | refine ⟨_, _, rfl, ?_⟩
  | refine Or.inl ⟨_, rfl, ?_⟩
  | refine And.intro (by walk_at "sd") ?_)
local macro_rules | `(tactic| walk_at "rd") => `(tactic| try (walk_at "r1"; walk_at "rd"))
section
variable {P : Program} {w : World} {K : PySem.W.Frag} {mg : Str → Option Value} {base : Heap}
theorem ok__law_firsts (T : Tx w K mg) (G__law_all_lines : FnOk P w K mg base CX0 1 T.a__law_all_lines T.d__law_all_lines ["names", "longest"] sp_alines)
    (G__law_kind : FnOk P w K mg base CX0 8 T.a__law_kind T.d__law_kind ["line", "deep", "known"] (sp_lkind P w 7)) :
    FnOk P w K mg base CX0 9 T.a__law_firsts T.d__law_firsts ["names", "deep", "longest"] sp_lfirsts := by
  refine T.F__law_firsts.ok sc__law_firsts (fun vs H Q E h => ?_) (fun cdv A outer s H vs Q E hr h => ?_)
  · obtain ⟨_, _, _, rfl, _⟩ := h
    rfl
  obtain ⟨l, m, d, rfl, hl, hS, k⟩ := h
  refine ⟨_, (pss_cons (ps_par3 (i := 3) (j := 4) (l := 5) (by rfl) sc__law_firsts.nd rfl rfl rfl (by decide) (by decide) (by decide) rfl rfl rfl (pa_cons M.pe_dnewH (pa_cons (pe_lst pa_nil) (pa_cons (pe_lst pa_nil) pa_nil))) (by rfl))
   (pss_cons (ps_for PassesOwn.never (by rfl) (pi_list (pe_call G__law_all_lines (hr.mono (by omega)) (by rfl) T.g__law_all_lines T.F__law_all_lines.kp T.b__law_all_lines .nil pass0 (pa_cons (pv 0) (pa_cons (pv 2) pa_nil)))) (pg_name (i := 6) sc__law_firsts.nd rfl (Or.inl rfl)) (pss_cons (ps_set (i := 7) sc__law_firsts.nd rfl (Or.inl rfl) (pe_call G__law_kind (hr.mono (by omega)) (by rfl) T.g__law_kind T.F__law_kind.kp T.b__law_kind .nil pass0 (pa_cons (pv 6) (pa_cons (pv 1) (pa_cons (pv 3) pa_nil)))))
   (pss_one (ps_if (pt_cmpR op_notIn_seq (pv 7) (pv 4) (by rfl)) (pss_cons (ps_expr (pe_bm PySem.F.plainAttrs_list PySem.F.slot_list_append PySem.F.type_list_append mt_append (pv 4) (pa_cons (pv 7) pa_nil)))
   (pss_one (ps_expr (pe_bm PySem.F.plainAttrs_list PySem.F.slot_list_append PySem.F.type_list_append mt_append (pv 5) (pa_cons (pv 6) pa_nil))))) pss_nil))))
   (pss_one (ps_ret (pv 5))))), ?_⟩
  have hd4 := hS.d4
  walk_at "rd"
  intro kd H2 nkd eH2
  have x1 : Ex H H2 := by rw [eH2]; exact Ex.new nkd
  have hK := LK.new (P := P) (w := w) (k := kd) (sub_lines hS.2.1) (H := H2) (by rw [eH2]; exact upd_same)
  clear eH2
  walk_at "rd"
  intro sa nsa
  have x2 := Ex.new (o := .lst []) nsa
  have es : upd H2 sa (.lst []) sa = some (.lst (natsV [])) := upd_same
  have hK2 := hK.ex (Tk.of x2) fun o e => x2 _ _ e
  generalize upd H2 sa (.lst []) = H3 at *
  walk_at "rd"
  intro fa nfa
  have x3 := Ex.new (o := .lst []) nfa
  have ef : upd H3 fa (.lst []) fa = some (.lst (rowsV [])) := upd_same
  have es3 := x3 _ _ es
  have hK3 := hK2.ex (Tk.of x3) fun o e => x3 _ _ e
  have sf : sa ≠ fa := ne_of_none es nfa
  generalize upd H3 fa (.lst []) = H4 at *
  have x4 := (x1.trans x2).trans x3
  have nsaH : H sa = none := fresh_back x1 nsa
  have nfaH : H fa = none := fresh_back (x1.trans x2) nfa
  walk_at "rd"
  refine ⟨_, _, _, rfl, ?_⟩
  walk_at "rd"
  refine ⟨l, m, longest m, rfl, hl.up x4, hS.2.1, Nat.le_refl _, fun a H5 x5 na ea => ?_⟩
  have es5 := x5 _ _ es3
  have ef5 := x5 _ _ ef
  have hK5 := hK3.ex (Tk.of x5) fun o e => x5 _ _ e
  have sa_a : sa ≠ a := ne_of_none es3 na
  have fa_a : fa ≠ a := ne_of_none ef na
  have kda : kd ≠ a := ne_of_none hK3.nd.at_ na
  have kds : kd ≠ sa := ne_of_none hK.nd.at_ nsa
  have kdf : kd ≠ fa := ne_of_none hK2.nd.at_ nfa
  walk_at "rd"
  refine ⟨⟨_, SqL.of ea⟩, ?_⟩
  obtain ⟨Pv, hPv⟩ : ∃ Pv : Nat → L2.St → Hp → Prop, ∀ i σ G, Pv i σ G ↔ ∃ (e : List NEnt) (u : LTab) (L : List NR) (o6 o7 : Option V), σ = [some (.ref l), some (.int (d : Nat)), some (.int (longest m : Nat)), some (.ref kd), some (.ref sa), some (.ref fa), o6, o7] ∧ Ex H G ∧ G a = some (.lst (rowsV (allL m (longest m)).1)) ∧
    LK P w (subsAll (allL m (longest m)).1) 8 G kd e u ∧ G sa = some (.lst (natsV (L.map (·.1)))) ∧ G fa = some (.lst (rowsV ((fstK m d i).map (·.1)))) ∧ LL u m d L (fstK m d i) := ⟨_, fun _ _ _ => Iff.rfl⟩
  refine for_list (xs := rowsV (allL m (longest m)).1) Pv ((hPv _ _ _).mpr ⟨_, _, [], _, _, rfl, x4.trans x5, ea, hK5, es5, ef5, ⟨rfl, fun p hp => nomatch hp⟩⟩) (fun i σ G hi h => ?_) (fun i x σ G hx h => ?_) (fun σ G h => ?_)
  · obtain ⟨_, _, _, _, _, rfl, _, eG, _⟩ := (hPv _ _ _).mp h
    exact SqL.of eG
  · obtain ⟨e, u, L, o6, o7, rfl, xG, eG, hKG, gs, gf, hLL⟩ := (hPv _ _ _).mp h
    obtain ⟨r, hr, rfl⟩ := rowsV_at hx
    have hrm := List.mem_of_getElem? hr
    have hro := ((allL_of m _).1 r hrm).1
    have hgood := fstK_good (m := m) (d := d) i
    have hlen := fstK_le hS i
    have hll := hLL.len
    walk_at "rd"
    refine ⟨_, 8, e, u, kd, strOf r, d, rfl, hKG, by omega, by omega, mem_all hrm, fun c hc => by have h1 := hro c hc; have h2 := hS.2.1; omega, fun n e1 u1 G1 hK1 g1 old1 r1 => ?_⟩
    have gs1 := old1 _ _ (Ne.symm kds) gs
    have gf1 := old1 _ _ (Ne.symm kdf) gf
    have ga1 := old1 _ _ (Ne.symm kda) eG
    have xG1 : Ex H G1 := fun b o hb => old1 b o (ne_of_none hb (nkd)) (xG b o hb)
    have hL1 := hLL.up g1
    have hany := hL1.any hK1.ok hS hgood hro r1
    have hs := fstK_succ (d := d) hr
    walk_at "rd"
    refine ⟨by unfold natsV; simp [flatV], ?_⟩
    walk_at "rd"
    by_cases old : n ∈ L.map (·.1)
    · rw [(inV_nats n _).mpr old]
      refine (hPv _ _ _).mpr ⟨e1, u1, L, _, _, rfl, xG1, ga1, hK1, gs1, by rw [hs, addK_yes (hany.mpr old)]; exact gf1, by rw [hs, addK_yes (hany.mpr old)]; exact hL1⟩
    · have hanyf : ((fstK m d i).any fun p => p.2 == kind m d r) = false := by
        cases z : (fstK m d i).any fun p => p.2 == kind m d r with
        | false => rfl
        | true => exact absurd (hany.mp z) old
      have hin : inV (.int (n : Nat)) (natsV (L.map (·.1))) = false := by
        cases z : inV (.int (n : Nat)) (natsV (L.map (·.1))) with
        | false => rfl
        | true => exact absurd ((inV_nats n _).mp z) old
      have ha : addK m d (fstK m d i) r = fstK m d i ++ [(r, kind m d r)] := by unfold addK; rw [if_neg (by rw [hanyf]; decide)]
      rw [hin]
      refine iteT ?_
      walk_at "rd"
      refine ⟨.inl ⟨rfl, _, SqL.of gs1⟩, ?_⟩
      walk_at "rd"
      refine ⟨sa, _, _, rfl, rfl, gs1, Nat.lt_of_le_of_lt (by rw [natsV_len, List.length_map]; omega : _ ≤ 100) (by decide), ?_⟩
      have hK2 := hK1.ex (H' := upd G1 sa (.lst (natsV (L.map (·.1)) ++ [.int (n : Nat)]))) (fun b ys q => by rw [upd_ne (fun z => by rw [z, gs1] at q; exact nomatch q)]; exact q) fun o q => by rw [upd_ne kds]; exact q
      have gs2 : upd G1 sa (.lst (natsV (L.map (·.1)) ++ [.int (n : Nat)])) sa = some (.lst (natsV ((L ++ [(n, r)]).map (·.1)))) := by rw [upd_same, natsV_snoc, List.map_append]; rfl
      have gf2 : upd G1 sa (.lst (natsV (L.map (·.1)) ++ [.int (n : Nat)])) fa = some (.lst (rowsV ((fstK m d i).map (·.1)))) := by rw [upd_ne (Ne.symm sf)]; exact gf1
      have ga2 : upd G1 sa (.lst (natsV (L.map (·.1)) ++ [.int (n : Nat)])) a = some (.lst (rowsV (allL m (longest m)).1)) := by rw [upd_ne (Ne.symm sa_a)]; exact ga1
      have xG2 : Ex H (upd G1 sa (.lst (natsV (L.map (·.1)) ++ [.int (n : Nat)]))) := fun b o hb => by rw [upd_ne (ne_of_none hb nsaH)]; exact xG1 b o hb
      generalize upd G1 sa _ = G2 at *
      walk_at "rd"
      refine ⟨.inl ⟨rfl, _, SqL.of gf2⟩, ?_⟩
      walk_at "rd"
      refine ⟨fa, _, _, rfl, rfl, gf2, Nat.lt_of_le_of_lt (by rw [rowsV_len, List.length_map]; omega : _ ≤ 100) (by decide), ?_⟩
      refine (hPv _ _ _).mpr ⟨e1, u1, L ++ [(n, r)], _, _, rfl, fun b o hb => ?_, ?_, hK2.ex (fun b ys q => ?_) (fun o q => ?_), ?_, ?_, ?_⟩
      · rw [upd_ne (ne_of_none hb nfaH)]; exact xG2 b o hb
      · rw [upd_ne (Ne.symm fa_a)]; exact ga2
      · rw [upd_ne (fun z => by rw [z, gf2] at q; exact nomatch q)]; exact q
      · rw [upd_ne kdf]; exact q
      · rw [upd_ne sf]; exact gs2
      · rw [upd_same, hs, ha, List.map_append, ← rowsV_app]
        rfl
      · rw [hs]
        exact hL1.add r1 hanyf
  · obtain ⟨e, u, L, o6, o7, rfl, xG, eG, hKG, gs, gf, hLL⟩ := (hPv _ _ _).mp h
    rw [rowsV_len, fstK_all hS] at gf
    walk_at "rd"
    exact k fa G xG nfaH gf

end
end Lw
end

section
set_option Elab.async false
set_option linter.all false
set_option maxRecDepth 100000
set_option maxHeartbeats 4000000
set_option pp.maxSteps 300
set_option pp.deepTerms false
namespace Lw
open PySem L2 Evl M
open PyProof.Rows hiding St
local macro_rules | `(tactic| walk_at "at") => `(tactic| first | assumption | exact upd_same)
local macro_rules | `(tactic| walk_at "sq") => `(tactic| first | assumption | exact SqL.of (by walk_at "at") | exact SqT.of (by walk_at "at"))
local macro_rules | `(tactic| walk_at "sd") => `(tactic| first | assumption | exact Names.size (by assumption) | omega | decide | exact Nat.le_of_ble_eq_true rfl | exact Or.inl ⟨by decide, by decide⟩ | exact wide_div (b := 200) (by first | assumption | decide) (by first | assumption | decide) (by decide) (by decide) | exact pow_w 10 (by decide) (by decide) (by decide) (by decide))
local macro_rules | `(tactic| walk_at "r1") => `(tactic| first
  | refine ⟨_, rfl, ?_⟩
  | refine ⟨_, _, rfl, rfl, ?_⟩
  | refine And.intro rfl ?_
  | refine ⟨_, _, _, _, rfl, rfl, (by walk_at "sq"), rfl, ?_⟩
  | refine ⟨_, _, _, _, rfl, rfl, (by walk_at "at"), rfl, ?_⟩
  | refine ⟨_, _, rfl, Or.inl (by walk_at "sq"), ?_⟩
  | refine ⟨_, _, rfl, Or.inr (by walk_at "sq"), ?_⟩
  | refine ⟨_, _, rfl, ?_⟩
  | refine Or.inl ⟨_, rfl, ?_⟩
  | refine And.intro (by walk_at "sd") ?_)
local macro_rules | `(tactic| walk_at "rd") => `(tactic| try (walk_at "r1"; walk_at "rd"))
section
variable {P : Program} {w : World} {K : PySem.W.Frag} {mg : Str → Option Value} {base : Heap}
set_option hygiene false in
local macro_rules | `(tactic| walk_at "tl") => `(tactic| (
      refine iteD (fun _ => k _ (hPe _ x17)) (fun m1 => ?_)
      obtain rfl : m = 1 := by have := hS.1; omega
      walk_at "rd"
      refine ⟨⟨Int.natCast_nonneg _, by omega, by decide⟩, ?_⟩
      have hp2 : 2 ^ d ≤ 16 := Nat.le_trans (Nat.pow_le_pow_right (by decide) hd4) (by decide)
      have hsh : (1 : Int) * 2 ^ ((d : Nat) : Int).toNat = ((2 ^ d : Nat) : Int) := by rw [Int.toNat_natCast, Int.one_mul]; norm_cast
      generalize hq2 : (fun i j : Int => V.int (i * 2 ^ j.toNat)) 1 ((d : Nat) : Int) = vv2
      obtain rfl : vv2 = V.int ((2 ^ d : Nat) : Int) := by rw [← hq2]; exact congrArg V.int hsh
      walk_at "rd"
      have hp3 : 2 ^ d ≤ 100 := Nat.le_trans hp2 (by decide)
      generalize hpe : 2 ^ d = pw at *
      refine ⟨r62a _, r62b (Nat.le_trans hp3 (by decide)), ?_⟩
      have hw : ((pw : Nat) : Int).toNat = pw := Int.toNat_natCast _
      intro D3 nD3
      have xD3 := Ex.new (o := .lst []) nD3
      obtain ⟨Pc, hPc⟩ : ∃ Pc : Nat → Hp → Prop, ∀ j W, Pc j W ↔ Ex G3 W ∧ W D3 = some (.lst (rowsV ((List.range j).map fun n => rep [97] n))) := ⟨_, fun _ _ => Iff.rfl⟩
      refine lc_range Pc ((hPc _ _).mpr ⟨xD3, upd_same⟩) (fun j W hj h => ?_) (fun W h => ?_)
      · obtain ⟨xW, eW⟩ := (hPc _ _).mp h
        have hj2 : j < ((pw : Nat) : Int).toNat := hj
        rw [hw] at hj2
        have ej : (0 : Int) + ((j : Nat) : Int) = ((j : Nat) : Int) := Int.zero_add _
        rw [ej]
        walk_at "rd"
        rw [mul_a]
        refine ⟨mul_ok (by show 1 * j ≤ _; omega) (by omega), _, eW, ?_, (hPc _ _).mpr ⟨fun b o hb => ?_, ?_⟩⟩
        · rw [rowsV_len, List.length_map, List.length_range]
          exact Nat.lt_of_le_of_lt (by omega : _ ≤ 100) (by decide)
        · rw [upd_ne (ne_of_none hb nD3)]; exact xW b o hb
        · rw [upd_same, List.range_succ, List.map_append, ← rowsV_app]
          rfl
      · obtain ⟨xW, eW⟩ := (hPc _ _).mp h
        rw [hw, ← hpe, ← sc_of1 hd4, ← hR] at eW
        walk_at "rd"
        refine ⟨dRows R, dRows R, dp_rows (xW _ _ efa17), dp_rows eW, shR, shR, ?_⟩
        rw [eqv_rows, decide_eq_true rfl]
        exact k _ (hPe _ (x17.trans xW))))
theorem ok__law_right (T : Tx w K mg) (G__law_scope : FnOk P w K mg base CX0 2 T.a__law_scope T.d__law_scope ["pool"] sp_lscope)
    (G__law_firsts : FnOk P w K mg base CX0 9 T.a__law_firsts T.d__law_firsts ["names", "deep", "longest"] sp_lfirsts)
    (G_least_rows : FnOk P w K mg base CX0 14 T.a_least_rows T.d_least_rows ["many", "depth"] sp_least_rows)
    (G_kind_count : FnOk P w K mg base CX0 15 T.a_kind_count T.d_kind_count ["many", "depth"] sp_kind_count)
    (G__law_kind : FnOk P w K mg base CX0 8 T.a__law_kind T.d__law_kind ["line", "deep", "known"] (sp_lkind P w 7)) :
    FnG P w K mg base CX0 64 T.a__law_right T.d__law_right ["pool"] sp_fits := by
  refine M.Fun.okG T.F__law_right sc__law_right (fun vs H Q E h => ?_) (fun cdv A hg outer s H vs Q E hr h => ?_)
  · obtain ⟨_, _, _, rfl, _⟩ := h
    rfl
  obtain ⟨H0, p, k0, rfl, hP, hm, k⟩ := h
  refine ⟨_, (pss_cons (ps_asg (pe_call G__law_scope (hr.mono (by omega)) (by rfl) T.g__law_scope T.F__law_scope.kp T.b__law_scope .nil pass0 (pa_cons (pv 0) pa_nil)) (pg_tup (by rfl) (pgs_cons (pg_name (i := 1) sc__law_right.nd rfl (Or.inl rfl)) (pgs_cons (pg_name (i := 2) sc__law_right.nd rfl (Or.inr rfl)) (pgs_cons (pg_name (i := 3) sc__law_right.nd rfl (Or.inl rfl)) pgs_nil)))))
   (pss_cons (ps_asg (pe_tup (pa_cons (pe_call G__law_firsts (hr.mono (by omega)) (by rfl) T.g__law_firsts T.F__law_firsts.kp T.b__law_firsts .nil pass0 (pa_cons (pv 1) (pa_cons (pv 2) (pa_cons (pv 3) pa_nil)))) (pa_cons M.pe_dnewH pa_nil))) (pg_tup (by rfl) (pgs_cons (pg_name (i := 4) sc__law_right.nd rfl (Or.inl rfl)) (pgs_cons (pg_name (i := 5) sc__law_right.nd rfl (Or.inr rfl)) pgs_nil))))
   (pss_cons (ps_set (i := 6) sc__law_right.nd rfl (Or.inl rfl) (pe_callB call_len_seq (by rfl) T.b_len (by decide +kernel) (pa_cons (pv 1) pa_nil)))
   (pss_cons (ps_set (i := 7) sc__law_right.nd rfl (Or.inl rfl) (pe_call G_least_rows (hr.mono (by omega)) (by rfl) T.g_least_rows T.F_least_rows.kp T.b_least_rows .nil pass0 (pa_cons (pv 6) (pa_cons (pv 2) pa_nil))))
   (pss_cons (ps_if (pt_cmpR op_ne (pe_callB (M.call_repr hg hr.units) (by rfl) T.b_repr (by decide +kernel) (pa_cons (pe_lst (pa_cons (pv 7) (pa_cons (M.pe_callK0 G_least_rows (hr.mono (by omega)) (by rfl) T.g_least_rows T.F_least_rows.kp T.kb_least_rows__depth_many pass0 (pk_cons (pv 2) (pk_cons (pv 6) pk_nil))) pa_nil))) pa_nil)) (pe_callB (M.call_repr hg hr.units) (by rfl) T.b_repr (by decide +kernel) (pa_cons (pe_lst (pa_cons (pv 4) (pa_cons (pv 4) pa_nil))) pa_nil)) (nomark _)) (pss_one (ps_ret pe_bl)) pss_nil)
   (pss_cons (ps_if (pt_cmpR op_ne (pe_callB (M.call_repr hg hr.units) (by rfl) T.b_repr (by decide +kernel) (pa_cons (pe_lst (pa_cons (pe_call G_kind_count (hr.mono (by omega)) (by rfl) T.g_kind_count T.F_kind_count.kp T.b_kind_count .nil pass0 (pa_cons (pv 6) (pa_cons (pv 2) pa_nil))) (pa_cons (M.pe_callK0 G_kind_count (hr.mono (by omega)) (by rfl) T.g_kind_count T.F_kind_count.kp T.kb_kind_count__depth_many pass0 (pk_cons (pv 2) (pk_cons (pv 6) pk_nil))) pa_nil))) pa_nil)) (pe_callB (M.call_repr hg hr.units) (by rfl) T.b_repr (by decide +kernel) (pa_cons (pe_lst (pa_cons (pe_callB call_len_seq (by rfl) T.b_len (by decide +kernel) (pa_cons (pv 4) pa_nil)) (pa_cons (pe_callB call_len_seq (by rfl) T.b_len (by decide +kernel) (pa_cons (pv 4) pa_nil)) pa_nil))) pa_nil)) (nomark _)) (pss_one (ps_ret pe_bl)) pss_nil)
   (pss_cons (ps_set (i := 8) sc__law_right.nd rfl (Or.inr rfl) (pe_lc (own := [("line", 9)]) (g := gName 9) (tt := tYes) (by rfl) sc__law_right.nd (pi_list (pv 4)) (blkOk_by (own := [("line", 9)]) (N := ["pool", "names", "deep", "longest", "due", "known", "span", "told", "seen", "line", "letter", "size"]) (sc := defScope s__law_right) (by decide +kernel)) (fun _ _ _ _ _ => (pg_name (i := 9) sc__law_right.nd rfl (Or.inl rfl))) (fun _ _ _ _ _ => pts_nil) (fun _ _ _ _ _ => (pe_call G__law_kind (hr.mono (by omega)) (by rfl) T.g__law_kind T.F__law_kind.kp T.b__law_kind .nil pass0 (pa_cons (pv 9) (pa_cons (pv 2) (pa_cons (pv 5) pa_nil)))))))
   (pss_cons (ps_for PassesOwn.never (by rfl) (pi_list (pv 4)) (pg_name (i := 9) sc__law_right.nd rfl (Or.inr rfl)) (pss_one (ps_if (pt_cmpR (op_neD hr.units) (pe_lc (own := [("letter", 10)]) (g := gName 10) (by rfl) sc__law_right.nd (pi_list (pv 1)) (blkOk_by (own := [("letter", 10)]) (N := ["pool", "names", "deep", "longest", "due", "known", "span", "told", "seen", "line", "letter", "size"]) (sc := defScope s__law_right) (by decide +kernel)) (fun _ _ _ _ _ => (pg_name (i := 10) sc__law_right.nd rfl (Or.inl rfl))) (fun _ _ _ _ _ => (pts_one (pt_cmpR (show OpR _ (compareOp .NotIn) (rIn K true) from op_notIn_seq) (pe_call G__law_kind (hr.mono (by omega)) (by rfl) T.g__law_kind T.F__law_kind.kp T.b__law_kind .nil pass0 (pa_cons (pe_op op_add_str (pv 9) (pv 10)) (pa_cons (pv 2) (pa_cons (pv 5) pa_nil)))) (pv 8) (by rfl)))) (fun _ _ _ _ _ => pe_int)) (pe_lst pa_nil) (nomark _)) (pss_one (ps_ret pe_bl)) pss_nil)))
   (pss_cons (ps_expr (pe_bm PySem.F.plainAttrs_list PySem.F.slot_list_append PySem.F.type_list_append mt_append (pv 7) (pa_cons pe_str pa_nil)))
   (pss_cons (ps_if (pt_cmpR (op_neD hr.units) (pe_call G_least_rows (hr.mono (by omega)) (by rfl) T.g_least_rows T.F_least_rows.kp T.b_least_rows .nil pass0 (pa_cons (pv 6) (pa_cons (pv 2) pa_nil))) (pv 4) (nomark _)) (pss_one (ps_ret pe_bl)) pss_nil)
   (pss_cons (ps_if (pw_and (pt_cmpR op_eq (pv 2) pe_int (nomark _)) (pw_and1 (pt_cmpR op_ne (pe_callB call_len_seq (by rfl) T.b_len (by decide +kernel) (pa_cons (pv 4) pa_nil)) (pe_op op_fdivW (pe_op M.op_powW pe_int pe_int) (pe_ix ix_list (pe_lst (pa_cons pe_int (pa_cons pe_int (pa_cons pe_int (pa_cons pe_int pa_nil))))) (pe_op op_sub (pv 6) pe_int) (fun _ _ => rfl))) (nomark _)))).pt (pss_one (ps_ret pe_bl)) pss_nil)
   (pss_one (ps_ret (pe_or (pe_cmpR op_gt (pv 6) pe_int (nomark _)) (pe_one (pe_cmpR (op_eqD hr.units) (pv 4) (pe_lc (own := [("size", 11)]) (g := gName 11) (tt := tYes) (by rfl) sc__law_right.nd (pi_range1 (by rfl) T.b_range (pa_cons (pe_op op_shl pe_int (pv 2)) pa_nil)) (blkOk_by (own := [("size", 11)]) (N := ["pool", "names", "deep", "longest", "due", "known", "span", "told", "seen", "line", "letter", "size"]) (sc := defScope s__law_right) (by decide +kernel)) (fun _ _ _ _ _ => (pg_name (i := 11) sc__law_right.nd rfl (Or.inl rfl))) (fun _ _ _ _ _ => pts_nil) (fun _ _ _ _ _ => (pe_op M.op_mul_str pe_str (pv 11)))) (nomark _))))))))))))))))), ?_⟩
  walk_at "rd"
  refine ⟨H0, p, k0, rfl, hP, by omega, fun a0 l m d B1 H1 xB hP1 hS ea0 hl => ?_⟩
  have hl1 := hl.up hP1.ex
  have ea1 := hP1.ex _ _ ea0
  have hd4 := hS.d4
  have hm4 : m ≤ 4 := hS.2.1
  obtain ⟨R, hR⟩ : ∃ R, R = SC m d := ⟨_, rfl⟩
  have hRl : R.length ≤ 97 := by rw [hR]; exact SC.few hS
  have hRc : R.length = cnt m d := by rw [hR]; exact sc_len hS
  have hRL : Lets 17 R := by rw [hR]; exact SC.lets hS
  obtain ⟨w1, w2, w3, w4⟩ := (sml_two (sml_rows hRL hRl) (sml_rows hRL hRl)).shw (by decide) (by decide)
  have shR := shaped_rows hRL
  have ll4 : (lets4 m).length = m := by simp [lets4]
  walk_at "rd"
  refine ⟨_, _, rfl, SqT.of ea1, rfl, ?_⟩
  walk_at "rd"
  refine ⟨l, m, d, rfl, hl1, hS, fun fa H2 x2 nfa efa => ?_⟩
  rw [← hR] at efa
  walk_at "rd"
  intro kd H3 nkd eH3
  have x3 : Ex H2 H3 := by rw [eH3]; exact Ex.new nkd
  have hK := LK.new (P := P) (w := w) (k := kd) (sub_scope hS (r := []) (by decide) (fun c hc => nomatch hc)) (H := H3) (by rw [eH3]; exact upd_same)
  clear eH3
  have efa3 := x3 _ _ efa
  walk_at "rd"
  intro tp ntp
  have x4 := Ex.new (o := .tup [.ref fa, .ref kd]) ntp
  have etp : upd H3 tp (.tup [.ref fa, .ref kd]) tp = some (.tup [.ref fa, .ref kd]) := upd_same
  have efa4 := x4 _ _ efa3
  have hK4 := hK.ex (Tk.of x4) fun o e => x4 _ _ e
  generalize upd H3 tp _ = H4 at *
  have hl4 := hl1.up ((x2.trans x3).trans x4)
  have hP4 := hP1.keep ((x2.trans x3).trans x4)
  refine ⟨_, _, rfl, SqT.of etp, rfl, ?_⟩
  walk_at "rd"
  refine ⟨l, _, rfl, .inl (SqL.of hl4.1), ?_⟩
  rw [oneV_len, ll4]
  walk_at "rd"
  refine ⟨m, d, (), rfl, hS, fun ta H5 x5 nta eta => ?_⟩
  rw [← hR] at eta
  have eta : H5 ta = some (.lst (rowsV R)) := eta
  have efa5 := x5 _ _ efa4
  have hP5 := hP4.keep x5
  walk_at "rd"
  refine ⟨m, d, (), rfl, hS, fun tb H6 x6 ntb etb => ?_⟩
  rw [← hR] at etb
  have etb : H6 tb = some (.lst (rowsV R)) := etb
  walk_at "rd"
  intro q1 u1
  have x7 := Ex.new (o := .lst [.ref ta, .ref tb]) u1
  have eq1 : upd H6 q1 (.lst [.ref ta, .ref tb]) q1 = some (.lst [.ref ta, .ref tb]) := upd_same
  have eta7 := x7 _ _ (x6 _ _ eta)
  have etb7 := x7 _ _ etb
  have efa7 := x7 _ _ (x6 _ _ efa5)
  generalize upd H6 q1 _ = H7 at *
  walk_at "rd"
  refine ⟨_, .list [dRows R, dRows R], rfl, .lst (SqL.of eq1) (.cons (dp_rows eta7) (.cons (dp_rows etb7) .nil)), w1, w2, w3, w4, ?_⟩
  walk_at "rd"
  intro q2 u2
  have x8 := Ex.new (o := .lst [.ref fa, .ref fa]) u2
  have eq2 : upd H7 q2 (.lst [.ref fa, .ref fa]) q2 = some (.lst [.ref fa, .ref fa]) := upd_same
  have efa8 := x8 _ _ efa7
  have eta8 := x8 _ _ eta7
  generalize upd H7 q2 _ = H8 at *
  walk_at "rd"
  refine ⟨_, .list [dRows R, dRows R], rfl, .lst (SqL.of eq2) (.cons (dp_rows efa8) (.cons (dp_rows efa8) .nil)), w1, w2, w3, w4, ?_⟩
  walk_at "rd"
  refine iteNS (fun h => absurd rfl h) (fun _ => ?_)
  walk_at "rd"
  refine ⟨m, d, (), rfl, hS, fun H9 x9 => ?_⟩
  walk_at "rd"
  refine ⟨m, d, (), rfl, hS, fun H10 x10 => ?_⟩
  obtain ⟨v1, v2, v3, v4⟩ := (sml_two (sml_int (n := cnt m d) (by have := cnt_le hS; omega)) (sml_int (n := cnt m d) (by have := cnt_le hS; omega))).shw (by decide) (by decide)
  walk_at "rd"
  intro q3 u3
  have x11 := Ex.new (o := .lst [.int (cnt m d : Nat), .int (cnt m d : Nat)]) u3
  have eq3 : upd H10 q3 (.lst [.int (cnt m d : Nat), .int (cnt m d : Nat)]) q3 = some (.lst [.int (cnt m d : Nat), .int (cnt m d : Nat)]) := upd_same
  have efa11 := x11 _ _ (x10 _ _ (x9 _ _ efa8))
  generalize upd H10 q3 _ = H11 at *
  walk_at "rd"
  refine ⟨_, .list [.int (cnt m d : Nat), .int (cnt m d : Nat)], rfl, .lst (SqL.of eq3) (.cons (.int _) (.cons (.int _) .nil)), v1, v2, v3, v4, ?_⟩
  walk_at "rd"
  intro q4 u4
  have x12 := Ex.new (o := .lst [.int ((rowsV R).length : Nat), .int ((rowsV R).length : Nat)]) u4
  have eq4 : upd H11 q4 (.lst [.int ((rowsV R).length : Nat), .int ((rowsV R).length : Nat)]) q4 = some (.lst [.int (cnt m d : Nat), .int (cnt m d : Nat)]) := by rw [upd_same, rowsV_len, hRc]
  have efa12 := x12 _ _ efa11
  generalize upd H11 q4 _ = H12 at *
  walk_at "rd"
  refine ⟨_, .list [.int (cnt m d : Nat), .int (cnt m d : Nat)], rfl, .lst (SqL.of eq4) (.cons (.int _) (.cons (.int _) .nil)), v1, v2, v3, v4, ?_⟩
  walk_at "rd"
  refine iteNS (fun h => absurd rfl h) (fun _ => ?_)
  have y12 : Ex H4 H12 := ((((x5.trans x6).trans x7).trans x8).trans ((x9.trans x10).trans x11)).trans x12
  have y8 : Ex H5 H12 := (((x6.trans x7).trans x8).trans ((x9.trans x10).trans x11)).trans x12
  have eta12 := y8 _ _ eta
  have hl12 := hl4.up y12
  have hK12 := hK4.ex (Tk.of y12) fun o e => y12 _ _ e
  have kdfa : kd ≠ fa := fun e => by rw [e] at nkd; rw [nkd] at efa; exact nomatch efa
  have kdta : kd ≠ ta := ne_of_none hK4.nd.at_ nta
  have kdl : kd ≠ l := fun e => by rw [← e] at hl1; have := x2 _ _ hl1.1; rw [nkd] at this; exact nomatch this
  have nkdB : H1 kd = none := fresh_back x2 nkd
  walk_at "rd"
  refine ⟨⟨_, SqL.of efa12⟩, fun D nD => ?_⟩
  have kdD : kd ≠ D := ne_of_none hK12.nd.at_ nD
  have xD := Ex.new (o := .lst []) nD
  obtain ⟨Pk, hPk⟩ : ∃ Pk : Nat → Hp → Prop, ∀ j J, Pk j J ↔ ∃ (e : List NEnt) (u : LTab) (L : List NR), (∀ b o, b ≠ kd → H12 b = some o → J b = some o) ∧ LK P w (subsAll ([] :: scRows m d)) 8 J kd e u ∧ J D = some (.lst (natsV (L.map (·.1)))) ∧ L.map (·.2) = R.take j ∧ (∀ p ∈ L, LRep u d p.1 p.2) := ⟨_, fun _ _ => Iff.rfl⟩
  have mem1 : ∀ r ∈ R, ∀ c ∈ lets4 m, r ++ [c] ∈ subsAll ([] :: scRows m d) := fun r hr c hc => by
    rw [hR] at hr
    exact mem_all (List.mem_cons_of_mem _ (List.mem_flatMap.mpr ⟨r, hr, List.mem_map.mpr ⟨c, hc, rfl⟩⟩))
  have mem0 : ∀ r ∈ R, r ∈ subsAll ([] :: scRows m d) := fun r hr => by
    have := hK.sub.tak _ (mem1 r hr 97 (mem_lets4.mpr ⟨by decide, by have := hS.1; omega⟩)) r.length
    rwa [List.take_left] at this
  have hRo : ∀ r ∈ R, Of m r := fun r hr => by rw [hR] at hr; exact SC.of hr
  refine lc_list (xs := rowsV R) Pk ((hPk _ _).mpr ⟨_, _, [], fun b o _ h => xD b o h, hK12.ex (Tk.of xD) (fun o e => xD _ _ e), upd_same, rfl, fun p hp => nomatch hp⟩) (fun j J hj h => by
      obtain ⟨_, _, _, old, _⟩ := (hPk _ _).mp h
      exact SqL.of (old _ _ (Ne.symm kdfa) efa12)) (fun j x J hx h => ?_) (fun J h => ?_)
  · obtain ⟨e, u, L, old, hKJ, eD, hLr, hLp⟩ := (hPk _ _).mp h
    obtain ⟨r, hr, rfl⟩ := rowsV_at hx
    have hrm := List.mem_of_getElem? hr
    have hro := hRo r hrm
    have hLl : L.length ≤ 97 := by
      have := congrArg List.length hLr
      rw [List.length_map, List.length_take] at this
      omega
    walk_at "rd"
    refine ⟨_, 8, e, u, kd, strOf r, d, rfl, hKJ, by omega, by omega, mem0 r hrm, fun c hc => by have h1 := hro c hc; omega, fun n e1 u1 J1 hK1 g1 old1 r1 => ?_⟩
    have eD1 := old1 _ _ (Ne.symm kdD) eD
    refine ⟨_, eD1, Nat.lt_of_le_of_lt (by rw [natsV_len, List.length_map]; omega : _ ≤ 100) (by decide), (hPk _ _).mpr ⟨e1, u1, L ++ [(n, r)], fun b o hb h => ?_, hK1.ex (fun b ys q => ?_) (fun o q => ?_), ?_, ?_, fun p hp => ?_⟩⟩
    · rw [upd_ne (ne_of_none h nD)]; exact old1 b o hb (old b o hb h)
    · rw [upd_ne (fun z => by rw [z, eD1] at q; exact nomatch q)]; exact q
    · rw [upd_ne kdD]; exact q
    · rw [upd_same, natsV_snoc, List.map_append]; rfl
    · rw [List.map_append, hLr, List.take_add_one, hr]; rfl
    · rcases List.mem_append.mp hp with hp | hp
      · exact (hLp p hp).up g1
      · rw [List.mem_singleton.mp hp]; exact r1
  obtain ⟨e13, u13, L, old13, hK13, eD, hLr, hLp⟩ := (hPk _ _).mp h
  rw [rowsV_len, List.take_length] at hLr
  have efa13 := old13 _ _ (Ne.symm kdfa) efa12
  have eta13 := old13 _ _ (Ne.symm kdta) eta12
  have el13 := old13 _ _ (Ne.symm kdl) hl12.1
  walk_at "rd"
  refine ⟨⟨_, SqL.of efa13⟩, ?_⟩
  obtain ⟨Pv, hPv⟩ : ∃ Pv : Nat → L2.St → Hp → Prop, ∀ i σ G, Pv i σ G ↔ ∃ (e : List NEnt) (u : LTab) (o9 o10 o11 : Option V), σ = [some (.ref p), some (.ref l), some (.int (d : Nat)), some (.int (longest m : Nat)), some (.ref fa), some (.ref kd), some (.int (m : Nat)), some (.ref ta), some (.ref D), o9, o10, o11] ∧
    (∀ b o, b ≠ kd → J b = some o → G b = some o) ∧ LK P w (subsAll ([] :: scRows m d)) 8 G kd e u ∧ (∀ x ∈ u13, x ∈ u) := ⟨_, fun _ _ _ => Iff.rfl⟩
  refine for_list (xs := rowsV R) Pv ((hPv _ _ _).mpr ⟨e13, u13, _, _, _, rfl, fun b o _ h => h, hK13, fun x h => h⟩) (fun i σ G hi h => ?_) (fun i x σ G hx h => ?_) (fun σ G h => ?_)
  · obtain ⟨_, _, _, _, _, rfl, old, _⟩ := (hPv _ _ _).mp h
    exact SqL.of (old _ _ (Ne.symm kdfa) efa13)
  · obtain ⟨e, u, o9, o10, o11, rfl, old, hKG, hu⟩ := (hPv _ _ _).mp h
    obtain ⟨r, hr, rfl⟩ := rowsV_at hx
    have hrm := List.mem_of_getElem? hr
    have hro := hRo r hrm
    have elG := old _ _ (Ne.symm kdl) el13
    have eDG := old _ _ (Ne.symm kdD) eD
    walk_at "rd"
    refine ⟨⟨_, SqL.of elG⟩, fun D2 nD2 => ?_⟩
    have kdD2 : kd ≠ D2 := ne_of_none hKG.nd.at_ nD2
    have xD2 := Ex.new (o := .lst []) nD2
    obtain ⟨Pj, hPj⟩ : ∃ Pj : Nat → Hp → Prop, ∀ j W, Pj j W ↔ ∃ (e : List NEnt) (u : LTab), (∀ b o, b ≠ kd → G b = some o → W b = some o) ∧ LK P w (subsAll ([] :: scRows m d)) 8 W kd e u ∧ (∀ x ∈ u13, x ∈ u) ∧ W D2 = some (.lst []) := ⟨_, fun _ _ => Iff.rfl⟩
    refine lc_list (xs := oneV (lets4 m)) Pj ((hPj _ _).mpr ⟨e, u, fun b o _ h => xD2 b o h, hKG.ex (Tk.of xD2) (fun o e => xD2 _ _ e), hu, upd_same⟩) (fun j W hj h => by
        obtain ⟨_, _, oldW, _⟩ := (hPj _ _).mp h
        exact SqL.of (oldW _ _ (Ne.symm kdl) elG)) (fun j x W hx h => ?_) (fun W h => ?_)
    · obtain ⟨e, u, oldW, hKW, hu, eD2⟩ := (hPj _ _).mp h
      rw [oneV_rows] at hx
      obtain ⟨c', hc', rfl⟩ := rowsV_at hx
      rw [List.getElem?_map] at hc'
      obtain ⟨c, hc, rfl⟩ := Option.map_eq_some_iff.mp hc'
      have hcm := List.mem_of_getElem? hc
      have hcb := mem_lets4.mp hcm
      have hroc := hro.snoc hcb.1 hcb.2
      have lr : (strOf r).length + (strOf [c]).length ≤ 100 := by
        have := (hRL r hrm).2
        rw [strOf_len, strOf_len]
        show r.length + 1 ≤ 100
        omega
      walk_at "rd"
      refine ⟨Nat.le_trans lr (by decide), ?_⟩
      rw [show strOf r ++ strOf [c] = strOf (r ++ [c]) from str_snoc r c]
      walk_at "rd"
      refine ⟨_, 8, e, u, kd, strOf (r ++ [c]), d, rfl, hKW, by omega, by omega, mem1 r hrm c hcm, fun x hx => by have h1 := hroc x hx; omega, fun n e1 u1 W1 hK1 g1 old1 r1 => ?_⟩
      have eDW := old1 _ _ (Ne.symm kdD) (oldW _ _ (Ne.symm kdD) eDG)
      obtain ⟨v, hv, ev⟩ := sc_close hS (by rw [← hR]; exact hrm) hcm
      have hvR : v ∈ L.map (·.2) := by rw [hLr, hR]; exact hv
      obtain ⟨pv, hpv, rfl⟩ := List.mem_map.mp hvR
      have hin : inV (.int (n : Nat)) (natsV (L.map (·.1))) = true := (inV_nats _ _).mpr (List.mem_map.mpr ⟨pv, hpv, (LRep.iff hK1.ok (((hLp pv hpv).up hu).up g1) r1).mpr ((kind_al hS (SC.of hv) hroc).mp ev)⟩)
      walk_at "rd"
      refine ⟨by unfold natsV; simp [flatV], ?_⟩
      walk_at "rd"
      rw [hin]
      refine (hPj _ _).mpr ⟨e1, u1, fun b o hb h => old1 b o hb (oldW b o hb h), hK1, fun x h => g1 x (hu x h), old1 _ _ (Ne.symm kdD2) eD2⟩
    · obtain ⟨e, u, oldW, hKW, hu, eD2⟩ := (hPj _ _).mp h
      walk_at "rd"
      intro q5 u5
      have xq := Ex.new (o := .lst []) u5
      have eq5 : upd W q5 (.lst []) q5 = some (.lst []) := upd_same
      walk_at "rd"
      refine ⟨.list [], .list [], .lst (SqL.of (xq _ _ eD2)) .nil, .lst (SqL.of eq5) .nil, by decide +kernel, by decide +kernel, ?_⟩
      walk_at "rd"
      exact (hPv _ _ _).mpr ⟨e, u, _, _, _, rfl, fun b o hb h => xq _ _ (oldW b o hb (old b o hb h)), hKW.ex (Tk.of xq) (fun o e => xq _ _ e), hu⟩
  · obtain ⟨e, u, o9, o10, o11, rfl, old, hKG, hu⟩ := (hPv _ _ _).mp h
    have etaG := old _ _ (Ne.symm kdta) eta13
    have efaG := old _ _ (Ne.symm kdfa) efa13
    have fata : fa ≠ ta := ne_of_none efa4 nta
    have x14 : Ex H1 G := fun b o hb => old b o (ne_of_none hb nkdB) (old13 b o (ne_of_none hb nkdB) (y12 _ _ (x4 _ _ (x3 _ _ (x2 _ _ hb)))))
    have ntaB : H1 ta = none := fresh_back ((x2.trans x3).trans x4) nta
    walk_at "rd"
    refine ⟨.inl ⟨rfl, _, SqL.of etaG⟩, ?_⟩
    walk_at "rd"
    refine ⟨ta, _, _, rfl, rfl, etaG, Nat.lt_of_le_of_lt (by rw [rowsV_len]; omega : _ ≤ 100) (by decide), ?_⟩
    have efa15 : upd G ta (.lst (rowsV R ++ [.str "q"])) fa = some (.lst (rowsV R)) := by rw [upd_ne fata]; exact efaG
    have x15 : Ex H1 (upd G ta (.lst (rowsV R ++ [.str "q"]))) := fun b o hb => by rw [upd_ne (ne_of_none hb ntaB)]; exact x14 b o hb
    generalize upd G ta _ = G1 at *
    walk_at "rd"
    refine ⟨m, d, (), rfl, hS, fun tc G2 x16 ntc etc => ?_⟩
    rw [← hR] at etc
    have etc : G2 tc = some (.lst (rowsV R)) := etc
    have efa16 := x16 _ _ efa15
    walk_at "rd"
    refine ⟨dRows R, dRows R, dp_rows etc, dp_rows efa16, shR, shR, ?_⟩
    rw [eqv_rows]
    walk_at "rd"
    refine iteND (fun h => absurd rfl h) (fun _ => ?_)
    walk_at "rd"
    have hPe : ∀ G3, Ex G2 G3 → Pl H0 G3 p (k0 + 600) := fun G3 x =>
      have hPk := hP1.keep ((x15.trans x16).trans x)
      Pl.mono ⟨xB.trans hPk.ex, hP.out, hPk.at_⟩ (by omega)
    refine iteI (fun e1 => ?_) (fun e1 => ?_)
    · have hc1 : cnt m d = 2 ^ m := by
        have : d = 1 := by omega
        subst this
        exact cnt1 hS
      walk_at "rd"
      intro q6 u6
      have x17 := Ex.new (o := .lst [.int 8, .int 4, .int 2, .int 1]) u6
      have e17 : upd G2 q6 (.lst [.int 8, .int 4, .int 2, .int 1]) q6 = some (.lst [.int 8, .int 4, .int 2, .int 1]) := upd_same
      have efa17 := x17 _ _ efa16
      generalize upd G2 q6 _ = G3 at *
      have h16 : (2 : Int) ^ (4 : Int).toNat = 16 := by decide
      obtain ⟨wv, hw1, hw2, hw3, hw4⟩ : ∃ wv : Int, atI [V.int 8, V.int 4, V.int 2, V.int 1] ((m : Nat) - 1 : Int) = some (.int wv) ∧ 0 < wv ∧ wv.natAbs.log2 < 9000 ∧ (16 : Int) / wv = ((rowsV R).length : Nat) := by
        rw [rowsV_len, hRc, hc1]
        have h1 := hS.1
        rcases (by omega : m = 1 ∨ m = 2 ∨ m = 3 ∨ m = 4) with rfl | rfl | rfl | rfl
        · exact ⟨8, rfl, by decide, by decide +kernel, by decide⟩
        · exact ⟨4, rfl, by decide, by decide +kernel, by decide⟩
        · exact ⟨2, rfl, by decide, by decide +kernel, by decide⟩
        · exact ⟨1, rfl, by decide, by decide +kernel, by decide⟩
      walk_at "rd"
      refine ⟨_, _, _, _, rfl, rfl, SqL.of e17, hw1, ?_⟩
      refine ⟨16, wv, rfl, rfl, ⟨hw2, hw3⟩, ?_⟩
      generalize hq : (fun i j : Int => V.int (i / j)) 16 wv = vv
      obtain rfl : vv = V.int ((rowsV R).length : Nat) := by rw [← hq]; exact congrArg V.int hw4
      walk_at "rd"
      refine iteNI (fun h => absurd rfl h) (fun _ => ?_)
      walk_at "rd"
      walk_at "tl"
    · generalize hG : G2 = G3
      have x17 : Ex G2 G3 := by rw [hG]; exact Ex.refl _
      have efa17 := x17 _ _ efa16
      clear hG
      walk_at "rd"
      walk_at "tl"

end
end Lw
end

section
set_option Elab.async false
set_option linter.all false
set_option maxRecDepth 100000
set_option maxHeartbeats 4000000
set_option pp.maxSteps 300
set_option pp.deepTerms false
namespace Lw
open PySem L2 Evl M
open PyProof.Rows hiding St
local macro_rules | `(tactic| walk_at "at") => `(tactic| first | assumption | exact upd_same)
local macro_rules | `(tactic| walk_at "sq") => `(tactic| first | assumption | exact SqL.of (by walk_at "at") | exact SqT.of (by walk_at "at"))
local macro_rules | `(tactic| walk_at "sd") => `(tactic| first | assumption | exact Names.size (by assumption) | omega | decide | exact Nat.le_of_ble_eq_true rfl | exact Or.inl ⟨by decide, by decide⟩ | exact wide_div (b := 200) (by first | assumption | decide) (by first | assumption | decide) (by decide) (by decide) | exact pow_w 10 (by decide) (by decide) (by decide) (by decide))
local macro_rules | `(tactic| walk_at "r1") => `(tactic| first
  | refine ⟨_, rfl, ?_⟩
  | refine ⟨_, _, rfl, rfl, ?_⟩
  | refine And.intro rfl ?_
  | refine ⟨_, _, _, _, rfl, rfl, (by walk_at "sq"), rfl, ?_⟩
  | refine ⟨_, _, _, _, rfl, rfl, (by walk_at "at"), rfl, ?_⟩
  | refine ⟨_, _, rfl, Or.inl (by walk_at "sq"), ?_⟩
  | refine ⟨_, _, rfl, Or.inr (by walk_at "sq"), ?_⟩
  | refine ⟨_, _, rfl, ?_⟩
  | refine Or.inl ⟨_, rfl, ?_⟩
  | refine And.intro (by walk_at "sd") ?_)
local macro_rules | `(tactic| walk_at "rd") => `(tactic| try (walk_at "r1"; walk_at "rd"))
section
variable {P : Program} {w : World} {K : PySem.W.Frag} {mg : Str → Option Value} {base : Heap}
theorem ok_law (T : Tx w K mg) (G__law_pool : FnOk P w K mg base CX0 1 T.a__law_pool T.d__law_pool ["script", "spot"] (sp_pool K))
    (G__law_right : FnG P w K mg base CX0 64 T.a__law_right T.d__law_right ["pool"] sp_fits) :
    FnG P w K mg base CX0 65 T.a_law T.d_law ["script"] (sp_law K) := by
  refine M.Fun.okG T.F_law sc_law (fun vs H Q E h => ?_) (fun cdv A hg outer s H vs Q E hr h => ?_)
  · obtain ⟨_, _, rfl, _⟩ := h
    rfl
  obtain ⟨a, ns, rfl, hs, hl, k⟩ := h
  refine ⟨_, (pss_cons (ps_for PassesOwn.never (by rfl) (pi_range1 (by rfl) T.b_range (pa_cons (pe_callB (call_max2 (by rfl)) (by rfl) T.b_max (by decide +kernel) (pa_cons pe_int (pa_cons (pe_callB (call_min2 (by rfl)) (by rfl) T.b_min (by decide +kernel) (pa_cons pe_int (pa_cons (pe_callB call_len_seq (by rfl) T.b_len (by decide +kernel) (pa_cons (pv 0) pa_nil)) pa_nil))) pa_nil))) pa_nil)) (pg_name (i := 1) sc_law.nd rfl (Or.inl rfl)) (pss_cons (ps_set (i := 2) sc_law.nd rfl (Or.inl rfl) (pe_call G__law_pool (hr.mono (by omega)) (by rfl) T.g__law_pool T.F__law_pool.kp T.b__law_pool .nil pass0 (pa_cons (pv 0) (pa_cons (pv 1) pa_nil))))
   (pss_one (ps_for PassesOwn.never (by rfl) (pi_range1 (by rfl) T.b_range (pa_cons pe_int pa_nil)) (pg_name (i := 3) sc_law.nd rfl (Or.inl rfl)) (pss_one (ps_if (pt_not (pt_val (M.pe_callG G__law_right hg (hr.mono (by omega)) (by rfl) T.g__law_right T.F__law_right.kp T.b__law_right .nil pass0 (pa_cons (pv 2) pa_nil)))) (pss_one (ps_ret pe_bl)) pss_nil))))))
   (pss_one (ps_ret pe_bl))), ?_⟩
  walk_at "rd"
  have hb : (if (if (((ns.map V.int).length : Nat) : Int) < 3 then (((ns.map V.int).length : Nat) : Int) else 3) > 1 then (if (((ns.map V.int).length : Nat) : Int) < 3 then (((ns.map V.int).length : Nat) : Int) else 3) else 1).toNat ≤ 3 := by
    split <;> split <;> omega
  generalize Int.toNat _ = top at *
  obtain ⟨Po, hPo⟩ : ∃ Po : Nat → L2.St → Hp → Prop, ∀ i σ G, Po i σ G ↔ ∃ (o1 o2 o3 : Option V), σ = [some (.ref a), o1, o2, o3] ∧ Ex H G := ⟨_, fun _ _ _ => Iff.rfl⟩
  refine for_range Po ((hPo _ _ _).mpr ⟨_, _, _, rfl, Ex.refl _⟩) (fun i σ G hi h => ?_) (fun σ G h => ?_)
  · obtain ⟨o1, o2, o3, rfl, xg⟩ := (hPo _ _ _).mp h
    have hs1 := ex_l xg hs
    walk_at "rd"
    refine ⟨a, ns, _, rfl, hs1, by omega, by omega, fun p G2 hP => ?_⟩
    walk_at "rd"
    obtain ⟨Pi, hPi⟩ : ∃ Pi : Nat → L2.St → Hp → Prop, ∀ i σ G3, Pi i σ G3 ↔ ∃ (o1 o3 : Option V), σ = [some (.ref a), o1, some (.ref p), o3] ∧ Pl G G3 p (600 * i) := ⟨_, fun _ _ _ => Iff.rfl⟩
    refine for_range Pi ((hPi _ _ _).mpr ⟨_, _, rfl, hP⟩) (fun j σ G3 hj h => ?_) (fun σ G3 h => ?_)
    · obtain ⟨o1, o3, rfl, hP3⟩ := (hPi _ _ _).mp h
      have hj5 : j < 2 := hj
      walk_at "rd"
      refine ⟨G, p, 600 * j, rfl, hP3, by omega, fun G4 hP4 => ?_⟩
      walk_at "rd"
      exact (hPi _ _ _).mpr ⟨_, _, rfl, hP4.mono (by omega)⟩
    · obtain ⟨o1, o3, rfl, hP3⟩ := (hPi _ _ _).mp h
      exact (hPo _ _ _).mpr ⟨_, _, _, rfl, xg.trans hP3.ex⟩
  · obtain ⟨o1, o2, o3, rfl, xg⟩ := (hPo _ _ _).mp h
    walk_at "rd"
    exact k G

end
end Lw
end

section
set_option Elab.async false
set_option linter.all false
set_option maxRecDepth 100000
set_option maxHeartbeats 4000000
namespace Lw
open PySem L2 Evl M
open PyProof.Rows hiding St
theorem all_mk {P : Program} {w : World} {K : PySem.W.Frag} {h : Heap} {mg : Str → Option Value} {fa : Addr} (X : K.In h) (G : h.Ns mainGlobals mg) (hfa : mg "law" = some (.ref fa))
  {f__wall : Addr} {od__wall an__wall : Option Addr} {sl__wall : Array (Option Value)} {oc__wall kV__wall dc__wall pm__wall cd__wall ct__wall : Value}
  {f_Kinds___init__ : Addr} {od_Kinds___init__ an_Kinds___init__ : Option Addr} {sl_Kinds___init__ : Array (Option Value)} {oc_Kinds___init__ kV_Kinds___init__ dc_Kinds___init__ pm_Kinds___init__ cd_Kinds___init__ ct_Kinds___init__ : Value}
  {f_Kinds : Addr}
  {f_Kinds_alike : Addr} {od_Kinds_alike an_Kinds_alike : Option Addr} {sl_Kinds_alike : Array (Option Value)} {oc_Kinds_alike kV_Kinds_alike dc_Kinds_alike pm_Kinds_alike cd_Kinds_alike ct_Kinds_alike : Value}
  {f_Kinds_of_row : Addr} {od_Kinds_of_row an_Kinds_of_row : Option Addr} {sl_Kinds_of_row : Array (Option Value)} {oc_Kinds_of_row kV_Kinds_of_row dc_Kinds_of_row pm_Kinds_of_row cd_Kinds_of_row ct_Kinds_of_row : Value}
  {f_Kinds_places : Addr} {od_Kinds_places an_Kinds_places : Option Addr} {sl_Kinds_places : Array (Option Value)} {oc_Kinds_places kV_Kinds_places dc_Kinds_places pm_Kinds_places cd_Kinds_places ct_Kinds_places : Value}
  {f_Kinds_marks_of_places : Addr} {od_Kinds_marks_of_places an_Kinds_marks_of_places : Option Addr} {sl_Kinds_marks_of_places : Array (Option Value)} {oc_Kinds_marks_of_places kV_Kinds_marks_of_places dc_Kinds_marks_of_places pm_Kinds_marks_of_places cd_Kinds_marks_of_places ct_Kinds_marks_of_places : Value}
  {f_Kinds_empty : Addr} {od_Kinds_empty an_Kinds_empty : Option Addr} {sl_Kinds_empty : Array (Option Value)} {oc_Kinds_empty kV_Kinds_empty dc_Kinds_empty pm_Kinds_empty cd_Kinds_empty ct_Kinds_empty : Value}
  {f_Kinds_numbered : Addr} {od_Kinds_numbered an_Kinds_numbered : Option Addr} {sl_Kinds_numbered : Array (Option Value)} {oc_Kinds_numbered kV_Kinds_numbered dc_Kinds_numbered pm_Kinds_numbered cd_Kinds_numbered ct_Kinds_numbered : Value}
  {f_Kinds_lesser : Addr} {od_Kinds_lesser an_Kinds_lesser : Option Addr} {sl_Kinds_lesser : Array (Option Value)} {oc_Kinds_lesser kV_Kinds_lesser dc_Kinds_lesser pm_Kinds_lesser cd_Kinds_lesser ct_Kinds_lesser : Value}
  {f_Kinds_added_behind : Addr} {od_Kinds_added_behind an_Kinds_added_behind : Option Addr} {sl_Kinds_added_behind : Array (Option Value)} {oc_Kinds_added_behind kV_Kinds_added_behind dc_Kinds_added_behind pm_Kinds_added_behind cd_Kinds_added_behind ct_Kinds_added_behind : Value}
  {f_Kinds_added_ahead : Addr} {od_Kinds_added_ahead an_Kinds_added_ahead : Option Addr} {sl_Kinds_added_ahead : Array (Option Value)} {oc_Kinds_added_ahead kV_Kinds_added_ahead dc_Kinds_added_ahead pm_Kinds_added_ahead cd_Kinds_added_ahead ct_Kinds_added_ahead : Value}
  {f_kind_count : Addr} {od_kind_count an_kind_count : Option Addr} {sl_kind_count : Array (Option Value)} {oc_kind_count kV_kind_count dc_kind_count pm_kind_count cd_kind_count ct_kind_count : Value}
  {f_least_rows : Addr} {od_least_rows an_least_rows : Option Addr} {sl_least_rows : Array (Option Value)} {oc_least_rows kV_least_rows dc_least_rows pm_least_rows cd_least_rows ct_least_rows : Value}
  {f_rows_by_kind : Addr} {od_rows_by_kind an_rows_by_kind : Option Addr} {sl_rows_by_kind : Array (Option Value)} {oc_rows_by_kind kV_rows_by_kind dc_rows_by_kind pm_rows_by_kind cd_rows_by_kind ct_rows_by_kind : Value}
  {f_letters_of : Addr} {od_letters_of an_letters_of : Option Addr} {sl_letters_of : Array (Option Value)} {oc_letters_of kV_letters_of dc_letters_of pm_letters_of cd_letters_of ct_letters_of : Value}
  {f_check_scope : Addr} {od_check_scope an_check_scope : Option Addr} {sl_check_scope : Array (Option Value)} {oc_check_scope kV_check_scope dc_check_scope pm_check_scope cd_check_scope ct_check_scope : Value}
  {f__law_pool : Addr} {od__law_pool an__law_pool : Option Addr} {sl__law_pool : Array (Option Value)} {oc__law_pool kV__law_pool dc__law_pool pm__law_pool cd__law_pool ct__law_pool : Value}
  {f__law_draw : Addr} {od__law_draw an__law_draw : Option Addr} {sl__law_draw : Array (Option Value)} {oc__law_draw kV__law_draw dc__law_draw pm__law_draw cd__law_draw ct__law_draw : Value}
  {f__law_kind : Addr} {od__law_kind an__law_kind : Option Addr} {sl__law_kind : Array (Option Value)} {oc__law_kind kV__law_kind dc__law_kind pm__law_kind cd__law_kind ct__law_kind : Value}
  {f__law_all_lines : Addr} {od__law_all_lines an__law_all_lines : Option Addr} {sl__law_all_lines : Array (Option Value)} {oc__law_all_lines kV__law_all_lines dc__law_all_lines pm__law_all_lines cd__law_all_lines ct__law_all_lines : Value}
  {f__law_scope : Addr} {od__law_scope an__law_scope : Option Addr} {sl__law_scope : Array (Option Value)} {oc__law_scope kV__law_scope dc__law_scope pm__law_scope cd__law_scope ct__law_scope : Value}
  {f__law_firsts : Addr} {od__law_firsts an__law_firsts : Option Addr} {sl__law_firsts : Array (Option Value)} {oc__law_firsts kV__law_firsts dc__law_firsts pm__law_firsts cd__law_firsts ct__law_firsts : Value}
  {f__law_right : Addr} {od__law_right an__law_right : Option Addr} {sl__law_right : Array (Option Value)} {oc__law_right kV__law_right dc__law_right pm__law_right cd__law_right ct__law_right : Value}
  {f_law : Addr} {od_law an_law : Option Addr} {sl_law : Array (Option Value)} {oc_law kV_law dc_law pm_law cd_law ct_law : Value}
  {v_LETTERS : Value}
  {f_DEPTHS : Addr} {es_DEPTHS : Array DictEntry} {n_DEPTHS : Nat}
  (g__wall : PySem.W.nsIn K mainGlobals "_wall" = some (some (.ref f__wall)))
  (l__wall : K.lookup f__wall = some ⟨oc__wall, od__wall, .func (PySem.W.fnOf "_wall" "_wall" (defArgs s__wall) (defBody s__wall) (defScope s__wall) .none kV__wall dc__wall pm__wall an__wall cd__wall ct__wall), sl__wall⟩)
  (c__wall : PySem.W.codeIn K cd__wall "_wall" = true)
  (k__wall : PySem.W.keepIn K (.ref f__wall) = true)
  (g_Kinds : PySem.W.nsIn K mainGlobals "Kinds" = some (some (.ref f_Kinds)))
  (pg_Kinds : PySem.W.plainGet K f_Kinds Str.empty = true)
  (hd_Kinds : PySem.W.hasDictIn K f_Kinds = true)
  (po_Kinds : PySem.W.plainOver K f_Kinds = true)
  (sa_Kinds : PySem.W.findIn K (.ref f_Kinds) "__setattr__" = some (some (.builtin "object.__setattr__")))
  (mk_Kinds : PySem.W.makesIn K f_Kinds = true)
  (kk_Kinds : PySem.W.keepIn K (.ref f_Kinds) = true)
  (n_Kinds_known_kinds : PySem.W.findIn K (.ref f_Kinds) "known_kinds" = some none)
  (n_Kinds_known_places : PySem.W.findIn K (.ref f_Kinds) "known_places" = some none)
  (n_Kinds_numbers : PySem.W.findIn K (.ref f_Kinds) "numbers" = some none)
  (n_Kinds_marks : PySem.W.findIn K (.ref f_Kinds) "marks" = some none)
  (n_Kinds_depths : PySem.W.findIn K (.ref f_Kinds) "depths" = some none)
  (n_Kinds_lesser_kinds : PySem.W.findIn K (.ref f_Kinds) "lesser_kinds" = some none)
  (n_Kinds_longer_behind : PySem.W.findIn K (.ref f_Kinds) "longer_behind" = some none)
  (n_Kinds_longer_ahead : PySem.W.findIn K (.ref f_Kinds) "longer_ahead" = some none)
  (g_Kinds___init__ : PySem.W.findIn K (.ref f_Kinds) "__init__" = some (some (.ref f_Kinds___init__)))
  (l_Kinds___init__ : K.lookup f_Kinds___init__ = some ⟨oc_Kinds___init__, od_Kinds___init__, .func (PySem.W.fnOf "__init__" "Kinds.__init__" (defArgs s_Kinds___init__) (defBody s_Kinds___init__) (defScope s_Kinds___init__) .none kV_Kinds___init__ dc_Kinds___init__ pm_Kinds___init__ an_Kinds___init__ cd_Kinds___init__ ct_Kinds___init__), sl_Kinds___init__⟩)
  (c_Kinds___init__ : PySem.W.codeIn K cd_Kinds___init__ "Kinds.__init__" = true)
  (k_Kinds___init__ : PySem.W.keepIn K (.ref f_Kinds___init__) = true)
  (fn_Kinds___init__ : PySem.W.isFn K (.ref f_Kinds___init__) = true)
  (g_Kinds_alike : PySem.W.findIn K (.ref f_Kinds) "alike" = some (some (.ref f_Kinds_alike)))
  (l_Kinds_alike : K.lookup f_Kinds_alike = some ⟨oc_Kinds_alike, od_Kinds_alike, .func (PySem.W.fnOf "alike" "Kinds.alike" (defArgs s_Kinds_alike) (defBody s_Kinds_alike) (defScope s_Kinds_alike) .none kV_Kinds_alike dc_Kinds_alike pm_Kinds_alike an_Kinds_alike cd_Kinds_alike ct_Kinds_alike), sl_Kinds_alike⟩)
  (c_Kinds_alike : PySem.W.codeIn K cd_Kinds_alike "Kinds.alike" = true)
  (k_Kinds_alike : PySem.W.keepIn K (.ref f_Kinds_alike) = true)
  (fn_Kinds_alike : PySem.W.isFn K (.ref f_Kinds_alike) = true)
  (g_Kinds_of_row : PySem.W.findIn K (.ref f_Kinds) "of_row" = some (some (.ref f_Kinds_of_row)))
  (l_Kinds_of_row : K.lookup f_Kinds_of_row = some ⟨oc_Kinds_of_row, od_Kinds_of_row, .func (PySem.W.fnOf "of_row" "Kinds.of_row" (defArgs s_Kinds_of_row) (defBody s_Kinds_of_row) (defScope s_Kinds_of_row) .none kV_Kinds_of_row dc_Kinds_of_row pm_Kinds_of_row an_Kinds_of_row cd_Kinds_of_row ct_Kinds_of_row), sl_Kinds_of_row⟩)
  (c_Kinds_of_row : PySem.W.codeIn K cd_Kinds_of_row "Kinds.of_row" = true)
  (k_Kinds_of_row : PySem.W.keepIn K (.ref f_Kinds_of_row) = true)
  (fn_Kinds_of_row : PySem.W.isFn K (.ref f_Kinds_of_row) = true)
  (g_Kinds_places : PySem.W.findIn K (.ref f_Kinds) "places" = some (some (.ref f_Kinds_places)))
  (l_Kinds_places : K.lookup f_Kinds_places = some ⟨oc_Kinds_places, od_Kinds_places, .func (PySem.W.fnOf "places" "Kinds.places" (defArgs s_Kinds_places) (defBody s_Kinds_places) (defScope s_Kinds_places) .none kV_Kinds_places dc_Kinds_places pm_Kinds_places an_Kinds_places cd_Kinds_places ct_Kinds_places), sl_Kinds_places⟩)
  (c_Kinds_places : PySem.W.codeIn K cd_Kinds_places "Kinds.places" = true)
  (k_Kinds_places : PySem.W.keepIn K (.ref f_Kinds_places) = true)
  (fn_Kinds_places : PySem.W.isFn K (.ref f_Kinds_places) = true)
  (g_Kinds_marks_of_places : PySem.W.findIn K (.ref f_Kinds) "marks_of_places" = some (some (.ref f_Kinds_marks_of_places)))
  (l_Kinds_marks_of_places : K.lookup f_Kinds_marks_of_places = some ⟨oc_Kinds_marks_of_places, od_Kinds_marks_of_places, .func (PySem.W.fnOf "marks_of_places" "Kinds.marks_of_places" (defArgs s_Kinds_marks_of_places) (defBody s_Kinds_marks_of_places) (defScope s_Kinds_marks_of_places) .none kV_Kinds_marks_of_places dc_Kinds_marks_of_places pm_Kinds_marks_of_places an_Kinds_marks_of_places cd_Kinds_marks_of_places ct_Kinds_marks_of_places), sl_Kinds_marks_of_places⟩)
  (c_Kinds_marks_of_places : PySem.W.codeIn K cd_Kinds_marks_of_places "Kinds.marks_of_places" = true)
  (k_Kinds_marks_of_places : PySem.W.keepIn K (.ref f_Kinds_marks_of_places) = true)
  (fn_Kinds_marks_of_places : PySem.W.isFn K (.ref f_Kinds_marks_of_places) = true)
  (g_Kinds_empty : PySem.W.findIn K (.ref f_Kinds) "empty" = some (some (.ref f_Kinds_empty)))
  (l_Kinds_empty : K.lookup f_Kinds_empty = some ⟨oc_Kinds_empty, od_Kinds_empty, .func (PySem.W.fnOf "empty" "Kinds.empty" (defArgs s_Kinds_empty) (defBody s_Kinds_empty) (defScope s_Kinds_empty) .none kV_Kinds_empty dc_Kinds_empty pm_Kinds_empty an_Kinds_empty cd_Kinds_empty ct_Kinds_empty), sl_Kinds_empty⟩)
  (c_Kinds_empty : PySem.W.codeIn K cd_Kinds_empty "Kinds.empty" = true)
  (k_Kinds_empty : PySem.W.keepIn K (.ref f_Kinds_empty) = true)
  (fn_Kinds_empty : PySem.W.isFn K (.ref f_Kinds_empty) = true)
  (g_Kinds_numbered : PySem.W.findIn K (.ref f_Kinds) "numbered" = some (some (.ref f_Kinds_numbered)))
  (l_Kinds_numbered : K.lookup f_Kinds_numbered = some ⟨oc_Kinds_numbered, od_Kinds_numbered, .func (PySem.W.fnOf "numbered" "Kinds.numbered" (defArgs s_Kinds_numbered) (defBody s_Kinds_numbered) (defScope s_Kinds_numbered) .none kV_Kinds_numbered dc_Kinds_numbered pm_Kinds_numbered an_Kinds_numbered cd_Kinds_numbered ct_Kinds_numbered), sl_Kinds_numbered⟩)
  (c_Kinds_numbered : PySem.W.codeIn K cd_Kinds_numbered "Kinds.numbered" = true)
  (k_Kinds_numbered : PySem.W.keepIn K (.ref f_Kinds_numbered) = true)
  (fn_Kinds_numbered : PySem.W.isFn K (.ref f_Kinds_numbered) = true)
  (g_Kinds_lesser : PySem.W.findIn K (.ref f_Kinds) "lesser" = some (some (.ref f_Kinds_lesser)))
  (l_Kinds_lesser : K.lookup f_Kinds_lesser = some ⟨oc_Kinds_lesser, od_Kinds_lesser, .func (PySem.W.fnOf "lesser" "Kinds.lesser" (defArgs s_Kinds_lesser) (defBody s_Kinds_lesser) (defScope s_Kinds_lesser) .none kV_Kinds_lesser dc_Kinds_lesser pm_Kinds_lesser an_Kinds_lesser cd_Kinds_lesser ct_Kinds_lesser), sl_Kinds_lesser⟩)
  (c_Kinds_lesser : PySem.W.codeIn K cd_Kinds_lesser "Kinds.lesser" = true)
  (k_Kinds_lesser : PySem.W.keepIn K (.ref f_Kinds_lesser) = true)
  (fn_Kinds_lesser : PySem.W.isFn K (.ref f_Kinds_lesser) = true)
  (g_Kinds_added_behind : PySem.W.findIn K (.ref f_Kinds) "added_behind" = some (some (.ref f_Kinds_added_behind)))
  (l_Kinds_added_behind : K.lookup f_Kinds_added_behind = some ⟨oc_Kinds_added_behind, od_Kinds_added_behind, .func (PySem.W.fnOf "added_behind" "Kinds.added_behind" (defArgs s_Kinds_added_behind) (defBody s_Kinds_added_behind) (defScope s_Kinds_added_behind) .none kV_Kinds_added_behind dc_Kinds_added_behind pm_Kinds_added_behind an_Kinds_added_behind cd_Kinds_added_behind ct_Kinds_added_behind), sl_Kinds_added_behind⟩)
  (c_Kinds_added_behind : PySem.W.codeIn K cd_Kinds_added_behind "Kinds.added_behind" = true)
  (k_Kinds_added_behind : PySem.W.keepIn K (.ref f_Kinds_added_behind) = true)
  (fn_Kinds_added_behind : PySem.W.isFn K (.ref f_Kinds_added_behind) = true)
  (g_Kinds_added_ahead : PySem.W.findIn K (.ref f_Kinds) "added_ahead" = some (some (.ref f_Kinds_added_ahead)))
  (l_Kinds_added_ahead : K.lookup f_Kinds_added_ahead = some ⟨oc_Kinds_added_ahead, od_Kinds_added_ahead, .func (PySem.W.fnOf "added_ahead" "Kinds.added_ahead" (defArgs s_Kinds_added_ahead) (defBody s_Kinds_added_ahead) (defScope s_Kinds_added_ahead) .none kV_Kinds_added_ahead dc_Kinds_added_ahead pm_Kinds_added_ahead an_Kinds_added_ahead cd_Kinds_added_ahead ct_Kinds_added_ahead), sl_Kinds_added_ahead⟩)
  (c_Kinds_added_ahead : PySem.W.codeIn K cd_Kinds_added_ahead "Kinds.added_ahead" = true)
  (k_Kinds_added_ahead : PySem.W.keepIn K (.ref f_Kinds_added_ahead) = true)
  (fn_Kinds_added_ahead : PySem.W.isFn K (.ref f_Kinds_added_ahead) = true)
  (g_kind_count : PySem.W.nsIn K mainGlobals "kind_count" = some (some (.ref f_kind_count)))
  (l_kind_count : K.lookup f_kind_count = some ⟨oc_kind_count, od_kind_count, .func (PySem.W.fnOf "kind_count" "kind_count" (defArgs s_kind_count) (defBody s_kind_count) (defScope s_kind_count) .none kV_kind_count dc_kind_count pm_kind_count an_kind_count cd_kind_count ct_kind_count), sl_kind_count⟩)
  (c_kind_count : PySem.W.codeIn K cd_kind_count "kind_count" = true)
  (k_kind_count : PySem.W.keepIn K (.ref f_kind_count) = true)
  (g_least_rows : PySem.W.nsIn K mainGlobals "least_rows" = some (some (.ref f_least_rows)))
  (l_least_rows : K.lookup f_least_rows = some ⟨oc_least_rows, od_least_rows, .func (PySem.W.fnOf "least_rows" "least_rows" (defArgs s_least_rows) (defBody s_least_rows) (defScope s_least_rows) .none kV_least_rows dc_least_rows pm_least_rows an_least_rows cd_least_rows ct_least_rows), sl_least_rows⟩)
  (c_least_rows : PySem.W.codeIn K cd_least_rows "least_rows" = true)
  (k_least_rows : PySem.W.keepIn K (.ref f_least_rows) = true)
  (g_rows_by_kind : PySem.W.nsIn K mainGlobals "rows_by_kind" = some (some (.ref f_rows_by_kind)))
  (l_rows_by_kind : K.lookup f_rows_by_kind = some ⟨oc_rows_by_kind, od_rows_by_kind, .func (PySem.W.fnOf "rows_by_kind" "rows_by_kind" (defArgs s_rows_by_kind) (defBody s_rows_by_kind) (defScope s_rows_by_kind) .none kV_rows_by_kind dc_rows_by_kind pm_rows_by_kind an_rows_by_kind cd_rows_by_kind ct_rows_by_kind), sl_rows_by_kind⟩)
  (c_rows_by_kind : PySem.W.codeIn K cd_rows_by_kind "rows_by_kind" = true)
  (k_rows_by_kind : PySem.W.keepIn K (.ref f_rows_by_kind) = true)
  (g_letters_of : PySem.W.nsIn K mainGlobals "letters_of" = some (some (.ref f_letters_of)))
  (l_letters_of : K.lookup f_letters_of = some ⟨oc_letters_of, od_letters_of, .func (PySem.W.fnOf "letters_of" "letters_of" (defArgs s_letters_of) (defBody s_letters_of) (defScope s_letters_of) .none kV_letters_of dc_letters_of pm_letters_of an_letters_of cd_letters_of ct_letters_of), sl_letters_of⟩)
  (c_letters_of : PySem.W.codeIn K cd_letters_of "letters_of" = true)
  (k_letters_of : PySem.W.keepIn K (.ref f_letters_of) = true)
  (g_check_scope : PySem.W.nsIn K mainGlobals "check_scope" = some (some (.ref f_check_scope)))
  (l_check_scope : K.lookup f_check_scope = some ⟨oc_check_scope, od_check_scope, .func (PySem.W.fnOf "check_scope" "check_scope" (defArgs s_check_scope) (defBody s_check_scope) (defScope s_check_scope) .none kV_check_scope dc_check_scope pm_check_scope an_check_scope cd_check_scope ct_check_scope), sl_check_scope⟩)
  (c_check_scope : PySem.W.codeIn K cd_check_scope "check_scope" = true)
  (k_check_scope : PySem.W.keepIn K (.ref f_check_scope) = true)
  (g__law_pool : PySem.W.nsIn K mainGlobals "_law_pool" = some (some (.ref f__law_pool)))
  (l__law_pool : K.lookup f__law_pool = some ⟨oc__law_pool, od__law_pool, .func (PySem.W.fnOf "_law_pool" "_law_pool" (defArgs s__law_pool) (defBody s__law_pool) (defScope s__law_pool) .none kV__law_pool dc__law_pool pm__law_pool an__law_pool cd__law_pool ct__law_pool), sl__law_pool⟩)
  (c__law_pool : PySem.W.codeIn K cd__law_pool "_law_pool" = true)
  (k__law_pool : PySem.W.keepIn K (.ref f__law_pool) = true)
  (g__law_draw : PySem.W.nsIn K mainGlobals "_law_draw" = some (some (.ref f__law_draw)))
  (l__law_draw : K.lookup f__law_draw = some ⟨oc__law_draw, od__law_draw, .func (PySem.W.fnOf "_law_draw" "_law_draw" (defArgs s__law_draw) (defBody s__law_draw) (defScope s__law_draw) .none kV__law_draw dc__law_draw pm__law_draw an__law_draw cd__law_draw ct__law_draw), sl__law_draw⟩)
  (c__law_draw : PySem.W.codeIn K cd__law_draw "_law_draw" = true)
  (k__law_draw : PySem.W.keepIn K (.ref f__law_draw) = true)
  (g__law_kind : PySem.W.nsIn K mainGlobals "_law_kind" = some (some (.ref f__law_kind)))
  (l__law_kind : K.lookup f__law_kind = some ⟨oc__law_kind, od__law_kind, .func (PySem.W.fnOf "_law_kind" "_law_kind" (defArgs s__law_kind) (defBody s__law_kind) (defScope s__law_kind) .none kV__law_kind dc__law_kind pm__law_kind an__law_kind cd__law_kind ct__law_kind), sl__law_kind⟩)
  (c__law_kind : PySem.W.codeIn K cd__law_kind "_law_kind" = true)
  (k__law_kind : PySem.W.keepIn K (.ref f__law_kind) = true)
  (g__law_all_lines : PySem.W.nsIn K mainGlobals "_law_all_lines" = some (some (.ref f__law_all_lines)))
  (l__law_all_lines : K.lookup f__law_all_lines = some ⟨oc__law_all_lines, od__law_all_lines, .func (PySem.W.fnOf "_law_all_lines" "_law_all_lines" (defArgs s__law_all_lines) (defBody s__law_all_lines) (defScope s__law_all_lines) .none kV__law_all_lines dc__law_all_lines pm__law_all_lines an__law_all_lines cd__law_all_lines ct__law_all_lines), sl__law_all_lines⟩)
  (c__law_all_lines : PySem.W.codeIn K cd__law_all_lines "_law_all_lines" = true)
  (k__law_all_lines : PySem.W.keepIn K (.ref f__law_all_lines) = true)
  (g__law_scope : PySem.W.nsIn K mainGlobals "_law_scope" = some (some (.ref f__law_scope)))
  (l__law_scope : K.lookup f__law_scope = some ⟨oc__law_scope, od__law_scope, .func (PySem.W.fnOf "_law_scope" "_law_scope" (defArgs s__law_scope) (defBody s__law_scope) (defScope s__law_scope) .none kV__law_scope dc__law_scope pm__law_scope an__law_scope cd__law_scope ct__law_scope), sl__law_scope⟩)
  (c__law_scope : PySem.W.codeIn K cd__law_scope "_law_scope" = true)
  (k__law_scope : PySem.W.keepIn K (.ref f__law_scope) = true)
  (g__law_firsts : PySem.W.nsIn K mainGlobals "_law_firsts" = some (some (.ref f__law_firsts)))
  (l__law_firsts : K.lookup f__law_firsts = some ⟨oc__law_firsts, od__law_firsts, .func (PySem.W.fnOf "_law_firsts" "_law_firsts" (defArgs s__law_firsts) (defBody s__law_firsts) (defScope s__law_firsts) .none kV__law_firsts dc__law_firsts pm__law_firsts an__law_firsts cd__law_firsts ct__law_firsts), sl__law_firsts⟩)
  (c__law_firsts : PySem.W.codeIn K cd__law_firsts "_law_firsts" = true)
  (k__law_firsts : PySem.W.keepIn K (.ref f__law_firsts) = true)
  (g__law_right : PySem.W.nsIn K mainGlobals "_law_right" = some (some (.ref f__law_right)))
  (l__law_right : K.lookup f__law_right = some ⟨oc__law_right, od__law_right, .func (PySem.W.fnOf "_law_right" "_law_right" (defArgs s__law_right) (defBody s__law_right) (defScope s__law_right) .none kV__law_right dc__law_right pm__law_right an__law_right cd__law_right ct__law_right), sl__law_right⟩)
  (c__law_right : PySem.W.codeIn K cd__law_right "_law_right" = true)
  (k__law_right : PySem.W.keepIn K (.ref f__law_right) = true)
  (g_law : PySem.W.nsIn K mainGlobals "law" = some (some (.ref f_law)))
  (l_law : K.lookup f_law = some ⟨oc_law, od_law, .func (PySem.W.fnOf "law" "law" (defArgs s_law) (defBody s_law) (defScope s_law) .none kV_law dc_law pm_law an_law cd_law ct_law), sl_law⟩)
  (c_law : PySem.W.codeIn K cd_law "law" = true)
  (k_law : PySem.W.keepIn K (.ref f_law) = true)
  (z_abs : PySem.W.nsIn K mainGlobals "abs" = some none)
  (z_enumerate : PySem.W.nsIn K mainGlobals "enumerate" = some none)
  (z_int : PySem.W.nsIn K mainGlobals "int" = some none)
  (z_len : PySem.W.nsIn K mainGlobals "len" = some none)
  (z_list : PySem.W.nsIn K mainGlobals "list" = some none)
  (z_max : PySem.W.nsIn K mainGlobals "max" = some none)
  (z_min : PySem.W.nsIn K mainGlobals "min" = some none)
  (z_range : PySem.W.nsIn K mainGlobals "range" = some none)
  (z_repr : PySem.W.nsIn K mainGlobals "repr" = some none)
  (z_set : PySem.W.nsIn K mainGlobals "set" = some none)
  (z_sorted : PySem.W.nsIn K mainGlobals "sorted" = some none)
  (z_tuple : PySem.W.nsIn K mainGlobals "tuple" = some none)
  (g_LETTERS : PySem.W.nsIn K mainGlobals "LETTERS" = some (some v_LETTERS))
  (r_LETTERS : RelV (.str "abcd") v_LETTERS)
  (g_DEPTHS : PySem.W.nsIn K mainGlobals "DEPTHS" = some (some (.ref f_DEPTHS)))
  (l_DEPTHS : K.lookup f_DEPTHS = some ⟨.type "dict", none, .dict es_DEPTHS n_DEPTHS, #[]⟩)
  (o_DEPTHS : (f_DEPTHS == sysModules) = false)
  (v_DEPTHS : es_DEPTHS.toList.map (entII w) = ([((1 : Int), (4 : Int)), ((2 : Int), (2 : Int)), ((3 : Int), (1 : Int)), ((4 : Int), (1 : Int))]).map some) :
  ∃ fd : FuncData, (∀ (s : Shared) (u : Value), BindsTo s fd ⟨[u], []⟩ [("script", u)]) ∧ ∀ base : Heap, K.In base → base.Ns mainGlobals mg → FnG P w K mg base CX0 65 fa fd ["script"] (sp_law K) := by
  have e : f_law = fa := by
    have e1 := hfa.symm.trans (PySem.W.mg_of X G g_law)
    injection e1 with e1
    injection e1 with e1
    exact e1.symm
  subst e
  let T : Tx w K mg := {
    a__wall := f__wall,
    d__wall := PySem.W.fnOf "_wall" "_wall" (defArgs s__wall) (defBody s__wall) (defScope s__wall) .none kV__wall dc__wall pm__wall an__wall cd__wall ct__wall,
    g__wall := PySem.W.mg_of X G g__wall,
    F__wall := fun_mk (st := s__wall) l__wall c__wall k__wall,
    b__wall := (fun_mk (st := s__wall) l__wall c__wall k__wall).binds (ps := ["k"]) fun _ _ _ _ _ _ us hl => match us, hl with | [_], _ => rfl,
    a_Kinds := f_Kinds,
    g_Kinds := PySem.W.mg_of X G g_Kinds,
    C_Kinds := ⟨pg_Kinds, hd_Kinds, po_Kinds, sa_Kinds⟩,
    n_Kinds_known_kinds := n_Kinds_known_kinds,
    n_Kinds_known_places := n_Kinds_known_places,
    n_Kinds_numbers := n_Kinds_numbers,
    n_Kinds_marks := n_Kinds_marks,
    n_Kinds_depths := n_Kinds_depths,
    n_Kinds_lesser_kinds := n_Kinds_lesser_kinds,
    n_Kinds_longer_behind := n_Kinds_longer_behind,
    n_Kinds_longer_ahead := n_Kinds_longer_ahead,
    a_Kinds___init__ := f_Kinds___init__,
    d_Kinds___init__ := PySem.W.fnOf "__init__" "Kinds.__init__" (defArgs s_Kinds___init__) (defBody s_Kinds___init__) (defScope s_Kinds___init__) .none kV_Kinds___init__ dc_Kinds___init__ pm_Kinds___init__ an_Kinds___init__ cd_Kinds___init__ ct_Kinds___init__,
    M_Kinds := ⟨mk_Kinds, g_Kinds___init__, fn_Kinds___init__, kk_Kinds⟩,
    F_Kinds___init__ := fun_mk (st := s_Kinds___init__) l_Kinds___init__ c_Kinds___init__ k_Kinds___init__,
    b_Kinds___init__ := (fun_mk (st := s_Kinds___init__) l_Kinds___init__ c_Kinds___init__ k_Kinds___init__).binds (ps := ["self"]) fun _ _ _ _ _ _ us hl => match us, hl with | [_], _ => rfl,
    a_Kinds_alike := f_Kinds_alike,
    d_Kinds_alike := PySem.W.fnOf "alike" "Kinds.alike" (defArgs s_Kinds_alike) (defBody s_Kinds_alike) (defScope s_Kinds_alike) .none kV_Kinds_alike dc_Kinds_alike pm_Kinds_alike an_Kinds_alike cd_Kinds_alike ct_Kinds_alike,
    m_Kinds_alike := ⟨g_Kinds_alike, fn_Kinds_alike, k_Kinds_alike⟩,
    F_Kinds_alike := fun_mk (st := s_Kinds_alike) l_Kinds_alike c_Kinds_alike k_Kinds_alike,
    b_Kinds_alike := (fun_mk (st := s_Kinds_alike) l_Kinds_alike c_Kinds_alike k_Kinds_alike).binds (ps := ["self", "row", "other_row", "depth"]) fun _ _ _ _ _ _ us hl => match us, hl with | [_, _, _, _], _ => rfl,
    a_Kinds_of_row := f_Kinds_of_row,
    d_Kinds_of_row := PySem.W.fnOf "of_row" "Kinds.of_row" (defArgs s_Kinds_of_row) (defBody s_Kinds_of_row) (defScope s_Kinds_of_row) .none kV_Kinds_of_row dc_Kinds_of_row pm_Kinds_of_row an_Kinds_of_row cd_Kinds_of_row ct_Kinds_of_row,
    m_Kinds_of_row := ⟨g_Kinds_of_row, fn_Kinds_of_row, k_Kinds_of_row⟩,
    F_Kinds_of_row := fun_mk (st := s_Kinds_of_row) l_Kinds_of_row c_Kinds_of_row k_Kinds_of_row,
    b_Kinds_of_row := (fun_mk (st := s_Kinds_of_row) l_Kinds_of_row c_Kinds_of_row k_Kinds_of_row).binds (ps := ["self", "row", "depth"]) fun _ _ _ _ _ _ us hl => match us, hl with | [_, _, _], _ => rfl,
    a_Kinds_places := f_Kinds_places,
    d_Kinds_places := PySem.W.fnOf "places" "Kinds.places" (defArgs s_Kinds_places) (defBody s_Kinds_places) (defScope s_Kinds_places) .none kV_Kinds_places dc_Kinds_places pm_Kinds_places an_Kinds_places cd_Kinds_places ct_Kinds_places,
    m_Kinds_places := ⟨g_Kinds_places, fn_Kinds_places, k_Kinds_places⟩,
    F_Kinds_places := fun_mk (st := s_Kinds_places) l_Kinds_places c_Kinds_places k_Kinds_places,
    b_Kinds_places := (fun_mk (st := s_Kinds_places) l_Kinds_places c_Kinds_places k_Kinds_places).binds (ps := ["self", "row", "depth"]) fun _ _ _ _ _ _ us hl => match us, hl with | [_, _, _], _ => rfl,
    a_Kinds_marks_of_places := f_Kinds_marks_of_places,
    d_Kinds_marks_of_places := PySem.W.fnOf "marks_of_places" "Kinds.marks_of_places" (defArgs s_Kinds_marks_of_places) (defBody s_Kinds_marks_of_places) (defScope s_Kinds_marks_of_places) .none kV_Kinds_marks_of_places dc_Kinds_marks_of_places pm_Kinds_marks_of_places an_Kinds_marks_of_places cd_Kinds_marks_of_places ct_Kinds_marks_of_places,
    m_Kinds_marks_of_places := ⟨g_Kinds_marks_of_places, fn_Kinds_marks_of_places, k_Kinds_marks_of_places⟩,
    F_Kinds_marks_of_places := fun_mk (st := s_Kinds_marks_of_places) l_Kinds_marks_of_places c_Kinds_marks_of_places k_Kinds_marks_of_places,
    b_Kinds_marks_of_places := (fun_mk (st := s_Kinds_marks_of_places) l_Kinds_marks_of_places c_Kinds_marks_of_places k_Kinds_marks_of_places).binds (ps := ["self", "row", "depth"]) fun _ _ _ _ _ _ us hl => match us, hl with | [_, _, _], _ => rfl,
    a_Kinds_empty := f_Kinds_empty,
    d_Kinds_empty := PySem.W.fnOf "empty" "Kinds.empty" (defArgs s_Kinds_empty) (defBody s_Kinds_empty) (defScope s_Kinds_empty) .none kV_Kinds_empty dc_Kinds_empty pm_Kinds_empty an_Kinds_empty cd_Kinds_empty ct_Kinds_empty,
    m_Kinds_empty := ⟨g_Kinds_empty, fn_Kinds_empty, k_Kinds_empty⟩,
    F_Kinds_empty := fun_mk (st := s_Kinds_empty) l_Kinds_empty c_Kinds_empty k_Kinds_empty,
    b_Kinds_empty := (fun_mk (st := s_Kinds_empty) l_Kinds_empty c_Kinds_empty k_Kinds_empty).binds (ps := ["self", "depth"]) fun _ _ _ _ _ _ us hl => match us, hl with | [_, _], _ => rfl,
    a_Kinds_numbered := f_Kinds_numbered,
    d_Kinds_numbered := PySem.W.fnOf "numbered" "Kinds.numbered" (defArgs s_Kinds_numbered) (defBody s_Kinds_numbered) (defScope s_Kinds_numbered) .none kV_Kinds_numbered dc_Kinds_numbered pm_Kinds_numbered an_Kinds_numbered cd_Kinds_numbered ct_Kinds_numbered,
    m_Kinds_numbered := ⟨g_Kinds_numbered, fn_Kinds_numbered, k_Kinds_numbered⟩,
    F_Kinds_numbered := fun_mk (st := s_Kinds_numbered) l_Kinds_numbered c_Kinds_numbered k_Kinds_numbered,
    b_Kinds_numbered := (fun_mk (st := s_Kinds_numbered) l_Kinds_numbered c_Kinds_numbered k_Kinds_numbered).binds (ps := ["self", "depth", "marks"]) fun _ _ _ _ _ _ us hl => match us, hl with | [_, _, _], _ => rfl,
    a_Kinds_lesser := f_Kinds_lesser,
    d_Kinds_lesser := PySem.W.fnOf "lesser" "Kinds.lesser" (defArgs s_Kinds_lesser) (defBody s_Kinds_lesser) (defScope s_Kinds_lesser) .none kV_Kinds_lesser dc_Kinds_lesser pm_Kinds_lesser an_Kinds_lesser cd_Kinds_lesser ct_Kinds_lesser,
    m_Kinds_lesser := ⟨g_Kinds_lesser, fn_Kinds_lesser, k_Kinds_lesser⟩,
    F_Kinds_lesser := fun_mk (st := s_Kinds_lesser) l_Kinds_lesser c_Kinds_lesser k_Kinds_lesser,
    b_Kinds_lesser := (fun_mk (st := s_Kinds_lesser) l_Kinds_lesser c_Kinds_lesser k_Kinds_lesser).binds (ps := ["self", "kind"]) fun _ _ _ _ _ _ us hl => match us, hl with | [_, _], _ => rfl,
    a_Kinds_added_behind := f_Kinds_added_behind,
    d_Kinds_added_behind := PySem.W.fnOf "added_behind" "Kinds.added_behind" (defArgs s_Kinds_added_behind) (defBody s_Kinds_added_behind) (defScope s_Kinds_added_behind) .none kV_Kinds_added_behind dc_Kinds_added_behind pm_Kinds_added_behind an_Kinds_added_behind cd_Kinds_added_behind ct_Kinds_added_behind,
    m_Kinds_added_behind := ⟨g_Kinds_added_behind, fn_Kinds_added_behind, k_Kinds_added_behind⟩,
    F_Kinds_added_behind := fun_mk (st := s_Kinds_added_behind) l_Kinds_added_behind c_Kinds_added_behind k_Kinds_added_behind,
    b_Kinds_added_behind := (fun_mk (st := s_Kinds_added_behind) l_Kinds_added_behind c_Kinds_added_behind k_Kinds_added_behind).binds (ps := ["self", "kind", "letter"]) fun _ _ _ _ _ _ us hl => match us, hl with | [_, _, _], _ => rfl,
    a_Kinds_added_ahead := f_Kinds_added_ahead,
    d_Kinds_added_ahead := PySem.W.fnOf "added_ahead" "Kinds.added_ahead" (defArgs s_Kinds_added_ahead) (defBody s_Kinds_added_ahead) (defScope s_Kinds_added_ahead) .none kV_Kinds_added_ahead dc_Kinds_added_ahead pm_Kinds_added_ahead an_Kinds_added_ahead cd_Kinds_added_ahead ct_Kinds_added_ahead,
    m_Kinds_added_ahead := ⟨g_Kinds_added_ahead, fn_Kinds_added_ahead, k_Kinds_added_ahead⟩,
    F_Kinds_added_ahead := fun_mk (st := s_Kinds_added_ahead) l_Kinds_added_ahead c_Kinds_added_ahead k_Kinds_added_ahead,
    b_Kinds_added_ahead := (fun_mk (st := s_Kinds_added_ahead) l_Kinds_added_ahead c_Kinds_added_ahead k_Kinds_added_ahead).binds (ps := ["self", "letter", "kind"]) fun _ _ _ _ _ _ us hl => match us, hl with | [_, _, _], _ => rfl,
    a_kind_count := f_kind_count,
    d_kind_count := PySem.W.fnOf "kind_count" "kind_count" (defArgs s_kind_count) (defBody s_kind_count) (defScope s_kind_count) .none kV_kind_count dc_kind_count pm_kind_count an_kind_count cd_kind_count ct_kind_count,
    g_kind_count := PySem.W.mg_of X G g_kind_count,
    F_kind_count := fun_mk (st := s_kind_count) l_kind_count c_kind_count k_kind_count,
    b_kind_count := (fun_mk (st := s_kind_count) l_kind_count c_kind_count k_kind_count).binds (ps := ["many", "depth"]) fun _ _ _ _ _ _ us hl => match us, hl with | [_, _], _ => rfl,
    a_least_rows := f_least_rows,
    d_least_rows := PySem.W.fnOf "least_rows" "least_rows" (defArgs s_least_rows) (defBody s_least_rows) (defScope s_least_rows) .none kV_least_rows dc_least_rows pm_least_rows an_least_rows cd_least_rows ct_least_rows,
    g_least_rows := PySem.W.mg_of X G g_least_rows,
    F_least_rows := fun_mk (st := s_least_rows) l_least_rows c_least_rows k_least_rows,
    b_least_rows := (fun_mk (st := s_least_rows) l_least_rows c_least_rows k_least_rows).binds (ps := ["many", "depth"]) fun _ _ _ _ _ _ us hl => match us, hl with | [_, _], _ => rfl,
    a_rows_by_kind := f_rows_by_kind,
    d_rows_by_kind := PySem.W.fnOf "rows_by_kind" "rows_by_kind" (defArgs s_rows_by_kind) (defBody s_rows_by_kind) (defScope s_rows_by_kind) .none kV_rows_by_kind dc_rows_by_kind pm_rows_by_kind an_rows_by_kind cd_rows_by_kind ct_rows_by_kind,
    g_rows_by_kind := PySem.W.mg_of X G g_rows_by_kind,
    F_rows_by_kind := fun_mk (st := s_rows_by_kind) l_rows_by_kind c_rows_by_kind k_rows_by_kind,
    b_rows_by_kind := (fun_mk (st := s_rows_by_kind) l_rows_by_kind c_rows_by_kind k_rows_by_kind).binds (ps := ["kinds", "many", "depth"]) fun _ _ _ _ _ _ us hl => match us, hl with | [_, _, _], _ => rfl,
    a_letters_of := f_letters_of,
    d_letters_of := PySem.W.fnOf "letters_of" "letters_of" (defArgs s_letters_of) (defBody s_letters_of) (defScope s_letters_of) .none kV_letters_of dc_letters_of pm_letters_of an_letters_of cd_letters_of ct_letters_of,
    g_letters_of := PySem.W.mg_of X G g_letters_of,
    F_letters_of := fun_mk (st := s_letters_of) l_letters_of c_letters_of k_letters_of,
    b_letters_of := (fun_mk (st := s_letters_of) l_letters_of c_letters_of k_letters_of).binds (ps := ["many"]) fun _ _ _ _ _ _ us hl => match us, hl with | [_], _ => rfl,
    a_check_scope := f_check_scope,
    d_check_scope := PySem.W.fnOf "check_scope" "check_scope" (defArgs s_check_scope) (defBody s_check_scope) (defScope s_check_scope) .none kV_check_scope dc_check_scope pm_check_scope an_check_scope cd_check_scope ct_check_scope,
    g_check_scope := PySem.W.mg_of X G g_check_scope,
    F_check_scope := fun_mk (st := s_check_scope) l_check_scope c_check_scope k_check_scope,
    b_check_scope := (fun_mk (st := s_check_scope) l_check_scope c_check_scope k_check_scope).binds (ps := ["many", "depth"]) fun _ _ _ _ _ _ us hl => match us, hl with | [_, _], _ => rfl,
    a__law_pool := f__law_pool,
    d__law_pool := PySem.W.fnOf "_law_pool" "_law_pool" (defArgs s__law_pool) (defBody s__law_pool) (defScope s__law_pool) .none kV__law_pool dc__law_pool pm__law_pool an__law_pool cd__law_pool ct__law_pool,
    g__law_pool := PySem.W.mg_of X G g__law_pool,
    F__law_pool := fun_mk (st := s__law_pool) l__law_pool c__law_pool k__law_pool,
    b__law_pool := (fun_mk (st := s__law_pool) l__law_pool c__law_pool k__law_pool).binds (ps := ["script", "spot"]) fun _ _ _ _ _ _ us hl => match us, hl with | [_, _], _ => rfl,
    a__law_draw := f__law_draw,
    d__law_draw := PySem.W.fnOf "_law_draw" "_law_draw" (defArgs s__law_draw) (defBody s__law_draw) (defScope s__law_draw) .none kV__law_draw dc__law_draw pm__law_draw an__law_draw cd__law_draw ct__law_draw,
    g__law_draw := PySem.W.mg_of X G g__law_draw,
    F__law_draw := fun_mk (st := s__law_draw) l__law_draw c__law_draw k__law_draw,
    b__law_draw := (fun_mk (st := s__law_draw) l__law_draw c__law_draw k__law_draw).binds (ps := ["pool", "span"]) fun _ _ _ _ _ _ us hl => match us, hl with | [_, _], _ => rfl,
    a__law_kind := f__law_kind,
    d__law_kind := PySem.W.fnOf "_law_kind" "_law_kind" (defArgs s__law_kind) (defBody s__law_kind) (defScope s__law_kind) .none kV__law_kind dc__law_kind pm__law_kind an__law_kind cd__law_kind ct__law_kind,
    g__law_kind := PySem.W.mg_of X G g__law_kind,
    F__law_kind := fun_mk (st := s__law_kind) l__law_kind c__law_kind k__law_kind,
    b__law_kind := (fun_mk (st := s__law_kind) l__law_kind c__law_kind k__law_kind).binds (ps := ["line", "deep", "known"]) fun _ _ _ _ _ _ us hl => match us, hl with | [_, _, _], _ => rfl,
    a__law_all_lines := f__law_all_lines,
    d__law_all_lines := PySem.W.fnOf "_law_all_lines" "_law_all_lines" (defArgs s__law_all_lines) (defBody s__law_all_lines) (defScope s__law_all_lines) .none kV__law_all_lines dc__law_all_lines pm__law_all_lines an__law_all_lines cd__law_all_lines ct__law_all_lines,
    g__law_all_lines := PySem.W.mg_of X G g__law_all_lines,
    F__law_all_lines := fun_mk (st := s__law_all_lines) l__law_all_lines c__law_all_lines k__law_all_lines,
    b__law_all_lines := (fun_mk (st := s__law_all_lines) l__law_all_lines c__law_all_lines k__law_all_lines).binds (ps := ["names", "longest"]) fun _ _ _ _ _ _ us hl => match us, hl with | [_, _], _ => rfl,
    a__law_scope := f__law_scope,
    d__law_scope := PySem.W.fnOf "_law_scope" "_law_scope" (defArgs s__law_scope) (defBody s__law_scope) (defScope s__law_scope) .none kV__law_scope dc__law_scope pm__law_scope an__law_scope cd__law_scope ct__law_scope,
    g__law_scope := PySem.W.mg_of X G g__law_scope,
    F__law_scope := fun_mk (st := s__law_scope) l__law_scope c__law_scope k__law_scope,
    b__law_scope := (fun_mk (st := s__law_scope) l__law_scope c__law_scope k__law_scope).binds (ps := ["pool"]) fun _ _ _ _ _ _ us hl => match us, hl with | [_], _ => rfl,
    a__law_firsts := f__law_firsts,
    d__law_firsts := PySem.W.fnOf "_law_firsts" "_law_firsts" (defArgs s__law_firsts) (defBody s__law_firsts) (defScope s__law_firsts) .none kV__law_firsts dc__law_firsts pm__law_firsts an__law_firsts cd__law_firsts ct__law_firsts,
    g__law_firsts := PySem.W.mg_of X G g__law_firsts,
    F__law_firsts := fun_mk (st := s__law_firsts) l__law_firsts c__law_firsts k__law_firsts,
    b__law_firsts := (fun_mk (st := s__law_firsts) l__law_firsts c__law_firsts k__law_firsts).binds (ps := ["names", "deep", "longest"]) fun _ _ _ _ _ _ us hl => match us, hl with | [_, _, _], _ => rfl,
    a__law_right := f__law_right,
    d__law_right := PySem.W.fnOf "_law_right" "_law_right" (defArgs s__law_right) (defBody s__law_right) (defScope s__law_right) .none kV__law_right dc__law_right pm__law_right an__law_right cd__law_right ct__law_right,
    g__law_right := PySem.W.mg_of X G g__law_right,
    F__law_right := fun_mk (st := s__law_right) l__law_right c__law_right k__law_right,
    b__law_right := (fun_mk (st := s__law_right) l__law_right c__law_right k__law_right).binds (ps := ["pool"]) fun _ _ _ _ _ _ us hl => match us, hl with | [_], _ => rfl,
    a_law := f_law,
    d_law := PySem.W.fnOf "law" "law" (defArgs s_law) (defBody s_law) (defScope s_law) .none kV_law dc_law pm_law an_law cd_law ct_law,
    g_law := PySem.W.mg_of X G g_law,
    F_law := fun_mk (st := s_law) l_law c_law k_law,
    b_law := (fun_mk (st := s_law) l_law c_law k_law).binds (ps := ["script"]) fun _ _ _ _ _ _ us hl => match us, hl with | [_], _ => rfl,
    kb_least_rows__depth_many := kbl_least_rows__depth_many fun _ _ _ => .of_eq rfl,
    kb_kind_count__depth_many := kbl_kind_count__depth_many fun _ _ _ => .of_eq rfl,
    b_abs := PySem.W.mg_none_of X G z_abs,
    b_enumerate := PySem.W.mg_none_of X G z_enumerate,
    b_int := PySem.W.mg_none_of X G z_int,
    b_len := PySem.W.mg_none_of X G z_len,
    b_list := PySem.W.mg_none_of X G z_list,
    b_max := PySem.W.mg_none_of X G z_max,
    b_min := PySem.W.mg_none_of X G z_min,
    b_range := PySem.W.mg_none_of X G z_range,
    b_repr := PySem.W.mg_none_of X G z_repr,
    b_set := PySem.W.mg_none_of X G z_set,
    b_sorted := PySem.W.mg_none_of X G z_sorted,
    b_tuple := PySem.W.mg_none_of X G z_tuple,
    v_LETTERS := v_LETTERS,
    g_LETTERS := PySem.W.mg_of X G g_LETTERS,
    r_LETTERS := r_LETTERS,
    a_DEPTHS := f_DEPTHS,
    g_DEPTHS := PySem.W.mg_of X G g_DEPTHS,
    ki_DEPTHS := kintI_of l_DEPTHS o_DEPTHS v_DEPTHS,
    bl := fun s v => .of_eq rfl }
  refine ⟨PySem.W.fnOf "law" "law" (defArgs s_law) (defBody s_law) (defScope s_law) .none kV_law dc_law pm_law an_law cd_law ct_law, fun s v => .of_eq rfl, fun base _ _ => ?_⟩
  have G__law_draw := ok__law_draw (P := P) (base := base) T
  have G__law_pool := ok__law_pool (P := P) (base := base) T
  have G_Kinds___init__ := ok_Kinds___init__ (P := P) (base := base) T
  have G_Kinds_numbered := ok_Kinds_numbered (P := P) (base := base) T
  have G_Kinds_empty := ok_Kinds_empty T G_Kinds_numbered
  have G_Kinds_lesser := ok_Kinds_lesser T G_Kinds_numbered
  have G_Kinds_added_behind := ok_Kinds_added_behind T G_Kinds_numbered G_Kinds_empty G_Kinds_lesser
  have G_letters_of := ok_letters_of (P := P) (base := base) T
  have G_check_scope := ok_check_scope (P := P) (base := base) T
  have G_rows_by_kind := ok_rows_by_kind T G_Kinds_empty G_Kinds_added_behind G_letters_of
  have G_least_rows := ok_least_rows T G_check_scope G_Kinds___init__ G_rows_by_kind
  have G_kind_count := ok_kind_count T G_least_rows
  have G__law_all_lines := ok__law_all_lines (P := P) (base := base) T
  have G__law_scope := ok__law_scope T G__law_draw
  have G__law_kind := ok__law_kind (P := P) (base := base) T 7
  have G__law_firsts := ok__law_firsts T G__law_all_lines G__law_kind
  have G__law_right := ok__law_right T G__law_scope G__law_firsts G_least_rows G_kind_count G__law_kind
  have G_law := ok_law T G__law_pool G__law_right
  exact G_law
end Lw
open PySem PySem.W PyProof.Rows in
set_option maxRecDepth 100000 in
set_option maxHeartbeats 0 in
theorem PySem.Challenge.cw_pickdepths_k29_kinds_of_scopes_holds : PySem.Challenge.rw_pickdepths_k29_kinds_of_scopes.Holds := by
  w_on; o_law; k_head; (case hw => w_witness2)
  k_fill
  refine M.walk_ofG (l := PySem.Challenge.rw_pickdepths_k29_kinds_of_scopes) (n := 63) (k := 65) (x := "script") (sp := fun K => M.sp_law K) rfl (by decide) rfl ⟨rfl, by decide, by decide⟩ (fun w h Y => PySem.W.kIn_of Y) ?F (fun K H a ns hl _ hS => ⟨a, ns, rfl, hS, hl, fun _ => rfl⟩)
  case F =>
    intro w mg fa h KX G hmg
    refine' Lw.all_mk KX G hmg ?g__wall ?l__wall ?c__wall ?k__wall ?g_Kinds ?pg_Kinds ?hd_Kinds ?po_Kinds ?sa_Kinds ?mk_Kinds ?kk_Kinds ?n_Kinds_known_kinds ?n_Kinds_known_places ?n_Kinds_numbers ?n_Kinds_marks ?n_Kinds_depths ?n_Kinds_lesser_kinds ?n_Kinds_longer_behind ?n_Kinds_longer_ahead ?g_Kinds___init__ ?l_Kinds___init__ ?c_Kinds___init__ ?k_Kinds___init__ ?fn_Kinds___init__ ?g_Kinds_alike ?l_Kinds_alike ?c_Kinds_alike ?k_Kinds_alike ?fn_Kinds_alike ?g_Kinds_of_row ?l_Kinds_of_row ?c_Kinds_of_row ?k_Kinds_of_row ?fn_Kinds_of_row ?g_Kinds_places ?l_Kinds_places ?c_Kinds_places ?k_Kinds_places ?fn_Kinds_places ?g_Kinds_marks_of_places ?l_Kinds_marks_of_places ?c_Kinds_marks_of_places ?k_Kinds_marks_of_places ?fn_Kinds_marks_of_places ?g_Kinds_empty ?l_Kinds_empty ?c_Kinds_empty ?k_Kinds_empty ?fn_Kinds_empty ?g_Kinds_numbered ?l_Kinds_numbered ?c_Kinds_numbered ?k_Kinds_numbered ?fn_Kinds_numbered ?g_Kinds_lesser ?l_Kinds_lesser ?c_Kinds_lesser ?k_Kinds_lesser ?fn_Kinds_lesser ?g_Kinds_added_behind ?l_Kinds_added_behind ?c_Kinds_added_behind ?k_Kinds_added_behind ?fn_Kinds_added_behind ?g_Kinds_added_ahead ?l_Kinds_added_ahead ?c_Kinds_added_ahead ?k_Kinds_added_ahead ?fn_Kinds_added_ahead ?g_kind_count ?l_kind_count ?c_kind_count ?k_kind_count ?g_least_rows ?l_least_rows ?c_least_rows ?k_least_rows ?g_rows_by_kind ?l_rows_by_kind ?c_rows_by_kind ?k_rows_by_kind ?g_letters_of ?l_letters_of ?c_letters_of ?k_letters_of ?g_check_scope ?l_check_scope ?c_check_scope ?k_check_scope ?g__law_pool ?l__law_pool ?c__law_pool ?k__law_pool ?g__law_draw ?l__law_draw ?c__law_draw ?k__law_draw ?g__law_kind ?l__law_kind ?c__law_kind ?k__law_kind ?g__law_all_lines ?l__law_all_lines ?c__law_all_lines ?k__law_all_lines ?g__law_scope ?l__law_scope ?c__law_scope ?k__law_scope ?g__law_firsts ?l__law_firsts ?c__law_firsts ?k__law_firsts ?g__law_right ?l__law_right ?c__law_right ?k__law_right ?g_law ?l_law ?c_law ?k_law ?z_abs ?z_enumerate ?z_int ?z_len ?z_list ?z_max ?z_min ?z_range ?z_repr ?z_set ?z_sorted ?z_tuple ?g_LETTERS ?r_LETTERS ?g_DEPTHS ?l_DEPTHS ?o_DEPTHS ?v_DEPTHS
    (case g__wall => k_is)
    (case l__wall => k_is)
    (case c__wall => k_is)
    (case k__wall => k_is)
    (case g_Kinds => k_is)
    (case pg_Kinds => k_is)
    (case hd_Kinds => k_is)
    (case po_Kinds => k_is)
    (case sa_Kinds => k_is)
    (case mk_Kinds => k_is)
    (case kk_Kinds => k_is)
    (case n_Kinds_known_kinds => k_is)
    (case n_Kinds_known_places => k_is)
    (case n_Kinds_numbers => k_is)
    (case n_Kinds_marks => k_is)
    (case n_Kinds_depths => k_is)
    (case n_Kinds_lesser_kinds => k_is)
    (case n_Kinds_longer_behind => k_is)
    (case n_Kinds_longer_ahead => k_is)
    (case g_Kinds___init__ => k_is)
    (case l_Kinds___init__ => k_is)
    (case c_Kinds___init__ => k_is)
    (case k_Kinds___init__ => k_is)
    (case fn_Kinds___init__ => k_is)
    (case g_Kinds_alike => k_is)
    (case l_Kinds_alike => k_is)
    (case c_Kinds_alike => k_is)
    (case k_Kinds_alike => k_is)
    (case fn_Kinds_alike => k_is)
    (case g_Kinds_of_row => k_is)
    (case l_Kinds_of_row => k_is)
    (case c_Kinds_of_row => k_is)
    (case k_Kinds_of_row => k_is)
    (case fn_Kinds_of_row => k_is)
    (case g_Kinds_places => k_is)
    (case l_Kinds_places => k_is)
    (case c_Kinds_places => k_is)
    (case k_Kinds_places => k_is)
    (case fn_Kinds_places => k_is)
    (case g_Kinds_marks_of_places => k_is)
    (case l_Kinds_marks_of_places => k_is)
    (case c_Kinds_marks_of_places => k_is)
    (case k_Kinds_marks_of_places => k_is)
    (case fn_Kinds_marks_of_places => k_is)
    (case g_Kinds_empty => k_is)
    (case l_Kinds_empty => k_is)
    (case c_Kinds_empty => k_is)
    (case k_Kinds_empty => k_is)
    (case fn_Kinds_empty => k_is)
    (case g_Kinds_numbered => k_is)
    (case l_Kinds_numbered => k_is)
    (case c_Kinds_numbered => k_is)
    (case k_Kinds_numbered => k_is)
    (case fn_Kinds_numbered => k_is)
    (case g_Kinds_lesser => k_is)
    (case l_Kinds_lesser => k_is)
    (case c_Kinds_lesser => k_is)
    (case k_Kinds_lesser => k_is)
    (case fn_Kinds_lesser => k_is)
    (case g_Kinds_added_behind => k_is)
    (case l_Kinds_added_behind => k_is)
    (case c_Kinds_added_behind => k_is)
    (case k_Kinds_added_behind => k_is)
    (case fn_Kinds_added_behind => k_is)
    (case g_Kinds_added_ahead => k_is)
    (case l_Kinds_added_ahead => k_is)
    (case c_Kinds_added_ahead => k_is)
    (case k_Kinds_added_ahead => k_is)
    (case fn_Kinds_added_ahead => k_is)
    (case g_kind_count => k_is)
    (case l_kind_count => k_is)
    (case c_kind_count => k_is)
    (case k_kind_count => k_is)
    (case g_least_rows => k_is)
    (case l_least_rows => k_is)
    (case c_least_rows => k_is)
    (case k_least_rows => k_is)
    (case g_rows_by_kind => k_is)
    (case l_rows_by_kind => k_is)
    (case c_rows_by_kind => k_is)
    (case k_rows_by_kind => k_is)
    (case g_letters_of => k_is)
    (case l_letters_of => k_is)
    (case c_letters_of => k_is)
    (case k_letters_of => k_is)
    (case g_check_scope => k_is)
    (case l_check_scope => k_is)
    (case c_check_scope => k_is)
    (case k_check_scope => k_is)
    (case g__law_pool => k_is)
    (case l__law_pool => k_is)
    (case c__law_pool => k_is)
    (case k__law_pool => k_is)
    (case g__law_draw => k_is)
    (case l__law_draw => k_is)
    (case c__law_draw => k_is)
    (case k__law_draw => k_is)
    (case g__law_kind => k_is)
    (case l__law_kind => k_is)
    (case c__law_kind => k_is)
    (case k__law_kind => k_is)
    (case g__law_all_lines => k_is)
    (case l__law_all_lines => k_is)
    (case c__law_all_lines => k_is)
    (case k__law_all_lines => k_is)
    (case g__law_scope => k_is)
    (case l__law_scope => k_is)
    (case c__law_scope => k_is)
    (case k__law_scope => k_is)
    (case g__law_firsts => k_is)
    (case l__law_firsts => k_is)
    (case c__law_firsts => k_is)
    (case k__law_firsts => k_is)
    (case g__law_right => k_is)
    (case l__law_right => k_is)
    (case c__law_right => k_is)
    (case k__law_right => k_is)
    (case g_law => k_is)
    (case l_law => k_is)
    (case c_law => k_is)
    (case k_law => k_is)
    (case z_abs => k_is)
    (case z_enumerate => k_is)
    (case z_int => k_is)
    (case z_len => k_is)
    (case z_list => k_is)
    (case z_max => k_is)
    (case z_min => k_is)
    (case z_range => k_is)
    (case z_repr => k_is)
    (case z_set => k_is)
    (case z_sorted => k_is)
    (case z_tuple => k_is)
    (case g_LETTERS => k_is)
    (case r_LETTERS => exact ⟨_, rfl⟩)
    (case g_DEPTHS => k_is)
    (case l_DEPTHS => k_is)
    (case o_DEPTHS => first | rfl | decide +kernel | k_is)
    (case v_DEPTHS => first | rfl | decide +kernel)
end
