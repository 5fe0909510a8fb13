import PyProof.Rows.All
import Wide.All
import OpenK.AllK
import Wide.FinOn
import HandS.ForMost
import HandS.Exc
import HandS.Wide
import HandS.Style
import HandS.Evl
import HandS.IsInst
import KE.IntBitsLaws
import KE.GoesEnum
import KE.KRevSl
import PyProof.ReprRoads
import PyProof.StrBlock2
import HandS.TupSets
import HandS.SetKeys
import HandS.Rev
import HandS.Strs
import HandS.SetFor
import HandS.Walk
import HandS.ExcInit
import KE.KExcIs
import PyProof.FitsInt
import HandS.Text
import HandS.WideBits
import HandS.ExcOwn
import HandS.WordsExc
import HandS.ExcField
import PyProof.StrLawsTight
import PyProof.StrLawsIn
import PyProof.Rows.StrJoinRep
import KE.KDictKeyed
import HandS.More
import KE.KSortTupAny
import HandS.Replace
import HandS.Deep
import HandS.TupLen
import HandS.Conv
import HandS.TryOnly
import HandS.SortRule
import HandS.TupLe
import PySem.Challenge.RW_pickdepths_k17_questions_that_part
section
set_option Elab.async false
set_option linter.all false
set_option maxRecDepth 100000
/-! my own base: rules that the hand layer lacks, and the words of my specs -/
namespace M
open PySem L2 Evl
open PyProof.Rows hiding St

/-! ### operators -/
def CPowW (i j : Int) : Prop := 0 ≤ j ∧ (Builtin.Int.intBits i : Int) * j ≤ 2 ^ 27
theorem op_powW {X : Cx} : OpR X (binaryOp .Pow) (rI CPowW fun i j => .int (i ^ j.toNat)) := opI fun _ _ _ _ _ _ _ hc q => pow_int hc.1 hc.2 q
theorem bits_le {i : Int} {n : Nat} (h : i.natAbs < 2 ^ n) : Builtin.Int.intBits i ≤ n := by
  unfold Builtin.Int.intBits
  by_cases e : i = 0
  · simp [e]
  · rw [if_neg (by simpa using e)]
    have h2 : i.natAbs.log2 < n := (Nat.log2_lt (by omega)).mpr h
    omega
theorem pow_w {i : Int} {j : Int} (n : Nat) (h : i.natAbs < 2 ^ n) (h0 : 0 ≤ j) (hj : j ≤ 100) (hn : n ≤ 1000) : CPowW i j := by
  refine ⟨h0, ?_⟩
  have e := bits_le h
  have h1 : ((Builtin.Int.intBits i : Nat) : Int) ≤ 1000 := by omega
  have h27 : (2 : Int) ^ 27 = 134217728 := by decide
  rw [h27]
  have h2 : ((Builtin.Int.intBits i : Nat) : Int) * j ≤ 1000 * 100 := Int.mul_le_mul h1 hj h0 (by decide)
  omega
theorem op_mul_str {X : Cx} : OpR X (binaryOp .Mult) (fun x y H Q => ∃ z i, x = .str z ∧ y = .int i ∧ MulOk z i ∧ Q (.str (Txt.mul z i)) H) := by
  intro pins s σ H x y v u Q I rx ry h
  obtain ⟨z, i, rfl, rfl, hc, q⟩ := h
  obtain ⟨t, rfl⟩ := rx
  obtain ⟨t', rfl⟩ := ry
  exact SB.mul hc fun t2 k => ⟨.str _, H, I.tok _, ⟨_, rfl⟩, q⟩

/-! ### repr of data, where no repr is running -/
def rRepr (K : PySem.W.Frag) : List V → Hp → VK → Prop := fun xs H Q => ∃ x d, xs = [x] ∧ Dp K H x d ∧ d.showable = true ∧ d.hasDict = false ∧ d.depth ≤ 50 ∧ d.shown.length ≤ sizeLine ∧ Q (.str d.shown) H
theorem call_repr {X : Cx} (hg : X.A.guards = some []) (hu : X.A.units + 64 < cLine) : CallR X (.builtin "repr") (rRepr X.K) := by
  intro pins s σ H vs us Q I r h
  obtain ⟨x, d, rfl, hd, hs, hn, hp, hz, q⟩ := h
  obtain ⟨u, rfl, ru⟩ := vals1 r
  obtain ⟨as, rd⟩ := Dp.reads I d x u hd ru
  have fin : ∀ t, EP X pins σ Q (.str d.shown t) { s with toks := s.toks + 1 } := fun t => ⟨.str _, H, I.tok _, ⟨_, rfl⟩, q⟩
  cases rd with
  | none => exact P.repr_of_none (fin _)
  | bool b => exact P.repr_of_bool (fin _)
  | int i t => exact P.repr_of_int (by simpa [PyData.showable] using hs) (fin _)
  | str z t => exact P.repr_of_str (fin _) hz
  | list h1 h2 h3 h4 =>
    refine repr_of_reads' (.list h1 h2 h3 h4) hs (PyData.noDict_hsm hn) hg (by omega) (fun _ _ e => e) (fun h' t tk k => ?_) hz
    exact ⟨.str _, H, I.kept (t' := tk) k, ⟨_, rfl⟩, q⟩
  | tuple h1 h2 h3 h4 =>
    refine repr_of_reads' (.tuple h1 h2 h3 h4) hs (PyData.noDict_hsm hn) hg (by omega) (fun _ _ e => e) (fun h' t tk k => ?_) hz
    exact ⟨.str _, H, I.kept (t' := tk) k, ⟨_, rfl⟩, q⟩
  | dict => cases hn

/-! ### a def whose body asks that no repr is running -/
structure FnG (P : Program) (w : World) (K : PySem.W.Frag) (mg : Str → Option Value) (base : Heap) (CX : CXT) (k : Nat) (f : Addr) (fd : FuncData) (ps : List Str) (sp : Sp) : Prop where
  len : ∀ vs H Q E, sp vs H Q E → vs.length = ps.length
  run : ∀ (A : Around), A.guards = some [] → ∀ (outer : List Env) (s : Shared) (H : Hp) (args : Args) (us : List Value) (vs : List V) (Q : VK) (E : XK), Room k A → Env0 P w K mg base A outer s H →
    BindsTo s fd args (ps.zip us) → Vals vs us → sp vs H Q E → codeAny (model P w) A (.call (.ref f) args) (CR CX outer P w H s Q E) s
section
variable {P : Program} {w : World} {K : PySem.W.Frag} {mg : Str → Option Value} {base : Heap} {CX : CXT} {k : Nat} {f : Addr} {fd : FuncData} {ps : List Str} {sp : Sp}
theorem FnG.of (F : FnOk P w K mg base CX k f fd ps sp) : FnG P w K mg base CX k f fd ps sp := ⟨F.len, fun A _ => F.run A⟩
theorem FnG.mono {j : Nat} (F : FnG P w K mg base CX j f fd ps sp) (h : j ≤ k) : FnG P w K mg base CX k f fd ps sp := ⟨F.len, fun A hg o s H ar us vs Q E hr => F.run A hg o s H ar us vs Q E (hr.mono h)⟩
theorem fnG_of {name qual : Str} {params : Arguments} {body : List Stmt} {scope : Scope} {dV kV doc pm cdv ct oc : Value} {an od : Option Addr} {osl : Array (Option Value)} {N : List Str}
    (lk : K.lookup f = some ⟨oc, od, .func (PySem.W.fnOf name qual params body scope dV kV doc pm an cdv ct), osl⟩) (hcd : PySem.W.codeIn K cdv qual = true) (S : FnScope N ps scope) (len : ∀ vs H Q E, sp vs H Q E → vs.length = ps.length)
    (hb : ∀ (A : Around), A.guards = some [] → ∀ (outer : List Env) (s : Shared) (H : Hp) (vs : List V) (Q : VK) (E : XK), Room k (A.deeper (envOfC qual scope s.heap.objs.size f cdv)) → sp vs H Q E →
      ∃ t, PSs (cxOf CX P w K mg base N qual scope f cdv A outer s H E) body t ∧ t { nx := fun _ H' => Q .non H', rt := Q } (start N vs) H) :
    FnG P w K mg base CX (k + 1) f (PySem.W.fnOf name qual params body scope dV kV doc pm an cdv ct) ps sp where
  len := len
  run := by
    intro A hgA outer s H args us vs Q E room env bind rel want
    have inK : K.In s.heap := env.mod.kin.keeps fun b o q => (env.bs b o q).1
    have free : s.heap.NoLimit := env.mod.nolimit.keeps fun b o q => (env.bs b o q).1
    have kinds : ∀ y ∈ ps.zip us, scope.names.lookup y.1 = some .local ∨ (scope.names.lookup y.1 = some .cell ∧ ((cellsFrom (s.heap.objs.size + 1) scope.names []).lookup y.1).isSome = true) := by
      rintro ⟨n, v⟩ hy
      exact (S.par n (List.of_mem_zip hy).1).imp id fun q => ⟨q, PySem.W.cellsFrom_some _ _ _ (.inl q)⟩
    refine codeAny_call_function room.depth (inK _ _ lk) rfl S.co S.gen rfl (PySem.W.codeRec_of inK hcd) (bind _ _ _ _ ?_)
    refine wpAny_newFunctionEnv_cells S.kind kinds fun env' he s1 x => ?_
    subst he
    refine ⟨free.keeps x.toInCall.keep, codeAny_func ?_⟩
    obtain ⟨t, ht, hq⟩ := hb A hgA outer s H vs Q E (room.deeper _) want
    have I := inv_start (CX := CX) (E := E) S room.hd env (len _ _ _ _ want) rel x
    refine wpAny_mono (ht.run [] s1 (start N vs) H _ I hq) (fun fl s' hs => ?_) fun e s' hs => hs
    cases fl with
    | ret u =>
      obtain ⟨v, τ, G, J, rv, q⟩ := hs
      exact ⟨v, G, J.os, J.bare, J.base, J.hok, rv, q⟩
    | next =>
      obtain ⟨τ, G, J, q⟩ := hs
      exact ⟨V.non, G, J.os, J.bare, J.base, J.hok, rfl, q⟩
    | brk => exact hs.elim fun _ z => z.elim fun _ z => z.2.elim
    | cont => exact hs.elim fun _ z => z.elim fun _ z => z.2.elim
theorem Fun.okG {x qual : Str} {st : Stmt} {N : List Str} (F : Fun K x qual st f fd) (S : FnScope N ps (defScope st)) (len : ∀ vs H Q E, sp vs H Q E → vs.length = ps.length)
    (hb : ∀ (cdv : Value) (A : Around), A.guards = some [] → ∀ (outer : List Env) (s : Shared) (H : Hp) (vs : List V) (Q : VK) (E : XK), Room k (A.deeper (envOfC qual (defScope st) s.heap.objs.size f cdv)) → sp vs H Q E →
      ∃ t, PSs (cxOf CX0 P w K mg base N qual (defScope st) f cdv A outer s H E).nox (defBody st) t ∧ t { nx := fun _ H' => Q .non H', rt := Q } (start N vs) H) : FnG P w K mg base CX0 (k + 1) f fd ps sp := by
  obtain ⟨oc, od, kV, doc, pm, an, cdv, ct, osl, rfl, lk, hcd⟩ := F.ex
  refine fnG_of lk hcd S len fun A hg outer s H vs Q E hr want => ?_
  obtain ⟨t, p, q⟩ := hb cdv A hg outer s H vs Q E hr want
  exact ⟨t, p.nox, q⟩
end
section
variable {X : Cx} {CX : CXT} {k : Nat} {f : Addr} {fd : FuncData} {ps ks : List Str} {sp : Sp} {dvs : List V} {ds : List Value} {E : XK} {x : Str} {p pos : Pos} {e : Expr} {es : List Expr} {t tk : TA} {kws : List Keyword}
  {g : List Value → List Value → List Value} {gV : List V → List V → List V}
theorem ended {pins : List (Addr × Obj)} {σ : St} {H : Hp} {s s' : Shared} {Q : VK} {r : Result} (hx : Passes CX X E) (I : Inv X pins σ H s) (hq : CR CX X.stack X.prog X.w H s Q E r s') :
    (match r with | .ok (.ret u) => EP X pins σ Q u s' | .ok _ => False | .error e => X.xe e s') := by
  rcases r with e | fl
  · exact hx pins σ H s e s' I hq
  · cases fl with
    | ret u => exact I.after hq
    | next => exact hq.elim
    | brk => exact hq.elim
    | cont => exact hq.elim
theorem pe_callG (F : FnG X.prog X.w X.K X.mg X.base CX k f fd ps sp) (hga : X.A.guards = some []) (hr : Room k X.A) (hg : Gl X x) (hm : X.mg x = some (.ref f)) (hk : PySem.W.keepIn X.K (.ref f) = true) (hb : Binds X.K fd ps ds)
    (hd : Vals dvs ds) (hx : Passes CX X E) (ha : PA X (e :: es) t) (hdb : (x == ("__debug__" : Str)) = false := by decide) (he : starEach (e :: es) X.env = (false, eval e X.env) :: starEach es X.env := by rfl)
    (hpl : (backTo pos (starEach es X.env)).any (·.1) = false := by rfl) : PE X (.Call (.Name x p) (e :: es) [] pos) (tCall sp dvs E t) := by
  constructor
  intro pins s σ H Q I h
  refine wpAny_Call_Name_kw (ld_glob I hg hm (PySem.W.callWith_K (h₀ := X.base) I.ok.mod.kin hk (thn (ha.run pos pins s σ H _ I h) ?_) he hpl) hdb)
  rintro us s1 ⟨vs, H1, I1, r, q⟩
  refine ⟨I1.kIn, ?_⟩
  have both : Vals (vs ++ dvs) (us ++ ds) := r.append hd
  refine wpAny_call (codeAny_mono (F.run X.A hga X.stack s1 H1 ⟨us, []⟩ (us ++ ds) (vs ++ dvs) Q E hr I1.env0 (hb s1 us I1.kIn (by rw [← both.length]; exact F.len _ _ _ _ q)) both q) fun r s' hq => ?_)
  have z := ended hx I1 hq
  cases r with
  | error _ => exact z
  | ok fl => cases fl <;> exact z
theorem keysRun {pins : List (Addr × Obj)} {σ : St} {H : Hp} {s : Shared} {Q : VK} {us ws : List Value} {vs zs : List V} (F : FnG X.prog X.w X.K X.mg X.base CX k f fd ps sp) (hga : X.A.guards = some []) (hr : Room k X.A)
    (hb : KBinds X.K fd ps ks g gV) (hx : Passes CX X E) (I : Inv X pins σ H s) (r : Vals vs us) (rz : Vals zs ws) (h : sp (gV vs zs) H Q E) : wpAny (model X.prog X.w) X.A (call (.ref f) us (ks.zip ws)) (EP X pins σ Q) X.xe s := by
  have both := hb.rel r rz
  refine wpAny_call (codeAny_mono (F.run X.A hga X.stack s H ⟨us, ks.zip ws⟩ (g us ws) (gV vs zs) Q E hr I.env0 (hb.to s us ws I.kIn (by rw [← both.length]; exact F.len _ _ _ _ h)) both h) fun r s' hq => ?_)
  have z := ended hx I hq
  cases r with
  | error _ => exact z
  | ok fl => cases fl <;> exact z
/-- f(k = v, ..): every argument by its name -/
theorem pe_callK0 (F : FnOk X.prog X.w X.K X.mg X.base CX k f fd ps sp) (hr : Room k X.A) (hg : Gl X x) (hm : X.mg x = some (.ref f)) (hk : PySem.W.keepIn X.K (.ref f) = true) (hb : KBinds X.K fd ps ks g gV) (hx : Passes CX X E)
    (hkw : PK X kws tk) (hall : (backToKw pos (keywordEach kws X.env)).all (·.1.isSome) = true := by rfl) (hks : (backToKw pos (keywordEach kws X.env)).filterMap (·.1) = ks := by rfl)
    (hdb : (x == ("__debug__" : Str)) = false := by decide) (hpl : ((backTo pos (starEach [] X.env)).any (·.1) || (backToKw pos (keywordEach kws X.env)).any (·.1.isNone)) = false := by rfl) :
    PE X (.Call (.Name x p) [] kws pos) (tCallK sp gV E tNil tk) := by
  constructor
  intro pins s σ H Q I h
  refine wpAny_Call_Name_kw (ld_glob I hg hm (PySem.W.callWith_KW0 (h₀ := X.base) I.ok.mod.kin hk hall (thn (hkw.run pos pins s σ H _ I h) ?_) hpl) hdb)
  rintro ws s2 ⟨zs, H2, I2, rz, q2⟩
  refine ⟨I2.kIn, ?_⟩
  rw [hks]
  exact run_fnk F hr hb hx I2 .nil rz q2
end

/-! ### the end of a law, where the law's def asks that no repr is running -/
theorem law_callG {P : Program} {w : World} {K : PySem.W.Frag} {mg mb : Str → Option Value} {CX : CXT} {k : Nat} {fa a : Addr} {fd : FuncData} {x : Str} {sp : Sp} {s1 : Shared} {vs : List Value} {ns : List Int}
    (KX : K.In s1.heap) (hns : s1.heap.Ns mainGlobals mg) (hb : s1.heap.Ns builtinsNs mb) (hbb : ∀ y : Str, y ≠ "__name__" → mb y = bootBuiltins y) (lim : s1.heap.NoLimit) (hg : s1.gens = #[])
    (ha : s1.heap.get? a = some { cls := .type "list", data := .seq vs.toArray }) (hi : IntsAre vs ns) (hl : ns.length ≤ sizeLine) (hr : Room k callerA)
    (F : ∀ base : Heap, K.In base → base.Ns mainGlobals mg → FnG P w K mg base CX k fa fd [x] sp) (hbind : ∀ (s : Shared) (u : Value), BindsTo s fd ⟨[u], []⟩ [(x, u)])
    (hsp : ∀ H : Hp, Only H → SqL K H a (ns.map V.int) → sp [.ref a] H (fun v _ => v = .bl true) fun _ _ _ => False)
    (hCX : ∀ H e s', CX [] H s1 (fun _ _ _ => False) e s' → False) :
    codeAny (model P w) callerA (.call (.ref fa) ⟨[.ref a], []⟩) (fun r s' => r = .ok (.ret (.bool true)) ∧ OldK s1.heap s'.heap ∧ s'.os = s1.os ∧ AllBare s'.gens) s1 := by
  have rel := vals_ints hi
  have len := hi.length
  have go : ∀ H : Hp, Only H → SqL K H a (ns.map V.int) → HOk P w H s1.heap → (∀ b, H b ≠ none → b = a ∧ K.lookup a = none) →
      codeAny (model P w) callerA (.call (.ref fa) ⟨[.ref a], []⟩) (fun r s' => r = .ok (.ret (.bool true)) ∧ OldK s1.heap s'.heap ∧ s'.os = s1.os ∧ AllBare s'.gens) s1 := by
    intro H only script held here
    have plain : ∀ {b : Addr} {m : Str → Option Value}, s1.heap.Ns b m → (hidT s1.heap H).Ns b m := by
      rintro b m ⟨o, es, ep, q, d, z⟩
      refine ⟨o, es, ep, hidT_get q ?_, d, z⟩
      rcases hH : H b with _ | u
      · rfl
      · obtain ⟨rfl, _⟩ := here b (by rw [hH]; simp)
        rw [ha] at q
        cases q
        exact nomatch (show Data.seq vs.toArray _ = Data.dict es ep from d)
    have inK : K.In (hidT s1.heap H) := by
      intro b o q
      refine hidT_get (KX b o q) ?_
      rcases hH : H b with _ | u
      · rfl
      · obtain ⟨rfl, z⟩ := here b (by rw [hH]; simp)
        rw [z] at q
        cases q
    obtain ⟨mc, l1, l2⟩ := lim
    have env : Env0 P w K mg (hidT s1.heap H) callerA [] s1 H :=
      ⟨rfl, ⟨inK, plain hns, ⟨mb, plain hb, hbb⟩, ⟨mc, plain l1, l2⟩⟩, fun b o q => of_hidT q, Nat.le_of_eq (hidT_size _ _), trivial, fun b z => absurd (show b ∈ ([] : List Addr) from z) (by simp), held, .of_eq hg⟩
    refine codeAny_mono ((F _ inK (plain hns)).run callerA rfl [] s1 H ⟨[.ref a], []⟩ [.ref a] [.ref a] _ _ hr env (hbind s1 (.ref a)) (.cons rfl .nil) (hsp H only script)) ?_
    rintro (e | fl) s' z
    · exact (hCX H e s' z).elim
    · cases fl with
      | ret u =>
        obtain ⟨v, G, os, bare, un, held', rv, ev⟩ := z
        subst ev
        cases (show u = Value.bool true from rv)
        refine ⟨rfl, OldK.of_keep fun b o q => ?_, os, bare⟩
        rcases only b with n | ⟨ob, xs, n⟩
        · exact un.keep b o q n (fun z => absurd (show b ∈ ([] : List Addr) from z) (by simp)) (by simp)
        · obtain ⟨e1, _⟩ := held b _ n
          obtain ⟨e2, _⟩ := held' b _ (un.frzs b ob _ n)
          rw [q] at e1
          cases e1
          exact e2
      | next => exact z.elim
      | brk => exact z.elim
      | cont => exact z.elim
  rcases hk : K.lookup a with _ | o
  · refine go (fun b => if b = a then some (.frz { cls := .type "list", data := .seq vs.toArray } (.lst (ns.map V.int))) else none) ?_ (.inl (.inr ⟨_, if_pos rfl⟩)) ?_ ?_
    · intro b
      by_cases q : b = a
      · exact .inr ⟨_, _, if_pos q⟩
      · exact .inl (if_neg q)
    · intro b u z
      by_cases q : b = a
      · subst q
        have z' := (if_pos (c := b = b) rfl).symm.trans z
        cases z'
        exact ⟨ha, by rw [List.length_map]; exact hl, vs, _, rel, ha⟩
      · exact nomatch (if_neg q).symm.trans z
    · intro b z
      by_cases q : b = a
      · exact ⟨q, hk⟩
      · exact absurd (if_neg q) z
  · have q := KX a o hk
    rw [ha] at q
    cases q
    exact go (fun _ => none) (fun _ => .inl rfl) (.inr ⟨_, vs.toArray, _, hk, rfl, rfl, rfl, by rw [List.size_toArray, len]; exact hl, by simpa using rel⟩) (fun b u z => nomatch (show (none : Option HO) = some u from z)) fun b z => absurd rfl z
theorem walk_ofG {l : PySem.W.OpenLaw} {n k : Nat} {q : Program} {loose : List Str} {XP : (Str → Option Value) → Heap → Prop} {YP : World → Heap → Prop} {d : DefRec} {K : Params → PySem.W.Frag} {sp : PySem.W.Frag → Sp} {x : Str}
    (hn : l.most = some n) (hn2 : n ≤ sizeLine) (hdf : d.params.defaults = []) (hr : Room k callerA) (hY : ∀ (w : World) (h : Heap), YP w h → (K w.params).In h)
    (F : ∀ (w : World) (mg : Str → Option Value) (fa : Addr) (h : Heap), (K w.params).In h → h.Ns mainGlobals mg → mg d.name = some (.ref fa) →
      ∃ fd : FuncData, (∀ (s : Shared) (u : Value), BindsTo s fd ⟨[u], []⟩ [(x, u)]) ∧ ∀ base : Heap, (K w.params).In base → base.Ns mainGlobals mg → FnG l.prog w (K w.params) mg base CX0 k fa fd [x] (sp (K w.params)))
    (hsp : ∀ (K : PySem.W.Frag) (H : Hp) (a : Addr) (ns : List Int), ns.length ≤ n → Only H → SqL K H a (ns.map V.int) → sp K [.ref a] H (fun v _ => v = .bl true) fun _ _ _ => False) :
    PySem.W.WalkO q loose XP YP l.row.toRowW d [] (fun f vs => PySem.call f vs) := by
  refine Att.attach_call hn hdf fun w s0 s1 mg mb fa o pm cd doc a vs ns G Y ho hd hcd hmg hobj hints hlen hg => ?_
  obtain ⟨fd, hb, hF⟩ := F w mg fa _ (hY w _ Y) G.T.g hmg
  exact law_callG (hY w _ Y) G.T.g G.T.b G.T.builtins G.T.nolimit hg hobj hints (Nat.le_trans hlen hn2) hr hF hb (fun H hO hS => hsp _ H a ns hlen hO hS) fun H e s' z => z.elim

/-! ### s[::-1] -/
theorem back_idx (n : Nat) : Builtin.Str.strSliceIndices none none (-1) n = (List.range n).reverse := by
  unfold Builtin.Str.strSliceIndices
  simp only [show ¬ ((-1 : Int) > 0) by decide, if_false]
  rw [PySem.W.krv_sliceRange, PySem.W.krv_range]
def revS (z : Str) : Str := ⟨z.cps.toList.reverse.toArray⟩
def tRevS (te : TE) : TE := fun σ H Q => te σ H fun x H1 => ∃ z, x = .str z ∧ z.length ≤ sizeLine ∧ Q (.str (revS z)) H1
theorem pe_revS {X : Cx} {e : Expr} {te : TE} {k : Nat} {p1 p2 p3 pos : Pos} (he : PE X e te) : PE X (.Subscript e (.Slice none none (some (.UnaryOp .USub (.Constant (.int 1) k p1) p2)) p3) pos) (tRevS te) := by
  constructor
  intro pins s σ H Q I h
  refine Subscript_ (thn (he.run pins s σ H _ I h) ?_)
  rintro v s1 ⟨x, H1, I1, r1, z, rfl, hz, q⟩
  obtain ⟨t, rfl⟩ := r1
  have one : PO X (some (.UnaryOp .USub (.Constant (.int 1) k p1) p2)) (tPart (tUn (rU fun i => .int (-i)) (tC (.int 1)))) := po_some (pe_un un_neg pe_int)
  refine wpAny_Slice (thn (po_none.run pins s1 σ H1 (fun o G => o = none ∧ G = H1) I1 ⟨rfl, rfl⟩) ?_)
  rintro vl s2 ⟨_, _, I2, pl, rfl, rfl⟩
  refine thn (po_none.run pins s2 σ _ (fun o G => o = none ∧ G = _) I2 ⟨rfl, rfl⟩) ?_
  rintro vu s3 ⟨_, _, I3, pu, rfl, rfl⟩
  refine thn (one.run pins s3 σ _ (fun o G => o = some (-1) ∧ G = _) I3 ⟨1, rfl, -1, rfl, rfl, rfl⟩) ?_
  rintro vs s4 ⟨_, _, I4, ps, rfl, rfl⟩
  obtain ⟨l, rfl, el⟩ := IsPart.raw pl
  obtain ⟨u, rfl, eu⟩ := IsPart.raw pu
  obtain ⟨st, rfl, es⟩ := IsPart.raw ps
  obtain rfl : l = none := by cases l <;> first | rfl | cases el
  obtain rfl : u = none := by cases u <;> first | rfl | cases eu
  obtain ⟨tm, rfl⟩ : ∃ tm, st = some (-1, tm) := by
    cases st with
    | none => cases es
    | some q => exact ⟨q.2, by cases q; cases es; rfl⟩
  have I5 : Inv X pins σ _ { s4 with heap := s4.heap.push { cls := .type "slice", data := .fields #[partValue none, partValue none, partValue (some (-1, tm))] } } := I4.kept (t' := s4.toks) fun b ob q => Heap.get?_push_of_some _ q
  show wpAny (model X.prog X.w) X.A (subscriptTail e (.Slice none none (some (.UnaryOp .USub (.Constant (.int 1) k p1) p2)) p3) (.str z t) (.ref s4.heap.objs.size)) (EP X pins σ Q) X.xe { s4 with heap := s4.heap.push { cls := .type "slice", data := .fields #[partValue none, partValue none, partValue (some (-1, tm))] } }
  refine tail_any (ops := [.str z t, .ref s4.heap.objs.size]) (typeIs_str _ z t) PySem.F.slot_str_getitem.lookup ?_ (by with_unfolding_all rfl)
  refine wpAny_getItem_str_slice (l := none) (u := none) (st := some (-1, tm)) ⟨_, Heap.get?_push_size _ rfl, rfl, rfl⟩ rfl ?_
  have e2 : sliceMade z t none none (some (-1, tm)) = Made.str (revS z) := by
    unfold sliceMade slicePicked
    rw [if_neg (by simp)]
    show Made.str ⟨((Builtin.Str.strSliceIndices none none (-1) z.length).filterMap (z.cps[·]?)).toArray⟩ = _
    rw [back_idx, List.filterMap_reverse, show z.length = z.cps.size from rfl, PySem.W.krv_all]
    rfl
  rw [e2]
  refine ⟨?_, .str _, _, I5.tok _, ⟨_, rfl⟩, q⟩
  show (z.cps.toList.reverse.toArray).size ≤ _
  rw [List.size_toArray, List.length_reverse, Array.length_toList]
  exact hz

/-! ### for i, c in enumerate(s), s a text -/
def Ites (x : Str) : It :=
  ⟨fun i _ => i < x.cps.size, fun i H v H' => ∃ T c, v = .ref T ∧ H T = none ∧ H' = upd H T (.tup [.int (i : Nat), .str ⟨#[c]⟩]) ∧ x.cps[i]? = some c, fun i _ => x.cps.size ≤ i⟩
theorem turn_enumS {P : Program} {w : World} {K : PySem.W.Frag} {elts : List Expr} {kk : Nat} {tpos : Pos} (x : Str) (t : Tok) (e it : Addr) :
    Turn P w K (.Tuple elts kk tpos) (Ites x) [e, it] e (fun i h => (∃ old, IsEnum h e it ((i : Nat) : Int) old) ∧ h.IsStrIter it (strIterType x) x t i ∧ e ≠ it ∧ i ≤ x.cps.size) where
  mem := List.mem_cons_self
  obj := by
    rintro i h ⟨⟨old, he⟩, ⟨o, ho, hc, hd⟩, _⟩ b hb
    rcases List.mem_cons.mp hb with rfl | hb
    · exact ⟨_, he, fun v q => nomatch q⟩
    · obtain rfl := List.mem_singleton.mp hb
      exact ⟨o, ho, fun v q => by rw [hd] at q; cases q⟩
  keep := by
    rintro i h h' ⟨⟨old, he⟩, ⟨o, ho, r⟩, ne, le⟩ k
    exact ⟨⟨old, k e (by simp) _ he⟩, ⟨o, k it (by simp) o ho, r⟩, ne, le⟩
  item := by
    intro X hP hw hK hc i pins s σ H E I hf st go
    subst hP hw hK
    obtain ⟨⟨old, he⟩, hit, ne, le⟩ := st
    have lte : e < s.heap.objs.size := Heap.lt_size he
    have lti : it < s.heap.objs.size := by obtain ⟨_, q, _⟩ := hit; exact Heap.lt_size q
    refine wpAny_pyNext_enum_itemC (Draws.text (A := X.A.in1) (I.ok.hd hc) it x t) he hit go ne (by simpa using ne) fun v h' tk hv ho hit' hT hsz hk => ?_
    obtain ⟨c, tc, hcx, rfl⟩ := hv
    refine ⟨_, rfl, wpAny_letOwnedTupleGo_enum (s := { s with heap := h', toks := tk + 1 }) ho fun h2 he2 sb => ?_⟩
    have hT2 : h2.get? s.heap.objs.size = some { cls := .type "tuple", data := .seq #[.int i tk, .str ⟨#[c]⟩ tc] } := (sb.2 _ (Nat.ne_of_gt lte)).trans hT
    have new : ObjOk X.prog X.w (upd H s.heap.objs.size (.tup [.int (i : Nat), .str ⟨#[c]⟩])) h2 s.heap.objs.size (.tup [.int (i : Nat), .str ⟨#[c]⟩]) :=
      ⟨by show 2 ≤ sizeLine; decide, [.int i tk, .str ⟨#[c]⟩ tc], .cons ⟨_, rfl⟩ (.cons ⟨_, rfl⟩ .nil), ⟨_, hT2, rfl, _, rfl⟩⟩
    have I1 := I.turnedNew (t' := tk + 1) (ch := [e, it]) (fun b ob hb q => (sb.2 b (fun z => hb (by simp [z]))).trans (hk b ob (fun z => hb (by simp [z])) (fun z => hb (by simp [z])) q)) hf (Nat.le_refl _) new
    refine ⟨.ref s.heap.objs.size, _, I1, rfl, ⟨_, c, rfl, I.hok.fresh (Nat.le_refl _), rfl, hcx⟩, ⟨⟨_, by simpa using he2⟩, ?_, ne, go⟩, ?_⟩
    · obtain ⟨o, ho, r⟩ := hit'
      exact ⟨o, (sb.2 it (Ne.symm ne)).trans ho, r⟩
    · intro b hb
      have small : b < s.heap.objs.size := by
        rcases List.mem_cons.mp hb with rfl | q
        · exact lte
        · rw [List.mem_singleton.mp q]; exact lti
      rw [upd_ne (Nat.ne_of_lt small)]
      exact (hf b hb).1
  done := by
    intro X hP hw hK hc i pins s σ H E I hf st stop
    subst hP hw hK
    obtain ⟨⟨old, he⟩, hit, ne, le⟩ := st
    obtain ⟨f0, f1, f2, f3, f4, f5⟩ := hf it (by simp)
    obtain rfl : i = x.cps.size := Nat.le_antisymm le stop
    refine wpAny_pyNext_enum_endD (Draws.text (A := X.A.in1) (I.ok.hd hc) it x t) he hit fun h' eb => ⟨rfl, I.turned (t' := s.toks) (fun b o hb q => eb b o hb q) f0 f1 f3 f4 f5⟩
  self := by
    rintro A i s Q E ⟨⟨_, he⟩, _⟩ h
    exact wpAny_pyIter_enum he h
def iEnumS (ta : TA) : TI := fun σ H R => ta σ H fun vs H1 => ∃ x, vs = [.str x] ∧ R (Ites x) H1
theorem pi_enumS {X : Cx} {e : Expr} {ta : TA} {p pos tpos : Pos} {elts : List Expr} {kk : Nat} (hg : Gl X "enumerate") (hm : X.mg "enumerate" = none) (ha : PA X [e] ta) (hs : starEach [e] X.env = [(false, eval e X.env)] := by rfl) :
    PI X (.Tuple elts kk tpos) (.Call (.Name "enumerate" p) [e] [] pos) (iEnumS ta) := by
  constructor
  intro pins s σ H R I h
  refine Call_ (ld_blt I hg hm boot_enumerate (PyProof.Rows.callWith_type1 (thn (ha.run pos pins s σ H _ I h) ?_) hs rfl))
  rintro us s1 ⟨vs, H1, I1, r1, x, rfl, q⟩
  obtain ⟨u, rfl, ru⟩ := vals1 r1
  obtain ⟨t, rfl⟩ := ru
  refine call_enumerate_str fun h' he hit hsz hk => wpAny_pyIter_enum he ?_
  refine ⟨s1.heap.objs.size + 1, [s1.heap.objs.size + 1, s1.heap.objs.size], _, _, H1, rfl, I1.kept (t' := s1.toks) hk, turn_enumS x t (s1.heap.objs.size + 1) s1.heap.objs.size, ⟨⟨.none, he⟩, hit, Nat.succ_ne_self _, Nat.zero_le _⟩, ?_, q⟩
  intro b hb
  have big : s1.heap.objs.size ≤ b := by
    rcases List.mem_cons.mp hb with rfl | z
    · exact Nat.le_add_right _ _
    · rw [List.mem_singleton.mp z]; exact Nat.le_refl _
  exact I1.fpOk big (I1.hok.fresh big)
/-- the loop over such: the invariant by the turn -/
theorem for_enumS {x : Str} {g : TG} {tb : TS} {D : Ends} {σ : St} {H : Hp} (Pv : Nat → St → Hp → Prop) (h0 : Pv 0 σ H)
    (hs : ∀ i c T σ H, x.cps[i]? = some c → H T = none → Pv i σ H → g (.ref T) σ (upd H T (.tup [.int (i : Nat), .str ⟨#[c]⟩])) fun σ2 H2 => tb { D with nx := Pv (i + 1), ct := Pv (i + 1), bk := D.nx } σ2 H2)
    (hd : ∀ σ H, Pv x.cps.size σ H → D.nx σ H) :
    ∃ W : Nat → Nat → St → Hp → Prop, (∃ m, W 0 m σ H) ∧ ∀ i m σ H, W i m σ H →
      ((Ites x).stop i H ∧ D.nx σ H) ∨ ((Ites x).go i H ∧ ∃ N : St → Hp → Prop, (∀ σ' H', N σ' H' → ∃ m', m' < m ∧ W (i + 1) m' σ' H') ∧ ∀ v H', (Ites x).yld i H v H' → g v σ H' fun σ2 H2 => tb { D with nx := N, ct := N, bk := D.nx } σ2 H2) := by
  refine ⟨fun i m σ H => m = x.cps.size - i ∧ i ≤ x.cps.size ∧ Pv i σ H, ⟨_, rfl, Nat.zero_le _, h0⟩, ?_⟩
  rintro i _ σ H ⟨rfl, le, p⟩
  rcases Nat.lt_or_ge i x.cps.size with lt | ge
  · right
    refine ⟨lt, Pv (i + 1), fun σ' H' q => ⟨_, by omega, rfl, lt, q⟩, ?_⟩
    rintro v H' ⟨T, c, rfl, free, rfl, hc⟩
    exact hs i c T σ H hc free p
  · obtain rfl : i = x.cps.size := Nat.le_antisymm le ge
    exact .inl ⟨Nat.le_refl _, hd _ _ p⟩
end M
end

section
set_option Elab.async false
set_option linter.all false
set_option maxRecDepth 100000
/-! the words of my specs: what stands, pools, questions as data -/
namespace M
open PySem L2 Evl
open PyProof.Rows hiding St

/-! ### data over a part of the heap -/
mutual
theorem dp_mono {K : PySem.W.Frag} {H H' : Hp} (x : Ex H H') : ∀ (d : PyData) (v : V), Dp K H v d → Dp K H' v d
  | .none, _, h => by cases h; exact .non
  | .bool b, _, h => by cases h; exact .bl b
  | .int i, _, h => by cases h; exact .int i
  | .str z, _, h => by cases h; exact .str z
  | .list ds, _, h => by
    cases h with
    | lst hs ha => exact .lst (ex_l x hs) (dpa_mono x ds _ ha)
  | .tuple ds, _, h => by
    cases h with
    | tup hs ha => exact .tup (ex_t x hs) (dpa_mono x ds _ ha)
  | .dict _, _, h => by cases h
theorem dpa_mono {K : PySem.W.Frag} {H H' : Hp} (x : Ex H H') : ∀ (ds : List PyData) (vs : List V), DpAll K H vs ds → DpAll K H' vs ds
  | [], _, h => by cases h; exact .nil
  | d :: ds, _, h => by
    cases h with
    | cons h1 h2 => exact .cons (dp_mono x d _ h1) (dpa_mono x ds _ h2)
end
theorem _root_.L2.Dp.up {K : PySem.W.Frag} {H H' : Hp} {v : V} {d : PyData} (h : Dp K H v d) (x : Ex H H') : Dp K H' v d := dp_mono x d v h

/-! ### the pool of draws: three ints at p, apart from what H0 knows; m bounds how many were mixed -/
structure Pl (H0 H : Hp) (p : Addr) (m : Nat) : Prop where
  ex : Ex H0 H
  out : H0 p = none
  at_ : ∃ a b c : Int, H p = some (.lst [.int a, .int b, .int c]) ∧ 0 ≤ a ∧ 0 ≤ b ∧ b < 2 ^ 62 ∧ 0 ≤ c ∧ c ≤ m
theorem Pl.mono {H0 H : Hp} {p : Addr} {m n : Nat} (h : Pl H0 H p m) (le : m ≤ n) : Pl H0 H p n := by
  obtain ⟨a, b, c, h1, h2, h3, h4, h5, h6⟩ := h.at_
  exact ⟨h.ex, h.out, a, b, c, h1, h2, h3, h4, h5, by omega⟩
/-- a new object that the data may know -/
theorem Pl.new {H0 H : Hp} {p q : Addr} {m : Nat} {o : HO} (h : Pl H0 H p m) (hq : H q = none) : Pl (upd H0 q o) (upd H q o) p m ∧ Ex H0 (upd H0 q o) ∧ (upd H0 q o) q = some o := by
  have q0 : H0 q = none := fresh_back h.ex hq
  obtain ⟨a, b, c, h1, r⟩ := h.at_
  have np : p ≠ q := ne_of_none h1 hq
  refine ⟨⟨fun b' u e => ?_, by rw [upd_ne np]; exact h.out, a, b, c, by rw [upd_ne np]; exact h1, r⟩, Ex.new q0, upd_same⟩
  by_cases e' : b' = q
  · subst e'
    rw [upd_same] at e ⊢
    exact e
  · rw [upd_ne e'] at e ⊢
    exact h.ex _ _ e
/-- a new object that stays ours -/
theorem Pl.mine {H0 H : Hp} {p q : Addr} {m : Nat} {o : HO} (h : Pl H0 H p m) (hq : H q = none) : Pl H0 (upd H q o) p m := by
  obtain ⟨a, b, c, h1, r⟩ := h.at_
  have np : p ≠ q := ne_of_none h1 hq
  exact ⟨h.ex.trans (Ex.new hq), h.out, a, b, c, by rw [upd_ne np]; exact h1, r⟩
theorem Pl.keep {H0 H H' : Hp} {p : Addr} {m : Nat} (h : Pl H0 H p m) (x : Ex H H') : Pl H0 H' p m := by
  obtain ⟨a, b, c, h1, r⟩ := h.at_
  exact ⟨h.ex.trans x, h.out, a, b, c, x _ _ h1, r⟩
/-- an object apart from the data and the pool changes -/
theorem Pl.touch {H0 H : Hp} {p q : Addr} {m : Nat} {o : HO} (h : Pl H0 H p m) (hq : H0 q = none) (np : q ≠ p) : Pl H0 (upd H q o) p m := by
  obtain ⟨a, b, c, h1, r⟩ := h.at_
  exact ⟨h.ex.mut hq, h.out, a, b, c, by rw [upd_ne (Ne.symm np)]; exact h1, r⟩

def sp_draw : Sp := fun vs H Q _ => ∃ (H0 : Hp) (p : Addr) (m : Nat) (n : Int), vs = [.ref p, .int n] ∧ Pl H0 H p m ∧ m ≤ 2 ^ 30 ∧ 0 < n ∧ n.natAbs < 2 ^ 200 ∧
  ∀ (k : Int) (H' : Hp), 0 ≤ k → k < n → Pl H0 H' p (m + 1) → (∀ b, b ≠ p → H' b = H b) → Q (.int k) H'
def sp_pool (K : PySem.W.Frag) : Sp := fun vs H Q _ => ∃ (a : Addr) (ns : List Int) (i : Int), vs = [.ref a, .int i] ∧ SqL K H a (ns.map V.int) ∧ 0 ≤ i ∧ i ≤ 100 ∧
  ∀ (p : Addr) (H' : Hp), Pl H H' p 0 → Q (.ref p) H'

/-! ### letters, questions -/
def Abc (z : Str) : Prop := ∀ c ∈ z.cps.toList, 97 ≤ c ∧ c ≤ 122
inductive Qn where
  | any
  | no (q : Qn)
  | both (a b : Qn)
  | some (a : Qn) (c : Nat) (b : Qn)
namespace Qn
def d : Qn → PyData
  | any => .tuple [.str "any"]
  | no q => .tuple [.str "not", q.d]
  | both a b => .tuple [.str "both", a.d, b.d]
  | some a c b => .tuple [.str "some", a.d, .str ⟨#[c]⟩, b.d]
/-- how far it nests -/
def hi : Qn → Nat
  | any => 1
  | no q => q.hi + 1
  | both a b => max a.hi b.hi + 1
  | some a _ b => max a.hi b.hi + 1
/-- its parts -/
def parts : Qn → Nat
  | any => 1
  | no q => q.parts + 1
  | both a b => a.parts + b.parts + 1
  | some a _ b => a.parts + b.parts + 1
def deep : Qn → Nat
  | any => 0
  | no q => q.deep
  | both a b => max a.deep b.deep
  | some a _ b => max a.deep b.deep + 1
/-- its letters lie in names, and from a to z -/
def In (z : Str) : Qn → Prop
  | any => True
  | no q => q.In z
  | both a b => a.In z ∧ b.In z
  | some a c b => a.In z ∧ c ∈ z.cps.toList ∧ b.In z
def Ok : Qn → Prop
  | any => True
  | no q => q.Ok
  | both a b => a.Ok ∧ b.Ok
  | some a c b => a.Ok ∧ (97 ≤ c ∧ c ≤ 122) ∧ b.Ok
theorem In.ok {z : Str} (h : Abc z) : ∀ {q : Qn}, q.In z → q.Ok
  | any, _ => trivial
  | no q, i => In.ok (q := q) h i
  | both _ _, i => ⟨In.ok h i.1, In.ok h i.2⟩
  | some _ _ _, i => ⟨In.ok h i.1, h _ i.2.1, In.ok h i.2.2⟩
theorem hi_le : ∀ q : Qn, q.hi ≤ q.parts
  | any => by simp [hi, parts]
  | no q => by have := hi_le q; simp [hi, parts]; omega
  | both a b => by have := hi_le a; have := hi_le b; simp [hi, parts]; omega
  | some a _ b => by have := hi_le a; have := hi_le b; simp [hi, parts]; omega
theorem parts_pos : ∀ q : Qn, 1 ≤ q.parts
  | any => by simp [parts]
  | no q => by simp [parts]
  | both a b => by simp [parts]
  | some a _ b => by simp [parts]
end Qn
section
variable {K : PySem.W.Frag} {H : Hp} {v : V}
/-- a tuple's data -/
theorem dp_tup {ds : List PyData} (h : Dp K H v (.tuple ds)) : ∃ a xs, v = .ref a ∧ SqT K H a xs ∧ DpAll K H xs ds := by
  cases h with
  | tup h1 h2 => exact ⟨_, _, rfl, h1, h2⟩
theorem dpa_len : ∀ {xs : List V} {ds : List PyData}, DpAll K H xs ds → xs.length = ds.length
  | _, _, .nil => rfl
  | _, _, .cons _ t => by rw [List.length_cons, List.length_cons, dpa_len t]
theorem dp_str {z : Str} (h : Dp K H v (.str z)) : v = .str z := by cases h; rfl
theorem dp_q {q : Qn} (h : Dp K H v q.d) : ∃ a xs, v = .ref a ∧ SqT K H a xs ∧
    match q with
    | .any => xs = [.str "any"]
    | .no r => ∃ x, xs = [.str "not", x] ∧ Dp K H x r.d
    | .both r t => ∃ x y, xs = [.str "both", x, y] ∧ Dp K H x r.d ∧ Dp K H y t.d
    | .some r c t => ∃ x y, xs = [.str "some", x, .str ⟨#[c]⟩, y] ∧ Dp K H x r.d ∧ Dp K H y t.d := by
  cases q with
  | any =>
    obtain ⟨a, xs, e, hs, ha⟩ := dp_tup h
    refine ⟨a, xs, e, hs, ?_⟩
    cases ha with
    | cons h1 t => cases t; rw [dp_str h1]
  | no r =>
    obtain ⟨a, xs, e, hs, ha⟩ := dp_tup h
    refine ⟨a, xs, e, hs, ?_⟩
    cases ha with
    | cons h1 t => cases t with
      | cons h2 t => cases t; rw [dp_str h1]; exact ⟨_, rfl, h2⟩
  | both r u =>
    obtain ⟨a, xs, e, hs, ha⟩ := dp_tup h
    refine ⟨a, xs, e, hs, ?_⟩
    cases ha with
    | cons h1 t => cases t with
      | cons h2 t => cases t with
        | cons h3 t => cases t; rw [dp_str h1]; exact ⟨_, _, rfl, h2, h3⟩
  | some r c u =>
    obtain ⟨a, xs, e, hs, ha⟩ := dp_tup h
    refine ⟨a, xs, e, hs, ?_⟩
    cases ha with
    | cons h1 t => cases t with
      | cons h2 t => cases t with
        | cons h3 t => cases t with
          | cons h4 t => cases t; rw [dp_str h1, dp_str h3]; exact ⟨_, _, rfl, h2, h4⟩
theorem q_any {a : Addr} (h : H a = Option.some (.tup [.str "any"])) : Dp K H (.ref a) Qn.any.d := .tup (st_of h) (.cons (.str _) .nil)
theorem q_no {a : Addr} {x : V} {r : Qn} (h : H a = Option.some (.tup [.str "not", x])) (hx : Dp K H x r.d) : Dp K H (.ref a) (Qn.no r).d := .tup (st_of h) (.cons (.str _) (.cons hx .nil))
theorem q_both {a : Addr} {x y : V} {r t : Qn} (h : H a = Option.some (.tup [.str "both", x, y])) (hx : Dp K H x r.d) (hy : Dp K H y t.d) : Dp K H (.ref a) (Qn.both r t).d := .tup (st_of h) (.cons (.str _) (.cons hx (.cons hy .nil)))
theorem q_some {a : Addr} {x y : V} {r t : Qn} {c : Nat} (h : H a = Option.some (.tup [.str "some", x, .str ⟨#[c]⟩, y])) (hx : Dp K H x r.d) (hy : Dp K H y t.d) : Dp K H (.ref a) (Qn.some r c t).d := .tup (st_of h) (.cons (.str _) (.cons hx (.cons (.str _) (.cons hy .nil))))
end

/-! ### tests whose answer is not known yet -/
theorem iteD {c A B : Prop} [Decidable c] (h1 : c → A) (h2 : ¬ c → B) : if decide c = true then A else B := by
  by_cases h : c
  · rw [if_pos (decide_eq_true h)]; exact h1 h
  · rw [if_neg (by simp [h])]; exact h2 h
theorem iteND {c A B : Prop} [Decidable c] (h1 : ¬ c → A) (h2 : c → B) : if (!decide c) = true then A else B := by
  by_cases h : c
  · rw [if_neg (by simp [h])]; exact h2 h
  · rw [if_pos (by simp [h])]; exact h1 h
theorem iteI {i j : Int} {A B : Prop} (h1 : i = j → A) (h2 : i ≠ j → B) : if decide (V.int i = V.int j) = true then A else B :=
  iteD (fun h => h1 (by injection h)) (fun h => h2 fun e => h (by rw [e]))
theorem iteNI {i j : Int} {A B : Prop} (h1 : i ≠ j → A) (h2 : i = j → B) : if (!decide (V.int i = V.int j)) = true then A else B :=
  iteND (fun h => h1 fun e => h (by rw [e])) (fun h => h2 (by injection h))
theorem iteS {i j : Str} {A B : Prop} (h1 : i = j → A) (h2 : i ≠ j → B) : if decide (V.str i = V.str j) = true then A else B :=
  iteD (fun h => h1 (by injection h)) (fun h => h2 fun e => h (by rw [e]))
theorem iteNS {i j : Str} {A B : Prop} (h1 : i ≠ j → A) (h2 : i = j → B) : if (!decide (V.str i = V.str j)) = true then A else B :=
  iteND (fun h => h1 fun e => h (by rw [e])) (fun h => h2 (by injection h))
theorem iteB {b : Bool} {A B : Prop} (h1 : b = true → A) (h2 : b = false → B) : if b = true then A else B := by
  cases b
  · exact h2 rfl
  · exact h1 rfl
/-- a promise that nobody can ask -/
theorem fn_void {P : Program} {w : World} {K : PySem.W.Frag} {mg : Str → Option Value} {base : Heap} {CX : CXT} {k : Nat} {f : Addr} {fd : FuncData} {ps : List Str} {sp : Sp} (h : ∀ vs H Q E, sp vs H Q E → False) : FnOk P w K mg base CX k f fd ps sp :=
  ⟨fun vs H Q E z => (h vs H Q E z).elim, fun _ _ _ _ _ _ vs Q E _ _ _ _ z => (h vs _ Q E z).elim⟩

/-! ### drawn questions -/
def Names (z : Str) : Prop := Abc z ∧ 1 ≤ z.length ∧ z.length ≤ 100
theorem Names.size {z : Str} (h : Names z) : z.length ≤ sizeLine := Nat.le_trans h.2.2 (by decide)
theorem Names.get {z : Str} (h : Names z) {k : Int} (h0 : 0 ≤ k) (h1 : k < z.length) : ∃ c, atI z.cps.toList k = some c ∧ c ∈ z.cps.toList := by
  obtain ⟨j, rfl⟩ : ∃ j : Nat, k = j := ⟨k.toNat, by omega⟩
  have lt : j < z.cps.toList.length := by
    rw [Array.length_toList]
    have : ((j : Nat) : Int) < z.cps.size := h1
    omega
  exact ⟨z.cps.toList[j], atI_nat (by simp [lt]), List.getElem_mem lt⟩
def sp_query (K : PySem.W.Frag) (n : Nat) : Sp := fun vs H Q _ => ∃ (H0 : Hp) (p : Addr) (m : Nat) (z : Str) (dp wd : Int), vs = [.ref p, .str z, .int dp, .int wd] ∧ Pl H0 H p m ∧ m + 2 * wd.toNat ≤ 2 ^ 20 ∧ 1 ≤ wd ∧ wd < n ∧ Names z ∧
  ∀ (q : Qn) (v : V) (H1 H' : Hp), Ex H0 H1 → Pl H1 H' p (m + 2 * wd.toNat) → Dp K H1 v q.d → q.In z → q.deep ≤ dp.toNat → (q.parts : Int) ≤ wd → Q v H'
def sp_steep (K : PySem.W.Frag) (n : Nat) : Sp := fun vs H Q _ => ∃ (H0 : Hp) (p : Addr) (m : Nat) (z : Str) (dp : Int), vs = [.ref p, .str z, .int dp] ∧ Pl H0 H p m ∧ m + 16 * dp.toNat ≤ 2 ^ 20 ∧ dp < n ∧ Names z ∧
  ∀ (q : Qn) (v : V) (H1 H' : Hp), Ex H0 H1 → Pl H1 H' p (m + 16 * dp.toNat) → Dp K H1 v q.d → q.In z → q.deep ≤ dp.toNat → q.parts ≤ 8 * dp.toNat + 1 → Q v H'
def sp_any_query (K : PySem.W.Frag) : Sp := fun vs H Q _ => ∃ (H0 : Hp) (p : Addr) (m : Nat) (z : Str) (dp wd : Int), vs = [.ref p, .str z, .int dp, .int wd] ∧ Pl H0 H p m ∧ m + 500 ≤ 2 ^ 20 ∧ 0 ≤ dp ∧ dp ≤ 6 ∧ 1 ≤ wd ∧ wd ≤ 60 ∧ Names z ∧
  ∀ (q : Qn) (v : V) (H1 H' : Hp), Ex H0 H1 → Pl H1 H' p (m + 500) → Dp K H1 v q.d → q.In z → q.deep ≤ dp.toNat → (q.parts : Int) ≤ max (8 * dp + 1) wd → Q v H'
end M
end

section
set_option Elab.async false
set_option linter.all false
set_option maxRecDepth 100000
/-! more rules: isinstance of data, a written dict's get, questions checked -/
namespace M
open PySem L2 Evl
open PyProof.Rows hiding St

/-! ### isinstance(x, T), T built in -/
theorem tyx_tup {K : PySem.W.Frag} {H : Hp} {a : Addr} {xs : List V} (h : SqT K H a xs) : TyX K H (.ref a) (.type "tuple") := by
  rcases h with (h | ⟨o, h⟩) | ⟨o, its, n, hk, hc, _⟩
  · exact .base (.tup h)
  · exact .fTuple h
  · exact .kTuple hk hc
theorem tyx_lst {K : PySem.W.Frag} {H : Hp} {a : Addr} {xs : List V} (h : SqL K H a xs) : TyX K H (.ref a) (.type "list") := by
  rcases h with (h | ⟨o, h⟩) | ⟨o, its, n, hk, hc, _⟩
  · exact .base (.lst h)
  · exact .base (.frz h)
  · exact .kList hk hc
def rIsT (K : PySem.W.Frag) : List V → Hp → VK → Prop := fun xs H Q => ∃ (x : V) (n t : String) (b : Bool), xs = [x, .ty n] ∧ TyX K H x (.type t) ∧ kitB t n = some b ∧ Q (.bl b) H
theorem call_isT {X : Cx} : CallR X (.builtin "isinstance") (rIsT X.K) := by
  intro pins s σ H xs us Q I r h
  obtain ⟨x, n, t, b, rfl, ty, k, q⟩ := h
  exact call_isi pins s σ H _ us Q I r ⟨x, .ty n, .type t, .type n, b, rfl, .ty n, ty, kit_ty k, q⟩
theorem k_tt : kitB "tuple" "tuple" = some true := by decide +kernel
theorem k_ss : kitB "str" "str" = some true := by decide +kernel
theorem k_ll : kitB "list" "list" = some true := by decide +kernel
theorem k_st : kitB "str" "tuple" = some false := by decide +kernel
theorem k_lt : kitB "list" "tuple" = some false := by decide +kernel
theorem k_it : kitB "int" "tuple" = some false := by decide +kernel
theorem k_bt : kitB "bool" "tuple" = some false := by decide +kernel
theorem k_nt : kitB "NoneType" "tuple" = some false := by decide +kernel
theorem k_dt : kitB "dict" "tuple" = some false := by decide +kernel
theorem k_ts : kitB "tuple" "str" = some false := by decide +kernel
theorem k_ls : kitB "list" "str" = some false := by decide +kernel
theorem k_is : kitB "int" "str" = some false := by decide +kernel
theorem k_bs : kitB "bool" "str" = some false := by decide +kernel
theorem k_ns : kitB "NoneType" "str" = some false := by decide +kernel
theorem k_ds : kitB "dict" "str" = some false := by decide +kernel
theorem k_tl : kitB "tuple" "list" = some false := by decide +kernel

/-! ### D.get(word, n), D a written dict of ints by texts -/
/-- what D holds at z: an int, or nothing -/
def KInts (K : PySem.W.Frag) (w : World) (d : Addr) (f : Str → Option Int) : Prop :=
  ∃ es n, KDict K w d es n ∧ ∀ z, (∃ i t, f z = some i ∧ PySem.W.nsIn K d z = some (some (.int i t))) ∨ (f z = none ∧ PySem.W.nsIn K d z = some none)
def tKGet (K : PySem.W.Frag) (w : World) (td ty tx : TE) : TE := fun σ H Q => td σ H fun x H1 => ∃ d f, x = .ref d ∧ KInts K w d f ∧ ty σ H1 fun y H2 => ∃ z, y = .str z ∧ tx σ H2 fun u H3 => ∃ j, u = .int j ∧ Q (.int ((f z).getD j)) H3
theorem pe_kget {X : Cx} {o e f : Expr} {apos cpos : Pos} {td ty tx : TE} (ho : PE X o td) (he : PE X e ty) (hf : PE X f tx) (m : M2 X o "get" apos e f cpos) : PE X (.Call (.Attribute o "get" apos) [e, f] [] cpos) (tKGet X.K X.w td ty tx) := by
  constructor
  intro pins s σ H Q I h
  refine wpAny_Call_method m.base m.few m.line PySem.F.plainAttrs_dict PySem.F.slot_dict_get PySem.F.type_dict_get (thn (ho.run pins s σ H _ I h) ?_)
  rintro u s1 ⟨x, H1, I1, rx, d, g, rfl, ⟨es, n, D, hg⟩, q1⟩
  cases (show u = Value.ref d from rx)
  have hm0 := PySem.W.mapOf_K (prog := X.prog) I1.kIn D.at_ D.lit
  refine ⟨hm0.typeIs, fun a ea => ?_, ?_⟩
  · cases ea
    exact ⟨_, I1.kIn _ _ D.at_, rfl⟩
  rw [m.trees]
  refine Calls.callWith_builtin rfl (Calls.evalArgs_plain (Calls.spliced_cons (thn (he.run pins s1 σ H1 _ I1 q1) ?_)))
  rintro v s2 ⟨y, H2, I2, ry, z, rfl, q2⟩
  obtain ⟨t, rfl⟩ := ry
  refine Calls.spliced_cons (thn (hf.run pins s2 σ H2 _ I2 q2) ?_)
  rintro v2 s3 ⟨y2, H3, I3, r3, j, rfl, q3⟩
  obtain ⟨t3, rfl⟩ := r3
  have hm := PySem.W.mapOf_K (prog := X.prog) I3.kIn D.at_ D.lit
  refine Calls.spliced_nil (call_meetsIn PySem.F.slot_dict_get hm.typeIs PySem.F.entry_dict_get (PySem.F.args_dict_get_3 _ _ _) (meets_dict_get_default (strKind X.prog X.w) d (PySem.strKind_is X.prog X.w z t) D.low (.int j t3)) ⟨_, hm, ?_⟩)
  rcases hg z with ⟨i, ti, e1, e2⟩ | ⟨e1, e2⟩
  · rw [e1] at q3
    rw [PySem.W.find_K D.at_ e2]
    exact ⟨.int i, H3, I3.tok _, ⟨ti, rfl⟩, q3⟩
  · rw [e1] at q3
    rw [PySem.W.find_K D.at_ e2]
    exact ⟨.int j, H3, I3.tok _, ⟨t3, rfl⟩, q3⟩

/-! ### values of any kind that a law makes: data, and empty dicts -/
mutual
inductive Da (K : PySem.W.Frag) (H : Hp) : V → PyData → Prop
  | non : Da K H .non .none
  | bl (b : Bool) : Da K H (.bl b) (.bool b)
  | int (i : Int) : Da K H (.int i) (.int i)
  | str (x : Str) : Da K H (.str x) (.str x)
  | dct {a : Addr} : H a = some (.dK []) → Da K H (.ref a) (.dict [])
  | lst {a : Addr} {xs : List V} {ds : List PyData} : SqL K H a xs → Das K H xs ds → Da K H (.ref a) (.list ds)
  | tup {a : Addr} {xs : List V} {ds : List PyData} : SqT K H a xs → Das K H xs ds → Da K H (.ref a) (.tuple ds)
inductive Das (K : PySem.W.Frag) (H : Hp) : List V → List PyData → Prop
  | nil : Das K H [] []
  | cons {v : V} {vs : List V} {d : PyData} {ds : List PyData} : Da K H v d → Das K H vs ds → Das K H (v :: vs) (d :: ds)
end
section
variable {K : PySem.W.Frag} {H H' : Hp}
mutual
theorem da_of : ∀ (d : PyData) (v : V), Dp K H v d → Da K H v d
  | .none, _, h => by cases h; exact .non
  | .bool b, _, h => by cases h; exact .bl b
  | .int i, _, h => by cases h; exact .int i
  | .str z, _, h => by cases h; exact .str z
  | .list ds, _, h => by cases h with | lst a b => exact .lst a (das_of ds _ b)
  | .tuple ds, _, h => by cases h with | tup a b => exact .tup a (das_of ds _ b)
  | .dict _, _, h => by cases h
theorem das_of : ∀ (ds : List PyData) (vs : List V), DpAll K H vs ds → Das K H vs ds
  | [], _, h => by cases h; exact .nil
  | d :: ds, _, h => by cases h with | cons a b => exact .cons (da_of d _ a) (das_of ds _ b)
end
mutual
theorem da_mono (x : Ex H H') : ∀ (d : PyData) (v : V), Da K H v d → Da K H' v d
  | .none, _, h => by cases h; exact .non
  | .bool b, _, h => by cases h; exact .bl b
  | .int i, _, h => by cases h; exact .int i
  | .str z, _, h => by cases h; exact .str z
  | .list ds, _, h => by cases h with | lst a b => exact .lst (ex_l x a) (das_mono x ds _ b)
  | .tuple ds, _, h => by cases h with | tup a b => exact .tup (ex_t x a) (das_mono x ds _ b)
  | .dict _, _, h => by cases h with | dct a => exact .dct (x _ _ a)
theorem das_mono (x : Ex H H') : ∀ (ds : List PyData) (vs : List V), Das K H vs ds → Das K H' vs ds
  | [], _, h => by cases h; exact .nil
  | d :: ds, _, h => by cases h with | cons a b => exact .cons (da_mono x d _ a) (das_mono x ds _ b)
end
theorem Da.up {v : V} {d : PyData} (h : Da K H v d) (x : Ex H H') : Da K H' v d := da_mono x d v h
theorem Das.up {v : List V} {d : List PyData} (h : Das K H v d) (x : Ex H H') : Das K H' v d := das_mono x d v h
theorem Das.len : ∀ {xs : List V} {ds : List PyData}, Das K H xs ds → xs.length = ds.length
  | _, _, .nil => rfl
  | _, _, .cons _ t => by rw [List.length_cons, List.length_cons, Das.len t]
theorem Das.app : ∀ {xs ys : List V} {ds es : List PyData}, Das K H xs ds → Das K H ys es → Das K H (xs ++ ys) (ds ++ es)
  | _, _, _, _, .nil, h => h
  | _, _, _, _, .cons a t, h => .cons a (Das.app t h)
/-- the last one -/
theorem Das.last : ∀ {xs : List V} {ds : List PyData}, Das K H xs ds → ds ≠ [] → ∃ x d, xs[xs.length - 1]? = some x ∧ Da K H x d ∧ Das K H xs.dropLast ds.dropLast ∧ ds = ds.dropLast ++ [d]
  | _, _, .nil, h => absurd rfl h
  | _, _, .cons a .nil, _ => ⟨_, _, rfl, a, .nil, rfl⟩
  | _, _, .cons a (.cons b t), _ => by
    obtain ⟨x, d, e1, e2, e3, e4⟩ := Das.last (.cons b t) (by simp)
    refine ⟨x, d, ?_, e2, .cons a e3, ?_⟩
    · simpa using e1
    · rw [List.dropLast_cons₂]
      show _ = _ :: (_ ++ [d])
      rw [← e4]
/-- the name of its type -/
def tyN : PyData → String
  | .none => "NoneType" | .bool _ => "bool" | .int _ => "int" | .str _ => "str" | .list _ => "list" | .tuple _ => "tuple" | .dict _ => "dict"
theorem Da.ty {v : V} {d : PyData} (h : Da K H v d) : TyX K H v (.type (tyN d)) := by
  cases h with
  | non => exact .base .non
  | bl b => exact .base (.bl b)
  | int i => exact .base (.int i)
  | str x => exact .base (.str x)
  | dct a => exact .base (.dK a)
  | lst a _ => exact tyx_lst a
  | tup a _ => exact tyx_tup a
def tupB : PyData → Bool
  | .tuple _ => true
  | _ => false
def strB : PyData → Bool
  | .str _ => true
  | _ => false
theorem isTup (d : PyData) : kitB (tyN d) "tuple" = some (tupB d) := by
  cases d with
  | tuple ds => exact k_tt
  | none => exact k_nt
  | bool b => exact k_bt
  | int b => exact k_it
  | str b => exact k_st
  | list b => exact k_lt
  | dict b => exact k_dt
theorem isStr (d : PyData) : kitB (tyN d) "str" = some (strB d) := by
  cases d with
  | str z => exact k_ss
  | none => exact k_ns
  | bool b => exact k_bs
  | int b => exact k_is
  | tuple b => exact k_ts
  | list b => exact k_ls
  | dict b => exact k_ds
end

/-! ### which data are questions -/
def IsQ (d : PyData) : Prop := ∃ q : Qn, q.Ok ∧ q.d = d
def OneLetter (z : Str) : Prop := ∃ c, z = ⟨#[c]⟩ ∧ 97 ≤ c ∧ c ≤ 122
def HasForm : PyData → Prop
  | .tuple [.str w] => w = "any"
  | .tuple [.str w, _] => w = "not"
  | .tuple [.str w, _, _] => w = "both"
  | .tuple [.str w, _, .str z, _] => w = "some" ∧ OneLetter z
  | _ => False
def inner : PyData → List PyData
  | .tuple [_, a] => [a]
  | .tuple [_, a, b] => [a, b]
  | .tuple [_, a, _, b] => [a, b]
  | _ => []
theorem isQ_form {d : PyData} : IsQ d ↔ HasForm d ∧ ∀ x ∈ inner d, IsQ x := by
  constructor
  · rintro ⟨q, ok, rfl⟩
    cases q with
    | any => exact ⟨rfl, by simp [Qn.d, inner]⟩
    | no a => exact ⟨rfl, by simp only [Qn.d, inner, List.mem_singleton, forall_eq]; exact ⟨a, ok, rfl⟩⟩
    | both a b =>
      refine ⟨rfl, fun x hx => ?_⟩
      simp only [Qn.d, inner, List.mem_cons, List.not_mem_nil, or_false] at hx
      rcases hx with rfl | rfl
      · exact ⟨a, ok.1, rfl⟩
      · exact ⟨b, ok.2, rfl⟩
    | some a c b =>
      refine ⟨⟨rfl, c, rfl, ok.2.1⟩, fun x hx => ?_⟩
      simp only [Qn.d, inner, List.mem_cons, List.not_mem_nil, or_false] at hx
      rcases hx with rfl | rfl
      · exact ⟨a, ok.1, rfl⟩
      · exact ⟨b, ok.2.2, rfl⟩
  · rintro ⟨hf, hi⟩
    unfold HasForm at hf
    split at hf
    · subst hf; exact ⟨.any, trivial, rfl⟩
    · subst hf
      obtain ⟨a, ha, ea⟩ := hi _ (by simp only [inner]; exact List.mem_cons_self)
      exact ⟨.no a, ha, by rw [← ea]; rfl⟩
    · subst hf
      obtain ⟨a, ha, ea⟩ := hi _ (by simp only [inner]; exact List.mem_cons_self)
      obtain ⟨b, hb, eb⟩ := hi _ (by simp only [inner]; exact List.mem_cons_of_mem _ List.mem_cons_self)
      exact ⟨.both a b, ⟨ha, hb⟩, by rw [← ea, ← eb]; rfl⟩
    · obtain ⟨rfl, c, rfl, hc⟩ := hf
      obtain ⟨a, ha, ea⟩ := hi _ (by simp only [inner]; exact List.mem_cons_self)
      obtain ⟨b, hb, eb⟩ := hi _ (by simp only [inner]; exact List.mem_cons_of_mem _ List.mem_cons_self)
      exact ⟨.some a c b, ⟨ha, hc, hb⟩, by rw [← ea, ← eb]; rfl⟩
    · exact hf.elim
/-- how big -/
noncomputable def sizes (ds : List PyData) : Nat := (ds.map sizeOf).sum
theorem inner_lt (d : PyData) : sizes (inner d) < sizeOf d := by
  unfold inner
  split <;> simp [sizes] <;> first | omega | (cases d <;> simp <;> omega)
theorem form_tup {d : PyData} (h : HasForm d) : ∃ z ds, d = .tuple (.str z :: ds) := by
  unfold HasForm at h
  split at h <;> first | exact ⟨_, _, rfl⟩ | exact h.elim

/-! ### texts within are short -/
mutual
def sm : PyData → Bool
  | .str z => decide (z.length ≤ 1000)
  | .list ds => sms ds
  | .tuple ds => sms ds
  | _ => true
def sms : List PyData → Bool
  | [] => true
  | d :: ds => sm d && sms ds
end
theorem sms_mem : ∀ {ds : List PyData}, sms ds = true → ∀ d ∈ ds, sm d = true
  | _ :: _, h, _, hd => by
    rw [sms, Bool.and_eq_true] at h
    rcases List.mem_cons.mp hd with rfl | hd
    · exact h.1
    · exact sms_mem h.2 _ hd
theorem sm_inner {d : PyData} (h : sm d = true) : ∀ x ∈ inner d, sm x = true := by
  intro x hx
  unfold inner at hx
  split at hx
  all_goals first
    | exact absurd hx (List.not_mem_nil)
    | (rw [sm] at h
       refine sms_mem h x ?_
       simp only [List.mem_cons, List.not_mem_nil, or_false] at hx ⊢
       first
        | exact .inr hx
        | (rcases hx with rfl | rfl
           · exact .inr (.inl rfl)
           · exact .inr (.inr (.inr rfl)))
        | (rcases hx with rfl | rfl
           · exact .inr (.inl rfl)
           · exact .inr (.inr rfl)))
theorem sm_q : ∀ q : Qn, sm q.d = true
  | .any => rfl
  | .no q => by simp only [Qn.d, sm, sms, sm_q q]; rfl
  | .both a b => by simp only [Qn.d, sm, sms, sm_q a, sm_q b]; rfl
  | .some a c b => by simp only [Qn.d, sm, sms, sm_q a, sm_q b]; rfl

/-! ### what the program's own defs promise -/
def sp_is_letter : Sp := fun vs H Q _ => ∃ c : Nat, vs = [.str ⟨#[c]⟩] ∧ Q (.bl (decide (97 ≤ c ∧ c ≤ 122))) H
def sp_is_one_letter (K : PySem.W.Frag) : Sp := fun vs H Q _ => ∃ (v : V) (d : PyData), vs = [v] ∧ Da K H v d ∧ sm d = true ∧ ∀ b : Bool, (b = true ↔ ∃ z, d = .str z ∧ OneLetter z) → Q (.bl b) H
def sp_has_form (K : PySem.W.Frag) : Sp := fun vs H Q _ => ∃ (v : V) (d : PyData), vs = [v] ∧ Da K H v d ∧ sm d = true ∧ ∀ b : Bool, (b = true ↔ HasForm d) → Q (.bl b) H
theorem one_cases (z : Str) (h : z.length = 1) : ∃ c, z = ⟨#[c]⟩ := by
  obtain ⟨⟨l⟩⟩ := z
  cases l with
  | nil => cases h
  | cons c t => cases t with
    | nil => exact ⟨c, rfl⟩
    | cons d t => simp [PySem.Str.length] at h
theorem at0 {α : Type} (x : α) (xs : List α) : atI (x :: xs) 0 = some x := atI_nat (j := 0) rfl
theorem at1 {α : Type} (x y : α) (xs : List α) : atI (x :: y :: xs) 1 = some y := atI_nat (j := 1) rfl
theorem at2 {α : Type} (x y z : α) (xs : List α) : atI (x :: y :: z :: xs) 2 = some z := atI_nat (j := 2) rfl
theorem at3 {α : Type} (x y z u : α) (xs : List α) : atI (x :: y :: z :: u :: xs) 3 = some u := atI_nat (j := 3) rfl
theorem look_cons {z k : Str} {n : Int} {l : List (Str × Int)} : List.lookup z ((k, n) :: l) = if z = k then some n else List.lookup z l := by
  by_cases e : z = k
  · rw [if_pos e, e]; simp [List.lookup]
  · rw [if_neg e]
    have : (z == k) = false := beq_eq_false_iff_ne.mpr e
    simp [List.lookup, this]
theorem sz_cases {z : Str} {n : Int} (h : (List.lookup z [(("any" : Str), (1 : Int)), (("not" : Str), 2), (("both" : Str), 3), (("some" : Str), 4)]).getD 0 = n) (hn : n ≠ 0) :
    (z = "any" ∧ n = 1) ∨ (z = "not" ∧ n = 2) ∨ (z = "both" ∧ n = 3) ∨ (z = "some" ∧ n = 4) := by
  rw [look_cons, look_cons, look_cons, look_cons] at h
  by_cases e1 : z = "any"
  · rw [if_pos e1] at h; exact .inl ⟨e1, h.symm⟩
  rw [if_neg e1] at h
  by_cases e2 : z = "not"
  · rw [if_pos e2] at h; exact .inr (.inl ⟨e2, h.symm⟩)
  rw [if_neg e2] at h
  by_cases e3 : z = "both"
  · rw [if_pos e3] at h; exact .inr (.inr (.inl ⟨e3, h.symm⟩))
  rw [if_neg e3] at h
  by_cases e4 : z = "some"
  · rw [if_pos e4] at h; exact .inr (.inr (.inr ⟨e4, h.symm⟩))
  rw [if_neg e4] at h
  exact absurd h.symm hn
theorem form_size {wd : Str} {ds : List PyData} (h : HasForm (.tuple (.str wd :: ds))) :
    (List.lookup wd [(("any" : Str), (1 : Int)), (("not" : Str), 2), (("both" : Str), 3), (("some" : Str), 4)]).getD 0 = ((ds.length + 1 : Nat) : Int) := by
  unfold HasForm at h
  split at h
  · rename_i e; cases e; subst h; exact (by decide +kernel : (List.lookup ("any" : Str) [(("any" : Str), (1 : Int)), (("not" : Str), 2), (("both" : Str), 3), (("some" : Str), 4)]).getD 0 = (1 : Int))
  · rename_i e; cases e; subst h; exact (by decide +kernel : (List.lookup ("not" : Str) [(("any" : Str), (1 : Int)), (("not" : Str), 2), (("both" : Str), 3), (("some" : Str), 4)]).getD 0 = (2 : Int))
  · rename_i e; cases e; subst h; exact (by decide +kernel : (List.lookup ("both" : Str) [(("any" : Str), (1 : Int)), (("not" : Str), 2), (("both" : Str), 3), (("some" : Str), 4)]).getD 0 = (3 : Int))
  · rename_i e; cases e; rw [h.1]; exact (by decide +kernel : (List.lookup ("some" : Str) [(("any" : Str), (1 : Int)), (("not" : Str), 2), (("both" : Str), 3), (("some" : Str), 4)]).getD 0 = (4 : Int))
  · exact h.elim
end M
end

section
set_option Elab.async false
set_option linter.all false
set_option maxRecDepth 100000
/-! stacks of data, questions walked part by part -/
namespace M
open PySem L2 Evl
open PyProof.Rows hiding St

/-! ### how many nodes -/
mutual
def nds : PyData → Nat
  | .list ds => ndss ds + 1
  | .tuple ds => ndss ds + 1
  | _ => 1
def ndss : List PyData → Nat
  | [] => 0
  | d :: ds => nds d + ndss ds
end
theorem nds_pos (d : PyData) : 1 ≤ nds d := by cases d <;> simp [nds]
theorem ndss_app : ∀ a b : List PyData, ndss (a ++ b) = ndss a + ndss b
  | [], b => by simp [ndss]
  | d :: a, b => by simp [ndss, ndss_app a b]; omega
theorem ndss_len : ∀ a : List PyData, a.length ≤ ndss a
  | [] => Nat.le_refl _
  | d :: a => by have := ndss_len a; have := nds_pos d; simp [ndss]; omega
theorem inner_nds (d : PyData) : ndss (inner d) < nds d := by
  unfold inner
  split <;> simp [nds, ndss] <;> first | omega | (cases d <;> simp [nds])
theorem sms_app : ∀ {a b : List PyData}, sms a = true → sms b = true → sms (a ++ b) = true
  | [], _, _, h => h
  | d :: a, b, h, h2 => by
    rw [sms, Bool.and_eq_true] at h
    show (sm d && sms (a ++ b)) = true
    rw [h.1, sms_app h.2 h2]; rfl
theorem sms_of : ∀ {a : List PyData}, (∀ d ∈ a, sm d = true) → sms a = true
  | [], _ => rfl
  | d :: a, h => by
    show (sm d && sms a) = true
    rw [h d List.mem_cons_self, sms_of fun x hx => h x (List.mem_cons_of_mem _ hx)]; rfl
theorem Das.ne {K : PySem.W.Frag} {H : Hp} {xs : List V} {ds : List PyData} (h : Das K H xs ds) : xs.isEmpty = ds.isEmpty := by cases h <;> rfl

def sp_inner (K : PySem.W.Frag) : Sp := fun vs H Q _ => ∃ (H0 : Hp) (v : V) (d : PyData), vs = [v] ∧ Ex H0 H ∧ Da K H0 v d ∧ HasForm d ∧
  ∀ (l : Addr) (xs : List V) (H' : Hp), Ex H H' → H l = none → H' l = some (.lst xs) → Das K H0 xs (inner d) → Q (.ref l) H'
def sp_is_question (K : PySem.W.Frag) : Sp := fun vs H Q _ => ∃ (H0 : Hp) (v : V) (d : PyData), vs = [v] ∧ Ex H0 H ∧ Da K H0 v d ∧ sm d = true ∧ nds d ≤ 10000 ∧
  ∀ (b : Bool) (H' : Hp), Ex H H' → (b = true ↔ IsQ d) → Q (.bl b) H'
theorem cut1_not (x : V) (xs : List V) : ¬ (HT.sIx (x :: xs).length 0 (some 1) = 0 ∧ HT.sIx (x :: xs).length (x :: xs).length none = (x :: xs).length) := by
  rintro ⟨h, _⟩
  simp [HT.sIx] at h
  try omega
theorem cut1 (x : V) (xs : List V) : cutV (x :: xs) (some 1) none = xs := by
  have e1 : HT.sIx (x :: xs).length 0 (some 1) = 1 := by
    simp [HT.sIx]
    try omega
  have e2 : HT.sIx (x :: xs).length (x :: xs).length none = (x :: xs).length := rfl
  unfold cutV
  rw [e1, e2]
  simp
section
variable {K : PySem.W.Frag} {H : Hp} {v : V} {xs : List V}
theorem da_str {z : Str} (h : Da K H v (.str z)) : v = .str z := by cases h; rfl
theorem da_tup {ds : List PyData} (h : Da K H v (.tuple ds)) : ∃ a xs, v = .ref a ∧ SqT K H a xs ∧ Das K H xs ds := by cases h with | tup a b => exact ⟨_, _, rfl, a, b⟩
theorem das0 (h : Das K H xs []) : xs = [] := by cases h; rfl
theorem dasc {a : PyData} {ds : List PyData} (h : Das K H xs (a :: ds)) : ∃ x ys, xs = x :: ys ∧ Da K H x a ∧ Das K H ys ds := by cases h with | cons a b => exact ⟨_, _, rfl, a, b⟩
theorem das1 {a : PyData} (h : Das K H xs [a]) : ∃ x, xs = [x] ∧ Da K H x a := by
  obtain ⟨x, ys, rfl, h1, h2⟩ := dasc h
  exact ⟨x, by rw [das0 h2], h1⟩
theorem das2 {a b : PyData} (h : Das K H xs [a, b]) : ∃ x y, xs = [x, y] ∧ Da K H x a ∧ Da K H y b := by
  obtain ⟨x, ys, rfl, h1, h2⟩ := dasc h
  obtain ⟨y, rfl, h3⟩ := das1 h2
  exact ⟨x, y, rfl, h1, h3⟩
theorem das3 {a b c : PyData} (h : Das K H xs [a, b, c]) : ∃ x y z, xs = [x, y, z] ∧ Da K H x a ∧ Da K H y b ∧ Da K H z c := by
  obtain ⟨x, ys, rfl, h1, h2⟩ := dasc h
  obtain ⟨y, z, rfl, h3⟩ := das2 h2
  exact ⟨x, y, z, rfl, h1, h3⟩
theorem das4 {a b c d : PyData} (h : Das K H xs [a, b, c, d]) : ∃ x y z u, xs = [x, y, z, u] ∧ Da K H x a ∧ Da K H y b ∧ Da K H z c ∧ Da K H u d := by
  obtain ⟨x, ys, rfl, h1, h2⟩ := dasc h
  obtain ⟨y, z, u, rfl, h3⟩ := das3 h2
  exact ⟨x, y, z, u, rfl, h1, h3⟩
/-- the shapes of what has form -/
theorem form_cases {d : PyData} (hd : Da K H v d) (hf : HasForm d) : ∃ a xs, v = .ref a ∧ SqT K H a xs ∧
    ((xs = [.str "any"] ∧ inner d = []) ∨ (∃ x r, xs = [.str "not", x] ∧ Da K H x r ∧ inner d = [r]) ∨ (∃ x y r t, xs = [.str "both", x, y] ∧ Da K H x r ∧ Da K H y t ∧ inner d = [r, t]) ∨
     (∃ x y r t c, xs = [.str "some", x, .str ⟨#[c]⟩, y] ∧ Da K H x r ∧ Da K H y t ∧ inner d = [r, t] ∧ 97 ≤ c ∧ c ≤ 122)) := by
  unfold HasForm at hf
  split at hf
  · obtain ⟨a, xs, rfl, hs, hx⟩ := da_tup hd
    obtain ⟨x, rfl, h⟩ := das1 hx
    rw [da_str h, hf] at hs
    exact ⟨a, _, rfl, hs, .inl ⟨rfl, rfl⟩⟩
  · obtain ⟨a, xs, rfl, hs, hx⟩ := da_tup hd
    obtain ⟨x, y, rfl, h, h2⟩ := das2 hx
    rw [da_str h, hf] at hs
    exact ⟨a, _, rfl, hs, .inr (.inl ⟨y, _, rfl, h2, rfl⟩)⟩
  · obtain ⟨a, xs, rfl, hs, hx⟩ := da_tup hd
    obtain ⟨x, y, z, rfl, h, h2, h3⟩ := das3 hx
    rw [da_str h, hf] at hs
    exact ⟨a, _, rfl, hs, .inr (.inr (.inl ⟨y, z, _, _, rfl, h2, h3, rfl⟩))⟩
  · obtain ⟨a, xs, rfl, hs, hx⟩ := da_tup hd
    obtain ⟨x, y, z, u, rfl, h, h2, h3, h4⟩ := das4 hx
    obtain ⟨e1, c, e2, hc⟩ := hf
    rw [da_str h, da_str h3, e1, e2] at hs
    exact ⟨a, _, rfl, hs, .inr (.inr (.inr ⟨y, u, _, _, c, rfl, h2, h4, rfl, hc⟩))⟩
  · exact hf.elim
end

def sp_check_question (K : PySem.W.Frag) : Sp := fun vs H Q _ => ∃ (H0 : Hp) (v : V) (q : Qn), vs = [v] ∧ Ex H0 H ∧ Dp K H0 v q.d ∧ q.Ok ∧ q.parts ≤ 1000 ∧ ∀ H' : Hp, Ex H H' → Q .non H'
theorem nds_q : ∀ q : Qn, nds q.d ≤ 4 * q.parts
  | .any => by simp [Qn.d, nds, ndss, Qn.parts]
  | .no q => by have := nds_q q; simp [Qn.d, nds, ndss, Qn.parts]; omega
  | .both a b => by have := nds_q a; have := nds_q b; simp [Qn.d, nds, ndss, Qn.parts]; omega
  | .some a c b => by have := nds_q a; have := nds_q b; simp [Qn.d, nds, ndss, Qn.parts]; omega
/-- its parts, itself first, each ahead of those within it -/
def Qn.all : Qn → List Qn
  | .any => [.any]
  | .no q => .no q :: q.all
  | .both a b => .both a b :: (a.all ++ b.all)
  | .some a c b => .some a c b :: (a.all ++ b.all)
def Qn.kids : Qn → List Qn
  | .any => []
  | .no q => [q]
  | .both a b => [a, b]
  | .some a _ b => [a, b]
theorem Qn.all_kids (q : Qn) : q.all = q :: q.kids.flatMap Qn.all := by cases q <;> simp [Qn.all, Qn.kids]
theorem Qn.all_len : ∀ q : Qn, q.all.length = q.parts
  | .any => rfl
  | .no q => by simp [Qn.all, Qn.parts, Qn.all_len q]
  | .both a b => by simp [Qn.all, Qn.parts, Qn.all_len a, Qn.all_len b]
  | .some a c b => by simp [Qn.all, Qn.parts, Qn.all_len a, Qn.all_len b]
theorem Qn.form : ∀ q : Qn, q.Ok → HasForm q.d
  | .any, _ => rfl
  | .no _, _ => rfl
  | .both _ _, _ => rfl
  | .some _ c _, h => ⟨rfl, c, rfl, h.2.1⟩
theorem Qn.inner (q : Qn) : M.inner q.d = q.kids.map Qn.d := by cases q <;> rfl
theorem Qn.kids_ok {q : Qn} (h : q.Ok) : ∀ r ∈ q.kids, r.Ok := by
  cases q with
  | any => intro r hr; cases hr
  | no a => intro r hr; simp [Qn.kids] at hr; subst hr; exact h
  | both a b => intro r hr; simp [Qn.kids] at hr; rcases hr with rfl | rfl; exact h.1; exact h.2
  | some a c b => intro r hr; simp [Qn.kids] at hr; rcases hr with rfl | rfl; exact h.1; exact h.2.2
/-- values that are the questions qs -/
def Qs (K : PySem.W.Frag) (H : Hp) (xs : List V) (qs : List Qn) : Prop := Das K H xs (qs.map Qn.d)
theorem Qs.last {K : PySem.W.Frag} {H : Hp} {xs : List V} {qs : List Qn} {q : Qn} (h : Qs K H xs (qs ++ [q])) : ∃ x, xs[xs.length - 1]? = some x ∧ Da K H x q.d ∧ Qs K H xs.dropLast qs := by
  obtain ⟨x, d, e1, e2, e3, e4⟩ := Das.last h (by simp)
  rw [List.map_append, List.map_singleton] at e4 e3
  rw [List.dropLast_concat] at e4 e3
  have e5 := List.append_cancel_left e4
  cases e5
  exact ⟨x, e1, e2, e3⟩
theorem Qs.app {K : PySem.W.Frag} {H : Hp} {xs ys : List V} {qs rs : List Qn} (h : Qs K H xs qs) (h2 : Qs K H ys rs) : Qs K H (xs ++ ys) (qs ++ rs) := by
  show Das _ _ _ (List.map _ _)
  rw [List.map_append]
  exact Das.app h h2
theorem Qs.len {K : PySem.W.Frag} {H : Hp} {xs : List V} {qs : List Qn} (h : Qs K H xs qs) : xs.length = qs.length := by
  have := Das.len h
  rw [List.length_map] at this
  exact this
theorem Das.rev {K : PySem.W.Frag} {H : Hp} : ∀ {xs : List V} {ds : List PyData}, Das K H xs ds → Das K H xs.reverse ds.reverse
  | _, _, .nil => .nil
  | _, _, .cons a t => by
    rw [List.reverse_cons, List.reverse_cons]
    exact Das.app (Das.rev t) (.cons a .nil)
theorem Qs.rev {K : PySem.W.Frag} {H : Hp} {xs : List V} {qs : List Qn} (h : Qs K H xs qs) : Qs K H xs.reverse qs.reverse := by
  show Das _ _ _ (List.map _ _)
  rw [List.map_reverse]
  exact Das.rev h
/-- how many parts of all -/
def ptss (qs : List Qn) : Nat := (qs.map Qn.parts).sum
theorem ptss_app (a b : List Qn) : ptss (a ++ b) = ptss a + ptss b := by simp [ptss]
theorem ptss_rev (a : List Qn) : ptss a.reverse = ptss a := by
  induction a with
  | nil => rfl
  | cons q a ih => rw [List.reverse_cons, ptss_app, ih]; simp [ptss]; omega
theorem ptss_kids (q : Qn) : ptss q.kids + 1 = q.parts := by cases q <;> simp [ptss, Qn.kids, Qn.parts]
theorem ptss_len : ∀ a : List Qn, a.length ≤ ptss a
  | [] => Nat.le_refl _
  | q :: a => by have := ptss_len a; have := q.parts_pos; simp [ptss] at *; omega
def sp_parts_of (K : PySem.W.Frag) : Sp := fun vs H Q _ => ∃ (H0 : Hp) (v : V) (q : Qn), vs = [v] ∧ Ex H0 H ∧ Dp K H0 v q.d ∧ q.Ok ∧ q.parts ≤ 1000 ∧
  ∀ (l : Addr) (xs : List V) (H' : Hp), Ex H H' → H l = none → H' l = some (.lst xs) → Qs K H0 xs q.all → Q (.ref l) H'
theorem all_flat : ∀ l : List Qn, (l.flatMap Qn.all).length = ptss l
  | [] => rfl
  | q :: l => by simp [List.flatMap_cons, Qn.all_len, all_flat l, ptss]

/-! ### turned about -/
def Qn.turn : Qn → Qn
  | .any => .any
  | .no q => .no q.turn
  | .both a b => .both a.turn b.turn
  | .some a c b => .some b.turn c a.turn
theorem Qn.turn_turn : ∀ q : Qn, q.turn.turn = q
  | .any => rfl
  | .no q => by simp [Qn.turn, Qn.turn_turn q]
  | .both a b => by simp [Qn.turn, Qn.turn_turn a, Qn.turn_turn b]
  | .some a c b => by simp [Qn.turn, Qn.turn_turn a, Qn.turn_turn b]
theorem Qn.turn_ok : ∀ {q : Qn}, q.Ok → q.turn.Ok
  | .any, _ => trivial
  | .no q, h => Qn.turn_ok (q := q) h
  | .both _ _, h => ⟨Qn.turn_ok h.1, Qn.turn_ok h.2⟩
  | .some _ _ _, h => ⟨Qn.turn_ok h.2.2, h.2.1, Qn.turn_ok h.1⟩
theorem Qn.turn_parts : ∀ q : Qn, q.turn.parts = q.parts
  | .any => rfl
  | .no q => by simp [Qn.turn, Qn.parts, Qn.turn_parts q]
  | .both a b => by simp [Qn.turn, Qn.parts, Qn.turn_parts a, Qn.turn_parts b]
  | .some a c b => by simp [Qn.turn, Qn.parts, Qn.turn_parts a, Qn.turn_parts b]; omega
theorem Qn.turn_deep : ∀ q : Qn, q.turn.deep = q.deep
  | .any => rfl
  | .no q => by simp [Qn.turn, Qn.deep, Qn.turn_deep q]
  | .both a b => by simp [Qn.turn, Qn.deep, Qn.turn_deep a, Qn.turn_deep b]
  | .some a c b => by simp [Qn.turn, Qn.deep, Qn.turn_deep a, Qn.turn_deep b, Nat.max_comm]
theorem Qn.all_ok : ∀ {q : Qn}, q.Ok → ∀ r ∈ q.all, r.Ok
  | .any, h, r, hr => by simp [Qn.all] at hr; subst hr; exact h
  | .no q, h, r, hr => by
    simp [Qn.all] at hr
    rcases hr with rfl | hr
    · exact h
    · exact Qn.all_ok (q := q) h r hr
  | .both a b, h, r, hr => by
    simp [Qn.all] at hr
    rcases hr with rfl | hr | hr
    · exact h
    · exact Qn.all_ok h.1 r hr
    · exact Qn.all_ok h.2 r hr
  | .some a c b, h, r, hr => by
    simp [Qn.all] at hr
    rcases hr with rfl | hr | hr
    · exact h
    · exact Qn.all_ok h.1 r hr
    · exact Qn.all_ok h.2.2 r hr
/-- behind a part stand the parts of what lies within it -/
theorem flat_split : ∀ (n : Nat) (qs : List Qn), ptss qs ≤ n → ∀ pre r S, qs.flatMap Qn.all = pre ++ r :: S → ∃ S', S = r.kids.flatMap Qn.all ++ S' ∧ ∃ rest : List Qn, S' = rest.flatMap Qn.all
  | n, [], _, pre, r, S, h => by simp at h
  | 0, q :: qs, hn, pre, r, S, h => by have := q.parts_pos; simp [ptss] at hn; omega
  | n + 1, q :: qs, hn, pre, r, S, h => by
    rw [List.flatMap_cons, Qn.all_kids] at h
    have e : q :: (q.kids.flatMap Qn.all ++ qs.flatMap Qn.all) = q :: (q.kids ++ qs).flatMap Qn.all := by rw [List.flatMap_append]
    rw [List.cons_append, e] at h
    cases pre with
    | nil =>
      rw [List.nil_append] at h
      injection h with h1 h2
      subst h1
      exact ⟨qs.flatMap Qn.all, by rw [← h2, List.flatMap_append], qs, rfl⟩
    | cons p pre =>
      rw [List.cons_append] at h
      injection h with h1 h2
      refine flat_split n (q.kids ++ qs) ?_ pre r S h2
      have k := ptss_kids q
      rw [ptss_app]
      have : ptss (q :: qs) = q.parts + ptss qs := by simp [ptss]
      omega
theorem flat_inj : ∀ (a b c : List Qn) (S : List Qn), a.flatMap Qn.all = b.flatMap Qn.all ++ c.flatMap Qn.all → ∃ rest, a = b ++ rest ∧ rest.flatMap Qn.all = c.flatMap Qn.all
  | a, [], c, S, h => ⟨a, rfl, by simpa using h⟩
  | [], q :: b, c, S, h => by
    rw [List.flatMap_cons, Qn.all_kids] at h
    simp at h
  | p :: a, q :: b, c, S, h => by
    rw [List.flatMap_cons, List.flatMap_cons, List.append_assoc] at h
    have e : p = q := by
      rw [Qn.all_kids p, Qn.all_kids q] at h
      injection h
    subst e
    obtain ⟨rest, e1, e2⟩ := flat_inj a b c S (List.append_cancel_left h)
    exact ⟨rest, by rw [e1]; rfl, e2⟩
def sp_turned_part (K : PySem.W.Frag) : Sp := fun vs H Q _ => ∃ (H0 : Hp) (v : V) (r : Qn) (l : Addr) (xs : List V) (rest : List Qn), vs = [v, .ref l] ∧ Ex H0 H ∧ H0 l = none ∧ Da K H0 v r.d ∧ r.Ok ∧ H l = some (.lst xs) ∧
  Qs K H0 xs (rest ++ (r.kids.map Qn.turn).reverse) ∧
  ∀ (v' : V) (ys : List V) (H1 H' : Hp), Ex H0 H1 → Ex H1 H' → H1 l = none → Da K H1 v' r.turn.d → H' l = some (.lst ys) → Qs K H1 ys rest → (∀ b o, b ≠ l → H b = some o → H' b = some o) → Q v' H'
def sp_turned_question (K : PySem.W.Frag) : Sp := fun vs H Q _ => ∃ (H0 : Hp) (v : V) (q : Qn), vs = [v] ∧ Ex H0 H ∧ Dp K H0 v q.d ∧ q.Ok ∧ q.parts ≤ 1000 ∧
  ∀ (v' : V) (H1 H' : Hp), Ex H0 H1 → Ex H1 H' → Ex H H' → Da K H1 v' q.turn.d → Q v' H'
section
variable {K : PySem.W.Frag} {H : Hp} {v : V}
theorem da_any (h : Da K H v Qn.any.d) : ∃ a, v = .ref a ∧ SqT K H a [.str "any"] := by
  obtain ⟨a, xs, e, hs, hx⟩ := da_tup h
  obtain ⟨x, rfl, h1⟩ := das1 hx
  rw [da_str h1] at hs
  exact ⟨a, e, hs⟩
theorem da_no {r : Qn} (h : Da K H v (Qn.no r).d) : ∃ a x, v = .ref a ∧ SqT K H a [.str "not", x] ∧ Da K H x r.d := by
  obtain ⟨a, xs, e, hs, hx⟩ := da_tup h
  obtain ⟨x, y, rfl, h1, h2⟩ := das2 hx
  rw [da_str h1] at hs
  exact ⟨a, y, e, hs, h2⟩
theorem da_both {r t : Qn} (h : Da K H v (Qn.both r t).d) : ∃ a x y, v = .ref a ∧ SqT K H a [.str "both", x, y] ∧ Da K H x r.d ∧ Da K H y t.d := by
  obtain ⟨a, xs, e, hs, hx⟩ := da_tup h
  obtain ⟨x, y, z, rfl, h1, h2, h3⟩ := das3 hx
  rw [da_str h1] at hs
  exact ⟨a, y, z, e, hs, h2, h3⟩
theorem da_some {r t : Qn} {c : Nat} (h : Da K H v (Qn.some r c t).d) : ∃ a x y, v = .ref a ∧ SqT K H a [.str "some", x, .str ⟨#[c]⟩, y] ∧ Da K H x r.d ∧ Da K H y t.d := by
  obtain ⟨a, xs, e, hs, hx⟩ := da_tup h
  obtain ⟨x, y, z, u, rfl, h1, h2, h3, h4⟩ := das4 hx
  rw [da_str h1, da_str h3] at hs
  exact ⟨a, y, u, e, hs, h2, h4⟩
theorem mk_any {a : Addr} (h : H a = Option.some (.tup [.str "any"])) : Da K H (.ref a) Qn.any.d := .tup (st_of h) (.cons (.str _) .nil)
theorem mk_no {a : Addr} {x : V} {r : Qn} (h : H a = Option.some (.tup [.str "not", x])) (hx : Da K H x r.d) : Da K H (.ref a) (Qn.no r).d := .tup (st_of h) (.cons (.str _) (.cons hx .nil))
theorem mk_both {a : Addr} {x y : V} {r t : Qn} (h : H a = Option.some (.tup [.str "both", x, y])) (hx : Da K H x r.d) (hy : Da K H y t.d) : Da K H (.ref a) (Qn.both r t).d := .tup (st_of h) (.cons (.str _) (.cons hx (.cons hy .nil)))
theorem mk_some {a : Addr} {x y : V} {r t : Qn} {c : Nat} (h : H a = Option.some (.tup [.str "some", x, .str ⟨#[c]⟩, y])) (hx : Da K H x r.d) (hy : Da K H y t.d) : Da K H (.ref a) (Qn.some r c t).d := .tup (st_of h) (.cons (.str _) (.cons hx (.cons (.str _) (.cons hy .nil))))
end
theorem Das.at {K : PySem.W.Frag} {H : Hp} : ∀ {xs : List V} {ds : List PyData}, Das K H xs ds → ∀ {j : Nat} {x : V} (hj : j < ds.length), xs[j]? = some x → Da K H x ds[j]
  | _, _, .nil, j, x, hj, _ => absurd hj (Nat.not_lt_zero _)
  | _, _, .cons a _, 0, x, _, e => by
    simp only [List.getElem?_cons_zero, Option.some.injEq] at e
    subst e
    exact a
  | _, _, .cons _ t, j + 1, x, hj, e => Das.at t (Nat.lt_of_succ_lt_succ hj) e
theorem Qs.at {K : PySem.W.Frag} {H : Hp} {xs : List V} {qs : List Qn} {j : Nat} {x : V} (h : Qs K H xs qs) (hj : j < qs.length) (e : xs[j]? = some x) : Da K H x qs[j].d := by
  have := Das.at h (j := j) (by rw [List.length_map]; exact hj) e
  rw [List.getElem_map] at this
  exact this
theorem flat_one {ts : List Qn} {q : Qn} (h : q.all = ts.flatMap Qn.all) : ts = [q] := by
  obtain ⟨rest, e1, e2⟩ := flat_inj ts [q] [] [] (by rw [← h]; simp)
  cases rest with
  | nil => exact e1
  | cons r rest => rw [List.flatMap_cons, Qn.all_kids] at e2; cases e2
end M
end

section
set_option Elab.async false
set_option linter.all false
set_option maxRecDepth 100000
/-! depths and letters of questions, part by part -/
namespace M
open PySem L2 Evl
open PyProof.Rows hiding St
def Qn.word : Qn → Str
  | .any => "any"
  | .no _ => "not"
  | .both _ _ => "both"
  | .some _ _ _ => "some"
def Qn.up : Qn → Nat
  | .some _ _ _ => 1
  | _ => 0
theorem Qn.word_some {q : Qn} : (q.word = "some" → q.up = 1) ∧ (q.word ≠ "some" → q.up = 0) := by
  cases q <;> simp [Qn.word, Qn.up] <;> decide
theorem da_word {K : PySem.W.Frag} {H : Hp} {v : V} {q : Qn} (h : Da K H v q.d) : ∃ a ws, v = .ref a ∧ SqT K H a (.str q.word :: ws) := by
  cases q with
  | any => obtain ⟨a, e, s⟩ := da_any h; exact ⟨a, _, e, s⟩
  | no r => obtain ⟨a, x, e, s, _⟩ := da_no h; exact ⟨a, _, e, s⟩
  | both r t => obtain ⟨a, x, y, e, s, _⟩ := da_both h; exact ⟨a, _, e, s⟩
  | some r c t => obtain ⟨a, x, y, e, s, _⟩ := da_some h; exact ⟨a, _, e, s⟩
/-! a pile of (part, depth) -/
def pd (p : Qn × Nat) : PyData := .tuple [p.1.d, .int p.2]
def Ds (K : PySem.W.Frag) (H : Hp) (xs : List V) (ts : List (Qn × Nat)) : Prop := Das K H xs (ts.map pd)
def mx : List (Qn × Nat) → Nat
  | [] => 0
  | p :: ts => max (p.2 + p.1.deep) (mx ts)
theorem mx_app : ∀ a b : List (Qn × Nat), mx (a ++ b) = max (mx a) (mx b)
  | [], b => by simp [mx]
  | p :: a, b => by simp [mx, mx_app a b, Nat.max_assoc]
theorem mx_kids (r : Qn) (d : Nat) : max (d + r.up) (mx (r.kids.map fun k => (k, d + r.up))) = d + r.deep := by
  cases r <;> simp [Qn.kids, mx, Qn.up, Qn.deep] <;> omega
theorem Ds.last {K : PySem.W.Frag} {H : Hp} {xs : List V} {ts : List (Qn × Nat)} {r : Qn} {d : Nat} (h : Ds K H xs (ts ++ [(r, d)])) : ∃ a y, xs[xs.length - 1]? = some (.ref a) ∧ SqT K H a [y, .int d] ∧ Da K H y r.d ∧ Ds K H xs.dropLast ts := by
  obtain ⟨x, d', e1, e2, e3, e4⟩ := Das.last h (by simp)
  rw [List.map_append, List.map_singleton] at e4 e3
  rw [List.dropLast_concat] at e4 e3
  have e5 := List.append_cancel_left e4
  cases e5
  obtain ⟨a, ys, rfl, hs, hy⟩ := da_tup e2
  obtain ⟨y, z, rfl, h1, h2⟩ := das2 hy
  cases h2
  exact ⟨a, y, e1, hs, h1, e3⟩
theorem Ds.app1 {K : PySem.W.Frag} {H : Hp} {xs : List V} {ts : List (Qn × Nat)} {r : Qn} {d : Nat} {a : Addr} {y : V} (h : Ds K H xs ts) (ha : H a = some (.tup [y, .int d])) (hy : Da K H y r.d) : Ds K H (xs ++ [.ref a]) (ts ++ [(r, d)]) := by
  show Das _ _ _ (List.map _ _)
  rw [List.map_append]
  exact Das.app h (.cons (.tup (st_of ha) (.cons hy (.cons (.int _) .nil))) .nil)
theorem Ds.len {K : PySem.W.Frag} {H : Hp} {xs : List V} {ts : List (Qn × Nat)} (h : Ds K H xs ts) : xs.length = ts.length := by
  have := Das.len h
  rw [List.length_map] at this
  exact this
theorem Ds.up {K : PySem.W.Frag} {H H' : Hp} {xs : List V} {ts : List (Qn × Nat)} (h : Ds K H xs ts) (x : Ex H H') : Ds K H' xs ts := Das.up h x
/-- how many parts a pile has -/
def pts2 (ts : List (Qn × Nat)) : Nat := ptss (ts.map Prod.fst)
theorem pts2_app (a b : List (Qn × Nat)) : pts2 (a ++ b) = pts2 a + pts2 b := by simp [pts2, ptss_app]
theorem pts2_len (a : List (Qn × Nat)) : a.length ≤ pts2 a := by
  have := ptss_len (a.map Prod.fst)
  simpa [pts2] using this
theorem pts2_kids (r : Qn) (d : Nat) : pts2 (r.kids.map fun k => (k, d)) + 1 = r.parts := by
  have := ptss_kids r
  simpa [pts2, Function.comp_def] using this
def sp_depth_of (K : PySem.W.Frag) : Sp := fun vs H Q _ => ∃ (H0 : Hp) (v : V) (q : Qn), vs = [v] ∧ Ex H0 H ∧ Dp K H0 v q.d ∧ q.Ok ∧ q.parts ≤ 1000 ∧ ∀ H' : Hp, Ex H H' → Q (.int (q.deep : Nat)) H'
theorem Ex.both {A B : Hp} (x : Ex A B) (t : Addr) (o : HO) : Ex (upd A t o) (upd B t o) := by
  intro b u e
  by_cases z : b = t
  · subst z; rw [upd_same] at e ⊢; exact e
  · rw [upd_ne z] at e ⊢; exact x b u e
theorem st6 {a c x o : Option V} {i i' j j' : Int} (h1 : i = i') (h2 : j = j') : [a, some (.int i), c, x, some (.int j), o] = [a, some (.int i'), c, x, some (.int j'), o] := by rw [h1, h2]
theorem take_succ' {α : Type} {xs : List α} {i : Nat} (h : i < xs.length) : xs.take (i + 1) = xs.take i ++ [xs[i]] := by rw [List.take_append_getElem h]
end M
end

section
set_option Elab.async false
set_option linter.all false
set_option maxRecDepth 100000
set_option maxHeartbeats 2000000
/-! sets of any scanned keys whose table can be walked; sorted(set of texts) -/
namespace M
open PySem PySem.Spec PyProof.Rows L2
section
variable {κ : Type} [DecidableEq κ] {P : Program} {w : World}
/-- no two rows hold one key -/
def Apart (knd : PySem.KeyKind P w κ) (p q : Int × Value) : Prop := ∀ k, knd.is k p.2 = true → knd.is k q.2 = true → False
theorem Apart.turn {knd : PySem.KeyKind P w κ} {p q : Int × Value} (x : Apart knd p q) : Apart knd q p := fun k u v => x k v u
/-- the set at a: its members by kind, how many, its table in order -/
def OSet (knd : PySem.KeyKind P w κ) (h : Heap) (a : Addr) (S : κ → Bool) (n : Nat) : Prop :=
  ∃ (ob : Obj) (rows : Array (Int × Value)) (age : Nat) (tab : SetTable), h.get? a = some ob ∧ ob.ExactSet ∧ ob.data = .set rows age tab ∧ ElemsOf knd rows.toList ∧ rows.toList.Pairwise (Apart knd) ∧
    (∀ k, S k = true ↔ ∃ p ∈ rows.toList, knd.is k p.2 = true) ∧ rows.size < scanBound ∧ tab.fits rows.size = true ∧ rows.size = n ∧ Ris tab.place.toList ∧ (w.params.followText "set-order" = true ∨ tab.led = true)
variable {knd : PySem.KeyKind P w κ} {h h' : Heap} {a : Addr} {S : κ → Bool} {n : Nat}
theorem OSet.keep (R : OSet knd h a S n) (z : ∀ u, h.get? a = some u → h'.get? a = some u) : OSet knd h' a S n := by
  rcases R with ⟨ob, rows, age, tab, at_, rest⟩
  exact ⟨ob, rows, age, tab, z ob at_, rest⟩
theorem OSet.plain (R : OSet knd h a S n) : h.SetOf knd a S n := by
  rcases R with ⟨ob, rows, age, tab, at_, ex, dat, el, _, me, few, fit, cnt, _⟩
  exact ⟨ob, rows, age, tab, at_, ex, dat, el, me, few, fit, cnt⟩
theorem OSet.alike {S' : κ → Bool} {n' : Nat} (R : OSet knd h a S n) (x : ∀ k, S' k = S k) (y : n' = n) : OSet knd h a S' n' := by
  rw [y, funext x]; exact R
end
section
variable {κ : Type} [DecidableEq κ] {P : Program} {w : World} {knd : PySem.KeyKind P w κ} {A : Around} {E : Value → Shared → Prop} {s : Shared} {a : Addr} {S : κ → Bool} {n : Nat}
/-- what is left behind the new row: stored, relaid if too full -/
theorem oset_tail {g : Bool → Sem Unit} (hg : ∀ (b : Bool) (s1 : Shared) (Q1 : Unit → Shared → Prop), Q1 () s1 → wpAny (model P w) A (g b) Q1 E s1)
    {ob : Obj} {old : Array (Int × Value)} {age : Nat} {tab : SetTable} (at_ : s.heap.get? a = some ob) (ex : ob.ExactSet) (dat : ob.data = .set old age tab)
    {rows : Array (Int × Value)} {tab2 : SetTable} {S' : κ → Bool} (el : ElemsOf knd rows.toList) (ap : rows.toList.Pairwise (Apart knd)) (me : ∀ k, S' k = true ↔ ∃ p ∈ rows.toList, knd.is k p.2 = true)
    (few : rows.size < scanBound) (fit : tab2.fits rows.size = true) (ris : Ris tab2.place.toList) (led : w.params.followText "set-order" = true ∨ tab2.led = true) {dummy : Bool} {R : Option Bool → Shared → Prop}
    (hR : ∀ hp, Heap.SameBut a s.heap hp → OSet knd hp a S' rows.size → R (some true) { s with heap := hp }) :
    wpAny (model P w) A (do
        storeSet a rows tab2
        if (!dummy && tab2.tooFull) = true then do
            g (relayAll tab2 rows (SetTable.grown rows.size)).2.2
            storeSet a (relayAll tab2 rows (SetTable.grown rows.size)).1 (relayAll tab2 rows (SetTable.grown rows.size)).2.1
            pure (some true)
          else pure (some true)) R E s := by
  have same := Heap.SameBut.update s.heap a (Obj.putSet rows tab2)
  have now := store_at (es' := rows) (t' := tab2) at_ dat
  refine wpAny_bind (wpAny_storeSet_of at_ dat ?_ (fits_of_scanBound few))
  by_cases full : (!dummy && tab2.tooFull) = true
  · rw [if_pos full]
    have perm := relayAll_perm tab2 rows (SetTable.grown rows.size)
    have fit3 := relayAll_fits tab2 rows (SetTable.grown rows.size)
    have ris3 := relayAll_ris tab2 rows (SetTable.grown rows.size)
    have led3 := relayAll_led tab2 rows (SetTable.grown rows.size)
    generalize relayAll tab2 rows (SetTable.grown rows.size) = out at perm fit3 ris3 led3 ⊢
    rcases out with ⟨rows3, tab3, flag⟩
    dsimp only at perm fit3 ris3 led3 ⊢
    have cnt : rows3.size = rows.size := by
      have := perm.length_eq
      rwa [Array.length_toList, Array.length_toList] at this
    have few3 : rows3.size < scanBound := cnt ▸ few
    refine wpAny_bind (hg flag _ _ ?_)
    refine wpAny_bind (wpAny_storeSet_of now rfl ?_ (fits_of_scanBound few3))
    have last := store_at (es' := rows3) (t' := tab3) now rfl
    refine wpAny_pure (hR _ (same.trans (Heap.SameBut.update _ a _)) ⟨_, rows3, _, tab3, last, ex, rfl, ?_, ?_, ?_, few3, fit3, cnt, ris3, ?_⟩)
    · exact fun p hp => el p (perm.mem_iff.mp hp)
    · exact (perm.pairwise_iff fun x => Apart.turn x).mpr ap
    · intro k
      rw [me k]
      exact ⟨fun ⟨p, hp, z⟩ => ⟨p, perm.mem_iff.mpr hp, z⟩, fun ⟨p, hp, z⟩ => ⟨p, perm.mem_iff.mp hp, z⟩⟩
    · rw [led3]; exact led
  · rw [if_neg full]
    exact wpAny_pure (hR _ same ⟨_, rows, _, tab2, now, ex, rfl, el, ap, me, few, fit, rfl, ris, led⟩)
theorem oset_put {k : κ} {u : Value} {Q : Bool → Shared → Prop} (hk : knd.is k u = true) (sc : u.scannable = true) (R : OSet knd s.heap a S n) (room : n + 1 < scanBound)
    (fin : ∀ hp, Heap.SameBut a s.heap hp → OSet knd hp a (fun j => S j || decide (j = k)) (if S k = true then n else n + 1) → Q (!S k) { s with heap := hp }) :
    wpAny (model P w) A (setAddHashed a u (knd.hash k)) Q E s := by
  rcases R with ⟨ob, rows, age, tab, at_, ex, dat, el, ap, me, few, fit, cnt, ris, led⟩
  unfold setAddHashed setAddHashedIn
  refine wpAny_holding (wpAny_bind (wpAny_setState_of at_ dat fit ?_))
  dsimp only
  rw [byScan_of sc few el]
  simp only [↓reduceIte]
  unfold setAddByScan
  refine wpAny_bind ?_
  refine wpAny_bind (wpAny_rule ?_)
  refine wpAny_bind (wpAny_setScan_of hk at_ dat fit el ?_)
  cases found : List.findIdx? (fun e => knd.is k e.2) rows.toList with
  | some j =>
    obtain ⟨inside, here, _⟩ := List.findIdx?_eq_some_iff_getElem.mp found
    have yes : S k = true := (me k).mpr ⟨rows.toList[j], List.getElem_mem inside, here⟩
    dsimp only
    refine wpAny_pure (wpAny_pure ?_)
    have goal := fin s.heap (Heap.SameBut.refl a s.heap) ⟨ob, rows, age, tab, at_, ex, dat, el, ap, fun i => ?_, few, fit, by rw [if_pos yes]; exact cnt, ris, led⟩
    · rw [yes] at goal
      exact goal
    · rw [← me i, Bool.or_eq_true, decide_eq_true_eq]
      constructor
      · rintro (z | rfl)
        · exact z
        · exact yes
      · exact .inl
  | none =>
    have gone : ∀ p ∈ rows.toList, knd.is k p.2 = true → False := fun p hp z => by
      have c := List.findIdx?_eq_none_iff.mp found p hp
      rw [z] at c
      cases c
    have no : S k = false := by
      rw [Bool.eq_false_iff]
      intro z
      obtain ⟨p, hp, e⟩ := (me k).mp z
      exact gone p hp e
    dsimp only
    have perm := layNew_perm tab rows (knd.hash k) u
    have fit1 := layNew_fits tab rows (knd.hash k) u
    have ris1 := layNew_ris tab rows (knd.hash k) u ris
    have led1 := layNew_led tab rows (knd.hash k) u
    generalize layNew tab rows (knd.hash k) u = out at perm fit1 ris1 led1 ⊢
    rcases out with ⟨rows1, tab1, dummy, flag⟩
    dsimp only at perm fit1 ris1 led1 ⊢
    rw [Array.toList_push] at perm
    have pc : rows1.toList.Perm ((knd.hash k, u) :: rows.toList) := perm.trans (List.perm_append_singleton _ _)
    have el1 : ElemsOf knd rows1.toList := fun p hp => by
      rcases List.mem_cons.mp (pc.mem_iff.mp hp) with rfl | z
      · exact ⟨⟨k, hk, rfl⟩, sc⟩
      · exact el p z
    have ap1 : rows1.toList.Pairwise (Apart knd) := by
      refine (pc.pairwise_iff fun x => Apart.turn x).mpr (List.pairwise_cons.mpr ⟨fun q hq i z1 z2 => ?_, ap⟩)
      have e : i = k := knd.inj _ _ _ z1 hk
      subst e
      exact gone q hq z2
    have me1 : ∀ i, (S i || decide (i = k)) = true ↔ ∃ p ∈ rows1.toList, knd.is i p.2 = true := fun i => by
      rw [Bool.or_eq_true, decide_eq_true_eq, me i]
      constructor
      · rintro (⟨p, hp, z⟩ | rfl)
        · exact ⟨p, pc.mem_iff.mpr (List.mem_cons_of_mem _ hp), z⟩
        · exact ⟨_, pc.mem_iff.mpr List.mem_cons_self, hk⟩
      · rintro ⟨p, hp, z⟩
        rcases List.mem_cons.mp (pc.mem_iff.mp hp) with rfl | y
        · exact .inr (knd.inj _ _ _ z hk)
        · exact .inl ⟨p, y, z⟩
    have cnt1 : rows1.size = n + 1 := by
      have := pc.length_eq
      rw [Array.length_toList, List.length_cons, Array.length_toList, cnt] at this
      exact this
    have few1 : rows1.size < scanBound := cnt1 ▸ room
    have ledN : w.params.followText "set-order" = true ∨ tab1.led = true := by rw [led1]; exact led
    have done : ∀ hp, Heap.SameBut a s.heap hp → OSet knd hp a (fun j => S j || decide (j = k)) rows1.size → Q true { s with heap := hp } := fun hp sb r => by
      have q := fin hp sb
      rw [no] at q
      rw [cnt1] at r
      exact q r
    have skip : ∀ (b : Bool) (s1 : Shared) (Q1 : Unit → Shared → Prop), Q1 () s1 → wpAny (model P w) A (match b with | true => rule "set.scan.the-table-gave-way" | false => pure ()) Q1 E s1 := by
      intro b s1 Q1 q
      cases b
      · exact wpAny_pure q
      · exact wpAny_rule q
    refine wpAny_bind (skip _ _ _ ?_)
    split
    · refine wpAny_bind ?_
      rw [hashByValue_scannable 8 sc]
      refine wpAny_pure ?_
      refine oset_tail (fun b s1 Q1 q => ?_) at_ ex dat el1 ap1 me1 few1 ?_ ?_ ?_ ?_
      · cases b <;> first | exact wpAny_pure q | exact wpAny_rule q
      · first | exact fit1 | (split <;> first | exact fit1 | exact SetTable.fits_plain_off fit1)
      · first | exact ris1 | (split <;> exact ris1)
      · first | exact ledN | (split <;> exact ledN)
      · intro hp sb r
        exact wpAny_pure (done hp sb r)
    · refine wpAny_bind (wpAny_pure ?_)
      simp only [↓reduceIte]
      refine oset_tail (fun b s1 Q1 q => ?_) at_ ex dat el1 ap1 me1 few1 fit1 ris1 ledN ?_
      · cases b <;> first | exact wpAny_pure q | exact wpAny_rule q
      · intro hp sb r
        exact wpAny_pure (done hp sb r)
theorem oset_add {k : κ} {u : Value} {Q : Value → Shared → Prop} (hk : knd.is k u = true) (sc : u.scannable = true) (R : OSet knd s.heap a S n) (room : n + 1 < scanBound)
    (fin : ∀ hp, Heap.SameBut a s.heap hp → OSet knd hp a (fun j => S j || decide (j = k)) (if S k = true then n else n + 1) → Q .none { s with heap := hp, toks := s.toks + 1 }) :
    wpAny (model P w) A (call (.builtin "set.add") [.ref a, u]) Q E s := by
  refine wpAny_call_entry F.slot_set_add R.plain.typeIs F.entry_set_add ?_ (F.args_set_add_2 _ _)
  unfold Builtin.«set.add» Builtin.Frozenset.oneOther
  simp only [List.isEmpty_nil, bind_assoc]
  unfold Builtin.Frozenset.addrOf setAdd
  refine wpAny_bind (wpAny_pure ?_)
  refine wpAny_bind (wpAny_pure ?_)
  refine wpAny_bind (wpAny_holding (wpAny_bind (knd.pyHash hk ?_)))
  refine oset_put (s := { s with toks := s.toks + 1 }) hk sc R room fun hp sb r => ?_
  show wpAny _ _ (ret Value.none) _ _ _
  exact wpAny_pure ⟨_, rfl, fin hp sb r⟩
theorem oset_fresh {P : Program} {w : World} (knd : PySem.KeyKind P w κ) {h : Heap} {a : Addr} {led : Bool} (hl : w.params.followText "set-order" = true ∨ led = true)
    (at_ : h.get? a = some { cls := .type "set", dict := none, data := .set #[] 0 (.fresh 0 0 led) }) : OSet knd h a (fun _ => false) 0 := by
  refine ⟨_, #[], 0, _, at_, ⟨rfl, rfl, rfl⟩, rfl, fun p hp => ?_, .nil, fun k => ?_, by decide, rfl, rfl, .nil, hl⟩
  · cases hp
  · constructor
    · intro z; cases z
    · rintro ⟨p, hp, _⟩; cases hp
end
end M
end

section
set_option Elab.async false
set_option linter.all false
set_option maxRecDepth 100000
set_option maxHeartbeats 4000000
/-! set(list of keys), sorted(set of texts), as rules -/
namespace M
open PySem PySem.Spec PyProof.Rows L2
section
variable {κ : Type} [DecidableEq κ] {P : Program} {w : World} {knd : PySem.KeyKind P w κ} {A : Around} {E : Value → Shared → Prop} {s : Shared}
/-- the loop that puts the items of a list into a set -/
theorem oset_loop {it a : Addr} {fp wr : List Addr} {G : Array GenState → Array GenState → Prop} {m : Nat} {Pv : Nat → Value → Prop} {St : Nat → Shared → Prop} {R : Result → Shared → Prop}
    (W : WalksS P w A.in1 it fp wr G m Pv St) (na : a ∉ fp) (ks : List κ) (len : m = ks.length) (few : m < 1000) (val : ∀ i v, Pv i v → ∃ k, ks[i]? = some k ∧ knd.is k v = true ∧ v.scannable = true) :
    ∀ (left i : Nat) (s : Shared), m - i = left → i ≤ m → St i s → (∃ n, n ≤ i ∧ OSet knd s.heap a (fun k => decide (k ∈ ks.take i)) n) →
      (∀ s' n, Moved (a :: wr) G s s' → n ≤ m → OSet knd s'.heap a (fun k => decide (k ∈ ks)) n → R (.ok (.ret .none)) s') →
      codeAny (model P w) A (.builtin "set.update.loop" ⟨[.ref a, .ref it], []⟩) R s := by
  have nw : a ∉ wr := fun z => na (W.sub _ z)
  have more : ∀ b ∈ wr, b ∈ a :: wr := fun b z => List.mem_cons_of_mem _ z
  intro left
  induction left with
  | zero =>
    intro i s e le st ⟨n, ni, S0⟩ out
    obtain rfl : i = m := by omega
    refine codeAny_builtin PyProof.Rows.F.entry_set_update_loop (by
      rw [Around.under_plainId PyProof.Rows.F.plain_set_update_loop _]
      show wpAny _ A.in1 (pyNext (.ref it) >>= _) _ _ s
      refine wpAny_bind (W.done s _ _ st fun s' mv => ?_)
      show wpAny _ A.in1 (ret Value.none) _ _ s'
      refine wpAny_pure (out s' n (mv.mono more) ni ((S0.keep fun u z => mv.heap a u nw z).alike (fun k => ?_) rfl))
      rw [len, List.take_length])
  | succ left ih =>
    intro i s e le st ⟨n, ni, S0⟩ out
    have lt : i < m := by omega
    refine codeAny_builtin PyProof.Rows.F.entry_set_update_loop (by
      rw [Around.under_plainId PyProof.Rows.F.plain_set_update_loop _]
      show wpAny _ A.in1 (pyNext (.ref it) >>= _) _ _ s
      refine wpAny_bind (W.item i s _ _ lt st fun v s' pv st' mv => ?_)
      obtain ⟨k, hk, ki, ks2⟩ := val i v pv
      have S1 := S0.keep fun u z => mv.heap a u nw z
      show wpAny _ A.in1 (holding [v] (setAdd a v) >>= _) _ _ s'
      refine wpAny_bind (wpAny_holding ?_)
      unfold setAdd
      refine wpAny_holding (wpAny_bind (knd.pyHash ki ?_))
      refine oset_put (s := { s' with toks := s'.toks + 1 }) ki ks2 S1 (by unfold scanBound; omega) fun hp sb S2 => ?_
      have nx : ks.take (i + 1) = ks.take i ++ [k] := by rw [List.take_succ, hk]; rfl
      have S3 : ∃ n', n' ≤ i + 1 ∧ OSet knd hp a (fun j => decide (j ∈ ks.take (i + 1))) n' := ⟨_, (by split <;> omega), S2.alike (fun j => by
        rw [nx]
        simp only [List.mem_append, List.mem_singleton, Bool.decide_or]) rfl⟩
      refine wpAny_pure ⟨plainId_quiet PyProof.Rows.F.plain_set_update_loop _, ih (i + 1) _ (by omega) lt (W.frame _ s' _ _ st' (Nat.le_succ _) fun b hb u z => ?_) S3 fun s'' n'' mv2 le2 S4 => ?_⟩
      · rw [sb.2 b fun y : b = a => na (y ▸ hb)]; exact z
      · refine out s'' n'' (Moved.trans W.gtrans ((mv.mono more).then_heap (Nat.le_succ _) fun b u nb z => ?_) mv2) le2 S4
        rw [sb.2 b fun y : b = a => nb (y ▸ List.mem_cons_self)]; exact z)
/-- the set object that set() and set(xs) begin with -/
abbrev bareSet (w : World) : Obj := { cls := .type "set", dict := none, data := .set #[] 0 (.fresh 0 0 (!w.params.followText "set-order")) }
theorem led_bare (w : World) : w.params.followText "set-order" = true ∨ (!w.params.followText "set-order") = true := by cases w.params.followText "set-order" <;> simp
/-- set(xs), xs a list of keys -/
theorem call_oset {l : Addr} {items : Array Value} {ks : List κ} {Q : Value → Shared → Prop} (calm : A.handled = none) (hl : s.heap.IsList l items) (len : items.size = ks.length) (few : ks.length < 1000)
    (val : ∀ (i : Nat) (v : Value), items[i]? = some v → ∃ k, ks[i]? = some k ∧ knd.is k v = true ∧ v.scannable = true)
    (fin : ∀ (hp : Heap) (tk : Nat) (n : Nat), n ≤ ks.length → OSet knd hp s.heap.objs.size (fun k => decide (k ∈ ks)) n → (∀ b u, s.heap.get? b = some u → hp.get? b = some u) → Q (.ref s.heap.objs.size) { s with heap := hp, toks := tk }) :
    wpAny (model P w) A (call (.type "set") [.ref l]) Q E s := by
  have made := PySem.F.called_set.made
  have subs := PySem.F.called_set.sub
  obtain ⟨_, _, order⟩ := PySem.F.called_set.mro
  refine wpAny_call (codeAny_of_tree (by
    show wpAny _ _ (callAny (.type "set") _) _ _ _
    refine wpAny_pure ⟨Code.quiet_builtin _ (by decide +kernel), codeAny_builtin PySem.F.entry_type_call ?_⟩
    rw [Around.under_plain (weight_type_call_type "set" [.ref l] []) rfl]
    have t1 := PySem.F.called_set.notType
    have t2 := PySem.F.called_set.canCreate
    have t3 := PySem.F.typeCall_set_1 (.ref l)
    repeat (any_goals (first | assumption | wp_step))
    refine codeAny_mono (code_set_led1 (.ref l) (E := E) (Q₁ := fun x s1 => x = .ref s.heap.objs.size ∧ s1 = { s with heap := s.heap.push (bareSet w) }) ⟨rfl, rfl⟩) fun r s1 got => ?_
    cases r with
    | error e => exact got
    | ok fl =>
      cases fl with
      | ret x =>
        obtain ⟨rfl, rfl⟩ := got
        have seen : (s.heap.push (bareSet w)).get? s.heap.objs.size = some (bareSet w) := Heap.get?_push_size _ rfl
        have typ : Shared.TypeIs { s with heap := s.heap.push (bareSet w) } (.ref s.heap.objs.size) "set" := ⟨_, seen, rfl⟩
        have i1 := PySem.F.called_set.init.lookup
        have i2 := PySem.F.called_set.init.bind (.ref s.heap.objs.size)
        repeat (any_goals (first | assumption | wp_step))
        refine codeAny_mono (codeAny_call_builtin (R := wants (fun y s2 => y = .none ∧ ∃ hp tk n, s2 = { s with heap := hp, toks := tk } ∧ n ≤ ks.length ∧ OSet knd hp s.heap.objs.size (fun k => decide (k ∈ ks)) n ∧ ∀ b u, s.heap.get? b = some u → hp.get? b = some u) E)
          PySem.F.called_set.init.plain PySem.F.entry_set_init (check_set_init_1 typ ?_)) fun r2 s2 got2 => ?_
        · obtain ⟨ob, at_, cls, num, dat⟩ := hl
          obtain ⟨oc, od, ot, os⟩ := ob
          simp only at cls dat
          subst cls; subst dat
          have at1 : (s.heap.push (bareSet w)).get? l = some { cls := .type "list", dict := od, data := .seq items num, slots := os } := Heap.get?_push_of_some _ at_
          have u1 := PySem.F.sub_list_set
          have u2 := PySem.F.sub_list_frozenset
          have u3 : (Value.type "list" == Value.type "dict") = false := by decide
          have isl : (s.heap.push (bareSet w)).IsList l items := ⟨_, at1, rfl, num, rfl⟩
          unfold Builtin.«set.__init__» noKeywords Builtin.Frozenset.updateFrom
          generalize gen : pyIter = PI
          wp_walk
          subst gen
          refine wpAny_pyIter_list isl (wpAny_bind (wpAny_runValue ?_))
          have below : l < s.heap.objs.size := Heap.lt_size at_
          have calm3 : A.in1.in1.in1.handled = none := by simp [calm]
          have apart : l ≠ (s.heap.push (bareSet w)).objs.size := by rw [Heap.size_push]; exact Nat.ne_of_lt (Nat.lt_succ_of_lt below)
          have out : s.heap.objs.size ∉ [(s.heap.push (bareSet w)).objs.size, l] := by
            rw [Heap.size_push]
            intro z
            rcases List.mem_cons.mp z with z | z
            · exact Nat.ne_of_lt (Nat.lt_succ_self _) z
            · exact Nat.ne_of_gt below (List.mem_singleton.mp z)
          refine oset_loop (knd := knd) ((Walks.list calm3 _ l apart items).toS) out ks len (by omega) val (items.size - 0) 0 _ (by omega) (Nat.zero_le _)
            ⟨⟨_, Heap.get?_push_size _ rfl, rfl, rfl⟩, (isl.push _)⟩ ⟨0, Nat.le_refl _, (oset_fresh knd (led_bare w) (Heap.get?_push_of_some _ seen)).alike (fun k => by simp) rfl⟩ fun s3 n mv le S3 => ?_
          obtain ⟨hp, g3, d3, tk, os3⟩ := s3
          have g0 : g3 = s.gens := mv.gens
          have d0 : d3 = s.drawn := mv.drawn
          have o0 : os3 = s.os := mv.os
          subst g0; subst d0; subst o0
          show wpAny _ _ _ _ _ _
          refine wpAny_pure (by
            show wpAny _ _ (ret Value.none) _ _ _
            refine wpAny_pure ⟨rfl, hp, tk, n, rfl, by omega, S3, fun b u z => ?_⟩
            have lb := Heap.lt_size z
            refine mv.heap b u ?_ (Heap.get?_push_of_some _ (Heap.get?_push_of_some _ z))
            rw [Heap.size_push]
            intro y
            rcases List.mem_cons.mp y with y | y
            · exact Nat.ne_of_lt lb y
            · exact Nat.ne_of_lt (Nat.lt_succ_of_lt lb) (List.mem_singleton.mp y))
        · cases r2 with
          | error e => exact got2
          | ok fl2 =>
            cases fl2 with
            | ret y =>
              obtain ⟨rfl, hp, tk, n, rfl, le, S3, old⟩ := got2
              repeat (any_goals (first | assumption | wp_step))
              exact fin _ _ _ le S3 old
            | _ => exact got2.elim
      | _ => exact got.elim))
end
end M
end

section
set_option Elab.async false
set_option linter.all false
set_option maxRecDepth 100000
set_option maxHeartbeats 2000000
/-! sorted(set of texts); the rules -/
namespace M
open PySem PySem.Spec L2
open PyProof.Rows hiding St
theorem str_is {P : Program} {w : World} {k : Str} {v : Value} (h : (PySem.strKind P w).is k v = true) : (∃ t, v = .str k t) ∧ PyProof.Rows.strOf v = k ∧ v.scannable = true := by
  obtain ⟨t, rfl⟩ := Value.isStrOf_shape h
  exact ⟨⟨t, rfl⟩, rfl, rfl⟩
/-- the texts of a set of texts, in some order -/
theorem oset_texts {P : Program} {w : World} {h : Heap} {a : Addr} {S : Str → Bool} {n : Nat} (R : OSet (PySem.strKind P w) h a S n) :
    ∃ ob rows age tab, h.get? a = some ob ∧ ob.cls = .type "set" ∧ ob.data = .set rows age tab ∧ rows.size < scanBound ∧ tab.fits rows.size = true ∧ Ris tab.place.toList ∧ (w.params.followText "set-order" = true ∨ tab.led = true) ∧
      (∀ v ∈ rows.toList.map (·.2), ∃ x t, v = .str x t) ∧ ((rows.toList.map (·.2)).map PyProof.Rows.strOf).Nodup ∧ (∀ k, k ∈ (rows.toList.map (·.2)).map PyProof.Rows.strOf ↔ S k = true) ∧ rows.size = n := by
  rcases R with ⟨ob, rows, age, tab, at_, ex, dat, el, ap, me, few, fit, cnt, ris, led⟩
  refine ⟨ob, rows, age, tab, at_, ex.1, dat, few, fit, ris, led, fun v hv => ?_, ?_, fun k => ?_, cnt⟩
  · obtain ⟨p, hp, rfl⟩ := List.mem_map.mp hv
    obtain ⟨k, hk, _⟩ := (el p hp).1
    obtain ⟨⟨t, e⟩, _⟩ := str_is hk
    exact ⟨k, t, e⟩
  · rw [List.map_map]
    refine List.pairwise_map.mpr (List.Pairwise.imp_of_mem (fun {p q} hp hq x e => ?_) ap)
    obtain ⟨k, hk, _⟩ := (el p hp).1
    obtain ⟨j, hj, _⟩ := (el q hq).1
    have e1 : PyProof.Rows.strOf p.2 = PyProof.Rows.strOf q.2 := e
    rw [(str_is hk).2.1, (str_is hj).2.1] at e1
    subst e1
    exact x k hk hj
  · rw [me k, List.map_map]
    constructor
    · intro z
      obtain ⟨p, hp, e⟩ := List.mem_map.mp z
      obtain ⟨j, hj, _⟩ := (el p hp).1
      have e1 : PyProof.Rows.strOf p.2 = k := e
      rw [(str_is hj).2.1] at e1
      subst e1
      exact ⟨p, hp, hj⟩
    · rintro ⟨p, hp, z⟩
      exact List.mem_map.mpr ⟨p, hp, (str_is z).2.1⟩
theorem nodup_le {α : Type} [DecidableEq α] : ∀ (l L : List α), l.Nodup → (∀ x ∈ l, x ∈ L) → l.length ≤ L.length
  | [], _, _, _ => Nat.zero_le _
  | x :: l, L, d, s => by
    obtain ⟨d1, d2⟩ := List.nodup_cons.mp d
    have hx : x ∈ L := s x List.mem_cons_self
    have q := nodup_le l (L.erase x) d2 fun y hy => (List.mem_erase_of_ne fun z : y = x => d1 (by rw [← z]; exact hy)).mpr (s y (List.mem_cons_of_mem _ hy))
    rw [List.length_erase_of_mem hx] at q
    have := List.length_pos_of_mem hx
    rw [List.length_cons]
    omega
theorem oset_count {P : Program} {w : World} {h : Heap} {a : Addr} {S : Str → Bool} {n : Nat} (R : OSet (PySem.strKind P w) h a S n) {L : List Str} (z : ∀ k, S k = true → k ∈ L) : n ≤ L.length := by
  obtain ⟨ob, rows, age, tab, _, _, _, _, _, _, _, _, nd, me, cnt⟩ := oset_texts R
  have q := nodup_le _ L nd fun x hx => z x ((me x).mp hx)
  rw [List.length_map, List.length_map, Array.length_toList, cnt] at q
  exact q
section
variable {P : Program} {w : World} {A : Around} {E : Value → Shared → Prop} {s : Shared} {a : Addr} {S : Str → Bool} {n : Nat}
theorem oset_sorted {Q : Value → Shared → Prop} (R : OSet (PySem.strKind P w) s.heap a S n) (calm : A.handled = none) (few : n < 64)
    (fin : ∀ (s' : Shared) (p : Addr) (out : Array Value) (c : Nat) (ss : List Str), (∀ b u, s.heap.get? b = some u → s'.heap.get? b = some u) → s'.gens = s.gens → s'.os = s.os → s.heap.objs.size ≤ p →
      s'.heap.get? p = some (seqObj "list" out c) → StrsAre out.toList ss → sortedS ss = true → ss.Nodup → (∀ k, k ∈ ss ↔ S k = true) → ss.length = n → Q (.ref p) s') :
    wpAny (model P w) A (call (.builtin "sorted") [.ref a]) Q E s := by
  obtain ⟨ob, rows, age, tab, at_, cls, dat, small, fit, ris, led, txs, nd, me, cnt⟩ := oset_texts R
  refine Calls.call_function_entry kind_sorted plain_sorted entry_sorted (args_sorted1 _) (by
    unfold Builtin.«sorted»
    refine wpAny_bind (m := checkCount "sorted" 1 1 _) (wpAny_pure (wpAny_bind (collect_set (A := A.in1) calm ⟨ob, at_, cls, dat⟩ fit small ris led fun s1 vs old grown gens os perm => ?_)))
    have len : vs.length = n := by rw [perm.length_eq, List.length_map, Array.length_toList]; exact cnt
    have all : StrsAre vs (vs.map PyProof.Rows.strOf) := PyProof.Rows.strsAre_map vs fun v hv => txs v (perm.mem_iff.mp hv)
    have pk := perm.map PyProof.Rows.strOf
    refine wpAny_bind (wpAny_newList ?_ (by rw [len, sizeLine_eq]; omega))
    have new : (s1.heap.push (seqObj "list" vs.toArray 0)).get? s1.heap.objs.size = some (seqObj "list" vs.toArray 0) := Heap.get?_push_size _ rfl
    refine wpAny_bind (wpAny_holding (wpAny_call_entry slot_list_sort ⟨_, new, rfl⟩ entry_list_sort (list_sort_treeK strKind_oneLt new all.keysOf (fun v1 v2 rest e => keyKind_strs (e ▸ all)) (by rw [len]; exact few) fun st hp hs => ⟨_, rfl, ?_⟩) (args_list_sort _)))
    obtain ⟨ss, s3, s4, s5⟩ := sorted_out_str all hp hs
    obtain ⟨c, at2⟩ := sortedHeap_at (vs := vs) (out := (arrOf st).map (·.2)) new
    have pp := s4.trans pk
    refine wpAny_pure ⟨_, rfl, fin _ s1.heap.objs.size _ c ss (fun b u z => ?_) gens os grown at2 s3 s5 (pp.nodup_iff.mpr nd) (fun k => by rw [pp.mem_iff, me k]) ?_⟩
    · have z1 := old b u z
      have lt := Heap.lt_size z1
      exact (sortedHeap_old (h := s1.heap.push (seqObj "list" vs.toArray 0)) (Nat.ne_of_lt lt) (by rw [size_push']; exact Nat.lt_succ_of_lt lt)).trans (Heap.get?_push_of_some _ z1)
    · rw [pp.length_eq, List.length_map, List.length_map, Array.length_toList]; exact cnt)
end
/-- the set of texts at a -/
def OsO (P : Program) (w : World) (a : Addr) (S : Str → Bool) : HO := .ext fun h => ∃ n, OSet (PySem.strKind P w) h a S n
section
variable {X : Cx}
theorem osO_new {P : Program} {w : World} {H : Hp} {h : Heap} {a : Addr} {S : Str → Bool} {n : Nat} (R : OSet (PySem.strKind P w) h a S n) : ObjOk P w H h a (OsO P w a S) := by
  have ⟨ob, _, _, _, at_, _⟩ := R
  exact ⟨⟨n, R⟩, ⟨ob, at_⟩, fun h1 h2 ⟨m, p⟩ z => ⟨m, p.keep z⟩⟩
theorem osO_get {pins : List (Addr × Obj)} {σ : St} {H : Hp} {s : Shared} {a : Addr} {S : Str → Bool} (I : Inv X pins σ H s) (ha : H a = some (OsO X.prog X.w a S)) : ∃ n, OSet (PySem.strKind X.prog X.w) s.heap a S n := (I.hok a _ ha).1
/-- set() -/
def rOset0 (P : Program) (w : World) : List V → Hp → VK → Prop := fun xs H Q => xs = [] ∧ ∀ p, H p = none → Q (.ref p) (upd H p (OsO P w p fun _ => false))
theorem cr_oset0 : CallR X (.type "set") (rOset0 X.prog X.w) := by
  intro pins s σ H xs us Q I r ⟨e, q⟩
  subst e
  cases r
  refine setR_new fun _ => ⟨.ref _, upd H s.heap.objs.size (OsO X.prog X.w s.heap.objs.size fun _ => false), ?_, rfl, q _ (I.hok.fresh (Nat.le_refl _))⟩
  exact I.laid (t' := s.toks) (fun b u z => Heap.get?_push_of_some _ z) (Nat.le_refl _) (osO_new (oset_fresh (PySem.strKind X.prog X.w) (led_bare X.w) (Heap.get?_push_size _ rfl)))
/-- set(xs), xs a list of texts -/
def rOsetL (K : PySem.W.Frag) (P : Program) (w : World) : List V → Hp → VK → Prop := fun xs H Q => ∃ (l : Addr) (ks : List Str), xs = [V.ref l] ∧ SqL K H l (ks.map V.str) ∧ ks.length < 1000 ∧ ∀ p, H p = none → Q (.ref p) (upd H p (OsO P w p fun k => decide (k ∈ ks)))
theorem cr_osetL (hc : X.calm = true) : CallR X (.type "set") (rOsetL X.K X.prog X.w) := by
  intro pins s σ H xs us Q I r ⟨l, ks, e, hl, few, q⟩
  subst e
  rw [Vals.ref1 r]
  obtain ⟨its, rv, pl, hz⟩ := I.list hl
  have all := rv.strs
  have hlen : its.length = ks.length := by rw [← rv.length, List.length_map]
  refine call_oset (knd := PySem.strKind X.prog X.w) (ks := ks) (I.ok.hd hc) pl.isList (by rw [List.size_toArray]; exact hlen) few (fun i v hv => ?_) fun hp tk n le R old => ?_
  · rw [List.getElem?_toArray] at hv
    have hi : i < its.length := (List.getElem?_eq_some_iff.mp hv).1
    obtain ⟨t, e⟩ := SS.strs_at all i v hv
    have hk : ks[i]? = some ks[i] := List.getElem?_eq_getElem (by omega)
    refine ⟨_, hk, ?_⟩
    rw [List.getD_eq_getElem?_getD, hk] at e
    subst e
    exact ⟨strKind_is _ _ _ _, rfl⟩
  · exact ⟨.ref s.heap.objs.size, upd H s.heap.objs.size (OsO X.prog X.w s.heap.objs.size fun k => decide (k ∈ ks)), I.laid (t' := tk) old (Nat.le_refl _) (osO_new R), rfl, q _ (I.hok.fresh (Nat.le_refl _))⟩
/-- found.add(k) -/
def rOadd (P : Program) (w : World) : V → List V → Hp → VK → Prop := fun x xs H Q => ∃ (a : Addr) (k : Str) (S : Str → Bool) (L : List Str), x = V.ref a ∧ xs = [V.str k] ∧ H a = some (OsO P w a S) ∧ (∀ j, S j = true → j ∈ L) ∧ L.length < 1000 ∧
  Q .non (upd H a (OsO P w a fun j => S j || decide (j = k)))
theorem mt_oadd : MtR X "set.add" (rOadd X.prog X.w) := by
  intro pins s σ H x xs v us Q I rx rxs ⟨a, k, S, L, e1, e2, ha, sub, few, q⟩
  subst e1; subst e2
  cases rx
  cases rxs with
  | cons ry rt =>
    cases rt
    obtain ⟨t, rfl⟩ := ry
    obtain ⟨n, R⟩ := osO_get I ha
    have := oset_count R sub
    refine oset_add (strKind_is _ _ _ _) rfl R (by unfold scanBound; omega) fun hp sb R2 => ⟨.non, upd H a (OsO X.prog X.w a fun j => S j || decide (j = k)), ?_, rfl, q⟩
    have ⟨ob, _, _, _, at_, _⟩ := R2
    exact I.write (e := a) (t' := s.toks + 1) (by rw [ha]; trivial) (.inl rfl) (fun b u hb hu => (sb.2 b hb).trans hu) ⟨ob, at_⟩ (osO_new R2)
def tOadd (P : Program) (w : World) (to : TE) (t : TA) : TE := fun σ H Q => to σ H fun x H1 => (∃ a S, x = V.ref a ∧ H1 a = some (OsO P w a S)) ∧ t σ H1 fun xs H2 => rOadd P w x xs H2 Q
variable {o e : Expr} {es : List Expr} {to : TE} {t : TA} {apos cpos : Pos}
theorem pe_oadd (ho : PE X o to) (ha : PA X (e :: es) t) (b1 : attributeBase o "add" X.env (eval o X.env) = eval o X.env := by rfl)
    (b2 : ((backTo cpos (starEach (e :: es) X.env)).all (fun x => !x.1) && (backToKw cpos (keywordEach [] X.env)).all (fun x => x.1.isSome) && decide ((e :: es).length + ([] : List Keyword).length + (if ([] : List Keyword).isEmpty then 0 else 1) < 30)) = true := by rfl)
    (b3 : (apos.endLine == cpos.line) = true := by rfl) (b4 : starEach (e :: es) X.env = (false, eval e X.env) :: starEach es X.env := by rfl) (b5 : (backTo cpos (starEach es X.env)).any (·.1) = false := by rfl) :
    PE X (.Call (.Attribute o "add" apos) (e :: es) [] cpos) (tOadd X.prog X.w to t) := by
  refine ⟨fun pins s σ H Q I h => wpAny_Call_method_late b1 b2 b3 rfl (thn (ho.run pins s σ H _ I h) fun v s1 ⟨x, H1, I1, r1, ty, q1⟩ => ?_)⟩
  obtain ⟨a, S, rfl, hka⟩ := ty
  obtain ⟨n, R⟩ := osO_get I1 hka
  cases r1
  have sp := R.plain
  refine ⟨"set", "set.add", F.plainAttrs_set, F.slot_set_add, F.type_set_add, sp.typeIs, sp.noDict, ?_⟩
  have hA := ha.run cpos pins s1 σ H1 _ I1 q1
  rw [b4] at hA ⊢
  exact Calls.callWith_builtin (by show (false || (backTo cpos (starEach es X.env)).any (·.1)) = false; rw [b5] <;> rfl) (Calls.evalArgs_plain (thn hA fun us s2 ⟨vs, H2, I2, r2, q2⟩ => mt_oadd pins s2 σ H2 (.ref a) vs (.ref a) us Q I2 rfl r2 q2))
/-- sorted(found) -/
def rOsorted (P : Program) (w : World) : List V → Hp → VK → Prop := fun xs H Q => ∃ (a : Addr) (S : Str → Bool) (L : List Str), xs = [V.ref a] ∧ H a = some (OsO P w a S) ∧ (∀ j, S j = true → j ∈ L) ∧ L.length < 64 ∧
  ∀ (ss : List Str) (p : Addr), sortedS ss = true → ss.Nodup → (∀ k, k ∈ ss ↔ S k = true) → H p = none → Q (.ref p) (upd H p (.lst (ss.map V.str)))
theorem cr_osorted (hc : X.calm = true) : CallR X (.builtin "sorted") (rOsorted X.prog X.w) := by
  intro pins s σ H xs us Q I r ⟨a, S, L, e, ha, sub, few, q⟩
  subst e
  rw [Vals.ref1 r]
  obtain ⟨n, R⟩ := osO_get I ha
  have cn := oset_count R sub
  refine oset_sorted R (I.ok.hd hc) (by omega) fun s' p out c ss old gens os above at_ txs sor nd me len => ?_
  have fresh : H p = none := I.hok.fresh above
  have size : (ss.map V.str).length ≤ sizeLine := by rw [List.length_map, len, sizeLine_eq]; omega
  have J : Inv X pins σ (upd H p (.lst (ss.map V.str))) { s with heap := s'.heap, gens := s'.gens, drawn := s'.drawn, toks := s'.toks } :=
    I.call (ch := []) (Un.laid old above fresh) (I.hok.laid old above ⟨size, out.toList, c, vals_of_strs txs, at_⟩) (by rw [gens]; exact I.bare) fun _ z => nomatch z
  have same : s' = { s with heap := s'.heap, gens := s'.gens, drawn := s'.drawn, toks := s'.toks } := by cases s'; cases s; cases os; rfl
  rw [same]
  exact ⟨.ref p, _, J, rfl, q ss p sor nd me fresh⟩
end
end M
end

section
set_option Elab.async false
set_option linter.all false
set_option maxRecDepth 100000
/-! letters, depths and turned questions by the law's own words -/
namespace M
open PySem L2 Evl
open PyProof.Rows hiding St
/-- the letter of a part, as a text -/
def Qn.own : Qn → List Str
  | .some _ c _ => [⟨#[c]⟩]
  | _ => []
/-- all letters of a question, in the sequence of its parts -/
def Qn.lets : Qn → List Str
  | .any => []
  | .no q => q.lets
  | .both a b => a.lets ++ b.lets
  | .some a c b => ⟨#[c]⟩ :: (a.lets ++ b.lets)
theorem Qn.lets_all : ∀ q : Qn, q.all.flatMap Qn.own = q.lets
  | .any => rfl
  | .no q => by rw [Qn.all, List.flatMap_cons, Qn.lets_all q]; rfl
  | .both a b => by rw [Qn.all, List.flatMap_cons, List.flatMap_append, Qn.lets_all a, Qn.lets_all b]; rfl
  | .some a c b => by rw [Qn.all, List.flatMap_cons, List.flatMap_append, Qn.lets_all a, Qn.lets_all b]; rfl
theorem Qn.lets_parts : ∀ q : Qn, q.lets.length ≤ q.parts
  | .any => Nat.zero_le _
  | .no q => by have := q.lets_parts; simp [Qn.lets, Qn.parts]; omega
  | .both a b => by have := a.lets_parts; have := b.lets_parts; simp [Qn.lets, Qn.parts]; omega
  | .some a c b => by have := a.lets_parts; have := b.lets_parts; simp [Qn.lets, Qn.parts]; omega
theorem Qn.turn_lets : ∀ (q : Qn) (z : Str), z ∈ q.turn.lets ↔ z ∈ q.lets
  | .any, z => Iff.rfl
  | .no q, z => q.turn_lets z
  | .both a b, z => by simp [Qn.turn, Qn.lets, a.turn_lets z, b.turn_lets z]
  | .some a c b, z => by simp [Qn.turn, Qn.lets, a.turn_lets z, b.turn_lets z, or_comm]
/-- the letters from a to z -/
def abc : List Str := (List.range 26).map fun i => ⟨#[97 + i]⟩
theorem mem_abc {c : Nat} (h : 97 ≤ c ∧ c ≤ 122) : (⟨#[c]⟩ : Str) ∈ abc := List.mem_map.mpr ⟨c - 97, List.mem_range.mpr (by omega), by rw [show 97 + (c - 97) = c by omega]⟩
theorem Qn.lets_abc : ∀ {q : Qn}, q.Ok → ∀ z ∈ q.lets, z ∈ abc
  | .any, _, z, hz => by cases hz
  | .no q, h, z, hz => Qn.lets_abc (q := q) h z hz
  | .both a b, h, z, hz => by
    rcases List.mem_append.mp hz with y | y
    · exact Qn.lets_abc h.1 z y
    · exact Qn.lets_abc h.2 z y
  | .some a c b, h, z, hz => by
    rcases List.mem_cons.mp hz with y | y
    · rw [y]; exact mem_abc h.2.1
    · rcases List.mem_append.mp y with y | y
      · exact Qn.lets_abc h.1 z y
      · exact Qn.lets_abc h.2.2 z y
/-- the sorted list of the texts of a list without repeats -/
def Srt (ss : List Str) (l : List Str) : Prop := sortedS ss = true ∧ ss.Nodup ∧ ∀ k, k ∈ ss ↔ k ∈ l
def sp_letters_in (K : PySem.W.Frag) : Sp := fun vs H Q _ => ∃ (H0 : Hp) (v : V) (q : Qn), vs = [v] ∧ Ex H0 H ∧ Dp K H0 v q.d ∧ q.Ok ∧ q.parts ≤ 900 ∧
  ∀ (ss : List Str) (p : Addr) (H' : Hp), Srt ss q.lets → Ex H H' → H p = none → H' p = some (.lst (ss.map V.str)) → Q (.ref p) H'
end M
namespace M
open PySem L2 Evl
open PyProof.Rows hiding St
theorem Qn.hi_kids {q r : Qn} (h : r ∈ q.kids) : r.hi < q.hi := by
  cases q with
  | any => cases h
  | no a => simp [Qn.kids] at h; subst h; simp [Qn.hi]
  | both a b => simp [Qn.kids] at h; rcases h with rfl | rfl <;> simp [Qn.hi] <;> omega
  | some a c b => simp [Qn.kids] at h; rcases h with rfl | rfl <;> simp [Qn.hi] <;> omega
theorem Qn.hi_pos : ∀ q : Qn, 1 ≤ q.hi := fun q => by cases q <;> simp [Qn.hi]
/-- the law's own depth, to a height -/
def sp_deep (K : PySem.W.Frag) (n : Nat) : Sp := fun vs H Q _ => ∃ (H0 : Hp) (v : V) (q : Qn), vs = [v] ∧ Ex H0 H ∧ Da K H0 v q.d ∧ q.hi ≤ n ∧ ∀ H' : Hp, Ex H H' → Q (.int (q.deep : Nat)) H'
/-- the depth of a question of another kind than "some" -/
theorem Qn.deep_max {q : Qn} {m : Int} (hn : q.up = 0) (h1 : m ∈ (0 : Int) :: q.kids.map fun r => ((r.deep : Nat) : Int)) (h2 : ∀ y ∈ (0 : Int) :: q.kids.map fun r => ((r.deep : Nat) : Int), y ≤ m) : m = ((q.deep : Nat) : Int) := by
  cases q with
  | any => simp [Qn.kids] at h1; simp [h1, Qn.deep]
  | no a =>
    simp only [Qn.kids, List.map_cons, List.map_nil, List.mem_cons, List.not_mem_nil, or_false, forall_eq_or_imp, forall_eq] at h1 h2
    simp only [Qn.deep]
    omega
  | both a b =>
    simp only [Qn.kids, List.map_cons, List.map_nil, List.mem_cons, List.not_mem_nil, or_false, forall_eq_or_imp, forall_eq] at h1 h2
    simp only [Qn.deep]
    omega
  | some a c b => simp [Qn.up] at hn
end M
namespace M
open PySem L2 Evl
open PyProof.Rows hiding St
theorem Qn.up_cases : ∀ q : Qn, (∃ r c u, q = .some r c u) ∨ q.up = 0
  | .any => .inr rfl
  | .no _ => .inr rfl
  | .both _ _ => .inr rfl
  | .some r c u => .inl ⟨r, c, u, rfl⟩
theorem da_kids {K : PySem.W.Frag} {H : Hp} {v : V} {q : Qn} (h : Da K H v q.d) (hn : q.up = 0) : ∃ a ws, v = .ref a ∧ SqT K H a (.str q.word :: ws) ∧ Qs K H ws q.kids := by
  cases q with
  | any => obtain ⟨a, e, s⟩ := da_any h; exact ⟨a, _, e, s, .nil⟩
  | no r => obtain ⟨a, x, e, s, hx⟩ := da_no h; exact ⟨a, _, e, s, .cons hx .nil⟩
  | both r t => obtain ⟨a, x, y, e, s, hx, hy⟩ := da_both h; exact ⟨a, _, e, s, .cons hx (.cons hy .nil)⟩
  | some r c t => cases hn
theorem Qn.kids_few (q : Qn) : q.kids.length ≤ 2 := by cases q <;> simp [Qn.kids]
end M
namespace M
open PySem L2 Evl
open PyProof.Rows hiding St
def sp_about (K : PySem.W.Frag) (n : Nat) : Sp := fun vs H Q _ => ∃ (H0 : Hp) (v : V) (q : Qn), vs = [v] ∧ Ex H0 H ∧ Da K H0 v q.d ∧ q.hi ≤ n ∧
  ∀ (v' : V) (H1 H' : Hp), Ex H0 H1 → Ex H1 H' → Ex H H' → (∀ b, H b ≠ none → H0 b = none → H1 b = none) → Da K H1 v' q.turn.d → Q v' H'
theorem Ex.nn {H H' : Hp} (x : Ex H H') {b : Addr} (h : H b ≠ none) : H' b ≠ none := by
  cases e : H b with
  | none => exact absurd e h
  | some o => rw [x _ _ e]; exact fun z => nomatch z
theorem Qn.turn_d {q : Qn} (hn : q.up = 0) : q.turn.d = .tuple (.str q.word :: (q.kids.map Qn.turn).map Qn.d) := by
  cases q with
  | some a c b => cases hn
  | _ => rfl
end M
namespace M
open PySem L2 Evl
open PyProof.Rows hiding St
/-- what stands behind the word of a question: questions and a letter -/
def Qn.ext : Qn → List (Sum Qn Str)
  | .any => []
  | .no a => [.inl a]
  | .both a b => [.inl a, .inl b]
  | .some a c b => [.inl a, .inr ⟨#[c]⟩, .inl b]
def xd : Sum Qn Str → PyData
  | .inl q => q.d
  | .inr z => .str z
def xl : Sum Qn Str → List Str
  | .inl q => q.lets
  | .inr _ => []
theorem Qn.lets_ext (q : Qn) : q.lets = q.own ++ q.ext.flatMap xl := by cases q <;> simp [Qn.lets, Qn.own, Qn.ext, xl]
theorem Qn.ext_hi {q r : Qn} (h : Sum.inl r ∈ q.ext) : r.hi < q.hi ∧ r.lets.length ≤ q.parts := by
  have hp := r.lets_parts
  cases q with
  | any => cases h
  | no a =>
    simp [Qn.ext] at h
    subst h
    simp [Qn.hi, Qn.parts]
    omega
  | both a b =>
    simp [Qn.ext] at h
    rcases h with rfl | rfl <;> simp [Qn.hi, Qn.parts] <;> omega
  | some a c b =>
    simp [Qn.ext] at h
    rcases h with rfl | rfl <;> simp [Qn.hi, Qn.parts] <;> omega
theorem Qn.ext_few (q : Qn) : q.ext.length ≤ 3 := by cases q <;> simp [Qn.ext]
theorem da_ext {K : PySem.W.Frag} {H : Hp} {v : V} {q : Qn} (h : Da K H v q.d) : ∃ a ws, v = .ref a ∧ SqT K H a (.str q.word :: ws) ∧ Das K H ws (q.ext.map xd) ∧ (∀ r c u, q = .some r c u → ws[1]? = some (.str ⟨#[c]⟩)) := by
  cases q with
  | any => obtain ⟨a, e, s⟩ := da_any h; exact ⟨a, _, e, s, .nil, fun r c u z => nomatch z⟩
  | no r => obtain ⟨a, x, e, s, hx⟩ := da_no h; exact ⟨a, _, e, s, .cons hx .nil, fun r c u z => nomatch z⟩
  | both r t => obtain ⟨a, x, y, e, s, hx, hy⟩ := da_both h; exact ⟨a, _, e, s, .cons hx (.cons hy .nil), fun r c u z => nomatch z⟩
  | some r c t =>
    obtain ⟨a, x, y, e, s, hx, hy⟩ := da_some h
    exact ⟨a, _, e, s, .cons hx (.cons (.str _) (.cons hy .nil)), fun r' c' u z => by cases z; rfl⟩
def sp_letters (K : PySem.W.Frag) (n : Nat) : Sp := fun vs H Q _ => ∃ (H0 : Hp) (v : V) (q : Qn), vs = [v] ∧ Ex H0 H ∧ Da K H0 v q.d ∧ q.hi ≤ n ∧ q.parts ≤ 900 ∧
  ∀ (l : Addr) (H' : Hp), Ex H H' → H l = none → H' l = some (.lst (q.lets.map V.str)) → Q (.ref l) H'
theorem isTup_q (q : Qn) : tupB q.d = true := by cases q <;> rfl
theorem Qn.ext_parts {q r : Qn} (h : Sum.inl r ∈ q.ext) : r.parts ≤ q.parts := by
  cases q with
  | any => cases h
  | no a => simp [Qn.ext] at h; subst h; simp [Qn.parts]
  | both a b => simp [Qn.ext] at h; rcases h with rfl | rfl <;> simp [Qn.parts] <;> omega
  | some a c b => simp [Qn.ext] at h; rcases h with rfl | rfl <;> simp [Qn.parts] <;> omega
end M
end

section
set_option Elab.async false
set_option linter.all false
set_option maxRecDepth 100000
/-! questions and lists of letters as data that is compared and shown -/
namespace M
open PySem L2 Evl
open PyProof.Rows hiding St
theorem dp_q2 {K : PySem.W.Frag} {H : Hp} : ∀ {q : Qn} {v : V}, Da K H v q.d → Dp K H v q.d
  | .any, _, h => by
    obtain ⟨a, rfl, s⟩ := da_any h
    exact .tup s (.cons (.str _) .nil)
  | .no q, _, h => by
    obtain ⟨a, x, rfl, s, hx⟩ := da_no h
    exact .tup s (.cons (.str _) (.cons (dp_q2 hx) .nil))
  | .both q r, _, h => by
    obtain ⟨a, x, y, rfl, s, hx, hy⟩ := da_both h
    exact .tup s (.cons (.str _) (.cons (dp_q2 hx) (.cons (dp_q2 hy) .nil)))
  | .some q c r, _, h => by
    obtain ⟨a, x, y, rfl, s, hx, hy⟩ := da_some h
    exact .tup s (.cons (.str _) (.cons (dp_q2 hx) (.cons (.str _) (.cons (dp_q2 hy) .nil))))
theorem Qn.lay : ∀ {q : Qn}, q.Ok → q.d.canLay0 = true
  | .any, _ => by decide +kernel
  | .no q, h => by
    have := Qn.lay (q := q) h
    simp only [Qn.d, PyData.canLay0, PyData.canLayAll0, this]
    decide +kernel
  | .both a b, h => by
    have h1 := Qn.lay h.1
    have h2 := Qn.lay h.2
    simp only [Qn.d, PyData.canLay0, PyData.canLayAll0, h1, h2]
    decide +kernel
  | .some a c b, h => by
    have h1 := Qn.lay h.1
    have h2 := Qn.lay h.2.2
    have h3 : PyData.strOk ⟨#[c]⟩ = true := by
      have := h.2.1.2
      show (#[c].all fun x => decide (x < 0x110000)) = true
      simp
      omega
    simp only [Qn.d, PyData.canLay0, PyData.canLayAll0, h1, h2, h3]
    decide +kernel
theorem Qn.high : ∀ q : Qn, q.d.depth = q.hi
  | .any => by simp [Qn.d, PyData.depth, PyData.depthAll, Qn.hi]
  | .no q => by simp [Qn.d, PyData.depth, PyData.depthAll, Qn.hi, Qn.high q]
  | .both a b => by simp [Qn.d, PyData.depth, PyData.depthAll, Qn.hi, Qn.high a, Qn.high b]
  | .some a c b => by simp [Qn.d, PyData.depth, PyData.depthAll, Qn.hi, Qn.high a, Qn.high b]
theorem Qn.turn_hi : ∀ q : Qn, q.turn.hi = q.hi
  | .any => rfl
  | .no q => by simp [Qn.turn, Qn.hi, Qn.turn_hi q]
  | .both a b => by simp [Qn.turn, Qn.hi, Qn.turn_hi a, Qn.turn_hi b]
  | .some a c b => by simp [Qn.turn, Qn.hi, Qn.turn_hi a, Qn.turn_hi b, Nat.max_comm]
theorem Qn.shp {q : Qn} (h : q.Ok) (h2 : q.hi ≤ 64) : SeqAt.shaped q.d = true := by
  unfold SeqAt.shaped
  rw [Qn.lay h, Qn.high]
  simpa using h2
theorem Qn.same {q : Qn} (h : q.Ok) : PyData.eqv q.d q.d = true := SeqAt.eqv_refl _ (Qn.lay h)
/-! ### sorted lists without repeats are determined by their members -/
theorem rising_pair : ∀ (p : Str) (l : List Str), risingS p l = true → l.Nodup → p ∉ l → ∀ x ∈ l, p.cps.toList < x.cps.toList := by
  intro p l
  induction l generalizing p with
  | nil => intro _ _ _ x hx; cases hx
  | cons y l ih =>
    intro h nd np x hx
    have h' : (!Spec.ltCps y.cps.toList p.cps.toList && risingS y l) = true := h
    rw [Bool.and_eq_true, ltCps_eq] at h'
    obtain ⟨n1, n2⟩ := List.nodup_cons.mp nd
    have le : ¬ y.cps.toList < p.cps.toList := by simpa using h'.1
    have ne : p ≠ y := fun z => np (z ▸ List.mem_cons_self)
    have lt : p.cps.toList < y.cps.toList := by
      rcases Std.lt_trichotomy p.cps.toList y.cps.toList with z | z | z
      · exact z
      · exact absurd (by cases p; cases y; congr; exact Array.toList_inj.mp z) ne
      · exact absurd z le
    rcases List.mem_cons.mp hx with rfl | z
    · exact lt
    · exact List.lt_trans lt (ih y h'.2 n2 n1 x z)
theorem srt_head {p : Str} {l : List Str} (h : sortedS (p :: l) = true) (nd : (p :: l).Nodup) : sortedS l = true ∧ l.Nodup ∧ p ∉ l ∧ ∀ x ∈ l, p.cps.toList < x.cps.toList := by
  obtain ⟨n1, n2⟩ := List.nodup_cons.mp nd
  refine ⟨?_, n2, n1, rising_pair p l h n2 n1⟩
  cases l with
  | nil => rfl
  | cons y l =>
    have h' : (!Spec.ltCps y.cps.toList p.cps.toList && risingS y l) = true := h
    rw [Bool.and_eq_true] at h'
    exact h'.2
theorem srt_one : ∀ (a b : List Str), sortedS a = true → a.Nodup → sortedS b = true → b.Nodup → (∀ x, x ∈ a ↔ x ∈ b) → a = b
  | [], [], _, _, _, _, _ => rfl
  | [], y :: b, _, _, _, _, h => absurd ((h y).mpr List.mem_cons_self) (fun z => by cases z)
  | x :: a, [], _, _, _, _, h => absurd ((h x).mp List.mem_cons_self) (fun z => by cases z)
  | x :: a, y :: b, s1, n1, s2, n2, h => by
    obtain ⟨p1, p2, p3, p4⟩ := srt_head s1 n1
    obtain ⟨q1, q2, q3, q4⟩ := srt_head s2 n2
    have e : x = y := by
      rcases List.mem_cons.mp ((h x).mp List.mem_cons_self) with z | z
      · exact z
      · rcases List.mem_cons.mp ((h y).mpr List.mem_cons_self) with z2 | z2
        · exact z2.symm
        · exact absurd (List.lt_trans (q4 x z) (p4 y z2)) (List.lt_irrefl _)
    subst e
    rw [srt_one a b p1 p2 q1 q2 fun u => ?_]
    constructor
    · intro hu
      rcases List.mem_cons.mp ((h u).mp (List.mem_cons_of_mem _ hu)) with z | z
      · exact absurd (z ▸ hu) p3
      · exact z
    · intro hu
      rcases List.mem_cons.mp ((h u).mpr (List.mem_cons_of_mem _ hu)) with z | z
      · exact absurd (z ▸ hu) q3
      · exact z
theorem Srt.one {a b l m : List Str} (h1 : Srt a l) (h2 : Srt b m) (e : ∀ z, z ∈ l ↔ z ∈ m) : a = b := srt_one a b h1.1 h1.2.1 h2.1 h2.2.1 fun x => by rw [h1.2.2, h2.2.2, e]
theorem Srt.few {a l : List Str} (h : Srt a l) (s : ∀ z ∈ l, z ∈ abc) : a.length ≤ 26 := nodup_le a abc h.2.1 fun x hx => s x ((h.2.2 x).mp hx)
end M
namespace M
open PySem L2 Evl
open PyProof.Rows hiding St
def sp_fits : Sp := fun vs H Q _ => ∃ (H0 : Hp) (p : Addr) (m : Nat), vs = [.ref p] ∧ Pl H0 H p m ∧ m + 600 ≤ 2 ^ 20 ∧ ∀ H' : Hp, Pl H0 H' p (m + 600) → Q (.bl true) H'
theorem names4 {k : Int} (h0 : 0 ≤ k) (h4 : k < 4) : ∃ z : Str, atI [V.str "ab", V.str "a", V.str "abcdefghijklmnopqrstuvwxyz", V.str "xqz"] k = some (.str z) ∧ Names z := by
  have n1 : Names "ab" := ⟨by unfold Abc; decide +kernel, by decide +kernel, by decide +kernel⟩
  have n2 : Names "a" := ⟨by unfold Abc; decide +kernel, by decide +kernel, by decide +kernel⟩
  have n3 : Names "abcdefghijklmnopqrstuvwxyz" := ⟨by unfold Abc; decide +kernel, by decide +kernel, by decide +kernel⟩
  have n4 : Names "xqz" := ⟨by unfold Abc; decide +kernel, by decide +kernel, by decide +kernel⟩
  rcases (by omega : k = 0 ∨ k = 1 ∨ k = 2 ∨ k = 3) with rfl | rfl | rfl | rfl
  · exact ⟨_, rfl, n1⟩
  · exact ⟨_, rfl, n2⟩
  · exact ⟨_, rfl, n3⟩
  · exact ⟨_, rfl, n4⟩
end M
namespace M
open PySem L2 Evl
open PyProof.Rows hiding St
/-- data that repr shows -/
def Shw (d : PyData) : Prop := d.showable = true ∧ d.hasDict = false ∧ d.depth ≤ 50 ∧ d.shown.length ≤ sizeLine
def dd (n : Nat) : PyData := .list [.int n, .int n]
theorem shw_dd {n : Nat} (h : n ≤ 6) : Shw (dd n) := by
  rcases (by omega : n = 0 ∨ n = 1 ∨ n = 2 ∨ n = 3 ∨ n = 4 ∨ n = 5 ∨ n = 6) with rfl | rfl | rfl | rfl | rfl | rfl | rfl <;> exact ⟨by decide +kernel, by decide +kernel, by decide +kernel, by decide +kernel⟩
def dl (ss : List Str) : PyData := .list (ss.map PyData.str)
theorem dps (K : PySem.W.Frag) (H : Hp) : ∀ ss : List Str, DpAll K H (ss.map V.str) (ss.map PyData.str)
  | [] => .nil
  | s :: ss => .cons (.str s) (dps K H ss)
theorem dp_l {K : PySem.W.Frag} {H : Hp} {a : Addr} {ss : List Str} (h : H a = some (.lst (ss.map V.str))) : Dp K H (.ref a) (dl ss) := .lst (SqL.of h) (dps K H ss)
/-- short texts -/
def Sh (ss : List Str) : Prop := ss.length ≤ 26 ∧ ∀ z ∈ ss, ∃ c, z = ⟨#[c]⟩ ∧ 97 ≤ c ∧ c ≤ 122
theorem abc_sh {z : Str} (h : z ∈ abc) : ∃ c, z = ⟨#[c]⟩ ∧ 97 ≤ c ∧ c ≤ 122 := by
  obtain ⟨i, hi, rfl⟩ := List.mem_map.mp h
  have := List.mem_range.mp hi
  exact ⟨97 + i, rfl, by omega, by omega⟩
theorem Srt.sh {a l : List Str} (h : Srt a l) (s : ∀ z ∈ l, z ∈ abc) : Sh a := ⟨h.few s, fun z hz => abc_sh (s z ((h.2.2 z).mp hz))⟩
theorem sh_lay : ∀ {ss : List Str}, (∀ z ∈ ss, ∃ c, z = ⟨#[c]⟩ ∧ 97 ≤ c ∧ c ≤ 122) → PyData.canLayAll0 (ss.map PyData.str) = true ∧ PyData.depthAll (ss.map PyData.str) = 0 ∧ PyData.showableAll (ss.map PyData.str) = true ∧ PyData.hasDictAll (ss.map PyData.str) = false ∧
    PyData.leavesShortAll 8 (ss.map PyData.str) = true ∧ PyData.bulkAll (ss.map PyData.str) = 2 * ss.length
  | [], _ => ⟨rfl, rfl, rfl, rfl, rfl, rfl⟩
  | z :: ss, h => by
    obtain ⟨c, rfl, h1, h2⟩ := h z List.mem_cons_self
    obtain ⟨a1, a2, a3, a4, a5, a6⟩ := sh_lay fun y hy => h y (List.mem_cons_of_mem _ hy)
    have b1 : PyData.strOk ⟨#[c]⟩ = true := by
      show (#[c].all fun x => decide (x < 0x110000)) = true
      simp
      omega
    have b2 : PyData.leavesShort 8 (.str ⟨#[c]⟩) = true := by
      show ([c].all fun c => decide (c < 16 ^ 8)) = true
      simp
      omega
    refine ⟨?_, ?_, ?_, ?_, ?_, ?_⟩
    · simp only [List.map_cons, PyData.canLayAll0, PyData.canLay0, b1, a1]; rfl
    · simp only [List.map_cons, PyData.depthAll, PyData.depth, a2]; rfl
    · simp only [List.map_cons, PyData.showableAll, PyData.showable, a3]; rfl
    · simp only [List.map_cons, PyData.hasDictAll, PyData.hasDict, a4]; rfl
    · simp only [List.map_cons, PyData.leavesShortAll, b2, a5]; rfl
    · simp only [List.map_cons, PyData.bulkAll, PyData.bulk, a6, List.length_cons]
      simp
      omega
theorem sh_shp {ss : List Str} (h : Sh ss) : SeqAt.shaped (dl ss) = true ∧ PyData.eqv (dl ss) (dl ss) = true := by
  obtain ⟨a1, a2, _⟩ := sh_lay h.2
  have lay : (dl ss).canLay0 = true := by show PyData.canLay0 (.list _) = true; rw [PyData.canLay0]; exact a1
  refine ⟨?_, SeqAt.eqv_refl _ lay⟩
  unfold SeqAt.shaped
  rw [lay]
  show (true && decide (PyData.depth (.list _) ≤ 64)) = true
  rw [PyData.depth, a2]
  decide
theorem shw_ll {ss : List Str} (h : Sh ss) : Shw (.list [dl ss, dl ss]) := by
  obtain ⟨a1, a2, a3, a4, a5, a6⟩ := sh_lay h.2
  have few := h.1
  refine ⟨?_, ?_, ?_, ?_⟩
  · simp only [PyData.showable, PyData.showableAll, dl, a3]; rfl
  · simp only [PyData.hasDict, PyData.hasDictAll, dl, a4]; rfl
  · simp only [PyData.depth, PyData.depthAll, dl, a2]; decide
  · refine PyData.shown_fits_bulk (B := 8) (by decide) (by decide) ?_ ?_
    · simp only [PyData.leavesShort, PyData.leavesShortAll, dl, a5]; rfl
    · simp only [PyData.bulk, PyData.bulkAll, dl, a6]
      omega
end M
namespace M
open PySem L2 Evl
open PyProof.Rows hiding St
def sp_law (K : PySem.W.Frag) : Sp := fun vs H Q _ => ∃ (a : Addr) (ns : List Int), vs = [.ref a] ∧ SqL K H a (ns.map V.int) ∧ ns.length ≤ 63 ∧ ∀ H' : Hp, Q (.bl true) H'
end M
namespace M
open PySem L2 Evl
open PyProof.Rows hiding St
def entI (e : DictEntry) : Option (Str × Int) := match e.key, e.val with
  | .str x _, .int i _ => some (x, i)
  | _, _ => none
theorem kints_of {K : PySem.W.Frag} {w : World} {a : Addr} {es : Array DictEntry} {n : Nat} {kvs : List (Str × Int)} (l : K.lookup a = some ⟨.type "dict", none, .dict es n, #[]⟩) (hk : PySem.W.KeysLit w.params es.toList) (lo : (a == sysModules) = false)
    (hf : es.toList.map entI = kvs.map some) : KInts K w a (fun z => kvs.lookup z) := by
  refine ⟨es, n, ⟨l, hk, lo⟩, fun z => ?_⟩
  have e : PySem.W.nsIn K a z = (match es.toList.find? (·.key.isStr z) with
      | some e => some (some e.val)
      | none => if es.toList.any (·.refKey) then none else some none) := by
    unfold PySem.W.nsIn
    rw [l]
    rfl
  rw [e]
  clear e l hk
  generalize es.toList = L at *
  have key : ∀ (L : List DictEntry) (kvs : List (Str × Int)), L.map entI = kvs.map some → (L.any (·.refKey) = false) ∧ ((∃ i t e, kvs.lookup z = some i ∧ L.find? (·.key.isStr z) = some e ∧ e.val = .int i t) ∨ (kvs.lookup z = none ∧ L.find? (·.key.isStr z) = none)) := by
    intro L
    induction L with
    | nil =>
      intro kvs h
      cases kvs with
      | nil => exact ⟨rfl, .inr ⟨rfl, rfl⟩⟩
      | cons q r => cases h
    | cons en L ih =>
      intro kvs h
      cases kvs with
      | nil => cases h
      | cons q r =>
        rw [List.map_cons, List.map_cons] at h
        injection h with h1 h2
        obtain ⟨i1, i2⟩ := ih r h2
        unfold entI at h1
        split at h1
        · rename_i x t i u ek ev
          cases h1
          refine ⟨?_, ?_⟩
          · rw [List.any_cons, i1]
            simp [DictEntry.refKey, ek]
          · by_cases hz : x = z
            · subst hz
              refine .inl ⟨i, u, en, ?_, ?_, ev⟩
              · simp [List.lookup]
              · rw [List.find?_cons_of_pos]
                simp [ek, Value.isStr]
            · have nz : (z == x) = false := by simpa using fun y : z = x => hz y.symm
              have hl : List.lookup z ((x, i) :: r) = List.lookup z r := by simp [List.lookup, nz]
              have hfd : List.find? (fun e => e.key.isStr z) (en :: L) = List.find? (fun e => e.key.isStr z) L := by
                rw [List.find?_cons_of_neg]
                simp [ek, Value.isStr, hz]
              rw [hl, hfd]
              exact i2
        · cases h1
  obtain ⟨k1, k2⟩ := key L kvs hf
  rcases k2 with ⟨i, t, e, h1, h2, h3⟩ | ⟨h1, h2⟩
  · refine .inl ⟨i, t, h1, ?_⟩
    rw [h2, ← h3]
  · refine .inr ⟨h1, ?_⟩
    rw [h2, k1]
    rfl
end M
namespace M
open PySem L2 Evl
open PyProof.Rows hiding St
theorem kb_one {K : PySem.W.Frag} {fd : FuncData} {x : Str} (hb : ∀ (s : Shared) (u : Value), BindsTo s fd ⟨[], [(x, u)]⟩ [(x, u)]) :
    KBinds K fd [x] [x] (fun us ws => match us, ws with | [], [w0] => [w0] | _, _ => []) (fun us ws => match us, ws with | [], [w0] => [w0] | _, _ => []) := by
  refine ⟨fun s us ws _ hl => ?_, fun {vs us zs ws} r1 r2 => ?_⟩
  · rcases us with _ | ⟨u, us⟩
    · rcases ws with _ | ⟨w0, _ | ⟨w1, ws⟩⟩
      · exact nomatch hl
      · exact hb s w0
      · exact nomatch hl
    · exact nomatch hl
  · cases r1 with
    | nil =>
      cases r2 with
      | nil => exact .nil
      | cons a b =>
        cases b with
        | nil => exact .cons a .nil
        | cons c d => exact .nil
    | cons a b => exact .nil
end M
end

section
set_option Elab.async false
set_option linter.all false
set_option maxRecDepth 100000
/-! any value: shown, not among texts; what k11's judge needs -/
namespace M
open PySem L2 Evl
open PyProof.Rows hiding St
mutual
/-- no list in it -/
def lf : PyData → Bool
  | .list _ => false
  | .tuple ds => lfs ds
  | _ => true
def lfs : List PyData → Bool
  | [] => true
  | d :: ds => lf d && lfs ds
end
section
variable {X : Cx} {pins : List (Addr × Obj)} {σ : L2.St} {H : Hp} {s : Shared}
mutual
theorem Da.reads (I : Inv X pins σ H s) : ∀ (d : PyData) (v : V) (u : Value), Da X.K H v d → RelV v u → ∃ as, Reads s.heap u d as ∧ (lf d = true → sysModules ∉ as)
  | .none, _, _, h, r => by
    cases h
    cases r
    exact ⟨_, Reads.none, by simp⟩
  | .bool b, _, _, h, r => by
    cases h
    cases r
    exact ⟨_, Reads.bool b, by simp⟩
  | .int i, _, _, h, r => by
    cases h
    obtain ⟨t, rfl⟩ := r
    exact ⟨_, Reads.int i t, by simp⟩
  | .str x, _, _, h, r => by
    cases h
    obtain ⟨t, rfl⟩ := r
    exact ⟨_, Reads.str x t, by simp⟩
  | .list ds, _, _, h, r => by
    cases h with
    | lst hs ha =>
      cases r
      obtain ⟨its, rv, ⟨o, n, ho, hc, _, hd⟩, _⟩ := I.list hs
      obtain ⟨as, hr, hm⟩ := Da.readsAll I ds _ its ha rv
      exact ⟨_, Reads.list ho hc hd hr, fun z => nomatch z⟩
  | .tuple ds, _, _, h, r => by
    cases h with
    | tup hs ha =>
      cases r
      obtain ⟨its, rv, ⟨o, ho, hc, n, hd⟩, _⟩ := I.tuple hs
      obtain ⟨as, hr, hm⟩ := Da.readsAll I ds _ its ha rv
      exact ⟨_, Reads.tuple ho hc hd hr, hm⟩
  | .dict kvs, _, _, h, r => by
    cases h with
    | dct ha =>
      cases r
      rename_i ad
      obtain ⟨_, hns, vs, rel, o, es, ep, ho, hx, hd, he1, he, he3⟩ := I.hok _ _ ha
      cases rel
      have e0 : es.toList = [] := by
        generalize es.toList = l at he
        cases he
        rfl
      refine ⟨_, Reads.dict (as := []) (bs := []) ho hx.1 hd (by rw [e0]; exact .nil) (by rw [e0]; exact .nil), fun _ z => ?_⟩
      simp at z
      rw [← z] at hns
      simp at hns
theorem Da.readsAll (I : Inv X pins σ H s) : ∀ (ds : List PyData) (vs : List V) (us : List Value), Das X.K H vs ds → Vals vs us → ∃ as, ReadsAll s.heap us ds as ∧ (lfs ds = true → sysModules ∉ as)
  | [], _, _, h, r => by
    cases h
    cases r
    exact ⟨_, ReadsAll.nil, by simp⟩
  | d :: ds, _, _, h, r => by
    cases h with
    | cons h1 h2 =>
      cases r with
      | cons r1 r2 =>
        obtain ⟨as, q1, m1⟩ := Da.reads I d _ _ h1 r1
        obtain ⟨bs, q2, m2⟩ := Da.readsAll I ds _ _ h2 r2
        exact ⟨_, ReadsAll.cons q1 q2, fun l z => by
          rw [lfs, Bool.and_eq_true] at l
          exact (List.mem_append.mp z).elim (m1 l.1) (m2 l.2)⟩
end
end
/-! ### repr of any value -/
def rReprA (K : PySem.W.Frag) : List V → Hp → VK → Prop := fun xs H Q => ∃ x d, xs = [x] ∧ Da K H x d ∧ d.showable = true ∧ d.depth ≤ 50 ∧ d.shown.length ≤ sizeLine ∧ (!d.hasDict || lf d) = true ∧ Q (.str d.shown) H
theorem call_reprA {X : Cx} (hg : X.A.guards = some []) (hu : X.A.units + 64 < cLine) : CallR X (.builtin "repr") (rReprA X.K) := by
  intro pins s σ H vs us Q I r h
  obtain ⟨x, d, rfl, hd, hs, hp, hz, hl, q⟩ := h
  obtain ⟨u, rfl, ru⟩ := vals1 r
  obtain ⟨as, rd, hm0⟩ := Da.reads I d x u hd ru
  have hm : d.hasDict = true → sysModules ∉ as := fun z => hm0 (by rw [z] at hl; exact hl)
  have fin : ∀ t, EP X pins σ Q (.str d.shown t) { s with toks := s.toks + 1 } := fun t => ⟨.str _, H, I.tok _, ⟨_, rfl⟩, q⟩
  cases rd with
  | none => exact P.repr_of_none (fin _)
  | bool b => exact P.repr_of_bool (fin _)
  | int i t => exact P.repr_of_int (by simpa [PyData.showable] using hs) (fin _)
  | str z t => exact P.repr_of_str (fin _) hz
  | list h1 h2 h3 h4 =>
    refine repr_of_reads' (.list h1 h2 h3 h4) hs hm hg (by omega) (fun _ _ e => e) (fun h' t tk k => ?_) hz
    exact ⟨.str _, H, I.kept (t' := tk) k, ⟨_, rfl⟩, q⟩
  | tuple h1 h2 h3 h4 =>
    refine repr_of_reads' (.tuple h1 h2 h3 h4) hs hm hg (by omega) (fun _ _ e => e) (fun h' t tk k => ?_) hz
    exact ⟨.str _, H, I.kept (t' := tk) k, ⟨_, rfl⟩, q⟩
  | dict h1 h2 h3 h4 h5 =>
    refine repr_of_reads' (.dict h1 h2 h3 h4 h5) hs hm hg (by omega) (fun _ _ e => e) (fun h' t tk k => ?_) hz
    exact ⟨.str _, H, I.kept (t' := tk) k, ⟨_, rfl⟩, q⟩
/-! ### x not in (texts) -/
def inT : PyData → List Str → Bool
  | .str z, zs => zs.any fun y => y == z
  | _, _ => false
def dctB : PyData → Bool
  | .dict _ => true
  | _ => false
def rNotInT (K : PySem.W.Frag) : R2 := fun x y H Q => ∃ p zs d, y = .ref p ∧ SqT K H p (zs.map V.str) ∧ Da K H x d ∧ dctB d = false ∧ Q (.bl (!inT d zs)) H
theorem flats : ∀ zs : List Str, (zs.map V.str).all flatV = true
  | [] => rfl
  | z :: zs => by rw [List.map_cons, List.all_cons, flats zs]; rfl
theorem vals_strs : ∀ {zs : List Str} {us : List Value}, Vals (zs.map V.str) us → ∀ u ∈ us, ∃ z t, u = .str z t
  | [], _, .nil, u, hu => by cases hu
  | z :: zs, _, .cons r t, u, hu => by
    rcases List.mem_cons.mp hu with rfl | hu
    · obtain ⟨t, rfl⟩ := r; exact ⟨_, _, rfl⟩
    · exact vals_strs t u hu
theorem inV_none (x : V) (h : ∀ z : Str, eqV (.str z) x = false) : ∀ zs : List Str, inV x (zs.map V.str) = false
  | [] => rfl
  | z :: zs => by
    show (eqV (.str z) x || inV x (zs.map V.str)) = false
    rw [h, inV_none x h zs]; rfl
theorem inV_str (y : Str) : ∀ zs : List Str, inV (.str y) (zs.map V.str) = zs.any fun z => z == y
  | [] => rfl
  | z :: zs => by
    show (eqV (.str z) (.str y) || inV (.str y) (zs.map V.str)) = _
    rw [inV_str y zs, List.any_cons]; rfl
theorem u1 {n : Nat} (h : n + 64 < cLine) : n + 1 < cLine := by omega
theorem op_notInT {X : Cx} (hu' : X.A.units + 64 < cLine) : OpR X (compareOp .NotIn) (rNotInT X.K) := by
  have hu : X.A.in1.units < cLine := u1 hu'
  intro pins s σ H x y v u Q I rx ry h
  obtain ⟨p, zs, d, rfl, hq, hd, hn, q⟩ := h
  have fl : flatV x = true → inV x (zs.map V.str) = inT d zs → wpAny (model X.prog X.w) X.A (compareOp .NotIn v u) (EP X pins σ Q) X.xe s := fun f e =>
    op_notIn_seq pins s σ H x _ v u Q I rx ry ⟨p, _, rfl, .inr hq, f, flats zs, by rw [e]; exact q⟩
  have sq : (∀ w ∈ s.heap.objs.toList, True) → inT d zs = false → (∀ (z : Str) (t : Tok), SeqAt.EqAt X.A.in1 s (.str z t) v false) → wpAny (model X.prog X.w) X.A (compareOp .NotIn v u) (EP X pins σ Q) X.xe s := fun _ e f => by
    cases ry
    obtain ⟨its, r, pl, hz⟩ := I.tuple hq
    refine SeqAt.notIn_tupleAt (fun _ => false) pl (fun w hw => ?_) ⟨.bl _, H, I, rfl, ?_⟩
    · obtain ⟨z, t, rfl⟩ := vals_strs r w (by simpa using hw)
      exact f z t
    · rw [show its.toArray.any (fun _ => false) = false by simp, ← e]
      exact q
  cases hd with
  | non => exact fl rfl (inV_none _ (fun _ => rfl) zs)
  | bl b => exact fl rfl (inV_none _ (fun _ => rfl) zs)
  | int i => exact fl rfl (inV_none _ (fun _ => rfl) zs)
  | str z => exact fl rfl (inV_str z zs)
  | dct a => cases hn
  | lst hs _ =>
    cases rx
    obtain ⟨its, r, pl, hz⟩ := I.list hs
    exact sq (fun _ _ => trivial) rfl fun z t => SeqAt.EqAt.str_list z t pl.isList hu
  | tup hs _ =>
    cases rx
    obtain ⟨its, r, pl, hz⟩ := I.tuple hs
    exact sq (fun _ _ => trivial) rfl fun z t => SeqAt.EqAt.str_tuple z t pl hu
end M
end

section
set_option Elab.async false
set_option linter.all false
set_option maxRecDepth 100000
/-! displays of data, walked in one step; what a value must be to be judged and shown -/
namespace M
open PySem L2 Evl
open PyProof.Rows hiding St
section
variable {X : Cx} {e : Expr} {es : List Expr} {t t' : TE} {ta ta' : TA}
theorem pe_weakQ (h : PE X e t) (w : ∀ σ H Q, t' σ H Q → t σ H Q) : PE X e t' := ⟨fun pins s σ H Q I q => h.run pins s σ H Q I (w σ H Q q)⟩
theorem pa_weak (h : PA X es ta) (w : ∀ σ H Q, ta' σ H Q → ta σ H Q) : PA X es ta' := ⟨fun pos pins s σ H Q I q => h.run pos pins s σ H Q I (w σ H Q q)⟩
end
/-- an expression that makes data and leaves the pool: S tells what the names hold, c what is known of them -/
def tD {γ : Type} (K : PySem.W.Frag) (S : γ → L2.St → Hp → Prop) (d : γ → PyData) : TE := fun σ H Q => ∃ (c : γ) (B : Hp) (p : Addr) (m : Nat), Pl B H p m ∧ S c σ B ∧ ∀ v B' H', Ex B B' → Pl B' H' p m → Da K B' v (d c) → Q v H'
def tDL {γ : Type} (K : PySem.W.Frag) (S : γ → L2.St → Hp → Prop) (ds : γ → List PyData) : TE := fun σ H Q => ∃ (c : γ) (B : Hp) (p : Addr) (m : Nat), Pl B H p m ∧ S c σ B ∧ ∀ a vs B' H', Ex B B' → Pl B' H' p m → B' a = some (.lst vs) → Das K B' vs (ds c) → Q (.ref a) H'
def tDs {γ : Type} (K : PySem.W.Frag) (S : γ → L2.St → Hp → Prop) (ds : γ → List PyData) : TA := fun σ H Q => ∃ (c : γ) (B : Hp) (p : Addr) (m : Nat), Pl B H p m ∧ S c σ B ∧ ∀ vs B' H', Ex B B' → Pl B' H' p m → Das K B' vs (ds c) → Q vs H'
def Up {γ : Type} (S : γ → L2.St → Hp → Prop) : Prop := ∀ c σ B B', Ex B B' → S c σ B → S c σ B'
section
variable {γ : Type} {X : Cx} {S : γ → L2.St → Hp → Prop} {d : γ → PyData} {ds : γ → List PyData} {e : Expr} {es : List Expr} {pos : Pos}
theorem pd_str {z : Str} {j} : PE X (.Constant (.str z) j pos) (tD X.K S fun _ => .str z) := pe_weakQ pe_str fun σ H Q ⟨c, B, p, m, hP, _, h⟩ => h _ B H (Ex.refl _) hP (.str z)
theorem pd_int {i : Int} {j} : PE X (.Constant (.int i) j pos) (tD X.K S fun _ => .int i) := pe_weakQ pe_int fun σ H Q ⟨c, B, p, m, hP, _, h⟩ => h _ B H (Ex.refl _) hP (.int i)
theorem pd_bl {b : Bool} {j} : PE X (.Constant (.bool b) j pos) (tD X.K S fun _ => .bool b) := pe_weakQ pe_bl fun σ H Q ⟨c, B, p, m, hP, _, h⟩ => h _ B H (Ex.refl _) hP (.bl b)
theorem pd_non {j} : PE X (.Constant .none j pos) (tD X.K S fun _ => .none) := pe_weakQ pe_non fun σ H Q ⟨c, B, p, m, hP, _, h⟩ => h _ B H (Ex.refl _) hP .non
theorem pd_tup {x1} (h : PA X es (tDs X.K S ds)) (hl : ∀ c, (ds c).length ≤ 1000 := by intro _; exact Nat.le_of_ble_eq_true rfl) : PE X (.Tuple es x1 pos) (tD X.K S fun c => .tuple (ds c)) :=
  pe_weakQ (pe_tup h) fun σ H Q ⟨c, B, p, m, hP, hs, k⟩ => ⟨c, B, p, m, hP, hs, fun vs B1 H1 x hP1 hd => ⟨by rw [hd.len]; exact Nat.le_trans (hl c) (by decide), fun a ha => by
    obtain ⟨hP2, x2, e2⟩ := hP1.new (o := .tup vs) ha
    exact k _ _ _ (x.trans x2) hP2 (.tup (st_of e2) (hd.up x2))⟩⟩
theorem pd_lst (h : PA X es (tDs X.K S ds)) (hl : ∀ c, (ds c).length ≤ 1000 := by intro _; exact Nat.le_of_ble_eq_true rfl) : PE X (.List es pos) (tD X.K S fun c => .list (ds c)) :=
  pe_weakQ (pe_lst h) fun σ H Q ⟨c, B, p, m, hP, hs, k⟩ => ⟨c, B, p, m, hP, hs, fun vs B1 H1 x hP1 hd => ⟨by rw [hd.len]; exact Nat.le_trans (hl c) (by decide), fun a ha => by
    obtain ⟨hP2, x2, e2⟩ := hP1.new (o := .lst vs) ha
    exact k _ _ _ (x.trans x2) hP2 (.lst (SqL.of e2) (hd.up x2))⟩⟩
theorem pd_lstL (h : PA X es (tDs X.K S ds)) (hl : ∀ c, (ds c).length ≤ 1000 := by intro _; exact Nat.le_of_ble_eq_true rfl) : PE X (.List es pos) (tDL X.K S ds) :=
  pe_weakQ (pe_lst h) fun σ H Q ⟨c, B, p, m, hP, hs, k⟩ => ⟨c, B, p, m, hP, hs, fun vs B1 H1 x hP1 hd => ⟨by rw [hd.len]; exact Nat.le_trans (hl c) (by decide), fun a ha => by
    obtain ⟨hP2, x2, e2⟩ := hP1.new (o := .lst vs) ha
    exact k _ _ _ _ (x.trans x2) hP2 e2 (hd.up x2)⟩⟩
theorem pd_dct : PE X (.Dict [] [] pos) (tD X.K S fun _ => .dict []) :=
  pe_weakQ pe_dnewK fun σ H Q ⟨c, B, p, m, hP, hs, k⟩ => fun a ha => by
    obtain ⟨hP2, x2, e2⟩ := hP.new (o := .dK []) ha
    exact k _ _ _ x2 hP2 (.dct e2)
theorem pd_nil : PA X [] (tDs X.K S fun _ => []) := pa_weak pa_nil fun σ H Q ⟨c, B, p, m, hP, _, k⟩ => k _ B H (Ex.refl _) hP .nil
theorem pd_cons (hS : Up S) (he : PE X e (tD X.K S d)) (hr : PA X es (tDs X.K S ds)) (hs : starEach (e :: es) X.env = (false, eval e X.env) :: starEach es X.env := by rfl) : PA X (e :: es) (tDs X.K S fun c => d c :: ds c) :=
  pa_weak (pa_cons he hr hs) fun σ H Q ⟨c, B, p, m, hP, hs, k⟩ => ⟨c, B, p, m, hP, hs, fun v B1 H1 x1 hP1 hv => ⟨c, B1, p, m, hP1, hS _ _ _ _ x1 hs, fun vs B2 H2 x2 hP2 hvs => k _ _ _ (x1.trans x2) hP2 (.cons (hv.up x2) hvs)⟩⟩
theorem pd_of {t : TE} (he : PE X e t) (h : ∀ σ H Q, tD X.K S d σ H Q → t σ H Q) : PE X e (tD X.K S d) := pe_weakQ he h
theorem pd_var {i : Nat} (he : PE X e (tVar i)) (h : ∀ c σ B, S c σ B → ∃ v, σ[i]? = some (some v) ∧ Da X.K B v (d c)) : PE X e (tD X.K S d) :=
  pe_weakQ he fun σ H Q ⟨c, B, p, m, hP, hs, k⟩ => by
    obtain ⟨v, e, hv⟩ := h c σ B hs
    exact ⟨v, e, k v B H (Ex.refl _) hP hv⟩
end
/-! ### what a value must be to be judged and shown -/
/-- a list and a dict are not both in it -/
def okr (d : PyData) : Bool := !d.hasDict || lf d
def hd0 : List PyData → Bool
  | .dict _ :: _ => false
  | _ => true
mutual
def hk : PyData → Bool
  | .tuple ds => hd0 ds && hks ds
  | _ => true
def hks : List PyData → Bool
  | [] => true
  | d :: ds => hk d && hks ds
end
theorem hks_mem : ∀ {ds : List PyData}, hks ds = true → ∀ d ∈ ds, hk d = true
  | _ :: _, h, _, hd => by
    rw [hks, Bool.and_eq_true] at h
    rcases List.mem_cons.mp hd with rfl | hd
    · exact h.1
    · exact hks_mem h.2 _ hd
theorem hk_q : ∀ q : Qn, hk q.d = true
  | .any => rfl
  | .no q => by simp only [Qn.d, hk, hks, hk_q q]; rfl
  | .both a b => by simp only [Qn.d, hk, hks, hk_q a, hk_q b]; rfl
  | .some a c b => by simp only [Qn.d, hk, hks, hk_q a, hk_q b]; rfl
structure Fit (n c : Nat) (d : PyData) : Prop where
  hk : M.hk d = true
  sm : M.sm d = true
  nds : M.nds d ≤ c
  dep : d.depth ≤ n
  shw : d.showable = true
  lv : PyData.leavesShort 8 d = true
  bk : d.bulk + 1 ≤ 20 * c
theorem q_shw : ∀ {q : Qn}, q.Ok → q.d.showable = true ∧ PyData.leavesShort 8 q.d = true ∧ q.d.bulk ≤ 40 * q.parts
  | .any, _ => ⟨rfl, rfl, by decide⟩
  | .no q, h => by
    obtain ⟨h1, h2, h3⟩ := q_shw (q := q) h
    have e1 : PyData.leavesShort 8 (.str "not") = true := rfl
    refine ⟨by simp only [Qn.d, PyData.showable, PyData.showableAll, h1]; rfl, by simp only [Qn.d, PyData.leavesShort, PyData.leavesShortAll, h2] at e1 ⊢; rw [e1]; rfl, ?_⟩
    have e2 : PyData.bulk (.str "not") ≤ 10 := by decide
    simp only [Qn.d, PyData.bulk, PyData.bulkAll, Qn.parts] at e2 ⊢
    omega
  | .both a b, h => by
    obtain ⟨h1, h2, h3⟩ := q_shw h.1
    obtain ⟨g1, g2, g3⟩ := q_shw h.2
    have e1 : PyData.leavesShort 8 (.str "both") = true := rfl
    refine ⟨by simp only [Qn.d, PyData.showable, PyData.showableAll, h1, g1]; rfl, by simp only [Qn.d, PyData.leavesShort, PyData.leavesShortAll, h2, g2] at e1 ⊢; rw [e1]; rfl, ?_⟩
    have e2 : PyData.bulk (.str "both") ≤ 10 := by decide
    simp only [Qn.d, PyData.bulk, PyData.bulkAll, Qn.parts] at e2 ⊢
    omega
  | .some a c b, h => by
    obtain ⟨h1, h2, h3⟩ := q_shw h.1
    obtain ⟨g1, g2, g3⟩ := q_shw h.2.2
    have e1 : PyData.leavesShort 8 (.str "some") = true := rfl
    have e3 : PyData.leavesShort 8 (.str ⟨#[c]⟩) = true := by
      have := h.2.1.2
      show ([c].all fun c => decide (c < 16 ^ 8)) = true
      simp
      omega
    refine ⟨by simp only [Qn.d, PyData.showable, PyData.showableAll, h1, g1]; rfl, by simp only [Qn.d, PyData.leavesShort, PyData.leavesShortAll, h2, g2] at e1 e3 ⊢; rw [e1, e3]; rfl, ?_⟩
    have e2 : PyData.bulk (.str "some") ≤ 10 := by decide
    have e4 : PyData.bulk (.str ⟨#[c]⟩) ≤ 10 := by simp [PyData.bulk]
    simp only [Qn.d, PyData.bulk, PyData.bulkAll, Qn.parts] at e2 e4 ⊢
    omega
theorem fit_q {q : Qn} (h : q.Ok) (hp : q.parts ≤ 40) : Fit 40 160 q.d := by
  obtain ⟨h1, h2, h3⟩ := q_shw h
  have h4 := nds_q q
  have h5 := q.hi_le
  exact ⟨hk_q q, sm_q q, by omega, by rw [Qn.high]; omega, h1, h2, by omega⟩
theorem Fit.shown {n c : Nat} {d : PyData} (h : Fit n c d) (hc : c ≤ 2000) : d.shown.length ≤ sizeLine :=
  PyData.shown_fits_bulk (B := 8) (by decide) (by decide) h.lv (by have := h.bk; omega)
theorem Fit.mono {n c n' c' : Nat} {d : PyData} (h : Fit n c d) (hn : n ≤ n') (hc : c ≤ c') : Fit n' c' d :=
  ⟨h.hk, h.sm, Nat.le_trans h.nds hc, Nat.le_trans h.dep hn, h.shw, h.lv, Nat.le_trans h.bk (Nat.mul_le_mul_left _ hc)⟩
/-! all of a list -/
structure FitQs (n c : Nat) (ds : List PyData) : Prop where
  hk : M.hks ds = true
  sm : M.sms ds = true
  nds : M.ndss ds ≤ c
  dep : PyData.depthAll ds ≤ n
  shw : PyData.showableAll ds = true
  lv : PyData.leavesShortAll 8 ds = true
  bk : PyData.bulkAll ds ≤ 20 * c
theorem FitQs.nil {n : Nat} : FitQs n 0 [] := ⟨rfl, rfl, Nat.le_refl _, Nat.zero_le _, rfl, rfl, Nat.le_refl _⟩
theorem FitQs.cons {n c c' : Nat} {d : PyData} {ds : List PyData} (h : Fit n c d) (t : FitQs n c' ds) : FitQs n (c + c') (d :: ds) :=
  ⟨by rw [M.hks, h.hk, t.hk]; rfl, by rw [M.sms, h.sm, t.sm]; rfl, Nat.add_le_add h.nds t.nds, by rw [PyData.depthAll]; exact Nat.max_le.mpr ⟨h.dep, t.dep⟩,
    by rw [PyData.showableAll, h.shw, t.shw]; rfl, by rw [PyData.leavesShortAll, h.lv, t.lv]; rfl, by have := h.bk; have := t.bk; simp only [PyData.bulkAll]; omega⟩
theorem Fit.tup {n c : Nat} {ds : List PyData} (h0 : hd0 ds = true) (t : FitQs n c ds) : Fit (n + 1) (c + 1) (.tuple ds) :=
  ⟨by rw [M.hk, t.hk, Bool.and_true]; exact h0, by rw [M.sm]; exact t.sm, by rw [M.nds]; exact Nat.add_le_add_right t.nds 1, by rw [PyData.depth]; exact Nat.add_le_add_right t.dep 1, by rw [PyData.showable]; exact t.shw,
    by rw [PyData.leavesShort]; exact t.lv, by have := t.bk; rw [PyData.bulk]; omega⟩
theorem Fit.lst {n c : Nat} {ds : List PyData} (t : FitQs n c ds) : Fit (n + 1) (c + 1) (.list ds) :=
  ⟨rfl, by rw [M.sm]; exact t.sm, by rw [M.nds]; exact Nat.add_le_add_right t.nds 1, by rw [PyData.depth]; exact Nat.add_le_add_right t.dep 1, by rw [PyData.showable]; exact t.shw,
    by rw [PyData.leavesShort]; exact t.lv, by have := t.bk; rw [PyData.bulk]; omega⟩
theorem fit_str {n : Nat} {z : Str} (h : z.cps.size ≤ 18) (h2 : PyData.leavesShort 8 (.str z) = true) : Fit n 1 (.str z) :=
  ⟨rfl, by rw [M.sm]; exact decide_eq_true (Nat.le_trans h (by decide)), Nat.le_refl _, Nat.zero_le _, rfl, h2, by rw [PyData.bulk]; omega⟩
theorem fit_non {n : Nat} : Fit n 1 .none := ⟨rfl, rfl, Nat.le_refl _, Nat.zero_le _, rfl, rfl, by decide⟩
theorem fit_bl {n : Nat} {b : Bool} : Fit n 1 (.bool b) := ⟨rfl, rfl, Nat.le_refl _, Nat.zero_le _, rfl, rfl, Nat.le_of_ble_eq_true rfl⟩
theorem fit_int {n : Nat} {i : Int} (h : PyData.showable (.int i) = true) (h2 : PyData.leavesShort 8 (.int i) = true) : Fit n 1 (.int i) := ⟨rfl, rfl, Nat.le_refl _, Nat.zero_le _, h, h2, Nat.le_of_ble_eq_true rfl⟩
theorem fit_dct {n : Nat} : Fit (n + 1) 1 (.dict []) := ⟨rfl, rfl, Nat.le_refl _, by simp [PyData.depth, PyData.depthKv], rfl, rfl, by decide⟩
theorem fit_qn {n : Nat} {q : Qn} (h : q.Ok) (hp : q.parts ≤ 40) (hn : 40 ≤ n) : Fit n 160 q.d := (fit_q h hp).mono hn (Nat.le_refl _)
/-! ### the things that are questions, or nearly so -/
def qItems : Qn → List PyData
  | .any => [.str "any"]
  | .no q => [.str "not", q.d]
  | .both a b => [.str "both", a.d, b.d]
  | .some a c b => [.str "some", a.d, .str ⟨#[c]⟩, b.d]
theorem q_items (q : Qn) : q.d = .tuple (qItems q) := by cases q <;> rfl
abbrev dAny : PyData := .tuple [.str "any"]
def odds1 : List PyData := [.none, .int 0, .bool true, .str "", .str "any", .list [], .list [.str "any"], .tuple [], .dict [], .tuple [.str "some"], .tuple [.str "any", dAny], .tuple [.str "not"], .tuple [.str "not", .str "any"]]
def odds2 : List PyData := [.tuple [.str "both", dAny], .tuple [.str "some", dAny, .str "a"], .tuple [.str "some", dAny, .str "A", dAny], .tuple [.str "all"], .tuple [.none]]
def odds3 : List PyData := [.tuple [.str "some", dAny, .str "ab", dAny], .tuple [.str "some", dAny, .int 1, dAny], .tuple [.str "some", .str "a", dAny, .str "b"]]
def odds4 (q : Qn) : List PyData := [.tuple [.str "not", .list [.str "any"]], .list [q.d], .tuple [q.d], .list (qItems q), .tuple (qItems q ++ [dAny]), .tuple [.str "both", q.d, .none]]
def odds5 (q : Qn) : List PyData := [.tuple [.str "not", .tuple [.str "not", .none]], .tuple [.str "some", q.d, .str "", q.d], .tuple [.str "some", q.d, .none, q.d]]
def odds (q : Qn) : List PyData := odds1 ++ odds2 ++ odds3 ++ odds4 q ++ odds5 q
def arounds1 (q : Qn) (i : PyData) : List PyData := [.tuple [.str "not", i], .tuple [.str "both", q.d, i], .tuple [.str "some", i, .str "b", q.d]]
def arounds2 (q : Qn) (i : PyData) : List PyData := [.tuple [.str "some", q.d, .str "b", i], q.d]
section
variable {γ : Type} {K : PySem.W.Frag} {S : γ → L2.St → Hp → Prop} {q : Qn} {σ : L2.St} {H : Hp} {Q : VK}
theorem items_ne (q : Qn) : qItems q ≠ [] := by cases q <;> simp [qItems]
theorem items_few (q : Qn) : (qItems q).length ≤ 4 := by cases q <;> simp [qItems]
theorem at_list (hS1 : ∀ c σ B, S c σ B → ∃ a xs, σ[1]? = some (some (.ref a)) ∧ SqT K B a xs ∧ Das K B xs (qItems q)) (h : tD K S (fun _ => .list (qItems q)) σ H Q) :
    tCB (fun xs H Q => ∃ p ys, xs = [.ref p] ∧ (SqL K H p ys ∨ SqT K H p ys) ∧ ∀ l, H l = none → Q (.ref l) (upd H l (.lst ys))) (tCons (tVar 1) tNil) σ H Q := by
  obtain ⟨c, B, p, m, hP, hs, k⟩ := h
  obtain ⟨a, xs, e1, e2, e3⟩ := hS1 c σ B hs
  refine ⟨_, e1, a, xs, rfl, .inr (ex_t hP.ex e2), fun l hl => ?_⟩
  obtain ⟨hP2, x2, e4⟩ := hP.new (o := .lst xs) hl
  exact k _ _ _ x2 hP2 (.lst (SqL.of e4) (e3.up x2))
theorem at_more (hS1 : ∀ c σ B, S c σ B → ∃ a xs, σ[1]? = some (some (.ref a)) ∧ SqT K B a xs ∧ Das K B xs (qItems q)) (h : tD K S (fun _ => .tuple (qItems q ++ [dAny])) σ H Q) :
    tOp (rCatT K) (tVar 1) (tTup (tCons (tTup (tCons (tC (.str "any")) tNil)) tNil)) σ H Q := by
  obtain ⟨c, B, p, m, hP, hs, k⟩ := h
  obtain ⟨a, xs, e1, e2, e3⟩ := hS1 c σ B hs
  have hl := e3.len
  have hn := items_ne q
  have hf := items_few q
  refine ⟨_, e1, by decide, fun l1 n1 => ?_⟩
  obtain ⟨hP1, x1, f1⟩ := hP.new (o := .tup [.str "any"]) n1
  refine ⟨Nat.le_trans (Nat.le_refl 1) (by decide), fun l2 n2 => ?_⟩
  obtain ⟨hP2, x2, f2⟩ := hP1.new (o := .tup [.ref l1]) n2
  refine ⟨a, l2, xs, [.ref l1], rfl, rfl, ex_t hP2.ex (ex_t x2 (ex_t x1 e2)), SqT.of (hP2.ex _ _ f2), fun z => by rw [z] at hl; exact hn (List.eq_nil_of_length_eq_zero hl.symm), ?_, (fun z => nomatch z), fun _ l3 n3 => ?_⟩
  · rw [hl]; exact Nat.le_trans (Nat.add_le_add_right hf 1) (by decide)
  · obtain ⟨hP3, x3, f3⟩ := hP2.new (o := .tup (xs ++ [.ref l1])) n3
    refine k _ _ _ ((x1.trans x2).trans x3) hP3 (.tup (st_of f3) (Das.app (e3.up ((x1.trans x2).trans x3)) (.cons (.tup (st_of (x3 _ _ (x2 _ _ f1))) (.cons (.str _) .nil)) .nil)))
end
theorem odds_len (q : Qn) : (odds q).length = 30 := rfl
def AllF (n c : Nat) (ds : List PyData) : Prop := ∀ d ∈ ds, Fit n c d
theorem AllF.nil {n c : Nat} : AllF n c [] := fun d h => by cases h
theorem AllF.cons {n c : Nat} {d : PyData} {ds : List PyData} (h : Fit n c d) (t : AllF n c ds) : AllF n c (d :: ds) := fun e he => by
  rcases List.mem_cons.mp he with rfl | he
  · exact h
  · exact t e he
theorem AllF.app {n c : Nat} {a b : List PyData} (h : AllF n c a) (t : AllF n c b) : AllF n c (a ++ b) := fun e he => (List.mem_append.mp he).elim (h e) (t e)
theorem FitQs.app {n c c' : Nat} : ∀ {a b : List PyData}, FitQs n c a → FitQs n c' b → FitQs n (c + c') (a ++ b)
  | a, b, ⟨h1, h2, h3, h4, h5, h6, h7⟩, ⟨g1, g2, g3, g4, g5, g6, g7⟩ => by
    have e1 : ∀ a : List PyData, M.hks (a ++ b) = (M.hks a && M.hks b) := fun a => by induction a with
      | nil => rfl
      | cons x a ih => simp only [List.cons_append, M.hks, ih, Bool.and_assoc]
    have e2 : ∀ a : List PyData, M.sms (a ++ b) = (M.sms a && M.sms b) := fun a => by induction a with
      | nil => rfl
      | cons x a ih => simp only [List.cons_append, M.sms, ih, Bool.and_assoc]
    have e4 : ∀ a : List PyData, PyData.depthAll (a ++ b) = max (PyData.depthAll a) (PyData.depthAll b) := fun a => by induction a with
      | nil => simp [PyData.depthAll]
      | cons x a ih => simp only [List.cons_append, PyData.depthAll, ih, Nat.max_assoc]
    have e5 : ∀ a : List PyData, PyData.showableAll (a ++ b) = (PyData.showableAll a && PyData.showableAll b) := fun a => by induction a with
      | nil => rfl
      | cons x a ih => simp only [List.cons_append, PyData.showableAll, ih, Bool.and_assoc]
    have e6 : ∀ a : List PyData, PyData.leavesShortAll 8 (a ++ b) = (PyData.leavesShortAll 8 a && PyData.leavesShortAll 8 b) := fun a => by induction a with
      | nil => rfl
      | cons x a ih => simp only [List.cons_append, PyData.leavesShortAll, ih, Bool.and_assoc]
    have e7 : ∀ a : List PyData, PyData.bulkAll (a ++ b) = PyData.bulkAll a + PyData.bulkAll b := fun a => by induction a with
      | nil => simp [PyData.bulkAll]
      | cons x a ih => simp only [List.cons_append, PyData.bulkAll, ih]; omega
    exact ⟨by rw [e1, h1, g1]; rfl, by rw [e2, h2, g2]; rfl, by rw [ndss_app]; omega, by rw [e4]; omega, by rw [e5, h5, g5]; rfl, by rw [e6, h6, g6]; rfl, by rw [e7]; omega⟩
theorem Fit.inv {n c : Nat} {ds : List PyData} (h : Fit (n + 1) c (.tuple ds)) : FitQs n c ds := by
  obtain ⟨h1, h2, h3, h4, h5, h6, h7⟩ := h
  rw [M.hk, Bool.and_eq_true] at h1
  rw [M.sm] at h2
  rw [M.nds] at h3
  rw [PyData.depth] at h4
  rw [PyData.showable] at h5
  rw [PyData.leavesShort] at h6
  rw [PyData.bulk] at h7
  exact ⟨h1.2, h2, by omega, by omega, h5, h6, by omega⟩
theorem fits_items {n : Nat} {q : Qn} (h : q.Ok) (hp : q.parts ≤ 40) (hn : 40 ≤ n) : FitQs n 160 (qItems q) := by
  have := fit_qn (n := n + 1) h hp (by omega)
  rw [q_items] at this
  exact this.inv
theorem odds_fit {q : Qn} (h : q.Ok) (hp : q.parts ≤ 40) : AllF 44 800 (odds q) := by
  have hq : ∀ n, 40 ≤ n → Fit n 160 q.d := fun n hn => fit_qn h hp hn
  have e0 : hd0 (qItems q ++ [dAny]) = true := by cases q <;> rfl
  have e1 : hd0 [q.d] = true := by cases q <;> rfl
  unfold odds odds1 odds2 odds3 odds4 odds5
  simp only [List.cons_append, List.nil_append]
  have sh : ∀ {d : PyData} {ds : List PyData}, (∃ c, Fit 44 c d ∧ c ≤ 800) → AllF 44 800 ds → AllF 44 800 (d :: ds) := fun ⟨c, h, hc⟩ t => .cons (h.mono (Nat.le_refl _) hc) t
  iterate 30 (refine sh ⟨_, by (repeat (first
    | exact fit_non | exact fit_bl | exact fit_int rfl (by decide +kernel) | exact fit_str (by decide) rfl | exact fit_dct | exact hq _ (by decide) | exact FitQs.nil | exact fits_items h hp (by decide)
    | apply Fit.tup e0 | apply Fit.tup e1 | apply Fit.tup rfl | apply Fit.lst | apply FitQs.app (fits_items h hp (by decide)) | apply FitQs.cons)), by decide⟩ ?_)
  exact AllF.nil
end M
namespace M
open PySem L2 Evl
open PyProof.Rows hiding St
def sp_lisq (K : PySem.W.Frag) (n : Nat) : Sp := fun vs H Q _ => ∃ (H0 : Hp) (v : V) (d : PyData), vs = [v] ∧ Ex H0 H ∧ Da K H0 v d ∧ hk d = true ∧ sm d = true ∧ nds d ≤ 10000 ∧ d.depth < n ∧
  ∀ (b : Bool) (H' : Hp), Ex H H' → (b = true ↔ IsQ d) → Q (.bl b) H'
def sp_odd (K : PySem.W.Frag) : Sp := fun vs H Q _ => ∃ (H0 : Hp) (p : Addr) (m : Nat) (v : V) (q : Qn), vs = [.ref p, v] ∧ Pl H0 H p m ∧ m + 20 ≤ 2 ^ 20 ∧ Dp K H0 v q.d ∧ q.Ok ∧ q.parts ≤ 40 ∧
  ∀ (d : PyData) (v' : V) (H1 H' : Hp), Ex H0 H1 → Pl H1 H' p (m + 4) → Da K H1 v' d → Fit 48 2000 d → okr d = true → Q v' H'
end M
namespace M
open PySem L2 Evl
open PyProof.Rows hiding St
def Wd (z : Str) (j : Int) : Prop := (z = "any" ∧ j = 1) ∨ (z = "not" ∧ j = 2) ∨ (z = "both" ∧ j = 3) ∨ (z = "some" ∧ j = 4)
def words4 : List Str := ["any", "not", "both", "some"]
theorem form_in {d0 : PyData} {ds : List PyData} (h : HasForm (.tuple (d0 :: ds))) : inT d0 ["any", "not", "both", "some"] = true := by
  obtain ⟨z, es, e⟩ := form_tup h
  cases e
  unfold HasForm at h
  split at h
  · rename_i e; cases e; subst h; decide +kernel
  · rename_i e; cases e; subst h; decide +kernel
  · rename_i e; cases e; subst h; decide +kernel
  · rename_i e; cases e; rw [h.1]; decide +kernel
  · exact h.elim
def kv4 : List (Key × V) := [(.inr "any", .int 1), (.inr "not", .int 2), (.inr "both", .int 3), (.inr "some", .int 4)]
theorem inT_cases {d0 : PyData} (h : inT d0 ["any", "not", "both", "some"] = true) : ∃ (z : Str) (j : Int), d0 = .str z ∧ valV (mergeK [] kv4) (.inr z) = some (.int j) ∧ Wd z j := by
  cases d0 with
  | str z =>
    have h' : (("any" : Str) == z || (("not" : Str) == z || (("both" : Str) == z || (("some" : Str) == z || false)))) = true := h
    simp only [Bool.or_eq_true, beq_iff_eq, Bool.or_false] at h'
    rcases h' with rfl | rfl | rfl | rfl
    · exact ⟨_, 1, rfl, rfl, .inl ⟨rfl, rfl⟩⟩
    · exact ⟨_, 2, rfl, rfl, .inr (.inl ⟨rfl, rfl⟩)⟩
    · exact ⟨_, 3, rfl, rfl, .inr (.inr (.inl ⟨rfl, rfl⟩))⟩
    · exact ⟨_, 4, rfl, rfl, .inr (.inr (.inr ⟨rfl, rfl⟩))⟩
  | _ => cases h
end M
namespace M
open PySem L2 Evl
open PyProof.Rows hiding St
theorem form_len {z : Str} {j : Int} {ds : List PyData} (w : Wd z j) (h : HasForm (.tuple (.str z :: ds))) : ((ds.length : Nat) : Int) + 1 = j := by
  have e := form_size h
  have e2 : (((ds.length + 1 : Nat)) : Int) = (ds.length : Int) + 1 := by omega
  rw [← e2, ← e]
  rcases w with ⟨rfl, rfl⟩ | ⟨rfl, rfl⟩ | ⟨rfl, rfl⟩ | ⟨rfl, rfl⟩ <;> decide +kernel
theorem wd_some {j : Int} (w : Wd "some" j) : j = 4 := by
  rcases w with ⟨h, _⟩ | ⟨h, _⟩ | ⟨h, _⟩ | ⟨_, h⟩
  · exact absurd h (by decide +kernel)
  · exact absurd h (by decide +kernel)
  · exact absurd h (by decide +kernel)
  · exact h
theorem depth_mem : ∀ {ds : List PyData} {d : PyData}, d ∈ ds → d.depth ≤ PyData.depthAll ds
  | x :: ds, d, h => by
    rw [PyData.depthAll]
    rcases List.mem_cons.mp h with rfl | h
    · exact Nat.le_max_left _ _
    · exact Nat.le_trans (depth_mem h) (Nat.le_max_right _ _)
theorem nds_mem : ∀ {ds : List PyData} {d : PyData}, d ∈ ds → nds d ≤ ndss ds
  | x :: ds, d, h => by
    rw [ndss]
    rcases List.mem_cons.mp h with rfl | h
    · exact Nat.le_add_right _ _
    · exact Nat.le_trans (nds_mem h) (Nat.le_add_left _ _)
/-- what a part needs, to be judged -/
theorem part_ok {n : Nat} {ds : List PyData} (h1 : hk (.tuple ds) = true) (h2 : sm (.tuple ds) = true) (h3 : nds (.tuple ds) ≤ 10000) (h4 : (PyData.tuple ds).depth < n + 1) : ∀ d ∈ ds, hk d = true ∧ sm d = true ∧ nds d ≤ 10000 ∧ d.depth < n := by
  intro d hd
  rw [hk, Bool.and_eq_true] at h1
  rw [sm] at h2
  rw [nds] at h3
  rw [PyData.depth] at h4
  have := nds_mem hd
  have := depth_mem hd
  exact ⟨hks_mem h1.2 d hd, sms_mem h2 d hd, by omega, by omega⟩
theorem abc_mem (c : Nat) : c ∈ ("abcdefghijklmnopqrstuvwxyz" : Str).cps.toList ↔ 97 ≤ c ∧ c ≤ 122 := by
  have e : ("abcdefghijklmnopqrstuvwxyz" : Str).cps.toList = List.range' 97 26 := by decide +kernel
  rw [e, List.mem_range'_1]
  omega
theorem isQ_some {a b : PyData} {c : Nat} (h : 97 ≤ c ∧ c ≤ 122) : IsQ (.tuple [.str "some", a, .str ⟨#[c]⟩, b]) ↔ IsQ a ∧ IsQ b := by
  rw [isQ_form]
  constructor
  · rintro ⟨_, h⟩
    exact ⟨h _ (by simp [inner]), h _ (by simp [inner])⟩
  · rintro ⟨h1, h2⟩
    refine ⟨⟨rfl, c, rfl, h⟩, fun x hx => ?_⟩
    simp [inner] at hx
    rcases hx with rfl | rfl
    · exact h1
    · exact h2
theorem isQ_few {z : Str} {j : Int} {ds : List PyData} (w : Wd z j) (hn : z ≠ "some") (hl : ((ds.length : Nat) : Int) + 1 = j) : (IsQ (.tuple (.str z :: ds)) ↔ ∀ x ∈ ds, IsQ x) ∧ ds.length ≤ 2 := by
  rw [isQ_form]
  rcases w with ⟨rfl, rfl⟩ | ⟨rfl, rfl⟩ | ⟨rfl, rfl⟩ | ⟨rfl, rfl⟩
  · match ds, hl with
    | [], _ => exact ⟨⟨fun _ x hx => (nomatch hx), fun _ => ⟨rfl, fun x hx => (nomatch hx)⟩⟩, by decide⟩
    | _ :: _, h => simp only [List.length_cons] at h; omega
  · match ds, hl with
    | [a], _ => exact ⟨⟨fun h x hx => h.2 x hx, fun h => ⟨rfl, fun x hx => h x hx⟩⟩, by simp⟩
    | [], h | _ :: _ :: _, h => simp only [List.length_cons, List.length_nil] at h; omega
  · match ds, hl with
    | [a, b], _ => exact ⟨⟨fun h x hx => h.2 x hx, fun h => ⟨rfl, fun x hx => h x hx⟩⟩, by simp⟩
    | [], h | [_], h | _ :: _ :: _ :: _, h => simp only [List.length_cons, List.length_nil] at h; omega
  · exact absurd rfl hn
end M
namespace M
open PySem L2 Evl
open PyProof.Rows hiding St
theorem dpa_ones (K : PySem.W.Frag) (H : Hp) : ∀ c : Nat, DpAll K H (List.replicate c (.int 1)) (List.replicate c (.int 1))
  | 0 => .nil
  | c + 1 => .cons (.int 1) (dpa_ones K H c)
theorem ones_eq {c : Nat} (h : c ≤ 2) : SeqAt.shaped (.list (List.replicate c (.int 1))) = true ∧ PyData.eqv (.list (List.replicate c (.int 1))) (.list []) = decide (c = 0) := by
  rcases (by omega : c = 0 ∨ c = 1 ∨ c = 2) with rfl | rfl | rfl <;> exact ⟨by decide +kernel, by decide +kernel⟩
end M
namespace M
open PySem L2 Evl
open PyProof.Rows hiding St
theorem arounds_fit {q : Qn} {d : PyData} (h : q.Ok) (hp : q.parts ≤ 40) (hd : Fit 44 800 d) : AllF 48 2000 (arounds1 q d ++ arounds2 q d) := by
  have hq : ∀ n, 40 ≤ n → Fit n 160 q.d := fun n hn => fit_qn h hp hn
  have h0 : ∀ n, 44 ≤ n → Fit n 800 d := fun n hn => hd.mono hn (Nat.le_refl _)
  unfold arounds1 arounds2
  simp only [List.cons_append, List.nil_append]
  have sh : ∀ {d : PyData} {ds : List PyData}, (∃ c, Fit 48 c d ∧ c ≤ 2000) → AllF 48 2000 ds → AllF 48 2000 (d :: ds) := fun ⟨c, h, hc⟩ t => .cons (h.mono (Nat.le_refl _) hc) t
  iterate 5 (refine sh ⟨_, by (repeat (first
    | exact fit_str (by decide) rfl | exact hq _ (by decide) | exact h0 _ (by decide) | exact FitQs.nil
    | apply Fit.tup rfl | apply FitQs.cons)), by decide⟩ ?_)
  exact AllF.nil
end M
namespace M
open PySem L2 Evl
open PyProof.Rows hiding St
theorem iff_bool {a b : Bool} {p : Prop} (h1 : a = true ↔ p) (h2 : b = true ↔ p) : a = b := by
  cases a <;> cases b <;> simp_all
def db2 (b : Bool) : PyData := .list [.bool b, .bool b]
theorem shw_db (b : Bool) : Shw (db2 b) := by cases b <;> exact ⟨by decide +kernel, by decide +kernel, by decide +kernel, by decide +kernel⟩
def heads : List PyData := [.list [], .list [.str "any"], .dict [], .tuple [.str "any"], .int 0, .none, .bool true]
theorem heads_str : ∀ d ∈ heads, strB d = false := by
  intro d h
  simp only [heads, List.mem_cons, List.not_mem_nil, or_false] at h
  rcases h with rfl | rfl | rfl | rfl | rfl | rfl | rfl <;> rfl
theorem heads_sm : ∀ d ∈ heads, sm d = true ∧ nds d ≤ 10 := by
  intro d h
  simp only [heads, List.mem_cons, List.not_mem_nil, or_false] at h
  rcases h with rfl | rfl | rfl | rfl | rfl | rfl | rfl <;> exact ⟨by decide +kernel, by decide +kernel⟩
theorem not_isQ {d : PyData} {ds : List PyData} (h : strB d = false) : ¬ IsQ (.tuple (d :: ds)) := fun z => by
  obtain ⟨y, es, e⟩ := form_tup (isQ_form.mp z).1
  cases e
  cases h
theorem not_isQ2 {d : PyData} {ds : List PyData} (h : strB d = false) : ¬ IsQ (.tuple [.str "not", .tuple (d :: ds)]) := fun z => by
  have := (isQ_form.mp z).2 (.tuple (d :: ds)) (by show _ ∈ [PyData.tuple (d :: ds)]; exact List.mem_cons_self)
  exact not_isQ h this
end M
namespace M
open PySem L2 Evl
open PyProof.Rows hiding St
theorem q_plain : ∀ q : Qn, q.d.hasDict = false ∧ lf q.d = true
  | .any => ⟨rfl, rfl⟩
  | .no q => by
    obtain ⟨h1, h2⟩ := q_plain q
    exact ⟨by simp only [Qn.d, PyData.hasDict, PyData.hasDictAll, h1]; rfl, by simp only [Qn.d, lf, lfs, h2]; rfl⟩
  | .both a b => by
    obtain ⟨h1, h2⟩ := q_plain a
    obtain ⟨g1, g2⟩ := q_plain b
    exact ⟨by simp only [Qn.d, PyData.hasDict, PyData.hasDictAll, h1, g1]; rfl, by simp only [Qn.d, lf, lfs, h2, g2]; rfl⟩
  | .some a c b => by
    obtain ⟨h1, h2⟩ := q_plain a
    obtain ⟨g1, g2⟩ := q_plain b
    exact ⟨by simp only [Qn.d, PyData.hasDict, PyData.hasDictAll, h1, g1]; rfl, by simp only [Qn.d, lf, lfs, h2, g2]; rfl⟩
def AllO (ds : List PyData) : Prop := ∀ d ∈ ds, okr d = true
theorem AllO.nil : AllO [] := fun d h => by cases h
theorem AllO.cons {d : PyData} {ds : List PyData} (h : okr d = true) (t : AllO ds) : AllO (d :: ds) := fun e he => by
  rcases List.mem_cons.mp he with rfl | he
  · exact h
  · exact t e he
theorem odds_okr (q : Qn) : AllO (odds q) := by
  obtain ⟨h1, h2⟩ := q_plain q
  have h3 : PyData.hasDictAll (qItems q) = false := by
    rw [q_items] at h1
    simpa [PyData.hasDict] using h1
  have h5 : PyData.hasDictAll (qItems q ++ [dAny]) = false := by
    have : ∀ l : List PyData, PyData.hasDictAll l = false → PyData.hasDictAll (l ++ [dAny]) = false := fun l => by
      induction l with
      | nil => intro _; rfl
      | cons x l ih =>
        intro h
        simp only [PyData.hasDictAll, Bool.or_eq_false_iff, List.cons_append] at h ⊢
        exact ⟨h.1, ih h.2⟩
    exact this _ h3
  unfold odds odds1 odds2 odds3 odds4 odds5
  simp only [List.cons_append, List.nil_append]
  iterate 30 (refine AllO.cons (by first | rfl | (simp only [okr, PyData.hasDict, PyData.hasDictAll, h1, h3, h5]; rfl)) ?_)
  exact AllO.nil
theorem arounds_okr {q : Qn} {d : PyData} (hd : okr d = true) : AllO (arounds1 q d ++ arounds2 q d) := by
  obtain ⟨h1, h2⟩ := q_plain q
  have hd' : d.hasDict = false ∨ lf d = true := by
    unfold okr at hd
    cases h : d.hasDict with
    | false => exact .inl rfl
    | true => rw [h] at hd; exact .inr hd
  unfold arounds1 arounds2
  simp only [List.cons_append, List.nil_append]
  rcases hd' with h0 | h0
  · iterate 5 (refine AllO.cons (by simp only [okr, PyData.hasDict, PyData.hasDictAll, h1, h0]; rfl) ?_)
    exact AllO.nil
  · iterate 5 (refine AllO.cons (by simp only [okr, lf, lfs, h2, h0, Bool.and_self, Bool.or_true]) ?_)
    exact AllO.nil
end M
end

section
set_option Elab.async false
set_option linter.all false
set_option maxRecDepth 100000
set_option maxHeartbeats 4000000
/-! exceptions made by keyword, kept as values, asked for their class and value -/
namespace PySem
namespace M2
open PySem.W PySem.Calls PyProof.Rows PySem.HandSPX
section
variable {prog : Program} {w : World} {M : Model} {A : Around} {E : Value → Shared → Prop} {R : Result → Shared → Prop} {h : Heap} {g : Array GenState} {d : Drawn} {t : Nat} {os : OsState}
variable {nm q : Str} {C N : Addr} {bs bm bmB : List Value} {hdct : Bool} {sn : List Str} {sub : List Value} {ab : Bool} {col : Option Bool} {dd : Option Addr} {k0 k1 k2 k3 k5 : Option Value} {B newId initId : String}
theorem check_new_kw (F : ExcBaseFacts B newId initId bmB) (hT : ∀ X : String, bm.contains (.type X) = bmB.contains (.type X)) {rest : List Value} {kw : List (Str × Value)} {Q : Unit → Shared → Prop}
    (hC : h.get? C = some (excClassObj nm q C N bs bm hdct sn sub ab col dd k0 k1 k2 k3 k5 newId)) (hq : Q () ⟨h, g, d, t, os⟩) : wpAny M A (checkBuiltinCall newId ⟨.ref C :: rest, kw⟩) Q E ⟨h, g, d, t, os⟩ := by
  have hcont : (Value.ref C :: bm).contains (.type B) = true := by rw [List.contains_cons, hT, F.hasB, Bool.or_true]
  have hstar := F.noStar
  simp only [checkBuiltinCall, F.newKind, F.newSplit, F.newRow]
  repeat (first | refine wpAny_loadPart_at hC ?_ | (refine wpAny_isSubtype_exc hC ?_; rw [hcont]) | refine wpAny_staticBase_exc hC ?_ | refine wpAny_madeBy_exc hC ?_ | simp only [bne_self_eq_false, Bool.false_eq_true, if_false] | wp_step)
  exact hq
theorem check_tc_kw {rest : List Value} {kw : List (Str × Value)} {Q : Unit → Shared → Prop} (hC : h.get? C = some (excClassObj nm q C N bs bm hdct sn sub ab col dd k0 k1 k2 k3 k5 newId))
    (hq : Q () ⟨h, g, d, t, os⟩) : wpAny M A (checkBuiltinCall "type.__call__" ⟨.ref C :: rest, kw⟩) Q E ⟨h, g, d, t, os⟩ := by
  have f3 := tc_sub
  have hT : (⟨h, g, d, t, os⟩ : Shared).TypeIs (.ref C) "type" := ⟨_, hC, rfl⟩
  simp only [checkBuiltinCall, tc_kind, tc_split]
  repeat (any_goals (first | assumption | with_reducible refine wpAny_loadPart_at hC ?_ | with_reducible refine wpAny_onRaise ?_ | with_reducible refine wpAny_map ?_ | wp_step))
theorem new_kw (F : ExcBaseFacts B newId initId bmB) (hT : ∀ X : String, bm.contains (.type X) = bmB.contains (.type X)) {rest : List Value} {kw : List (Str × Value)}
    (hC : h.get? C = some (excClassObj nm q C N bs bm hdct sn sub ab col dd k0 k1 k2 k3 k5 newId))
    (hq : R (.ok (.ret (.ref (h.objs.size + 1)))) ⟨(h.push { cls := .type "tuple", data := .seq rest.toArray }).push
      { cls := .ref C, data := .fields #[.ref h.objs.size, .none, .none, .none, .bool false, .none] }, g, d, t, os⟩) (hrest : rest.length ≤ sizeLine) :
    codeAny (model prog w) A (.builtin newId ⟨.ref C :: rest, kw⟩) R ⟨h, g, d, t, os⟩ := by
  have hends := F.ends
  have hcB : (Value.ref C :: bm).contains (.type B) = true := by rw [List.contains_cons, hT, F.hasB, Bool.or_true]
  have hcA : (Value.ref C :: bm).contains (.type "AttributeError") = false := by rw [List.contains_cons, hT, F.noAttr]; rfl
  have hcN : (Value.ref C :: bm).contains (.type "NameError") = false := by rw [List.contains_cons, hT, F.noName]; rfl
  refine codeAny_builtinAt F.entry ?_
  unfold Builtin.«BaseException.__new__»
  refine wpAt_bind ?_
  show wpAt _ _ _ (stack >>= _) _ _ _
  refine wpAt_bind (wpAt_stack fun p below => wpAt_of_wpAny ?_)
  wp_walk
  refine wpAt_of_wpAny ?_
  rw [F.owner]
  repeat (first | with_reducible refine wpAny_madeHere_exc F.canon hC ?_ | with_reducible refine wpAny_loadPart_at hC ?_ | (with_reducible refine wpAny_isSubtype_exc hC ?_; first | rw [hcB] | rw [hcA] | rw [hcN]) | wp_step)
  show R _ _
  rw [Heap.size_push]
  exact hq
theorem type_call_kw (F : ExcBaseFacts B newId initId bmB) (hT : ∀ X : String, bm.contains (.type X) = bmB.contains (.type X)) {rest : List Value} {kw : List (Str × Value)} {fI : Addr} {Q : Fin → Shared → Prop}
    (hC : h.get? C = some (excClassObj nm q C N bs bm hdct sn sub ab col dd k0 k1 k2 k3 k5 newId))
    (hi : W.Looks (model prog w) h (typeLookup (.ref C) "__init__") (some (.ref fI))) (hb : ∀ self, W.Looks (model prog w) h (bindSpecial (.ref fI) self) (.ref fI, [self])) (hrest : rest.length ≤ sizeLine)
    (hq : codeAny (model prog w) A (.call (.ref fI) ⟨.ref (h.objs.size + 1) :: rest, kw⟩)
      (fun r s' => match r with | .ok (.ret v) => v = .none ∧ Q (.done (.ret (.ref (h.objs.size + 1)))) s' | .ok _ => False | .error e => E e s')
      ⟨(h.push (W.kdv_tup rest)).push (excO C h.objs.size), g, d, t, os⟩) :
    wpAny (model prog w) A (Builtin.«type.__call__» ⟨.ref C :: rest, kw⟩) Q E ⟨h, g, d, t, os⟩ := by
  repeat (first | with_reducible refine wpAny_loadPart_at hC ?_ | with_reducible refine wpAny_madeBy_exc hC ?_ | wp_step)
  refine codeAny_call_builtin_code (Code.quiet_builtin _ F.quiet) (check_new_kw F hT hC ?_)
  refine new_kw F hT hC ?_ hrest
  show wpAny _ _ _ _ _ _
  have k : ∀ b o, h.get? b = some o → ((h.push (W.kdv_tup rest)).push (excO C h.objs.size)).get? b = some o := fun b o e => Heap.get?_push_of_some _ (Heap.get?_push_of_some _ e)
  have hC₁ := k _ _ hC
  have hget : ((h.push (W.kdv_tup rest)).push (excO C h.objs.size)).get? (h.objs.size + 1) = some (excO C h.objs.size) := by heap_get
  have hcC : (Value.ref C :: bm).contains (.ref C) = true := by simp
  have i1 := hi.keeps k
  have b1 := (hb (.ref (h.objs.size + 1))).keeps k
  unfold isInstance
  repeat (first | with_reducible refine wpAny_loadPart_at hget ?_ | (with_reducible refine wpAny_isSubtype_exc hC₁ ?_; rw [hcC]) | wp_step)
  show wpAny _ _ (typeLookup (.ref C) _) _ _ _
  refine i1.at ?_
  refine wpAny_holding (wpAny_bind (b1.at ?_))
  refine wpAny_bind (wpAny_call (codeAny_mono hq fun r s' z => ?_))
  rcases r with e | (v | _ | _ | _) <;> first | exact z | exact z.elim | skip
  obtain ⟨rfl, z⟩ := z
  first
    | exact wpAny_pure (wpAny_pure z)
    | (wp_walk; exact z)
theorem call_kw (F : ExcBaseFacts B newId initId bmB) (hT : ∀ X : String, bm.contains (.type X) = bmB.contains (.type X)) {rest : List Value} {kw : List (Str × Value)} {fI : Addr}
    (hC : h.get? C = some (excClassObj nm q C N bs bm hdct sn sub ab col dd k0 k1 k2 k3 k5 newId))
    (hi : W.Looks (model prog w) h (typeLookup (.ref C) "__init__") (some (.ref fI))) (hb : ∀ self, W.Looks (model prog w) h (bindSpecial (.ref fI) self) (.ref fI, [self])) (hrest : rest.length ≤ sizeLine)
    (hq : codeAny (model prog w) (A.under (.builtin "type.__call__" ⟨.ref C :: rest, kw⟩)) (.call (.ref fI) ⟨.ref (h.objs.size + 1) :: rest, kw⟩) (W.InitBack (h.objs.size + 1) R)
      ⟨(h.push (W.kdv_tup rest)).push (excO C h.objs.size), g, d, t, os⟩) :
    codeAny (model prog w) A (.call (.ref C) ⟨rest, kw⟩) R ⟨h, g, d, t, os⟩ := by
  have f1 := tc_lookup
  have f2 := tc_bind (.ref C)
  have hTy : (⟨h, g, d, t, os⟩ : Shared).TypeIs (.ref C) "type" := ⟨_, hC, rfl⟩
  refine codeAny_of_tree ?_
  show wpAny _ _ (callAny (.ref C) _) _ _ _
  repeat (any_goals (first | assumption | with_reducible refine wpAny_loadPart_at hC ?_ | wp_step))
  refine ⟨rfl, ?_⟩
  refine codeAny_call_builtin_at (Code.quiet_builtin _ (by decide +kernel)) entry_typeCall (check_tc_kw hC (type_call_kw F hT hC hi hb hrest ?_))
  refine codeAny_mono hq fun r s' z => ?_
  rcases r with e | (v | _ | _ | _) <;> exact z
end
end M2
end PySem
end

section
set_option Elab.async false
set_option linter.all false
set_option maxRecDepth 100000
set_option maxHeartbeats 4000000
/-! .. as values: made, asked for their class, read -/
namespace M
open PySem L2 Evl
open PyProof.Rows hiding St
/-- what the constants say of an exception's class whose __init__ is the def at fI -/
structure XC (K : PySem.W.Frag) (C fI : Addr) : Prop where
  ox : OexC K C
  ini : PySem.W.findIn K (.ref C) "__init__" = some (some (.ref fI))
  fn : PySem.W.typeIn K (.ref fI) = some (.type "function")
  noV : PySem.W.findIn K (.ref C) "value" = some none
  cl : (PySem.W.clsIn K C).isSome = true
  ga : PySem.W.findIn K (.ref C) "__getattribute__" = some (some (.builtin "BaseException.__getattribute__"))
  gt : PySem.W.findIn K (.ref C) "__getattr__" = some none
  sb : PySem.W.subIn K (.ref C) (.type "BaseException") = some true
  hd : PySem.W.hasDictIn K C = true
  ca : PySem.W.findIn K (.ref C) "__class__" = some (some (.builtin "object.__class__"))
  ng : PySem.W.specialIn K (.builtin "object.__class__") "__get__" = some (some (.builtin "getset_descriptor.__get__"))
  tk : PySem.W.takesIn K (.builtin "object.__class__") = some true
  mr : PySem.W.mroIn K C (.type "object") = some true
/-- at a: an exception of the class at C that keeps x -/
def XAt (H : Hp) (a C : Addr) (x : V) : Prop := ∃ d, H a = some (exo a C (some d)) ∧ H d = some (exd d [("value", x)])
theorem XAt.up {H H' : Hp} {a C : Addr} {x : V} (h : XAt H a C x) (e : Ex H H') : XAt H' a C x := by
  obtain ⟨d, h1, h2⟩ := h
  exact ⟨d, e _ _ h1, e _ _ h2⟩
def sp_init (K : PySem.W.Frag) : Sp := fun vs H Q _ => ∃ (a C fI : Addr) (x : V), vs = [.ref a, x] ∧ XC K C fI ∧ H a = some (exo a C none) ∧
  ∀ d, H d = none → d ≠ a → Q .non (upd (upd H d (exd d [("value", x)])) a (exo a C (some d)))
/-- the exception's value -/
def tVal (K : PySem.W.Frag) (te : TE) : TE := fun σ H Q => te σ H fun v H1 => ∃ a C fI x, v = .ref a ∧ XC K C fI ∧ XAt H1 a C x ∧ Q x H1
section
variable {X : Cx} {pins : List (Addr × Obj)} {σ : L2.St} {H : Hp} {s : Shared} {a C fI : Addr} {x : V}
theorem xat_look (I : Inv X pins σ H s) (h : XAt H a C x) : ∃ (ox od : Obj) (u : Value), PySem.W.InstAt s.heap a ox C (some od) ∧ PySem.W.lookIn "value" od = some (some u) ∧ RelV x u := by
  obtain ⟨d, h1, h2⟩ := h
  obtain ⟨t1, ho⟩ := exo_at I.hok h1
  obtain ⟨mA, hn, rel⟩ := exd_at I.hok h2
  obtain ⟨od, e1, e2⟩ := lookIn_ns hn
  have r := rel "value"
  rw [show List.lookup ("value" : Str) [(("value" : Str), x)] = some x by simp [List.lookup]] at r
  obtain ⟨u, eu, ru⟩ := RelO.some_of r
  exact ⟨_, od, u, ⟨ho, rfl, rfl, e1⟩, by rw [e2, eu], ru⟩
theorem pe_val {e : Expr} {te : TE} {pos : Pos} (he : PE X e te) (hb : attributeBase e "value" X.env (eval e X.env) = eval e X.env) : PE X (.Attribute e "value" pos) (tVal X.K te) := by
  refine ⟨fun pins s σ H Q I h => ?_⟩
  refine attr_of hb (thn (he.run pins s σ H _ I h) fun u s1 ⟨v, H1, I1, rx, a, C, fI, x, ex, c, hx, q⟩ => ?_)
  subst ex
  obtain rfl : u = Value.ref a := rx
  obtain ⟨ox, od, w, J, l, r⟩ := xat_look I1 hx
  exact PySem.HandSPX.exc_get I1.kIn J c.ga c.gt c.sb (PySem.W.findObj_own c.hd c.noV rfl l) (handed_of r) ⟨x, H1, I1.tok _, r, q⟩
/-- isinstance(e, c), e an exception that is kept -/
def rIsX (K : PySem.W.Frag) : List V → Hp → VK → Prop := fun xs H Q => ∃ (a C fI : Addr) (x c : V) (cv : Value) (b : Bool), xs = [.ref a, c] ∧ XC K C fI ∧ XAt H a C x ∧ (∀ u, RelV c u → u = cv) ∧ PySem.W.kitOne K (.ref C) cv = some b ∧ Q (.bl b) H
theorem call_isX : CallR X (.builtin "isinstance") (rIsX X.K) := by
  intro pins s σ H xs us Q I r h
  obtain ⟨a, C, fI, x, c, cv, b, rfl, k, hx, hcv, e, q⟩ := h
  cases r with
  | cons ra rr =>
    cases rr with
    | cons rc rr =>
      cases rr
      cases ra
      obtain rfl := hcv _ rc
      obtain ⟨ox, od, w, J, _⟩ := xat_look I hx
      exact PySem.W.kia_one (PySem.W.kitx_exc k.cl k.ga k.gt k.sb k.ca k.ng k.tk k.mr) I.kIn J e (fun z => nomatch z) fun tk => ⟨.bl b, H, I.kept (t' := tk) fun _ _ z => z, rfl, q⟩
end
/-! ### C(x), C(value = x) -/
def tMk (C : Addr) (ta : TA) : TE := fun σ H Q => ta σ H fun vs H1 => ∃ x, vs = [x] ∧ ∀ a H2, H1 a = none → Ex H1 H2 → XAt H2 a C x → Q (.ref a) H2
section
variable {X : Cx} {CX : CXT} {k : Nat} {fI C : Addr} {fd : FuncData} {x : Str} {p pos : Pos} {e : Expr} {es : List Expr} {kws : List Keyword} {ta tk : TA} {g : List Value → List Value → List Value} {gV : List V → List V → List V}
theorem made {H : Hp} {a : Addr} {v : V} {Q : VK} (n : H a = none) (q : ∀ a H2, H a = none → Ex H H2 → XAt H2 a C v → Q (.ref a) H2) :
    ∀ d, upd H a (exo a C none) d = none → d ≠ a → (V.non = .non ∧ Q (.ref a) (upd (upd (upd H a (exo a C none)) d (exd d [("value", v)])) a (exo a C (some d)))) := fun d hd ne => by
  have hd0 : H d = none := by rwa [upd_ne ne] at hd
  refine ⟨rfl, q a _ n ?_ ⟨d, upd_same, by rw [upd_ne ne, upd_same]⟩⟩
  exact ((Ex.new n).trans (Ex.new hd)).mut n
theorem run_mk {pins : List (Addr × Obj)} {σ : L2.St} {H : Hp} {s : Shared} {Q : VK} {us ws : List Value} {ks : List Str} {v : V} (T : XC X.K C fI) (F1 : FnOk X.prog X.w X.K X.mg X.base CX k fI fd ["self", "value"] (sp_init X.K)) (hr : Room (k + 1) X.A)
    (hx : Passes CX X (fun _ _ _ => False)) (I : Inv X pins σ H s) (hl : us.length ≤ sizeLine)
    (bd : ∀ (s : Shared) (u : Value), X.K.In s.heap → BindsTo s fd ⟨u :: us, ks.zip ws⟩ ((["self", "value"] : List Str).zip (g (u :: us) ws))) (rel : ∀ (y : V) (u : Value), RelV y u → Vals [y, v] (g (u :: us) ws))
    (h : ∀ a H2, H a = none → Ex H H2 → XAt H2 a C v → Q (.ref a) H2) : wpAny (model X.prog X.w) X.A (call (.ref C) us (ks.zip ws)) (EP X pins σ Q) X.xe s := by
  obtain ⟨nm, q, N, bs, bm, sn, sub, ab, col, dd, k0, k1, k2, k3, k5, hC, hbm⟩ := T.ox.cls
  obtain ⟨hp, g1, dr, tk, os⟩ := s
  have hsz : hp.objs.size ≤ hp.objs.size + 1 := Nat.le_succ _
  have hn : H (hp.objs.size + 1) = none := I.hok.fresh hsz
  have get : ((hp.push (PySem.W.kdv_tup us)).push (PySem.HandSPX.excO C hp.objs.size)).get? (hp.objs.size + 1) = some (PySem.HandSPX.excO C hp.objs.size) := by heap_get
  have I2 : Inv X pins σ (upd H (hp.objs.size + 1) (exo (hp.objs.size + 1) C none)) ⟨(hp.push (PySem.W.kdv_tup us)).push (PySem.HandSPX.excO C hp.objs.size), g1, dr, tk, os⟩ :=
    I.laid (t' := tk) (a := hp.objs.size + 1) (fun b o z => Heap.get?_push_of_some _ (Heap.get?_push_of_some _ z)) hsz (exo_ok get)
  have vals := rel (V.ref (hp.objs.size + 1)) (Value.ref (hp.objs.size + 1)) rfl
  refine wpAny_call (PySem.M2.call_kw F.excBase_ValueError (fun Y => PySem.HandSPX.refsVE_contains Y bm hbm) (I.kIn _ _ hC) (PySem.W.looks_findIn I.kIn T.ini) (fun self => PySem.W.bind_fn I.kIn self T.fn) hl
    (codeAny_mono (F1.run _ X.stack _ _ ⟨Value.ref (hp.objs.size + 1) :: us, ks.zip ws⟩ (g (Value.ref (hp.objs.size + 1) :: us) ws) [V.ref (hp.objs.size + 1), v] (fun r H2 => r = .non ∧ Q (.ref (hp.objs.size + 1)) H2) (fun _ _ _ => False) (hr.make C us (ks.zip ws)) (I2.env0.make C us (ks.zip ws))
      (bd _ _ I2.kIn) vals ⟨_, C, fI, v, rfl, T, upd_same, made hn h⟩) fun r s' hq' => ?_))
  cases r with
  | error er => exact hx pins σ _ _ er s' I2 hq'
  | ok fl =>
    cases fl with
    | ret u =>
      obtain ⟨v2, H', I3, rv, ev, q3⟩ := I2.after hq'
      subst ev
      exact ⟨rv, ⟨V.ref (hp.objs.size + 1), H', I3, rfl, q3⟩⟩
    | next => exact False.elim hq'
    | brk => exact False.elim hq'
    | cont => exact False.elim hq'
theorem pe_mk (T : XC X.K C fI) (F1 : FnOk X.prog X.w X.K X.mg X.base CX k fI fd ["self", "value"] (sp_init X.K)) (hr : Room (k + 1) X.A) (hb : Binds X.K fd ["self", "value"] []) (hx : Passes CX X (fun _ _ _ => False)) (hg : Gl X x) (hm : X.mg x = some (.ref C))
    (ha : PA X (e :: es) ta) (hdb : (x == ("__debug__" : Str)) = false := by decide) (he : starEach (e :: es) X.env = (false, eval e X.env) :: starEach es X.env := by rfl) (hpl : (backTo pos (starEach es X.env)).any (·.1) = false := by rfl) :
    PE X (.Call (.Name x p) (e :: es) [] pos) (tMk C ta) := by
  refine ⟨fun pins s σ H Q I h => ?_⟩
  refine wpAny_Call_Name_kw (ld_glob I hg hm ?_ hdb)
  refine PySem.W.callWith_K (h₀ := X.base) I.ok.mod.kin T.ox.kC (thn (ha.run pos pins s σ H _ I h) fun us s1 ⟨vs, H1, I1, r1, v, ev, q1⟩ => ⟨I1.kIn, ?_⟩) he hpl
  subst ev
  obtain ⟨u, rfl, ru⟩ := vals1 r1
  exact run_mk (ks := []) (ws := []) (g := fun us _ => us) T F1 hr hx I1 (Nat.le_trans (Nat.le_refl 1) (by decide)) (fun s y X' => by have z := hb s [y, u] X' rfl; rw [List.append_nil] at z; exact z) (fun y w ry => .cons ry (.cons ru .nil)) q1
theorem pe_mkK (T : XC X.K C fI) (F1 : FnOk X.prog X.w X.K X.mg X.base CX k fI fd ["self", "value"] (sp_init X.K)) (hr : Room (k + 1) X.A) (hb : ∀ (s : Shared) (u y : Value), X.K.In s.heap → BindsTo s fd ⟨[u], [("value", y)]⟩ [("self", u), ("value", y)]) (hx : Passes CX X (fun _ _ _ => False)) (hg : Gl X x) (hm : X.mg x = some (.ref C))
    (hkw : PK X kws tk) (hall : (backToKw pos (keywordEach kws X.env)).all (·.1.isSome) = true := by rfl) (hks : (backToKw pos (keywordEach kws X.env)).filterMap (·.1) = [("value" : Str)] := by rfl)
    (hdb : (x == ("__debug__" : Str)) = false := by decide) (hpl : ((backTo pos (starEach [] X.env)).any (·.1) || (backToKw pos (keywordEach kws X.env)).any (·.1.isNone)) = false := by rfl) :
    PE X (.Call (.Name x p) [] kws pos) (tMk C tk) := by
  refine ⟨fun pins s σ H Q I h => ?_⟩
  refine wpAny_Call_Name_kw (ld_glob I hg hm (PySem.W.callWith_KW0 (h₀ := X.base) I.ok.mod.kin T.ox.kC hall (thn (hkw.run pos pins s σ H _ I h) ?_) hpl) hdb)
  rintro ws s2 ⟨zs, H2, I2, rz, v, ev, q2⟩
  subst ev
  obtain ⟨u, rfl, ru⟩ := vals1 rz
  refine ⟨I2.kIn, ?_⟩
  rw [hks]
  exact run_mk (us := []) (ks := [("value" : Str)]) (ws := [u]) (g := fun us ws => us ++ ws) T F1 hr hx I2 (Nat.zero_le _) (fun s y X' => hb s y u X') (fun y w ry => .cons ry (.cons ru .nil)) q2
end
end M
namespace M
open PySem L2 Evl
open PyProof.Rows hiding St
/-! ### lists of such, made of the def's first name -/
def tMs (C : Addr) : TE := fun σ H Q => ∃ x, σ[0]? = some (some x) ∧ ∀ a H2, Ex H H2 → XAt H2 a C x → Q (.ref a) H2
def XAll (H : Hp) (x : V) : List V → List Addr → Prop
  | [], [] => True
  | v :: vs, c :: cs => (∃ a, v = .ref a ∧ XAt H a c x) ∧ XAll H x vs cs
  | _, _ => False
theorem XAll.up {H H' : Hp} {x : V} (e : Ex H H') : ∀ {vs : List V} {cs : List Addr}, XAll H x vs cs → XAll H' x vs cs
  | [], [], h => h
  | v :: vs, c :: cs, ⟨⟨a, h1, h2⟩, t⟩ => ⟨⟨a, h1, h2.up e⟩, XAll.up e t⟩
  | [], _ :: _, h => h.elim
  | _ :: _, [], h => h.elim
theorem XAll.len {H : Hp} {x : V} : ∀ {vs : List V} {cs : List Addr}, XAll H x vs cs → vs.length = cs.length
  | [], [], _ => rfl
  | v :: vs, c :: cs, ⟨_, t⟩ => by rw [List.length_cons, List.length_cons, XAll.len t]
  | [], _ :: _, h => h.elim
  | _ :: _, [], h => h.elim
theorem XAll.app {H : Hp} {x : V} : ∀ {vs ws : List V} {cs ds : List Addr}, XAll H x vs cs → XAll H x ws ds → XAll H x (vs ++ ws) (cs ++ ds)
  | [], _, [], _, _, h => h
  | v :: vs, _, c :: cs, _, ⟨h, t⟩, g => ⟨h, XAll.app t g⟩
  | [], _, _ :: _, _, h, _ => h.elim
  | _ :: _, _, [], _, h, _ => h.elim
theorem XAll.at {H : Hp} {x : V} : ∀ {vs : List V} {cs : List Addr}, XAll H x vs cs → ∀ {i : Nat} {c : Addr}, cs[i]? = some c → ∃ a, vs[i]? = some (.ref a) ∧ XAt H a c x
  | [], [], _, i, c, e => by simp at e
  | v :: vs, c :: cs, ⟨⟨a, h1, h2⟩, t⟩, 0, c', e => by
    simp at e
    subst e
    exact ⟨a, by rw [h1]; rfl, h2⟩
  | v :: vs, c :: cs, ⟨_, t⟩, i + 1, c', e => by
    obtain ⟨a, h1, h2⟩ := XAll.at t (i := i) (c := c') (by simpa using e)
    exact ⟨a, by simpa using h1, h2⟩
  | [], _ :: _, h, _, _, _ => h.elim
  | _ :: _, [], h, _, _, _ => h.elim
def tMsL (cs : List Addr) : TA := fun σ H Q => ∃ x, σ[0]? = some (some x) ∧ ∀ vs H2, Ex H H2 → XAll H2 x vs cs → Q vs H2
def tMl (cs : List Addr) : TE := fun σ H Q => ∃ x, σ[0]? = some (some x) ∧ ∀ l vs H2, Ex H H2 → H l = none → H2 l = some (.lst vs) → XAll H2 x vs cs → Q (.ref l) H2
section
variable {X : Cx} {e : Expr} {es : List Expr} {c : Addr} {cs : List Addr} {pos : Pos}
theorem pm_one (h : PE X e (tMk c (tCons (tVar 0) tNil))) : PE X e (tMs c) := pe_weakQ h fun σ H Q ⟨x, e, k⟩ => ⟨x, e, x, rfl, fun a H2 _ x2 ha => k a H2 x2 ha⟩
theorem pm_nil : PA X [] (tMsL []) := pa_weak pa_nil fun σ H Q ⟨x, e, k⟩ => k [] H (Ex.refl _) trivial
theorem pm_cons (he : PE X e (tMs c)) (hr : PA X es (tMsL cs)) (hs : starEach (e :: es) X.env = (false, eval e X.env) :: starEach es X.env := by rfl) : PA X (e :: es) (tMsL (c :: cs)) :=
  pa_weak (pa_cons he hr hs) fun σ H Q ⟨x, e, k⟩ => ⟨x, e, fun a H1 x1 ha => ⟨x, e, fun vs H2 x2 hvs => k _ H2 (x1.trans x2) ⟨⟨a, rfl, ha.up x2⟩, hvs⟩⟩⟩
theorem pm_lst (h : PA X es (tMsL cs)) (hl : cs.length ≤ 1000 := by exact Nat.le_of_ble_eq_true rfl) : PE X (.List es pos) (tMl cs) :=
  pe_weakQ (pe_lst h) fun σ H Q ⟨x, e, k⟩ => ⟨x, e, fun vs H1 x1 hvs => ⟨by rw [hvs.len]; exact Nat.le_trans hl (by decide), fun l hn => k l vs _ (x1.trans (Ex.new hn)) (fresh_back x1 hn) upd_same (hvs.up (Ex.new hn))⟩⟩
end
def sp_made (cs : List Addr) : Sp := fun vs H Q _ => ∃ (x : V) (b : Bool), vs = [x, .bl b] ∧ ∀ l vs H', Ex H H' → H l = none → H' l = some (.lst vs) → XAll H' x vs cs → Q (.ref l) H'
/-- of which classes -/
def dues (i n : Nat) : List V := (List.range n).map fun (j : Nat) => .bl (decide (i = j))
def sp_kinds (cs : List Addr) : Sp := fun vs H Q _ => ∃ (a c : Addr) (i : Nat) (x : V), vs = [.ref a] ∧ cs[i]? = some c ∧ XAt H a c x ∧ ∀ l H', Ex H H' → H' l = some (.lst (dues i 11)) → Q (.ref l) H'
/-! ### the thing -/
def lstB : PyData → Bool
  | .list _ => true
  | _ => false
theorem k_nl : kitB "NoneType" "list" = some false := by decide +kernel
theorem k_bl2 : kitB "bool" "list" = some false := by decide +kernel
theorem k_il : kitB "int" "list" = some false := by decide +kernel
theorem k_sl : kitB "str" "list" = some false := by decide +kernel
theorem k_dl : kitB "dict" "list" = some false := by decide +kernel
theorem isLst (d : PyData) : kitB (tyN d) "list" = some (lstB d) := by
  cases d with
  | list ds => exact k_ll
  | none => exact k_nl
  | bool b => exact k_bl2
  | int b => exact k_il
  | str b => exact k_sl
  | tuple b => exact k_tl
  | dict b => exact k_dl
def sp_thing (K : PySem.W.Frag) : Sp := fun vs H Q _ => ∃ (H0 : Hp) (p : Addr) (m : Nat), vs = [.ref p] ∧ Pl H0 H p m ∧ m + 10 ≤ 2 ^ 20 ∧
  ∀ (v : V) (d : PyData) (H1 H' : Hp), Ex H0 H1 → Pl H1 H' p (m + 4) → Da K H' v d → Shw d →
    (lstB d = false ∧ Da K H1 v d ∨ ∃ (l : Addr) (ns : List Nat), v = .ref l ∧ d = .list (ns.map fun (n : Nat) => .int n) ∧ H' l = some (.lst (ns.map fun (n : Nat) => V.int n)) ∧ H1 l = none ∧ l ≠ p ∧ ns.length ≤ 1 ∧ ∀ n ∈ ns, n < 9) → Q v H'
end M
namespace M
open PySem L2 Evl
open PyProof.Rows hiding St
/-- two such lists, one behind the other -/
theorem cat_made {H1 H2 : Hp} {x : V} {l1 l2 : Addr} {vs1 vs2 : List V} {c1 c2 : List Addr} {Q : VK} (x2 : Ex H1 H2) (e1 : H1 l1 = some (.lst vs1)) (e2 : H2 l2 = some (.lst vs2)) (h1 : XAll H1 x vs1 c1) (h2 : XAll H2 x vs2 c2) (hl : c1.length + c2.length ≤ 100)
    (k : ∀ l vs H', Ex H1 H' → H1 l = none → H' l = some (.lst vs) → XAll H' x vs (c1 ++ c2) → Q (.ref l) H') : rCat (.ref l1) (.ref l2) H2 Q := by
  refine ⟨l1, l2, vs1, vs2, rfl, rfl, x2 _ _ e1, e2, ?_, fun p hp => ?_⟩
  · rw [h1.len, h2.len]
    exact Nat.le_trans hl (by decide)
  · exact k p _ _ (x2.trans (Ex.new hp)) (fresh_back x2 hp) upd_same (XAll.app (h1.up (x2.trans (Ex.new hp))) (h2.up (Ex.new hp)))
end M
namespace M
open PySem L2 Evl
open PyProof.Rows hiding St
theorem log_small {i : Int} (h : i.natAbs < 2 ^ 200) : i.natAbs.log2 < 1920 := by
  by_cases e : i.natAbs = 0
  · rw [e]; decide
  · exact Nat.lt_of_lt_of_le ((Nat.log2_lt e).mpr h) (by decide)
theorem shw_int {i : Int} (h : i.natAbs < 2 ^ 200) : Shw (.int i) := ⟨decide_eq_true (log_small h), rfl, Nat.zero_le _, int_text_fits (log_small h)⟩
theorem shw_non : Shw .none := ⟨rfl, rfl, by decide, by decide +kernel⟩
theorem shw_any : Shw (.tuple [.str "any"]) := ⟨by decide +kernel, by decide +kernel, by decide +kernel, by decide +kernel⟩
theorem leaf_of (s : String) : PyData.leavesShort 8 (.str (Str.ofString s)) = true := by
  show ((Str.ofString s).cps.toList.all fun c => decide (c < 16 ^ 8)) = true
  rw [Str.ofString_eq_toList, List.all_eq_true]
  intro c hc
  simp only [List.mem_map] at hc
  obtain ⟨ch, _, rfl⟩ := hc
  have := ch.valid
  apply decide_eq_true
  have h2 : ch.toNat < 0x110000 := by
    rcases ch.valid with h | h
    · exact Nat.lt_of_lt_of_le h (by decide)
    · exact h.2
  omega
theorem shw_row {i : Int} (h0 : 0 ≤ i) (h : i < 99) : Shw (.str ("row " ++ Str.ofString (toString i))) := by
  have hl : ("row " ++ Str.ofString (toString i) : Str).cps.size ≤ 110 := by
    have e : ("row " ++ Str.ofString (toString i) : Str).cps.size = 4 + (Str.ofString (toString i)).cps.size := by
      show (("row " : Str).cps ++ (Str.ofString (toString i)).cps).size = _
      rw [Array.size_append]
      rfl
    have := len_str_of_int i
    have e2 : (Str.ofString (toString i)).length = (Str.ofString (toString i)).cps.size := rfl
    omega
  refine ⟨rfl, rfl, Nat.zero_le _, PyData.shown_fits_bulk (B := 8) (by decide) (by decide) ?_ ?_⟩
  · show (("row " : Str).cps ++ (Str.ofString (toString i)).cps).toList.all _ = true
    rw [Array.toList_append, List.all_append]
    have h1 := leaf_of "row "
    have h2 := leaf_of (toString i)
    simp only [PyData.leavesShort] at h1 h2
    rw [h1, h2]; rfl
  · rw [PyData.bulk]; omega
theorem shw_l0 : Shw (.list []) := ⟨by decide +kernel, by decide +kernel, by decide +kernel, by decide +kernel⟩
theorem shw_l1 : ∀ n : Fin 9, Shw (.list [.int (n.val : Nat)]) := by
  have h1 : ∀ n : Fin 9, (PyData.list [.int (n.val : Nat)]).shown.length ≤ 100 := by decide +kernel
  have h2 : ∀ n : Fin 9, (PyData.list [.int (n.val : Nat)]).showable = true := by decide +kernel
  exact fun n => ⟨h2 n, rfl, Nat.le_of_ble_eq_true rfl, Nat.le_trans (h1 n) (by decide)⟩
theorem shw_l2 : ∀ n m : Fin 9, Shw (.list [.int (n.val : Nat), .int (m.val : Nat)]) := by
  have h1 : ∀ n m : Fin 9, (PyData.list [.int (n.val : Nat), .int (m.val : Nat)]).shown.length ≤ 100 := by decide +kernel
  have h2 : ∀ n m : Fin 9, (PyData.list [.int (n.val : Nat), .int (m.val : Nat)]).showable = true := by decide +kernel
  exact fun n m => ⟨h2 n m, rfl, Nat.le_of_ble_eq_true rfl, Nat.le_trans (h1 n m) (by decide)⟩
end M
namespace M
open PySem L2 Evl
open PyProof.Rows hiding St
theorem XAt.touch {H : Hp} {a c l : Addr} {x : V} {xs : List V} {o : HO} (h : XAt H a c x) (e : H l = some (.lst xs)) : XAt (upd H l o) a c x := by
  obtain ⟨d, h1, h2⟩ := h
  have n1 : a ≠ l := fun z => by
    rw [z, e] at h1
    have z2 := Option.some.inj h1
    exact absurd (show HO.ext _ = HO.lst xs from z2.symm) (fun y => nomatch y)
  have n2 : d ≠ l := fun z => by
    rw [z, e] at h2
    have z2 := Option.some.inj h2
    exact absurd (show HO.ext _ = HO.lst xs from z2.symm) (fun y => nomatch y)
  exact ⟨d, by rw [upd_ne n1]; exact h1, by rw [upd_ne n2]; exact h2⟩
theorem XAll.touch {H : Hp} {x : V} {l : Addr} {xs : List V} {o : HO} (e : H l = some (.lst xs)) : ∀ {vs : List V} {cs : List Addr}, XAll H x vs cs → XAll (upd H l o) x vs cs
  | [], [], h => h
  | v :: vs, c :: cs, ⟨⟨a, h1, h2⟩, t⟩ => ⟨⟨a, h1, h2.touch e⟩, XAll.touch e t⟩
  | [], _ :: _, h => h.elim
  | _ :: _, [], h => h.elim
def dueD (i n : Nat) : List PyData := (List.range n).map fun (j : Nat) => .bool (decide (i = j))
theorem dp_dues (K : PySem.W.Frag) (H : Hp) (i : Nat) : ∀ l : List Nat, DpAll K H (l.map fun (j : Nat) => .bl (decide (i = j))) (l.map fun (j : Nat) => .bool (decide (i = j)))
  | [] => .nil
  | j :: l => .cons (.bl _) (dp_dues K H i l)
theorem due_ok (i : Nat) : SeqAt.shaped (.list (dueD i 11)) = true ∧ PyData.eqv (.list (dueD i 11)) (.list (dueD i 11)) = true := by
  have h : ∀ l : List Nat, PyData.canLayAll0 (l.map fun (j : Nat) => PyData.bool (decide (i = j))) = true ∧ PyData.depthAll (l.map fun (j : Nat) => PyData.bool (decide (i = j))) = 0 := fun l => by
    induction l with
    | nil => exact ⟨rfl, rfl⟩
    | cons j l ih => exact ⟨by simp only [List.map_cons, PyData.canLayAll0, ih.1]; rfl, by simp only [List.map_cons, PyData.depthAll, ih.2]; rfl⟩
  obtain ⟨h1, h2⟩ := h (List.range 11)
  have lay : (PyData.list (dueD i 11)).canLay0 = true := by rw [PyData.canLay0]; exact h1
  refine ⟨?_, SeqAt.eqv_refl _ lay⟩
  unfold SeqAt.shaped
  rw [lay, PyData.depth]
  unfold dueD
  rw [h2]
  decide
theorem dues_succ (i j : Nat) : dues i (j + 1) = dues i j ++ [.bl (decide (i = j))] := by
  unfold dues
  rw [List.range_succ, List.map_append]
  rfl
theorem dues_len (i j : Nat) : (dues i j).length = j := by simp [dues]
theorem dec_at (i j : Nat) : decide (V.int (0 + (i : Int)) = V.int (0 + (j : Int))) = decide (i = j) := by
  by_cases h : i = j
  · subst h; simp
  · have : ¬ (V.int (0 + (i : Int)) = V.int (0 + (j : Int))) := fun z => by
      injection z with z
      omega
    rw [decide_eq_false this, decide_eq_false h]
theorem da_dp : ∀ {d : PyData}, d.hasDict = false → (!d.hasDict || lf d) = true := fun h => by rw [h]; rfl
end M
namespace M
open PySem L2 Evl
open PyProof.Rows hiding St
theorem XAt.keep {H H' : Hp} {a c p : Addr} {x : V} {xs : List V} (h : XAt H a c x) (e : H p = some (.lst xs)) (k : ∀ b, b ≠ p → H' b = H b) : XAt H' a c x := by
  obtain ⟨d, h1, h2⟩ := h
  have n1 : a ≠ p := fun z => by
    rw [z, e] at h1
    exact absurd (show HO.ext _ = HO.lst xs from (Option.some.inj h1).symm) (fun y => nomatch y)
  have n2 : d ≠ p := fun z => by
    rw [z, e] at h2
    exact absurd (show HO.ext _ = HO.lst xs from (Option.some.inj h2).symm) (fun y => nomatch y)
  exact ⟨d, by rw [k a n1]; exact h1, by rw [k d n2]; exact h2⟩
theorem XAll.keep {H H' : Hp} {x : V} {p : Addr} {xs : List V} (e : H p = some (.lst xs)) (k : ∀ b, b ≠ p → H' b = H b) : ∀ {vs : List V} {cs : List Addr}, XAll H x vs cs → XAll H' x vs cs
  | [], [], h => h
  | v :: vs, c :: cs, ⟨⟨a, h1, h2⟩, t⟩ => ⟨⟨a, h1, h2.keep e k⟩, XAll.keep e k t⟩
  | [], _ :: _, h => h.elim
  | _ :: _, [], h => h.elim
theorem das_ns (K : PySem.W.Frag) (H : Hp) : ∀ ns : List Nat, Das K H (ns.map fun (n : Nat) => V.int n) (ns.map fun (n : Nat) => PyData.int n)
  | [] => .nil
  | n :: ns => .cons (.int _) (das_ns K H ns)
theorem shw_ns {ns : List Nat} {j : Nat} (hf : ns.length ≤ 1) (hs : ∀ n ∈ ns, n < 9) (hj : j < 9) : Shw (.list ((ns ++ [j]).map fun (n : Nat) => .int n)) := by
  match ns, hf, hs with
  | [], _, _ => exact shw_l1 ⟨j, hj⟩
  | [n], _, hs => exact shw_l2 ⟨n, hs n (List.mem_singleton.mpr rfl)⟩ ⟨j, hj⟩
  | _ :: _ :: _, h, _ => simp at h
end M
namespace M
open PySem L2 Evl
open PyProof.Rows hiding St
def kitChk (K : PySem.W.Frag) (cs : List Addr) : Bool := cs.zipIdx.all fun p => cs.zipIdx.all fun q => PySem.W.kitOne K (.ref p.1) (.ref q.1) == some (decide (p.2 = q.2 ∨ q.2 = 11))
def kitChkV (K : PySem.W.Frag) (cs : List Addr) : Bool := cs.all fun c => PySem.W.kitOne K (.ref c) (.type "ValueError") == some true
theorem kit_of {K : PySem.W.Frag} {cs : List Addr} (h : kitChk K cs = true) (i j : Nat) (c d : Addr) (hi : cs[i]? = some c) (hj : cs[j]? = some d) : PySem.W.kitOne K (.ref c) (.ref d) = some (decide (i = j ∨ j = 11)) := by
  unfold kitChk at h
  have m1 : (c, i) ∈ cs.zipIdx := List.mem_zipIdx_iff_getElem?.mpr hi
  have m2 : (d, j) ∈ cs.zipIdx := List.mem_zipIdx_iff_getElem?.mpr hj
  have h1 := List.all_eq_true.mp h _ m1
  have h2 := List.all_eq_true.mp h1 _ m2
  exact beq_iff_eq.mp h2
theorem kitV_of {K : PySem.W.Frag} {cs : List Addr} (h : kitChkV K cs = true) (i : Nat) (c : Addr) (hi : cs[i]? = some c) : PySem.W.kitOne K (.ref c) (.type "ValueError") = some true := by
  unfold kitChkV at h
  exact beq_iff_eq.mp (List.all_eq_true.mp h _ (List.mem_of_getElem? hi))
theorem twelve {K : PySem.W.Frag} {f c0 c1 c2 c3 c4 c5 c6 c7 c8 c9 c10 c11 : Addr} (h0 : XC K c0 f) (h1 : XC K c1 f) (h2 : XC K c2 f) (h3 : XC K c3 f) (h4 : XC K c4 f) (h5 : XC K c5 f) (h6 : XC K c6 f) (h7 : XC K c7 f) (h8 : XC K c8 f) (h9 : XC K c9 f) (h10 : XC K c10 f) (h11 : XC K c11 f)
    (i : Nat) (c : Addr) (h : [c0, c1, c2, c3, c4, c5, c6, c7, c8, c9, c10, c11][i]? = some c) : XC K c f := by
  have m := List.mem_of_getElem? h
  simp only [List.mem_cons, List.not_mem_nil, or_false] at m
  rcases m with rfl | rfl | rfl | rfl | rfl | rfl | rfl | rfl | rfl | rfl | rfl | rfl <;> assumption
end M
end

section
set_option Elab.async false
set_option linter.all false
set_option maxRecDepth 100000
/-! what rows let, and tables of it -/
namespace M
open PySem L2 Evl
open PyProof.Rows hiding St
/-- does the row let it -/
def lt : Qn → List Nat → Bool
  | .any, _ => true
  | .no q, r => !lt q r
  | .both a b, r => lt a r && lt b r
  | .some a c b, r => (List.range r.length).any fun i => decide (r[i]? = some c) && (lt a (r.take i) && lt b (r.drop (i + 1)))
/-- a stretch of a row -/
def st (r : List Nat) (s e : Nat) : List Nat := (r.take e).drop s
theorem st_len {r : List Nat} {s e : Nat} (h : e ≤ r.length) : (st r s e).length = e - s := by
  unfold st
  rw [List.length_drop, List.length_take, Nat.min_eq_left h]
theorem st_get {r : List Nat} {s e j : Nat} (h : s + j < e) : (st r s e)[j]? = r[s + j]? := by
  unfold st
  rw [List.getElem?_drop, List.getElem?_take, if_pos h]
theorem st_take {r : List Nat} {s e j : Nat} (h : s + j ≤ e) : (st r s e).take j = st r s (s + j) := by
  unfold st
  rw [List.take_drop, List.take_take, Nat.min_eq_left h]
theorem st_drop {r : List Nat} {s e j : Nat} : (st r s e).drop j = st r (s + j) e := by
  unfold st
  rw [List.drop_drop]
theorem st_all (r : List Nat) : st r 0 r.length = r := by
  unfold st
  simp
theorem lt_some {r : List Nat} {a b : Qn} {c s e : Nat} (h : e ≤ r.length) : lt (.some a c b) (st r s e) = true ↔ ∃ i, s ≤ i ∧ i < e ∧ r[i]? = some c ∧ lt a (st r s i) = true ∧ lt b (st r (i + 1) e) = true := by
  simp only [lt, List.any_eq_true, List.mem_range, Bool.and_eq_true, decide_eq_true_eq]
  rw [st_len h]
  constructor
  · rintro ⟨j, hj, h1, h2, h3⟩
    have hj2 : s + j < e := by omega
    rw [st_get hj2] at h1
    rw [st_take (Nat.le_of_lt hj2)] at h2
    rw [st_drop] at h3
    exact ⟨s + j, by omega, hj2, h1, h2, h3⟩
  · rintro ⟨i, h0, h1, h2, h3, h4⟩
    obtain ⟨j, rfl⟩ : ∃ j, i = s + j := ⟨i - s, by omega⟩
    refine ⟨j, by omega, ?_, ?_, ?_⟩
    · rw [st_get h1]; exact h2
    · rw [st_take (Nat.le_of_lt h1)]; exact h3
    · rw [st_drop]; exact h4
/-- the table of a question for a row: for each start the bits of the ends -/
def IsTab (r : List Nat) (q : Qn) (ts : List Nat) : Prop := ts.length = r.length + 1 ∧ ∀ s t, ts[s]? = some t → ∀ e, t.testBit e = (decide (s ≤ e ∧ e ≤ r.length) && lt q (st r s e))
def wholeT (n : Nat) : List Nat := (List.range (n + 1)).map fun s => 2 ^ (n + 1) - 2 ^ s
theorem whole_bit {n s e : Nat} (h : s ≤ n) : (2 ^ (n + 1) - 2 ^ s).testBit e = decide (s ≤ e ∧ e ≤ n) := by
  have e1 : 2 ^ (n + 1) - 2 ^ s = 2 ^ s * (2 ^ (n + 1 - s) - 1) := by
    rw [Nat.mul_sub, Nat.mul_one, ← Nat.pow_add]
    congr 2
    omega
  rw [e1, Nat.testBit_two_pow_mul, Nat.testBit_two_pow_sub_one]
  by_cases h1 : s ≤ e
  · simp only [ge_iff_le, h1, decide_true, Bool.true_and, true_and]
    congr 1
    apply propext
    omega
  · simp [h1]
theorem whole_tab (r : List Nat) : IsTab r .any (wholeT r.length) := by
  refine ⟨by simp [wholeT], fun s t h e => ?_⟩
  unfold wholeT at h
  rw [List.getElem?_map] at h
  obtain ⟨s', h1, h2⟩ := Option.map_eq_some_iff.mp h
  obtain ⟨h3, h4⟩ := List.getElem?_eq_some_iff.mp h1
  rw [List.getElem_range] at h4
  rw [List.length_range] at h3
  subst h4
  rw [← h2, whole_bit (by omega)]
  simp [lt]
theorem zip_at {f : Nat → Nat → Nat} {a b : List Nat} {s t : Nat} (h : (List.zipWith f a b)[s]? = some t) : ∃ x y, a[s]? = some x ∧ b[s]? = some y ∧ f x y = t := by
  rw [List.getElem?_zipWith] at h
  split at h
  · rename_i x y hx hy
    cases h
    exact ⟨x, y, hx, hy, rfl⟩
  · cases h
theorem not_tab {r : List Nat} {q : Qn} {ts : List Nat} (h : IsTab r q ts) : IsTab r (.no q) (List.zipWith (· ^^^ ·) (wholeT r.length) ts) := by
  obtain ⟨w1, w2⟩ := whole_tab r
  refine ⟨by rw [List.length_zipWith, w1, h.1, Nat.min_self], fun s t ht e => ?_⟩
  obtain ⟨x, y, hx, hy, rfl⟩ := zip_at ht
  rw [Nat.testBit_xor, w2 s x hx e, h.2 s y hy e]
  simp only [lt, Bool.and_true]
  cases decide (s ≤ e ∧ e ≤ r.length) <;> simp
theorem both_tab {r : List Nat} {a b : Qn} {ts us : List Nat} (h : IsTab r a ts) (g : IsTab r b us) : IsTab r (.both a b) (List.zipWith (· &&& ·) ts us) := by
  refine ⟨by rw [List.length_zipWith, h.1, g.1, Nat.min_self], fun s t ht e => ?_⟩
  obtain ⟨x, y, hx, hy, rfl⟩ := zip_at ht
  rw [Nat.testBit_and, h.2 s x hx e, g.2 s y hy e]
  simp only [lt]
  cases decide (s ≤ e ∧ e ≤ r.length) <;> simp
/-- places below p are done, and of the place p the starts below u -/
def Part (r : List Nat) (a : Qn) (c : Nat) (b : Qn) (p u : Nat) (ts : List Nat) : Prop := ts.length = r.length + 1 ∧ ∀ s t, ts[s]? = some t → ∀ e, t.testBit e = true ↔ (s ≤ e ∧ e ≤ r.length ∧ ∃ i, (i < p ∨ (i = p ∧ s < u)) ∧ s ≤ i ∧ i < e ∧ r[i]? = some c ∧ lt a (st r s i) = true ∧ lt b (st r (i + 1) e) = true)
theorem part0 (r : List Nat) (a : Qn) (c : Nat) (b : Qn) : Part r a c b 0 0 (List.replicate (r.length + 1) 0) := by
  refine ⟨by simp, fun s t h e => ?_⟩
  rw [List.getElem?_replicate] at h
  split at h
  · cases h
    simp
  · cases h
theorem part_end {r : List Nat} {a b : Qn} {c : Nat} {ts : List Nat} (h : Part r a c b r.length 0 ts) : IsTab r (.some a c b) ts := by
  refine ⟨h.1, fun s t ht e => ?_⟩
  have h1 := h.2 s t ht e
  apply Bool.eq_iff_iff.mpr
  rw [h1, Bool.and_eq_true, decide_eq_true_eq]
  constructor
  · rintro ⟨e1, e2, i, _, g1, g2, g3, g4, g5⟩
    exact ⟨⟨e1, e2⟩, (lt_some e2).mpr ⟨i, g1, g2, g3, g4, g5⟩⟩
  · rintro ⟨⟨e1, e2⟩, g⟩
    obtain ⟨i, g1, g2, g3, g4, g5⟩ := (lt_some e2).mp g
    exact ⟨e1, e2, i, .inl (by omega), g1, g2, g3, g4, g5⟩
/-- a place with another letter -/
theorem part_skip {r : List Nat} {a b : Qn} {c p : Nat} {ts : List Nat} (h : Part r a c b p 0 ts) (hp : r[p]? ≠ some c) : Part r a c b (p + 1) 0 ts := by
  refine ⟨h.1, fun s t ht e => (h.2 s t ht e).trans ?_⟩
  constructor
  · rintro ⟨e1, e2, i, hi, g⟩
    exact ⟨e1, e2, i, .inl (by omega), g⟩
  · rintro ⟨e1, e2, i, hi, g1, g2, g3, g⟩
    refine ⟨e1, e2, i, ?_, g1, g2, g3, g⟩
    by_cases z : i = p
    · subst z
      exact absurd g3 hp
    · exact .inl (by omega)
/-- all starts of a place are done -/
theorem part_next {r : List Nat} {a b : Qn} {c p : Nat} {ts : List Nat} (h : Part r a c b p (p + 1) ts) : Part r a c b (p + 1) 0 ts := by
  refine ⟨h.1, fun s t ht e => (h.2 s t ht e).trans ?_⟩
  constructor
  · rintro ⟨e1, e2, i, hi, g⟩
    exact ⟨e1, e2, i, .inl (by omega), g⟩
  · rintro ⟨e1, e2, i, hi, g1, g⟩
    refine ⟨e1, e2, i, ?_, g1, g⟩
    omega
/-- a start at which what stands ahead does not let -/
theorem part_no {r : List Nat} {a b : Qn} {c p u : Nat} {ts : List Nat} (h : Part r a c b p u ts) (hn : lt a (st r u p) = false) : Part r a c b p (u + 1) ts := by
  refine ⟨h.1, fun s t ht e => (h.2 s t ht e).trans ?_⟩
  constructor
  · rintro ⟨e1, e2, i, hi, g⟩
    exact ⟨e1, e2, i, by omega, g⟩
  · rintro ⟨e1, e2, i, hi, g1, g2, g3, g4, g5⟩
    refine ⟨e1, e2, i, ?_, g1, g2, g3, g4, g5⟩
    rcases hi with hi | ⟨rfl, hi⟩
    · exact .inl hi
    · by_cases z : s = u
      · subst z
        rw [hn] at g4; cases g4
      · exact .inr ⟨rfl, by omega⟩
theorem part_yes {r : List Nat} {a b : Qn} {c p u : Nat} {ts us : List Nat} {t y : Nat} (h : Part r a c b p u ts) (hb : IsTab r b us) (hc : r[p]? = some c) (hu : u ≤ p) (ha : lt a (st r u p) = true) (ht : ts[u]? = some t) (hy : us[p + 1]? = some y) :
    Part r a c b p (u + 1) (ts.set u (t ||| y)) := by
  refine ⟨by rw [List.length_set]; exact h.1, fun s t' ht' e => ?_⟩
  have by_ := hb.2 _ _ hy e
  have hp : p < r.length := (List.getElem?_eq_some_iff.mp hc).1
  by_cases z : s = u
  · subst z
    have e0 : t ||| y = t' := by
      rw [List.getElem?_set_self (List.getElem?_eq_some_iff.mp ht).1] at ht'
      exact Option.some.inj ht'
    subst e0
    rw [Nat.testBit_or, Bool.or_eq_true, h.2 s t ht e, by_, Bool.and_eq_true, decide_eq_true_eq]
    constructor
    · rintro (⟨e1, e2, i, hi, g⟩ | ⟨⟨e1, e2⟩, g⟩)
      · exact ⟨e1, e2, i, by omega, g⟩
      · exact ⟨by omega, e2, p, .inr ⟨rfl, by omega⟩, hu, by omega, hc, ha, g⟩
    · rintro ⟨e1, e2, i, hi, g1, g2, g3, g4, g5⟩
      rcases hi with hi | ⟨rfl, hi⟩
      · exact .inl ⟨e1, e2, i, .inl hi, g1, g2, g3, g4, g5⟩
      · exact .inr ⟨⟨by omega, e2⟩, g5⟩
  · rw [List.getElem?_set_ne (Ne.symm z)] at ht'
    refine (h.2 s t' ht' e).trans ?_
    constructor
    · rintro ⟨e1, e2, i, hi, g⟩
      exact ⟨e1, e2, i, by omega, g⟩
    · rintro ⟨e1, e2, i, hi, g⟩
      exact ⟨e1, e2, i, by omega, g⟩
theorem tab_last {r : List Nat} {q : Qn} {ts : List Nat} {t : Nat} (h : IsTab r q ts) (ht : ts[0]? = some t) : t.testBit r.length = lt q r := by
  rw [h.2 0 t ht, st_all]
  simp
end M
end

section
set_option Elab.async false
set_option linter.all false
set_option maxRecDepth 100000
/-! what the defs about tables promise -/
namespace M
open PySem L2 Evl
open PyProof.Rows hiding St
def natV (ts : List Nat) : List V := ts.map fun (t : Nat) => V.int t
theorem natV_at {ts : List Nat} {s : Nat} {t : Nat} (h : ts[s]? = some t) : (natV ts)[s]? = some (V.int t) := by
  unfold natV
  rw [List.getElem?_map, h]
  rfl
theorem natV_len (ts : List Nat) : (natV ts).length = ts.length := by simp [natV]
theorem natV_inv {ts : List Nat} {s : Nat} {x : V} (h : (natV ts)[s]? = some x) : ∃ t, ts[s]? = some t ∧ x = .int (t : Nat) := by
  unfold natV at h
  rw [List.getElem?_map] at h
  obtain ⟨t, h1, h2⟩ := Option.map_eq_some_iff.mp h
  exact ⟨t, h1, h2.symm⟩
def codes (z : Str) : List Nat := z.cps.toList
theorem codes_len (z : Str) : (codes z).length = z.length := Array.length_toList
/-- the stretches of the row z, at x -/
def SAt (C : Addr) (H : Hp) (x : Addr) (z : Str) : Prop := ∃ (dx lw : Addr), H x = some (.ins C dx [(("row" : Str), V.str z), (("whole" : Str), V.ref lw)]) ∧ H lw = some (.lst (natV (wholeT z.length)))
theorem SAt.up {C : Addr} {H H' : Hp} {x : Addr} {z : Str} (h : SAt C H x z) (e : Ex H H') : SAt C H' x z := by
  obtain ⟨dx, lw, h1, h2⟩ := h
  exact ⟨dx, lw, e _ _ h1, e _ _ h2⟩
/-- a table at v -/
def TAt (H : Hp) (r : List Nat) (v : V) (q : Qn) : Prop := ∃ l ts, v = .ref l ∧ H l = some (.lst (natV ts)) ∧ IsTab r q ts
theorem TAt.up {H H' : Hp} {r : List Nat} {v : V} {q : Qn} (h : TAt H r v q) (e : Ex H H') : TAt H' r v q := by
  obtain ⟨l, ts, h1, h2, h3⟩ := h
  exact ⟨l, ts, h1, e _ _ h2, h3⟩
def TAll (H : Hp) (r : List Nat) : List V → List Qn → Prop
  | [], [] => True
  | v :: vs, q :: qs => TAt H r v q ∧ TAll H r vs qs
  | _, _ => False
theorem TAll.up {H H' : Hp} {r : List Nat} (e : Ex H H') : ∀ {vs : List V} {qs : List Qn}, TAll H r vs qs → TAll H' r vs qs
  | [], [], h => h
  | v :: vs, q :: qs, ⟨h, t⟩ => ⟨h.up e, TAll.up e t⟩
  | [], _ :: _, h => h.elim
  | _ :: _, [], h => h.elim
theorem TAll.len {H : Hp} {r : List Nat} : ∀ {vs : List V} {qs : List Qn}, TAll H r vs qs → vs.length = qs.length
  | [], [], _ => rfl
  | v :: vs, q :: qs, ⟨_, t⟩ => by rw [List.length_cons, List.length_cons, TAll.len t]
  | [], _ :: _, h => h.elim
  | _ :: _, [], h => h.elim
theorem TAll.app {H : Hp} {r : List Nat} : ∀ {vs ws : List V} {qs rs : List Qn}, TAll H r vs qs → TAll H r ws rs → TAll H r (vs ++ ws) (qs ++ rs)
  | [], _, [], _, _, h => h
  | v :: vs, _, q :: qs, _, ⟨h, t⟩, g => ⟨h, TAll.app t g⟩
  | [], _, _ :: _, _, h, _ => h.elim
  | _ :: _, _, [], _, h, _ => h.elim
theorem TAll.last {H : Hp} {r : List Nat} {q : Qn} : ∀ {vs : List V} {qs : List Qn}, TAll H r vs (qs ++ [q]) → ∃ x, vs[vs.length - 1]? = some x ∧ TAt H r x q ∧ TAll H r vs.dropLast qs
  | [v], [], ⟨h, _⟩ => ⟨v, rfl, h, trivial⟩
  | v :: w :: vs, p :: qs, ⟨h, t⟩ => by
    obtain ⟨x, e1, e2, e3⟩ := TAll.last (vs := w :: vs) t
    refine ⟨x, by simpa using e1, e2, ?_⟩
    rw [List.dropLast_cons₂]
    exact ⟨h, e3⟩
  | [], [], h => h.elim
  | [], _ :: _, h => h.elim
  | [v], _ :: qs, ⟨_, t⟩ => by
    have := TAll.len t
    simp at this
  | _ :: _ :: _, [], ⟨_, t⟩ => t.elim
def sp_check_row : Sp := fun vs H Q _ => ∃ z : Str, vs = [.str z] ∧ Abc z ∧ z.length ≤ 1000 ∧ ∀ H', Ex H H' → Q .non H'
def sp_holds : Sp := fun vs H Q _ => ∃ (l : Addr) (ts : List Nat) (s e t : Nat), vs = [.ref l, .int s, .int e] ∧ H l = some (.lst (natV ts)) ∧ ts[s]? = some t ∧ Q (.bl (t.testBit e)) H
def sp_sinit (K : PySem.W.Frag) (C : Addr) : Sp := fun vs H Q _ => ∃ (x dx : Addr) (z : Str), vs = [.ref x, .str z] ∧ H x = some (.ins C dx []) ∧ z.length ≤ 100 ∧ ∀ H', (∀ b o, b ≠ x → H b = some o → H' b = some o) → SAt C H' x z → Q .non H'
def sp_met (C : Addr) : Sp := fun vs H Q _ => ∃ (x l1 l2 : Addr) (z : Str) (c : Nat) (a b : Qn) (ts us : List Nat), vs = [.ref x, .ref l1, .str ⟨#[c]⟩, .ref l2] ∧ SAt C H x z ∧ z.length ≤ 100 ∧
  H l1 = some (.lst (natV ts)) ∧ IsTab (codes z) a ts ∧ H l2 = some (.lst (natV us)) ∧ IsTab (codes z) b us ∧ ∀ l tt H', Ex H H' → H l = none → H' l = some (.lst (natV tt)) → IsTab (codes z) (.some a c b) tt → Q (.ref l) H'
def sp_tpart (K : PySem.W.Frag) (C : Addr) : Sp := fun vs H Q _ => ∃ (H0 : Hp) (v : V) (q : Qn) (lt x : Addr) (z : Str) (xs : List V) (rest : List Qn), vs = [v, .ref lt, .ref x] ∧ Ex H0 H ∧ H0 lt = none ∧ Da K H0 v q.d ∧ q.Ok ∧ SAt C H0 x z ∧ z.length ≤ 100 ∧
  H lt = some (.lst xs) ∧ TAll H0 (codes z) xs (rest ++ q.kids.reverse) ∧
  ∀ (v' : V) (ys : List V) (H1 H' : Hp), Ex H0 H1 → Ex H1 H' → H1 lt = none → TAt H1 (codes z) v' q → H' lt = some (.lst ys) → TAll H1 (codes z) ys rest → (∀ b o, b ≠ lt → H b = some o → H' b = some o) → Q v' H'
def sp_table_of (K : PySem.W.Frag) (C : Addr) : Sp := fun vs H Q _ => ∃ (H0 : Hp) (v : V) (q : Qn) (x : Addr) (z : Str), vs = [v, .ref x] ∧ Ex H0 H ∧ Dp K H0 v q.d ∧ q.Ok ∧ q.parts ≤ 1000 ∧ SAt C H0 x z ∧ z.length ≤ 100 ∧
  ∀ (l : Addr) (ts : List Nat) (H' : Hp), Ex H H' → H' l = some (.lst (natV ts)) → IsTab (codes z) q ts → Q (.ref l) H'
def sp_row_lets (K : PySem.W.Frag) : Sp := fun vs H Q _ => ∃ (H0 : Hp) (v : V) (q : Qn) (z : Str), vs = [.str z, v] ∧ Ex H0 H ∧ Dp K H0 v q.d ∧ q.Ok ∧ q.parts ≤ 1000 ∧ Abc z ∧ z.length ≤ 100 ∧ ∀ H', Ex H H' → Q (.bl (lt q (codes z))) H'
def sp_law_lets (K : PySem.W.Frag) (n : Nat) : Sp := fun vs H Q _ => ∃ (H0 : Hp) (v : V) (q : Qn) (z : Str), vs = [.str z, v] ∧ Ex H0 H ∧ Da K H0 v q.d ∧ q.hi ≤ n ∧ z.length ≤ 100 ∧ ∀ H', Ex H H' → Q (.bl (lt q (codes z))) H'
def sp_line : Sp := fun vs H Q _ => ∃ (H0 : Hp) (p : Addr) (m n : Nat) (z : Str), vs = [.ref p, .str z, .int n] ∧ Pl H0 H p m ∧ m + n + 2 ≤ 2 ^ 20 ∧ n ≤ 60 ∧ Names z ∧ ∀ (w : Str) (H' : Hp), Pl H0 H' p (m + n + 2) → Abc w → w.length ≤ n → (∀ c ∈ w.cps.toList, c ∈ z.cps.toList) → Q (.str w) H'
theorem kb_two {K : PySem.W.Frag} {fd : FuncData} {x y : Str} (hb : ∀ (s : Shared) (u v : Value), BindsTo s fd ⟨[], [(x, u), (y, v)]⟩ [(y, v), (x, u)]) :
    KBinds K fd [y, x] [x, y] (fun us ws => match us, ws with | [], [w0, w1] => [w1, w0] | _, _ => []) (fun us ws => match us, ws with | [], [w0, w1] => [w1, w0] | _, _ => []) := by
  refine ⟨fun s us ws _ hl => ?_, fun {vs us zs ws} r1 r2 => ?_⟩
  · rcases us with _ | ⟨u, us⟩
    · rcases ws with _ | ⟨w0, _ | ⟨w1, _ | ⟨w2, ws⟩⟩⟩
      · exact nomatch hl
      · exact nomatch hl
      · exact hb s w0 w1
      · exact nomatch hl
    · exact nomatch hl
  · cases r1 with
    | nil =>
      cases r2 with
      | nil => exact .nil
      | cons a b =>
        cases b with
        | nil => exact .nil
        | cons c d =>
          cases d with
          | nil => exact .cons c (.cons a .nil)
          | cons e f => exact .nil
    | cons a b => exact .nil
theorem and_nat (a b : Nat) : Builtin.bitAnd (a : Int) (b : Int) = ((a &&& b : Nat) : Int) := rfl
theorem or_nat (a b : Nat) : Builtin.bitOr (a : Int) (b : Int) = ((a ||| b : Nat) : Int) := by rw [Bits.bitOr_pp (Int.natCast_nonneg a) (Int.natCast_nonneg b)]; rfl
theorem xor_nat (a b : Nat) : Builtin.bitXor (a : Int) (b : Int) = ((a ^^^ b : Nat) : Int) := by rw [Bits.bitXor_pp (Int.natCast_nonneg a) (Int.natCast_nonneg b)]; rfl
/-- (t >> e) & 1 is 1 -/
theorem bit_at (t e : Nat) : decide (V.int (Builtin.bitAnd ((t : Int) / 2 ^ ((e : Nat) : Int).toNat) 1) = V.int 1) = t.testBit e := by
  have e1 : ((t : Int) / 2 ^ ((e : Nat) : Int).toNat) = ((t / 2 ^ e : Nat) : Int) := by
    rw [Int.toNat_natCast]
    exact_mod_cast rfl
  have e2 : Builtin.bitAnd ((t / 2 ^ e : Nat) : Int) 1 = (((t / 2 ^ e) &&& 1 : Nat) : Int) := and_nat (t / 2 ^ e) 1
  rw [e1, e2, Nat.testBit_eq_decide_div_mod_eq, Nat.and_one_is_mod]
  apply Bool.eq_iff_iff.mpr
  rw [decide_eq_true_eq, decide_eq_true_eq]
  constructor
  · intro h
    injection h with h
    omega
  · intro h
    rw [h]
    rfl
end M
namespace M
open PySem L2 Evl
open PyProof.Rows hiding St
theorem whole_val {n j : Nat} (h : j ≤ n) : (1 * 2 ^ ((n : Int) + 1).toNat - 1 * 2 ^ (0 + (j : Int)).toNat : Int) = ((2 ^ (n + 1) - 2 ^ j : Nat) : Int) := by
  have e1 : ((n : Int) + 1).toNat = n + 1 := by omega
  have e2 : (0 + (j : Int)).toNat = j := by omega
  have le : 2 ^ j ≤ 2 ^ (n + 1) := Nat.pow_le_pow_right (by decide) (by omega)
  rw [e1, e2, Int.one_mul, Int.one_mul, Int.ofNat_sub le]
  rfl
def wholeU (n j : Nat) : List Nat := (List.range j).map fun s => 2 ^ (n + 1) - 2 ^ s
theorem wholeU_succ (n j : Nat) : natV (wholeU n (j + 1)) = natV (wholeU n j) ++ [V.int ((2 ^ (n + 1) - 2 ^ j : Nat) : Int)] := by
  unfold natV wholeU
  rw [List.range_succ, List.map_append, List.map_append]
  rfl
theorem wholeU_all (n : Nat) : wholeU n (n + 1) = wholeT n := rfl
theorem wholeU_len (n j : Nat) : (natV (wholeU n j)).length = j := by simp [natV, wholeU]
end M
namespace M
open PySem L2 Evl
open PyProof.Rows hiding St
theorem natV_set (ts : List Nat) (u w y : Nat) : (natV ts).set u (V.int (Builtin.bitOr (w : Int) (y : Int))) = natV (ts.set u (w ||| y)) := by
  unfold natV
  rw [or_nat, List.map_set]
end M
namespace M
open PySem L2 Evl
open PyProof.Rows hiding St
theorem natV_take {L : List Nat} {j v : Nat} (h : L[j]? = some v) : natV (L.take (j + 1)) = natV (L.take j) ++ [V.int (v : Nat)] := by
  obtain ⟨hj, e⟩ := List.getElem?_eq_some_iff.mp h
  rw [take_succ' hj, e]
  unfold natV
  rw [List.map_append]
  rfl
theorem zipw_get {f : Nat → Nat → Nat} {a b : List Nat} {j x y : Nat} (h1 : a[j]? = some x) (h2 : b[j]? = some y) : (List.zipWith f a b)[j]? = some (f x y) := by
  rw [List.getElem?_zipWith, h1, h2]
end M
namespace M
open PySem L2 Evl
open PyProof.Rows hiding St
theorem codes_cut1 {z : Str} {i : Nat} (h : i ≤ z.length) : codes (cutS z none (some (i : Nat))) = (codes z).take i := by
  have e1 : HT.sIx z.length 0 none = 0 := rfl
  have e2 : HT.sIx z.length z.length (some (i : Int)) = i := by rw [HT.sIx_nat]; exact Nat.min_eq_left h
  unfold codes cutS
  rw [e1, e2]
  simp
theorem codes_cut2 {z : Str} {i : Nat} (h : i ≤ z.length) : codes (cutS z (some ((i : Nat) : Int)) none) = (codes z).drop i := by
  have e1 : HT.sIx z.length 0 (some (i : Int)) = i := by rw [HT.sIx_nat]; exact Nat.min_eq_left h
  have e2 : HT.sIx z.length z.length none = z.length := rfl
  unfold codes cutS
  rw [e1, e2]
  have hl : z.cps.toList.length = z.length := Array.length_toList
  simp only [List.toList_toArray]
  apply List.take_of_length_le
  rw [List.length_drop, hl]
  exact Nat.le_refl _
theorem cut_len {z : Str} {lo hi : Option Int} : (cutS z lo hi).length ≤ z.length := by
  show ((z.cps.toList.drop _).take _).toArray.size ≤ _
  rw [List.size_toArray, List.length_take, List.length_drop]
  have hl : z.cps.toList.length = z.length := Array.length_toList
  omega
end M
namespace M
open PySem L2 Evl
open PyProof.Rows hiding St
theorem join_one : ∀ cs : List Nat, Str.join "" (cs.map fun c => (⟨#[c]⟩ : Str)) = ⟨cs.toArray⟩
  | [] => rfl
  | [c] => rfl
  | c :: c' :: cs => by
    have ih := join_one (c' :: cs)
    show (⟨#[c]⟩ : Str) ++ "" ++ Str.join "" ((c' :: cs).map fun c => (⟨#[c]⟩ : Str)) = _
    rw [ih]
    show (⟨(#[c] ++ #[]) ++ (c' :: cs).toArray⟩ : Str) = _
    congr 1
    apply Array.toList_inj.mp
    simp
theorem txt_one (cs : List Nat) : Txt.join "" (cs.map fun c => (⟨#[c]⟩ : Str)) = ⟨cs.toArray⟩ := by
  have : Txt.join "" (cs.map fun c => (⟨#[c]⟩ : Str)) = Str.join "" (cs.map fun c => (⟨#[c]⟩ : Str)) := PySem.StrLaws.glued_eq_join _ _
  rw [this, join_one]
def oneV (cs : List Nat) : List V := (cs.map fun c => (⟨#[c]⟩ : Str)).map V.str
theorem oneV_app (cs : List Nat) (c : Nat) : oneV (cs ++ [c]) = oneV cs ++ [V.str ⟨#[c]⟩] := by simp [oneV]
theorem oneV_len (cs : List Nat) : (oneV cs).length = cs.length := by simp [oneV]
end M
namespace M
open PySem L2 Evl
open PyProof.Rows hiding St
theorem names3 {k : Int} (h0 : 0 ≤ k) (h3 : k < 3) : ∃ z : Str, atI [V.str "ab", V.str "a", V.str "abc"] k = some (.str z) ∧ Names z := by
  have n1 : Names "ab" := ⟨by unfold Abc; decide +kernel, by decide +kernel, by decide +kernel⟩
  have n2 : Names "a" := ⟨by unfold Abc; decide +kernel, by decide +kernel, by decide +kernel⟩
  have n3 : Names "abc" := ⟨by unfold Abc; decide +kernel, by decide +kernel, by decide +kernel⟩
  rcases (by omega : k = 0 ∨ k = 1 ∨ k = 2) with rfl | rfl | rfl
  · exact ⟨_, rfl, n1⟩
  · exact ⟨_, rfl, n2⟩
  · exact ⟨_, rfl, n3⟩
def dbb2 (b : Bool) : PyData := .list [.bool b, .bool b]
theorem shw_dbb (b : Bool) : Shw (dbb2 b) := by cases b <;> exact ⟨by decide +kernel, by decide +kernel, by decide +kernel, by decide +kernel⟩
end M
namespace M
open PySem L2 Evl
open PyProof.Rows hiding St
theorem op_is_bl {X : Cx} : OpR X (compareOp .Is) (fun x y H Q => ∃ a b, x = .bl a ∧ y = .bl b ∧ Q (.bl (decide (a = b))) H) := by
  intro pins s σ H x y v u Q I rx ry h
  obtain ⟨a, b, rfl, rfl, q⟩ := h
  cases rx
  cases ry
  show wpAny _ _ ((isSame (Value.bool a) (Value.bool b)) >>= fun z => pure (Value.bool z)) _ _ s
  refine wpAny_bind (wpAny_isSame_plain rfl ?_)
  have e : (Value.bool a == Value.bool b) = decide (a = b) := by cases a <;> cases b <;> rfl
  rw [e]
  exact wpAny_pure ⟨.bl _, H, I, rfl, q⟩
end M
namespace M
open PySem L2 Evl
open PyProof.Rows hiding St
theorem iteOF {c : Bool} {A B : Prop} (h : c = false) (b : B) : if c = true then A else B := by subst h; exact b
theorem iteOT {c : Bool} {A B : Prop} (h : c = true) (a : A) : if c = true then A else B := by subst h; exact a
theorem no_same (q : Qn) (r : List Nat) : decide (V.bl (lt (.no q) r) = V.bl (lt q r)) = false := by
  have h : ∀ b : Bool, ¬ (V.bl (!b) = V.bl b) := fun b e => by
    injection e with e
    cases b <;> cases e
  exact decide_eq_false (h (lt q r))
theorem lt_both (a b : Qn) (r : List Nat) : lt (.both a b) r = (lt a r && lt b r) := rfl
theorem bl_ne_self (b : Bool) : (!decide (V.bl b = V.bl b)) = false := by simp
theorem bl_eq_self (b : Bool) : decide (V.bl b = V.bl b) = true := by simp
end M
end

section
set_option Elab.async false
set_option linter.all false
set_option maxRecDepth 100000
set_option maxHeartbeats 4000000
/-! defs that may raise an own exception; places where questions are met -/
namespace M
open PySem L2 Evl
open PyProof.Rows hiding St
section
variable {P : Program} {w : World} {K : PySem.W.Frag} {mg : Str → Option Value} {base : Heap} {k : Nat} {f : Addr} {fd : FuncData} {ps : List Str} {sp : Sp}
/-- where it raises nothing -/
theorem calmF (F : FnOk P w K mg base (L2.CX P w) k f fd ps sp) : FnOk P w K mg base CX0 k f fd ps (fun vs H Q _ => sp vs H Q (fun _ _ _ => False)) :=
  ⟨fun vs H Q E h => F.len vs H Q _ h, fun A outer s H args us vs Q E hr e b r h => codeAny_mono (F.run A outer s H args us vs Q _ hr e b r h) fun r s' q => by
    cases r with
    | ok fl => cases fl <;> exact q
    | error er =>
      obtain ⟨a, B, H', cls, d, _, _, _, _, _, _, _, hE⟩ := q
      exact hE.elim⟩
end
/-- isinstance(e, c) in the suite of except .. as e -/
def rIsS (K : PySem.W.Frag) (a : Addr) (cls : Value) (d : Option Addr) : List V → Hp → VK → Prop := fun xs H Q => ∃ (C fI dd : Addr) (fs : List (Str × V)) (c : V) (cv : Value) (b : Bool), xs = [.ref a, c] ∧ cls = .ref C ∧ XC K C fI ∧ d = some dd ∧ H dd = some (.xd fs) ∧
  (∀ u, RelV c u → u = cv) ∧ PySem.W.kitOne K (.ref C) cv = some b ∧ Q (.bl b) H
theorem call_isS {X : Cx} {a : Addr} {oe : Obj} {cls : Value} {d : Option Addr} {pn : List (Addr × Obj)} (hz : Zc cls d oe) (hf : ∃ vs, oe.data = .fields vs) : CallR (X.suite a ((a, oe) :: pn)) (.builtin "isinstance") (rIsS X.K a cls d) := by
  intro pins s σ H xs us Q I r h
  obtain ⟨C, fI, dd, fs, c, cv, b, rfl, ec, k, ed, ea, hcv, e, q⟩ := h
  subst ec
  subst ed
  cases r with
  | cons ra rr =>
    cases rr with
    | cons rc rr =>
      cases rr
      cases ra
      obtain rfl := hcv _ rc
      obtain ⟨ha, _⟩ := I.pin (a, oe) (List.mem_append_left _ List.mem_cons_self)
      obtain ⟨vs, hd⟩ := hf
      have hx : ObjOk X.prog X.w H s.heap dd (.xd fs) := I.hok dd _ ea
      obtain ⟨mA, hns, hr⟩ := hx
      obtain ⟨od, ho, hl⟩ := lookIn_ns hns
      have J : PySem.W.InstAt s.heap a oe C (some od) := ⟨ha, hz.1, by unfold PySem.W.notCls; rw [hd] <;> rfl, by rw [hz.2]; exact ho⟩
      exact PySem.W.kia_one (PySem.W.kitx_exc k.cl k.ga k.gt k.sb k.ca k.ng k.tk k.mr) I.kIn J e (fun z => nomatch z) fun tk => ⟨.bl b, H, I.kept (t' := tk) fun _ _ z => z, rfl, q⟩
end M
namespace M
open PySem L2 Evl
open PyProof.Rows hiding St
/-- the places below p at which it is met -/
def mets (a : Qn) (c : Nat) (b : Qn) (r : List Nat) (p : Nat) : List Nat := (List.range p).filter fun i => decide (r[i]? = some c) && (lt a (r.take i) && lt b (r.drop (i + 1)))
theorem mets_succ {a b : Qn} {c : Nat} {r : List Nat} {p : Nat} : mets a c b r (p + 1) = mets a c b r p ++ (if (decide (r[p]? = some c) && (lt a (r.take p) && lt b (r.drop (p + 1)))) = true then [p] else []) := by
  unfold mets
  rw [List.range_succ, List.filter_append]
  congr 1
  exact List.filter_cons
theorem mets_yes {a b : Qn} {c : Nat} {r : List Nat} {p : Nat} (h1 : r[p]? = some c) (h2 : lt a (r.take p) = true) (h3 : lt b (r.drop (p + 1)) = true) : mets a c b r (p + 1) = mets a c b r p ++ [p] := by
  rw [mets_succ, h1, h2, h3]; simp
theorem mets_no {a b : Qn} {c : Nat} {r : List Nat} {p : Nat} (h : ¬ (r[p]? = some c ∧ lt a (r.take p) = true ∧ lt b (r.drop (p + 1)) = true)) : mets a c b r (p + 1) = mets a c b r p := by
  rw [mets_succ, if_neg, List.append_nil]
  intro z
  simp only [Bool.and_eq_true, decide_eq_true_eq] at z
  exact h z
theorem mets_len {a b : Qn} {c : Nat} {r : List Nat} {p : Nat} : (mets a c b r p).length ≤ p := by
  have := List.length_filter_le (fun i => decide (r[i]? = some c) && (lt a (r.take i) && lt b (r.drop (i + 1)))) (List.range p)
  rw [List.length_range] at this
  exact this
theorem mets_lt {a b : Qn} {c : Nat} {r : List Nat} : lt (.some a c b) r = !(decide (mets a c b r r.length = [])) := by
  apply Bool.eq_iff_iff.mpr
  rw [Bool.not_eq_true', decide_eq_false_iff_not]
  unfold mets
  simp only [lt, List.any_eq_true, List.filter_eq_nil_iff]
  constructor
  · rintro ⟨i, h1, h2⟩ h
    exact h i h1 h2
  · intro h
    refine Classical.byContradiction fun g => h fun i hi hp => g ⟨i, hi, hp⟩
/-- all such lists -/
def subsQ : Nat → List (List Nat)
  | 0 => [[]]
  | n + 1 => subsQ n ++ (subsQ n).map (· ++ [n])
theorem mets_sub {a b : Qn} {c : Nat} {r : List Nat} : ∀ p, mets a c b r p ∈ subsQ p
  | 0 => by simp [mets, subsQ]
  | p + 1 => by
    have ih := mets_sub (a := a) (b := b) (c := c) (r := r) p
    rw [mets_succ, subsQ]
    split
    · exact List.mem_append.mpr (.inr (List.mem_map.mpr ⟨_, ih, rfl⟩))
    · rw [List.append_nil]
      exact List.mem_append.mpr (.inl ih)
theorem subsQ_le {n m : Nat} (h : n ≤ m) : ∀ x ∈ subsQ n, x ∈ subsQ m := by
  induction m with
  | zero => obtain rfl : n = 0 := by omega
            exact fun x h => h
  | succ m ih =>
    by_cases e : n = m + 1
    · subst e; exact fun x h => h
    · intro x hx
      rw [subsQ]
      exact List.mem_append.mpr (.inl (ih (by omega) x hx))
def dn (ns : List Nat) : PyData := .list (ns.map fun (n : Nat) => .int n)
def dn2 (ns : List Nat) : PyData := .list [dn ns, dn ns]
theorem shw_all : ((subsQ 8).all fun ns => (dn2 ns).showable && (!(dn2 ns).hasDict && (decide ((dn2 ns).depth ≤ 50) && decide ((dn2 ns).shown.length ≤ 200)))) = true := by decide +kernel
theorem shw_dn2 {ns : List Nat} (h : ns ∈ subsQ 8) : Shw (dn2 ns) := by
  have := List.all_eq_true.mp shw_all ns h
  simp only [Bool.and_eq_true, decide_eq_true_eq, Bool.not_eq_true'] at this
  exact ⟨this.1, this.2.1, this.2.2.1, Nat.le_trans this.2.2.2 (by decide)⟩
theorem dp_dn {K : PySem.W.Frag} {H : Hp} : ∀ {ns : List Nat}, DpAll K H (natV ns) (ns.map fun (n : Nat) => .int n)
  | [] => .nil
  | n :: ns => .cons (.int n) dp_dn
theorem dn_ok (ns : List Nat) : SeqAt.shaped (dn ns) = true ∧ PyData.eqv (dn ns) (dn ns) = true := by
  have h : ∀ l : List Nat, PyData.canLayAll0 (l.map fun (j : Nat) => PyData.int j) = true ∧ PyData.depthAll (l.map fun (j : Nat) => PyData.int j) = 0 := fun l => by
    induction l with
    | nil => exact ⟨rfl, rfl⟩
    | cons j l ih => exact ⟨by simp only [List.map_cons, PyData.canLayAll0, ih.1]; rfl, by simp only [List.map_cons, PyData.depthAll, ih.2]; rfl⟩
  obtain ⟨h1, h2⟩ := h ns
  have lay : (dn ns).canLay0 = true := by unfold dn; rw [PyData.canLay0]; exact h1
  refine ⟨?_, SeqAt.eqv_refl _ lay⟩
  unfold SeqAt.shaped
  rw [lay]
  unfold dn
  rw [PyData.depth, h2]
  decide
theorem dn_nil (ns : List Nat) : PyData.eqv (dn ns) (.list []) = decide (ns = []) := by
  cases ns with
  | nil => decide +kernel
  | cons n ns =>
    rw [decide_eq_false (by simp)]
    rfl
end M
namespace M
open PySem L2 Evl
open PyProof.Rows hiding St
def notSome : Qn → Bool
  | .some _ _ _ => false
  | _ => true
def sp_placesQ (K : PySem.W.Frag) (C : Addr) : Sp := fun vs H Q E => ∃ (H0 : Hp) (v : V) (q : Qn) (z : Str), vs = [.str z, v] ∧ Ex H0 H ∧ Dp K H0 v q.d ∧ q.Ok ∧ q.parts ≤ 1000 ∧ Abc z ∧ z.length ≤ 100 ∧
  ((∃ a c b, q = .some a c b ∧ ∀ l H', Ex H H' → H l = none → H' l = some (.lst (natV (mets a c b (codes z) (codes z).length))) → Q (.ref l) H') ∨
   (notSome q = true ∧ ∀ d H', Ex H H' → H' d = some (.xd [("value", v)]) → E (.ref C) (some d) H'))
def sp_caught (K : PySem.W.Frag) : Sp := fun vs H Q _ => ∃ (H0 : Hp) (v : V) (q : Qn) (z : Str), vs = [.str z, v] ∧ Ex H0 H ∧ Dp K H0 v q.d ∧ q.Ok ∧ q.parts ≤ 60 ∧ Abc z ∧ z.length ≤ 100 ∧ notSome q = true ∧
  ∀ l H', Ex H H' → H' l = some (.lst [.bl true, .bl true]) → Q (.ref l) H'
end M
namespace M
open PySem L2 Evl
open PyProof.Rows hiding St
theorem op_eqS {X : Cx} {a : Addr} {pn : List (Addr × Obj)} (hu : X.A.units + 64 < cLine) : OpR (X.suite a pn) (compareOp .Eq) (rEqD X.K) := op_eqD (X := X.suite a pn) hu
end M
end

section
set_option Elab.async false
set_option linter.all false
set_option maxRecDepth 100000
/-! patterns of letters, rows without letters, what the texts' own words say of them -/
namespace M
open PySem L2 Evl
open PyProof.Rows hiding St
def pat (cs : List Nat) : Qn := cs.foldl (fun q c => Qn.some q c .any) .any
def bareQ (cs : List Nat) : Qn := cs.foldl (fun q c => Qn.both q (.no (.some .any c .any))) .any
theorem pat_snoc (cs : List Nat) (c : Nat) : pat (cs ++ [c]) = .some (pat cs) c .any := by simp [pat]
theorem bare_snoc (cs : List Nat) (c : Nat) : bareQ (cs ++ [c]) = .both (bareQ cs) (.no (.some .any c .any)) := by simp [bareQ]
theorem some_take {a b : Qn} {c : Nat} {r : List Nat} : lt (.some a c b) r = true ↔ ∃ i, r[i]? = some c ∧ lt a (r.take i) = true ∧ lt b (r.drop (i + 1)) = true := by
  simp only [lt, List.any_eq_true, List.mem_range, Bool.and_eq_true, decide_eq_true_eq]
  constructor
  · rintro ⟨i, _, h⟩; exact ⟨i, h⟩
  · rintro ⟨i, h⟩; exact ⟨i, (List.getElem?_eq_some_iff.mp h.1).1, h⟩
def grd (ls : List Nat) (r : List Nat) : Nat := r.foldl (fun a c => if a < ls.length ∧ ls[a]? = some c then a + 1 else a) 0
theorem grd_snoc (ls r : List Nat) (x : Nat) : grd ls (r ++ [x]) = if grd ls r < ls.length ∧ ls[grd ls r]? = some x then grd ls r + 1 else grd ls r := by
  unfold grd
  rw [List.foldl_append]
  rfl
theorem grd_le (ls : List Nat) (r : List Nat) : ∀ p, p ≤ r.length → grd ls (r.take p) ≤ ls.length
  | 0, _ => by simp [grd]
  | p + 1, h => by
    have ih := grd_le ls r p (by omega)
    rw [take_succ' (show p < r.length by omega), grd_snoc]
    split <;> omega
theorem pat_take (ls r : List Nat) : ∀ p, p ≤ r.length → ∀ k, k ≤ ls.length → (lt (pat (ls.take k)) (r.take p) = true ↔ k ≤ grd ls (r.take p))
  | p, hp, 0, _ => by simp [pat, lt]
  | 0, _, k + 1, hk => by
    rw [take_succ' (show k < ls.length by omega), pat_snoc]
    simp [lt, grd]
  | p + 1, hp, k + 1, hk => by
    have ihp := pat_take ls r p (by omega)
    have step : lt (pat (ls.take (k + 1))) (r.take (p + 1)) = true ↔ lt (pat (ls.take (k + 1))) (r.take p) = true ∨ (r[p]? = some (ls[k]'(by omega)) ∧ lt (pat (ls.take k)) (r.take p) = true) := by
      rw [take_succ' (show k < ls.length by omega), pat_snoc, some_take, some_take]
      constructor
      · rintro ⟨i, h1, h2, _⟩
        have hi : i < p + 1 := by
          have := (List.getElem?_eq_some_iff.mp h1).1
          rw [List.length_take] at this
          omega
        rw [List.getElem?_take, if_pos hi] at h1
        rw [List.take_take, Nat.min_eq_left (by omega)] at h2
        by_cases e : i = p
        · subst e; exact .inr ⟨h1, h2⟩
        · refine .inl ⟨i, ?_, ?_, rfl⟩
          · rw [List.getElem?_take, if_pos (by omega)]; exact h1
          · rw [List.take_take, Nat.min_eq_left (by omega)]; exact h2
      · rintro (⟨i, h1, h2, _⟩ | ⟨h1, h2⟩)
        · have hi : i < p := by
            have := (List.getElem?_eq_some_iff.mp h1).1
            rw [List.length_take] at this
            omega
          rw [List.getElem?_take, if_pos hi] at h1
          rw [List.take_take, Nat.min_eq_left (by omega)] at h2
          refine ⟨i, ?_, ?_, rfl⟩
          · rw [List.getElem?_take, if_pos (by omega)]; exact h1
          · rw [List.take_take, Nat.min_eq_left (by omega)]; exact h2
        · refine ⟨p, ?_, ?_, rfl⟩
          · rw [List.getElem?_take, if_pos (by omega)]; exact h1
          · rw [List.take_take, Nat.min_eq_left (by omega)]; exact h2
    have hpx : p < r.length := by omega
    rw [step, ihp (k + 1) hk, ihp k (by omega), take_succ' hpx, grd_snoc, List.getElem?_eq_getElem hpx]
    have gl := grd_le ls r p (by omega)
    generalize grd ls (r.take p) = g at *
    constructor
    · rintro (h | ⟨h1, h2⟩)
      · split <;> omega
      · by_cases e : k = g
        · subst e
          rw [if_pos ⟨by omega, by rw [List.getElem?_eq_getElem (by omega)]; exact h1.symm⟩]
          omega
        · split <;> omega
    · intro h
      split at h
      · rename_i c
        by_cases e : k = g
        · subst e
          obtain ⟨c1, c2⟩ := c
          rw [List.getElem?_eq_getElem c1] at c2
          exact .inr ⟨c2.symm, Nat.le_refl _⟩
        · exact .inl (by omega)
      · exact .inl h
theorem pat_grd (ls r : List Nat) : lt (pat ls) r = decide (grd ls r = ls.length) := by
  have h := pat_take ls r r.length (Nat.le_refl _) ls.length (Nat.le_refl _)
  have g := grd_le ls r r.length (Nat.le_refl _)
  rw [List.take_length, List.take_length] at h
  rw [List.take_length] at g
  apply Bool.eq_iff_iff.mpr
  rw [h, decide_eq_true_eq]
  omega
theorem grd_rep (n c : Nat) (r : List Nat) : ∀ p, p ≤ r.length → grd (List.replicate n c) (r.take p) = min n ((r.take p).count c)
  | 0, _ => by simp [grd]
  | p + 1, h => by
    have ih := grd_rep n c r p (by omega)
    rw [take_succ' (show p < r.length by omega), grd_snoc, ih, List.count_append, List.length_replicate]
    generalize (r.take p).count c = m
    generalize r[p] = x
    rw [List.getElem?_replicate]
    by_cases e : x = c
    · subst e
      simp only [List.count_singleton_self]
      by_cases hm : m < n
      · rw [if_pos ⟨by omega, by rw [if_pos (by omega)]⟩]; omega
      · rw [if_neg (by omega)]; omega
    · have e2 : List.count c [x] = 0 := by
        rw [List.count_cons]
        simp [e]
      rw [e2, if_neg]
      · omega
      · rintro ⟨h1, h2⟩
        rw [if_pos h1] at h2
        exact e (Option.some.inj h2).symm
theorem pat_rep (n c : Nat) (r : List Nat) : lt (pat (List.replicate n c)) r = decide (n ≤ r.count c) := by
  have g := grd_rep n c r r.length (Nat.le_refl _)
  rw [List.take_length] at g
  rw [pat_grd, g, List.length_replicate]
  apply decide_eq_decide.mpr
  omega
theorem bare_all (r : List Nat) : ∀ (cs : List Nat) (q : Qn), lt (cs.foldl (fun q c => Qn.both q (.no (.some .any c .any))) q) r = true ↔ lt q r = true ∧ ∀ c ∈ cs, c ∉ r
  | [], q => by simp
  | c :: cs, q => by
    rw [List.foldl_cons, bare_all r cs]
    have e : lt (.no (.some .any c .any)) r = true ↔ c ∉ r := by
      simp only [lt, Bool.not_eq_true', ← Bool.not_eq_true]
      apply not_congr
      have := some_take (a := .any) (b := .any) (c := c) (r := r)
      simp only [lt] at this
      rw [this, List.mem_iff_getElem?]
      simp
    have e2 : lt (.both q (.no (.some .any c .any))) r = true ↔ lt q r = true ∧ c ∉ r := by
      rw [← e]; simp only [lt, Bool.and_eq_true]
    rw [e2]
    simp only [List.mem_cons, forall_eq_or_imp, and_assoc]
theorem bare_nil {cs r : List Nat} (h : ∀ x ∈ r, x ∈ cs) : lt (bareQ cs) r = true ↔ r = [] := by
  unfold bareQ
  rw [bare_all]
  constructor
  · rintro ⟨_, h2⟩
    cases r with
    | nil => rfl
    | cons x r => exact absurd (List.mem_cons_self) (h2 x (h x List.mem_cons_self))
  · rintro rfl
    exact ⟨rfl, fun c _ => by simp⟩
theorem bare_is {cs r : List Nat} (h : ∀ x ∈ r, x ∈ cs) : lt (bareQ cs) r = decide (r = []) := by
  apply Bool.eq_iff_iff.mpr
  rw [bare_nil h, decide_eq_true_eq]
theorem starts {cs r : List Nat} {c : Nat} (h : ∀ x ∈ r, x ∈ cs) : lt (.some (bareQ cs) c .any) r = decide (r[0]? = some c) := by
  apply Bool.eq_iff_iff.mpr
  rw [some_take, decide_eq_true_eq]
  constructor
  · rintro ⟨i, h1, h2, _⟩
    rw [bare_nil (fun x hx => h x (List.mem_of_mem_take hx))] at h2
    have hi := (List.getElem?_eq_some_iff.mp h1).1
    have := congrArg List.length h2
    rw [List.length_take, List.length_nil] at this
    obtain rfl : i = 0 := by omega
    exact h1
  · intro h1
    exact ⟨0, h1, (bare_nil (fun x hx => h x (List.mem_of_mem_take hx))).mpr (by simp), rfl⟩
theorem ends_iff {cs r : List Nat} {c : Nat} (h : ∀ x ∈ r, x ∈ cs) : lt (.some .any c (bareQ cs)) r = true ↔ r[r.length - 1]? = some c := by
  rw [some_take]
  constructor
  · rintro ⟨i, h1, _, h2⟩
    rw [bare_nil (fun x hx => h x (List.mem_of_mem_drop hx))] at h2
    have hi := (List.getElem?_eq_some_iff.mp h1).1
    have := congrArg List.length h2
    rw [List.length_drop, List.length_nil] at this
    obtain rfl : i = r.length - 1 := by omega
    exact h1
  · intro h1
    have hi := (List.getElem?_eq_some_iff.mp h1).1
    refine ⟨_, h1, rfl, (bare_nil (fun x hx => h x (List.mem_of_mem_drop hx))).mpr ?_⟩
    apply List.drop_eq_nil_of_le
    omega
theorem ends_is {cs r : List Nat} {c : Nat} (h : ∀ x ∈ r, x ∈ cs) : lt (.some .any c (bareQ cs)) r = decide (r[r.length - 1]? = some c) := by
  apply Bool.eq_iff_iff.mpr
  rw [ends_iff h, decide_eq_true_eq]
theorem near_iff {cs r : List Nat} {c m : Nat} (h : ∀ x ∈ r, x ∈ cs) : lt (.some (.some .any c (bareQ cs)) m .any) r = true ↔ ∃ i, r[i]? = some c ∧ r[i + 1]? = some m := by
  rw [some_take]
  constructor
  · rintro ⟨j, h1, h2, _⟩
    rw [ends_iff (fun x hx => h x (List.mem_of_mem_take hx))] at h2
    have hj := (List.getElem?_eq_some_iff.mp h1).1
    have hl : (r.take j).length = j := by rw [List.length_take]; omega
    have hj2 := (List.getElem?_eq_some_iff.mp h2).1
    rw [hl] at h2 hj2
    rw [List.getElem?_take, if_pos hj2] at h2
    refine ⟨j - 1, h2, ?_⟩
    rw [show j - 1 + 1 = j by omega]
    exact h1
  · rintro ⟨i, h1, h2⟩
    refine ⟨i + 1, h2, ?_, rfl⟩
    have hj := (List.getElem?_eq_some_iff.mp h2).1
    rw [ends_iff (fun x hx => h x (List.mem_of_mem_take hx))]
    have hl : (r.take (i + 1)).length = i + 1 := by rw [List.length_take]; omega
    rw [hl, List.getElem?_take, if_pos (by omega)]
    exact h1
/-! ### texts -/
theorem str_starts (x : Str) (c : Nat) : Txt.startswith x ⟨#[c]⟩ = decide ((codes x)[0]? = some c) := by
  have h := PySem.StrLaws.subAt_one x c 0
  apply Bool.eq_iff_iff.mpr
  rw [decide_eq_true_eq]
  unfold codes
  rw [← h]
  unfold Txt.startswith
  rw [Bool.and_eq_true, decide_eq_true_eq]
theorem str_ends (x : Str) (c : Nat) : Txt.endswith x ⟨#[c]⟩ = decide ((codes x)[(codes x).length - 1]? = some c) := by
  have h := PySem.StrLaws.subAt_one x c (x.length - 1)
  apply Bool.eq_iff_iff.mpr
  rw [decide_eq_true_eq, codes_len]
  unfold codes
  rw [← h]
  unfold Txt.endswith
  rw [Bool.and_eq_true, decide_eq_true_eq]
  have e : (⟨#[c]⟩ : Str).length = 1 := rfl
  rw [e]
  constructor
  · rintro ⟨h1, h2⟩; exact ⟨by omega, h2⟩
  · rintro ⟨h1, h2⟩; exact ⟨by omega, h2⟩
theorem str_in2 (x : Str) (c m : Nat) : (!(Builtin.Str.occurrences x ⟨#[c, m]⟩ 0 x.length 1).isEmpty) = true ↔ ∃ i, (codes x)[i]? = some c ∧ (codes x)[i + 1]? = some m := by
  rw [PySem.StrLaws.found_iff]
  have e : (⟨#[c, m]⟩ : Str).length = 2 := rfl
  have key : ∀ i, (i + (⟨#[c, m]⟩ : Str).length ≤ x.length ∧ Builtin.Str.subAt x ⟨#[c, m]⟩ i = true) ↔ ((codes x)[i]? = some c ∧ (codes x)[i + 1]? = some m) := fun i => by
    rw [PySem.StrLaws.subAt_eq, e]
    show (_ ∧ (((codes x).drop i).take 2 == [c, m]) = true) ↔ _
    rw [beq_iff_eq, ← codes_len]
    generalize codes x = r
    have g0 : r[i]? = (r.drop i)[0]? := by rw [List.getElem?_drop]; rfl
    have g1 : r[i + 1]? = (r.drop i)[1]? := by rw [List.getElem?_drop]
    have gl : i + 2 ≤ r.length ↔ 2 ≤ (r.drop i).length := by rw [List.length_drop]; omega
    rw [g0, g1, gl]
    match r.drop i with
    | [] => simp
    | [a] => simp
    | a :: b :: l => simp
  constructor
  · rintro ⟨i, h⟩; exact ⟨i, (key i).mp h⟩
  · rintro ⟨i, h⟩; exact ⟨i, (key i).mpr h⟩
theorem none_at {r : List Nat} {c : Nat} : ∀ (n a : Nat), (∀ k, a ≤ k → k < a + n → r[k]? ≠ some c) → (r.drop a).count c = (r.drop (a + n)).count c
  | 0, a, _ => rfl
  | n + 1, a, h => by
    have ih := none_at n (a + 1) (fun k h1 h2 => h k (by omega) (by omega))
    rw [show a + (n + 1) = a + 1 + n by omega, ← ih]
    by_cases ha : a < r.length
    · rw [List.drop_eq_getElem_cons ha, List.count_cons]
      have h1 := h a (Nat.le_refl _) (by omega)
      rw [List.getElem?_eq_getElem ha] at h1
      have h2 : ¬ (r[a] == c) = true := fun z => h1 (by rw [eq_of_beq z])
      rw [if_neg h2, Nat.add_zero]
    · rw [List.drop_eq_nil_of_le (by omega), List.drop_eq_nil_of_le (by omega)]
theorem chain_count {x : Str} {c : Nat} : ∀ (os : List Nat) (a f : Nat), PySem.StrLaws.ChainG x ⟨#[c]⟩ x.length a os f → (∀ k, f ≤ k → ¬ PySem.StrLaws.At x ⟨#[c]⟩ x.length k) → os.length = ((codes x).drop a).count c
  | [], a, f, h, hn => by
    obtain rfl : f = a := h
    have z := none_at (r := codes x) (c := c) (codes x).length f (fun k h1 _ h2 => hn k h1 ((PySem.StrLaws.subAt_one x c k).mpr h2))
    rw [z, List.drop_eq_nil_of_le (by omega)]
    rfl
  | o :: os, a, f, h, hn => by
    obtain ⟨h1, h2, h3, h4⟩ := h
    have ih := chain_count os (o + 1) f h4 hn
    have hc : (codes x)[o]? = some c := (PySem.StrLaws.subAt_one x c o).mp h2
    obtain ⟨ho, e⟩ := List.getElem?_eq_some_iff.mp hc
    have z := none_at (r := codes x) (c := c) (o - a) a (fun k k1 k2 k3 => h3 k k1 (by omega) ((PySem.StrLaws.subAt_one x c k).mpr k3))
    rw [z, show a + (o - a) = o by omega, List.drop_eq_getElem_cons ho, e, List.count_cons_self, ← ih]
    rfl
theorem str_count (x : Str) (c : Nat) : Txt.count x ⟨#[c]⟩ = (((codes x).count c : Nat) : Int) := by
  obtain ⟨f, g, hn⟩ := PySem.StrLaws.occ_tight x ⟨#[c]⟩ (Nat.le_refl 1)
  have := chain_count _ 0 f g hn
  rw [List.drop_zero] at this
  unfold Txt.count
  rw [this]
theorem codes_mul (c : Nat) (n : Int) : codes (Txt.mul ⟨#[c]⟩ n) = List.replicate n.toNat c := PyProof.Rows.mul_one_list c n
end M
namespace M
open PySem L2 Evl
open PyProof.Rows hiding St
theorem for_str {x : Str} {g : TG} {tb : TS} {D : Ends} {σ : L2.St} {H : Hp} (Pv : Nat → L2.St → Hp → Prop) (h0 : Pv 0 σ H)
    (hs : ∀ i c σ H, x.cps[i]? = some c → Pv i σ H → g (.str ⟨#[c]⟩) σ H fun σ2 H2 => tb { D with nx := Pv (i + 1), ct := Pv (i + 1), bk := D.nx } σ2 H2)
    (hd : ∀ σ H, Pv x.cps.size σ H → D.nx σ H) :
    ∃ W : Nat → Nat → L2.St → Hp → Prop, (∃ m, W 0 m σ H) ∧ ∀ i m σ H, W i m σ H →
      ((Its x).stop i H ∧ D.nx σ H) ∨ ((Its x).go i H ∧ ∃ N : L2.St → Hp → Prop, (∀ σ' H', N σ' H' → ∃ m', m' < m ∧ W (i + 1) m' σ' H') ∧ ∀ v H', (Its x).yld i H v H' → g v σ H' fun σ2 H2 => tb { D with nx := N, ct := N, bk := D.nx } σ2 H2) := by
  refine ⟨fun i m σ H => m = x.cps.size - i ∧ i ≤ x.cps.size ∧ Pv i σ H, ⟨_, rfl, Nat.zero_le _, h0⟩, ?_⟩
  rintro i _ σ H ⟨rfl, le, p⟩
  rcases Nat.lt_or_ge i x.cps.size with lt | ge
  · right
    refine ⟨lt, Pv (i + 1), fun σ' H' q => ⟨_, by omega, rfl, lt, q⟩, ?_⟩
    rintro v H' ⟨rfl, c, hc, rfl⟩
    exact hs i c σ _ hc p
  · obtain rfl : i = x.cps.size := Nat.le_antisymm le ge
    exact .inl ⟨Nat.le_refl _, hd _ _ p⟩
def sp_pattern (K : PySem.W.Frag) : Sp := fun vs H Q _ => ∃ z : Str, vs = [.str z] ∧ ∀ v H', Ex H H' → Dp K H' v (pat (codes z)).d → Q v H'
def sp_bare (K : PySem.W.Frag) : Sp := fun vs H Q _ => ∃ (H0 : Hp) (p : Addr) (m : Nat) (z : Str), vs = [.str z] ∧ Pl H0 H p m ∧ ∀ v H1 H', Ex H0 H1 → Pl H1 H' p m → Dp K H1 v (bareQ (codes z)).d → Q v H'
def sp_has : Sp := fun vs H Q _ => ∃ (z y : Str), vs = [.str z, .str y] ∧ y.length ≤ 100 ∧ Q (.bl (decide (grd (codes y) (codes z) = (codes y).length))) H
theorem names2 {k : Int} (h0 : 0 ≤ k) (h3 : k < 2) : ∃ z : Str, atI [V.str "ab", V.str "abc"] k = some (.str z) ∧ Names z ∧ z.length ≤ 3 := by
  have n1 : Names "ab" := ⟨by unfold Abc; decide +kernel, by decide +kernel, by decide +kernel⟩
  have n3 : Names "abc" := ⟨by unfold Abc; decide +kernel, by decide +kernel, by decide +kernel⟩
  rcases (by omega : k = 0 ∨ k = 1) with rfl | rfl
  · exact ⟨_, rfl, n1, by decide +kernel⟩
  · exact ⟨_, rfl, n3, by decide +kernel⟩
theorem pat_ok : ∀ (cs : List Nat) (q : Qn), q.Ok → (∀ c ∈ cs, 97 ≤ c ∧ c ≤ 122) → (cs.foldl (fun q c => Qn.some q c .any) q).Ok
  | [], q, h, _ => h
  | c :: cs, q, h, g => by
    rw [List.foldl_cons]
    exact pat_ok cs _ ⟨h, g c List.mem_cons_self, trivial⟩ fun d hd => g d (List.mem_cons_of_mem _ hd)
theorem bare_ok : ∀ (cs : List Nat) (q : Qn), q.Ok → (∀ c ∈ cs, 97 ≤ c ∧ c ≤ 122) → (cs.foldl (fun q c => Qn.both q (.no (.some .any c .any))) q).Ok
  | [], q, h, _ => h
  | c :: cs, q, h, g => by
    rw [List.foldl_cons]
    exact bare_ok cs _ ⟨h, trivial, g c List.mem_cons_self, trivial⟩ fun d hd => g d (List.mem_cons_of_mem _ hd)
theorem pat_parts : ∀ (cs : List Nat) (q : Qn), (cs.foldl (fun q c => Qn.some q c .any) q).parts = q.parts + 2 * cs.length
  | [], q => rfl
  | c :: cs, q => by
    rw [List.foldl_cons, pat_parts cs]
    simp only [Qn.parts, List.length_cons]
    omega
theorem bare_parts : ∀ (cs : List Nat) (q : Qn), (cs.foldl (fun q c => Qn.both q (.no (.some .any c .any))) q).parts = q.parts + 5 * cs.length
  | [], q => rfl
  | c :: cs, q => by
    rw [List.foldl_cons, bare_parts cs]
    simp only [Qn.parts, List.length_cons]
    omega
end M
namespace M
open PySem L2 Evl
open PyProof.Rows hiding St
theorem mul6 {c : Nat} {n : Int} (h0 : 1 ≤ n) (h1 : n ≤ 6) : MulOk ⟨#[c]⟩ n := by
  have e : (⟨#[c]⟩ : Str).length = 1 := rfl
  unfold MulOk
  rw [e]
  rcases (by omega : n = 1 ∨ n = 2 ∨ n = 3 ∨ n = 4 ∨ n = 5 ∨ n = 6) with rfl | rfl | rfl | rfl | rfl | rfl <;> decide +kernel
theorem ne_F {a b : Bool} (h : a = b) : (!decide (V.bl a = V.bl b)) = false := by rw [h]; simp
theorem eq_T {a b : Bool} (h : a = b) : decide (V.bl a = V.bl b) = true := by rw [h]; simp
theorem cnt_ge {k : Nat} {n : Int} (h : 0 ≤ n) : decide (n.toNat ≤ k) = decide ((k : Int) ≥ n) := by
  apply decide_eq_decide.mpr
  omega
theorem str_nil {z : Str} : decide (V.str z = V.str "") = decide (codes z = []) := by
  apply decide_eq_decide.mpr
  constructor
  · intro h
    injection h with h
    rw [h]; rfl
  · intro h
    congr 1
    cases z with
    | mk a =>
      have : a.toList = [] := h
      have : a = #[] := Array.toList_inj.mp this
      rw [this]; rfl
end M
end

section
set_option Elab.async false
set_option linter.all false
set_option maxRecDepth 100000
/-! rows alike to a depth, and kinds by numbers: the mathematics of it -/
namespace M
/-- alike to the depth, by the words -/
def Al : Nat → List Nat → List Nat → Prop
  | 0, _, _ => True
  | d + 1, r, s => (∀ i c, r[i]? = some c → ∃ j, s[j]? = some c ∧ Al d (r.take i) (s.take j) ∧ Al d (r.drop (i + 1)) (s.drop (j + 1))) ∧
      (∀ j c, s[j]? = some c → ∃ i, r[i]? = some c ∧ Al d (r.take i) (s.take j) ∧ Al d (r.drop (i + 1)) (s.drop (j + 1)))
theorem Al.refl : ∀ (d : Nat) (r : List Nat), Al d r r
  | 0, _ => trivial
  | d + 1, r => ⟨fun i c h => ⟨i, h, Al.refl d _, Al.refl d _⟩, fun i c h => ⟨i, h, Al.refl d _, Al.refl d _⟩⟩
theorem Al.symm : ∀ {d : Nat} {r s : List Nat}, Al d r s → Al d s r
  | 0, _, _, _ => trivial
  | d + 1, r, s, h => ⟨fun j c e => let ⟨i, a, b, g⟩ := h.2 j c e; ⟨i, a, b.symm, g.symm⟩, fun i c e => let ⟨j, a, b, g⟩ := h.1 i c e; ⟨j, a, b.symm, g.symm⟩⟩
theorem Al.trans : ∀ {d : Nat} {r s t : List Nat}, Al d r s → Al d s t → Al d r t
  | 0, _, _, _, _, _ => trivial
  | d + 1, r, s, t, h, g => by
    refine ⟨fun i c e => ?_, fun k c e => ?_⟩
    · obtain ⟨j, e2, a1, a2⟩ := h.1 i c e
      obtain ⟨k, e3, b1, b2⟩ := g.1 j c e2
      exact ⟨k, e3, a1.trans b1, a2.trans b2⟩
    · obtain ⟨j, e2, a1, a2⟩ := g.2 k c e
      obtain ⟨i, e3, b1, b2⟩ := h.2 j c e2
      exact ⟨i, e3, b1.trans a1, b2.trans a2⟩
theorem Al.less : ∀ {d : Nat} {r s : List Nat}, Al (d + 1) r s → Al d r s
  | 0, _, _, _ => trivial
  | d + 1, r, s, h => ⟨fun i c e => let ⟨j, e2, a1, a2⟩ := h.1 i c e; ⟨j, e2, a1.less, a2.less⟩, fun i c e => let ⟨j, e2, a1, a2⟩ := h.2 i c e; ⟨j, e2, a1.less, a2.less⟩⟩
theorem Al.mono {r s : List Nat} {e : Nat} : ∀ {d : Nat}, Al d r s → e ≤ d → Al e r s
  | 0, h, le => by
    obtain rfl : e = 0 := by omega
    exact h
  | d + 1, h, le => by
    by_cases q : e = d + 1
    · subst q; exact h
    · exact Al.mono h.less (by omega)
/-! ### a table of kinds: depth and marks of each number -/
abbrev Mark := Nat × Nat × Nat
abbrev KTab := List (Nat × List Mark)
/-- the number n is the kind of the row to the depth -/
def Rep (t : KTab) : Nat → Nat → List Nat → Prop
  | 0, n, _ => n = 0
  | d + 1, n, r => ∃ ms, t[n]? = some (d + 1, ms) ∧ (∀ i c, r[i]? = some c → ∃ a b, (a, c, b) ∈ ms ∧ Rep t d a (r.take i) ∧ Rep t d b (r.drop (i + 1))) ∧
      (∀ a c b, (a, c, b) ∈ ms → ∃ i, r[i]? = some c ∧ Rep t d a (r.take i) ∧ Rep t d b (r.drop (i + 1)))
def Grows (t u : KTab) : Prop := ∀ (n : Nat) (x : Nat × List Mark), t[n]? = some x → u[n]? = some x
theorem Grows.refl (t : KTab) : Grows t t := fun _ _ h => h
theorem Grows.trans {t u v : KTab} (h : Grows t u) (g : Grows u v) : Grows t v := fun n x e => g n x (h n x e)
theorem Grows.app (t u : KTab) : Grows t (t ++ u) := fun n x e => by
  rw [List.getElem?_append_left (List.getElem?_eq_some_iff.mp e).1]; exact e
theorem Rep.up {t u : KTab} (g : Grows t u) : ∀ {d n : Nat} {r : List Nat}, Rep t d n r → Rep u d n r
  | 0, _, _, h => h
  | d + 1, n, r, ⟨ms, h, h1, h2⟩ => ⟨ms, g _ _ h, fun i c e => let ⟨a, b, m, x, y⟩ := h1 i c e; ⟨a, b, m, x.up g, y.up g⟩, fun a c b m => let ⟨i, e, x, y⟩ := h2 a c b m; ⟨i, e, x.up g, y.up g⟩⟩
theorem Rep.al {t : KTab} : ∀ {d n : Nat} {r s : List Nat}, Rep t d n r → Rep t d n s → Al d r s
  | 0, _, _, _, _, _ => trivial
  | d + 1, n, r, s, ⟨ms, h, h1, h2⟩, ⟨ms', g, g1, g2⟩ => by
    have e : ms = ms' := by
      have := h.symm.trans g
      injection this with this
      injection this with _ this
    subst e
    refine ⟨fun i c e => ?_, fun j c e => ?_⟩
    · obtain ⟨a, b, m, x, y⟩ := h1 i c e
      obtain ⟨j, e2, x2, y2⟩ := g2 a c b m
      exact ⟨j, e2, x.al x2, y.al y2⟩
    · obtain ⟨a, b, m, x, y⟩ := g1 j c e
      obtain ⟨i, e2, x2, y2⟩ := h2 a c b m
      exact ⟨i, e2, x2.al x, y2.al y⟩
theorem Rep.move {t : KTab} : ∀ {d n : Nat} {r s : List Nat}, Rep t d n r → Al d r s → Rep t d n s
  | 0, _, _, _, h, _ => h
  | d + 1, n, r, s, ⟨ms, h, h1, h2⟩, g => by
    refine ⟨ms, h, fun j c e => ?_, fun a c b m => ?_⟩
    · obtain ⟨i, e2, x, y⟩ := g.2 j c e
      obtain ⟨a, b, m, x2, y2⟩ := h1 i c e2
      exact ⟨a, b, m, x2.move x, y2.move y⟩
    · obtain ⟨i, e, x, y⟩ := h2 a c b m
      obtain ⟨j, e2, x2, y2⟩ := g.1 i c e
      exact ⟨j, e2, x.move x2, y.move y2⟩
/-- marks are told in one sequence, and no two numbers are one kind -/
structure KOk (canon : List Mark → Prop) (t : KTab) : Prop where
  one : ∀ (n m : Nat) (x : Nat × List Mark), t[n]? = some x → t[m]? = some x → n = m
  can : ∀ (n d : Nat) (ms : List Mark), t[n]? = some (d, ms) → canon ms
theorem Rep.one {canon : List Mark → Prop} (hc : ∀ xs ys, canon xs → canon ys → (∀ m, m ∈ xs ↔ m ∈ ys) → xs = ys) {t : KTab} (k : KOk canon t) : ∀ {d n m : Nat} {r : List Nat}, Rep t d n r → Rep t d m r → n = m
  | 0, _, _, _, h, g => h.trans g.symm
  | d + 1, n, m, r, ⟨ms, h, h1, h2⟩, ⟨ms', g, g1, g2⟩ => by
    have half : ∀ {xs ys : List Mark}, (∀ a c b, (a, c, b) ∈ xs → ∃ i, r[i]? = some c ∧ Rep t d a (r.take i) ∧ Rep t d b (r.drop (i + 1))) →
        (∀ i c, r[i]? = some c → ∃ a b, (a, c, b) ∈ ys ∧ Rep t d a (r.take i) ∧ Rep t d b (r.drop (i + 1))) → ∀ m, m ∈ xs → m ∈ ys := fun {xs ys} p q ⟨a, c, b⟩ hm => by
      obtain ⟨i, e, x, y⟩ := p a c b hm
      obtain ⟨a', b', hm', x', y'⟩ := q i c e
      rw [Rep.one hc k x x', Rep.one hc k y y']
      exact hm'
    have e : ms = ms' := hc _ _ (k.can _ _ _ h) (k.can _ _ _ g) fun m => ⟨half h2 g1 m, half g2 h1 m⟩
    subst e
    exact k.one _ _ _ h g
theorem Rep.iff {canon : List Mark → Prop} (hc : ∀ xs ys, canon xs → canon ys → (∀ m, m ∈ xs ↔ m ∈ ys) → xs = ys) {t : KTab} (k : KOk canon t) {d n m : Nat} {r s : List Nat} (h : Rep t d n r) (g : Rep t d m s) : n = m ↔ Al d r s :=
  ⟨fun e => by subst e; exact h.al g, fun a => Rep.one hc k (h.move a) g⟩
/-! ### the rows that grow -/
theorem rep_empty {t : KTab} {d n : Nat} (h : t[n]? = some (d + 1, [])) : Rep t (d + 1) n [] := ⟨[], h, fun i c e => by simp at e, fun a c b m => by simp at m⟩
theorem Rep.row {t : KTab} {d n : Nat} {r : List Nat} {ms : List Mark} (h : t[n]? = some (d + 1, ms)) (h1 : ∀ i c, r[i]? = some c → ∃ a b, (a, c, b) ∈ ms ∧ Rep t d a (r.take i) ∧ Rep t d b (r.drop (i + 1)))
    (h2 : ∀ a c b, (a, c, b) ∈ ms → ∃ i, r[i]? = some c ∧ Rep t d a (r.take i) ∧ Rep t d b (r.drop (i + 1))) : Rep t (d + 1) n r := ⟨ms, h, h1, h2⟩
/-- a letter behind: marks with what is behind made longer, and one new mark -/
theorem rep_behind {t u : KTab} {d n n' x l e : Nat} {ms ms' : List Mark} {nb : Nat → Nat} (g : Grows t u) (hn : t[n]? = some (d + 1, ms)) (hn' : u[n']? = some (d + 1, ms'))
    (hm : ∀ m, m ∈ ms' ↔ m = (l, x, e) ∨ ∃ a c b, (a, c, b) ∈ ms ∧ m = (a, c, nb b)) (hb : ∀ a c b, (a, c, b) ∈ ms → ∀ r, Rep t d b r → Rep u d (nb b) (r ++ [x]))
    (he : Rep u d e []) {r : List Nat} (hl : Rep u d l r) (h : Rep t (d + 1) n r) : Rep u (d + 1) n' (r ++ [x]) := by
  obtain ⟨ms0, h0, h1, h2⟩ := h
  obtain rfl : ms = ms0 := by
    have := hn.symm.trans h0
    injection this with this
    injection this
  refine ⟨ms', hn', fun i c e1 => ?_, fun a c b m => ?_⟩
  · by_cases hi : i < r.length
    · rw [List.getElem?_append_left hi] at e1
      obtain ⟨a, b, m, x1, y1⟩ := h1 i c e1
      refine ⟨a, nb b, (hm _).mpr (.inr ⟨a, c, b, m, rfl⟩), ?_, ?_⟩
      · rw [List.take_append_of_le_length (Nat.le_of_lt hi)]
        exact x1.up g
      · rw [List.drop_append_of_le_length hi]
        exact hb _ _ _ m _ y1
    · have hi2 := (List.getElem?_eq_some_iff.mp e1).1
      rw [List.length_append, List.length_singleton] at hi2
      obtain rfl : i = r.length := by omega
      rw [List.getElem?_append_right (Nat.le_refl _), Nat.sub_self] at e1
      have e2 : x = c := Option.some.inj e1
      subst e2
      refine ⟨l, e, (hm _).mpr (.inl rfl), ?_, ?_⟩
      · rw [List.take_left]; exact hl
      · rw [List.drop_of_length_le (by simp)]; exact he
  · rcases (hm _).mp m with q | ⟨a', c', b', m', q⟩
    · obtain ⟨rfl, rfl, rfl⟩ : a = l ∧ c = x ∧ b = e := by
        injection q with q1 q2
        injection q2 with q2 q3
        exact ⟨q1, q2, q3⟩
      refine ⟨r.length, by rw [List.getElem?_append_right (Nat.le_refl _), Nat.sub_self]; rfl, ?_, ?_⟩
      · rw [List.take_left]; exact hl
      · rw [List.drop_of_length_le (by simp)]; exact he
    · obtain ⟨rfl, rfl, rfl⟩ : a = a' ∧ c = c' ∧ b = nb b' := by
        injection q with q1 q2
        injection q2 with q2 q3
        exact ⟨q1, q2, q3⟩
      obtain ⟨i, e1, x1, y1⟩ := h2 a c b' m'
      have hi := (List.getElem?_eq_some_iff.mp e1).1
      refine ⟨i, by rw [List.getElem?_append_left hi]; exact e1, ?_, ?_⟩
      · rw [List.take_append_of_le_length (Nat.le_of_lt hi)]
        exact x1.up g
      · rw [List.drop_append_of_le_length hi]
        exact hb _ _ _ m' _ y1
/-- a letter ahead -/
theorem rep_ahead {t u : KTab} {d n n' x l e : Nat} {ms ms' : List Mark} {na : Nat → Nat} (g : Grows t u) (hn : t[n]? = some (d + 1, ms)) (hn' : u[n']? = some (d + 1, ms'))
    (hm : ∀ m, m ∈ ms' ↔ m = (e, x, l) ∨ ∃ a c b, (a, c, b) ∈ ms ∧ m = (na a, c, b)) (hb : ∀ a c b, (a, c, b) ∈ ms → ∀ r, Rep t d a r → Rep u d (na a) (x :: r))
    (he : Rep u d e []) {r : List Nat} (hl : Rep u d l r) (h : Rep t (d + 1) n r) : Rep u (d + 1) n' (x :: r) := by
  obtain ⟨ms0, h0, h1, h2⟩ := h
  obtain rfl : ms = ms0 := by
    have := hn.symm.trans h0
    injection this with this
    injection this
  refine ⟨ms', hn', fun i c e1 => ?_, fun a c b m => ?_⟩
  · cases i with
    | zero =>
      have e2 : x = c := Option.some.inj e1
      subst e2
      exact ⟨e, l, (hm _).mpr (.inl rfl), he, hl⟩
    | succ i =>
      obtain ⟨a, b, m, x1, y1⟩ := h1 i c e1
      exact ⟨na a, b, (hm _).mpr (.inr ⟨a, c, b, m, rfl⟩), hb _ _ _ m _ x1, y1.up g⟩
  · rcases (hm _).mp m with q | ⟨a', c', b', m', q⟩
    · obtain ⟨rfl, rfl, rfl⟩ : a = e ∧ c = x ∧ b = l := by
        injection q with q1 q2
        injection q2 with q2 q3
        exact ⟨q1, q2, q3⟩
      exact ⟨0, rfl, he, hl⟩
    · obtain ⟨rfl, rfl, rfl⟩ : a = na a' ∧ c = c' ∧ b = b' := by
        injection q with q1 q2
        injection q2 with q2 q3
        exact ⟨q1, q2, q3⟩
      obtain ⟨i, e1, x1, y1⟩ := h2 a' c b m'
      exact ⟨i + 1, e1, hb _ _ _ m' _ x1, y1.up g⟩
/-- to the depth below: each mark's kinds made lesser -/
theorem rep_less {t u : KTab} {d n n' : Nat} {ms ms' : List Mark} {ls : Nat → Nat} (hn : t[n]? = some (d + 2, ms)) (hn' : u[n']? = some (d + 1, ms'))
    (hm : ∀ m, m ∈ ms' ↔ ∃ a c b, (a, c, b) ∈ ms ∧ m = (ls a, c, ls b)) (hb : ∀ a c b, (a, c, b) ∈ ms → ∀ r, (Rep t (d + 1) a r → Rep u d (ls a) r) ∧ (Rep t (d + 1) b r → Rep u d (ls b) r))
    {r : List Nat} (h : Rep t (d + 2) n r) : Rep u (d + 1) n' r := by
  obtain ⟨ms0, h0, h1, h2⟩ := h
  obtain rfl : ms = ms0 := by
    have := hn.symm.trans h0
    injection this with this
    injection this
  refine ⟨ms', hn', fun i c e1 => ?_, fun a c b m => ?_⟩
  · obtain ⟨a, b, m, x1, y1⟩ := h1 i c e1
    exact ⟨ls a, ls b, (hm _).mpr ⟨a, c, b, m, rfl⟩, (hb _ _ _ m _).1 x1, (hb _ _ _ m _).2 y1⟩
  · obtain ⟨a', c', b', m', q⟩ := (hm _).mp m
    obtain ⟨rfl, rfl, rfl⟩ : a = ls a' ∧ c = c' ∧ b = ls b' := by
      injection q with q1 q2
      injection q2 with q2 q3
      exact ⟨q1, q2, q3⟩
    obtain ⟨i, e1, x1, y1⟩ := h2 a' c b' m'
    exact ⟨i, e1, (hb _ _ _ m' _).1 x1, (hb _ _ _ m' _).2 y1⟩
end M
end

section
set_option Elab.async false
set_option linter.all false
set_option maxRecDepth 100000
set_option maxHeartbeats 2000000
/-! dicts whose keys are nested tuples of whole numbers and texts -/
namespace M
open PySem PySem.Spec L2
open PyProof.Rows hiding St
mutual
/-- the value is the key k; its tuples are tracked -/
inductive NK (H : Hp) : V → NestedKey → Prop
  | int (i : Int) : NK H (.int i) (.num i)
  | str (z : Str) : NK H (.str z) (.text z)
  | tup {a : Addr} {xs : List V} {ks : List NestedKey} : H a = some (.tup xs) → NKs H xs ks → NK H (.ref a) (.tup ks)
inductive NKs (H : Hp) : List V → List NestedKey → Prop
  | nil : NKs H [] []
  | cons {x : V} {k : NestedKey} {xs : List V} {ks : List NestedKey} : NK H x k → NKs H xs ks → NKs H (x :: xs) (k :: ks)
end
mutual
theorem NK.up {H H' : Hp} (e : ∀ b xs, H b = some (.tup xs) → H' b = some (.tup xs)) : ∀ {v : V} {k : NestedKey}, NK H v k → NK H' v k
  | _, _, .int i => .int i
  | _, _, .str z => .str z
  | _, _, .tup h t => .tup (e _ _ h) (NKs.up e t)
theorem NKs.up {H H' : Hp} (e : ∀ b xs, H b = some (.tup xs) → H' b = some (.tup xs)) : ∀ {xs : List V} {ks : List NestedKey}, NKs H xs ks → NKs H' xs ks
  | _, _, .nil => .nil
  | _, _, .cons h t => .cons (NK.up e h) (NKs.up e t)
end
mutual
theorem NK.is {P : Program} {w : World} {H : Hp} {h : Heap} (ok : HOk P w H h) : ∀ {v : V} {k : NestedKey}, NK H v k → ∀ {u : Value}, RelV v u → NestedIs h k u
  | _, _, .int i, u, r => by
    obtain ⟨t, rfl⟩ := r
    exact .int i t
  | _, _, .str z, u, r => by
    obtain ⟨t, rfl⟩ := r
    exact .text z t
  | _, _, .tup (a := a) ha t, u, r => by
    obtain rfl : u = Value.ref a := r
    obtain ⟨_, its, rv, o, ho, hc, n, hd⟩ := ok a _ ha
    exact .tup ho hc hd (by simpa using NKs.is ok t rv)
theorem NKs.is {P : Program} {w : World} {H : Hp} {h : Heap} (ok : HOk P w H h) : ∀ {xs : List V} {ks : List NestedKey}, NKs H xs ks → ∀ {us : List Value}, Vals xs us → NestedAll h ks us
  | _, _, .nil, us, r => by
    cases r
    exact .nil
  | _, _, .cons h t, us, r => by
    cases r with
    | cons ru rr => exact .cons (NK.is ok h ru) (NKs.is ok t rr)
end
abbrev NEnt := NestedKey × Addr × V
/-- a row of the dict, by its value -/
def NRel (p : NEnt) (q : NestedKey × Addr × Value) : Prop := p.1 = q.1 ∧ p.2.1 = q.2.1 ∧ RelV p.2.2 q.2.2
def NdIn (P : Program) (w : World) (d : Addr) (xs : List NEnt) (h : Heap) : Prop := (d == sysModules) = false ∧ ∃ (ys : List (NestedKey × Addr × Value)) (o : Obj) (es : Array DictEntry) (ep : Nat), h.get? d = some o ∧ o.ExactDict ∧ o.data = .dict es ep ∧
  es.toList = ys.map (entryOfKey (nestedKind P w)) ∧ (ys.map (·.1)).Nodup ∧ Paired NRel xs ys
def NdO (P : Program) (w : World) (d : Addr) (xs : List NEnt) : HO := .ext (NdIn P w d xs)
theorem ndO_new {P : Program} {w : World} {H : Hp} {h : Heap} {d : Addr} {xs : List NEnt} (R : NdIn P w d xs h) : ObjOk P w H h d (NdO P w d xs) := by
  obtain ⟨z, ys, o, es, ep, h1, r⟩ := id R
  refine ⟨R, ⟨o, h1⟩, fun g1 g2 ⟨z, ys, o, es, ep, h1, r⟩ k => ⟨z, ys, o, es, ep, k o h1, r⟩⟩
/-- the dict at d, and that its keys' tuples stand -/
structure ND (P : Program) (w : World) (H : Hp) (d : Addr) (xs : List NEnt) : Prop where
  at_ : H d = some (NdO P w d xs)
  key : ∀ x ∈ xs, NK H (.ref x.2.1) x.1 ∧ x.1.depth ≤ 8
theorem ND.keep {P : Program} {w : World} {H H' : Hp} {d : Addr} {xs : List NEnt} (h : ND P w H d xs) (e : ∀ b ys, H b = some (.tup ys) → H' b = some (.tup ys)) (k : H' d = some (NdO P w d xs)) : ND P w H' d xs :=
  ⟨k, fun x hx => ⟨(h.key x hx).1.up e, (h.key x hx).2⟩⟩
def kat (xs : List NEnt) (k : NestedKey) : Option V := (xs.find? fun x => decide (x.1 = k)).map (·.2.2)
theorem kat_rel {k : NestedKey} : ∀ {xs : List NEnt} {ys : List (NestedKey × Addr × Value)}, Paired NRel xs ys → (kat xs k = none ∧ atKey ys k = none) ∨ ∃ v p, kat xs k = some v ∧ atKey ys k = some p ∧ RelV v p.2
  | _, _, .nil => .inl ⟨rfl, rfl⟩
  | _, _, .cons (a := a) (b := b) (l₁ := l₁) (l₂ := l₂) r t => by
    obtain ⟨r1, r2, r3⟩ := r
    have ih := kat_rel (k := k) t
    unfold kat atKey at *
    rw [List.find?_cons, List.find?_cons, ← r1]
    by_cases e : a.1 = k
    · rw [decide_eq_true e]
      exact .inr ⟨_, _, rfl, rfl, r3⟩
    · rw [decide_eq_false e]
      exact ih
section
variable {X : Cx} {pins : List (Addr × Obj)} {σ : L2.St} {H : Hp} {s : Shared}
theorem nd_of {d : Addr} {xs : List NEnt} (I : Inv X pins σ H s) (h : ND X.prog X.w H d xs) : (d == sysModules) = false ∧ ∃ ys, s.heap.DictOfH (nestedKind X.prog X.w) d ys ∧ Paired NRel xs ys := by
  obtain ⟨⟨z, ys, o, es, ep, h1, h2, h3, h4, h5, h6⟩, -, -⟩ := I.hok d _ h.at_
  refine ⟨z, ys, ⟨o, es, ep, h1, h2, h3, h4, ?_, h5⟩, h6⟩
  have hk := h.key
  clear h4 h5 h
  revert hk
  induction h6 with
  | nil => exact fun _ y hy => nomatch hy
  | cons r t ih =>
    intro hk y hy
    rcases List.mem_cons.mp hy with rfl | hy
    · obtain ⟨k1, k2⟩ := hk _ List.mem_cons_self
      obtain ⟨r1, r2, _⟩ := r
      rw [← r1, ← r2]
      exact ⟨k1.is I.hok rfl, k2⟩
    · exact ih (fun x hx => hk x (List.mem_cons_of_mem _ hx)) y hy
/-- {} -/
def tDNewN (P : Program) (w : World) : TE := fun _ H Q => ∀ d, H d = none → Q (.ref d) (upd H d (NdO P w d []))
theorem pe_dnewN {pos : Pos} : PE X (.Dict [] [] pos) (tDNewN X.prog X.w) := ⟨fun pins s σ H Q I h => by
  refine wpAny_Dict_empty ⟨.ref s.heap.objs.size, upd H s.heap.objs.size (NdO X.prog X.w s.heap.objs.size []), I.laid (t' := s.toks) (fun _ _ q => Heap.get?_push_of_some _ q) (Nat.le_refl _) (ndO_new ⟨?_, [], _, _, _, Heap.get?_push_size _ rfl, ⟨rfl, rfl, rfl⟩, rfl, rfl, List.nodup_nil, .nil⟩), rfl, h _ (I.hok.fresh (Nat.le_refl _))⟩
  exact (dt_empty (P := X.prog) (w := X.w) (H := H) s.heap I.big).2.1⟩
/-- key not in d -/
def rNotN (P : Program) (w : World) : R2 := fun x y H Q => ∃ (t d : Addr) (k : NestedKey) (xs : List NEnt), x = .ref t ∧ y = .ref d ∧ NK H (.ref t) k ∧ k.depth ≤ 8 ∧ ND P w H d xs ∧ Q (.bl (!(kat xs k).isSome)) H
theorem op_notInN (hu : X.A.units + 64 < cLine) : OpR X (compareOp .NotIn) (rNotN X.prog X.w) := by
  intro pins s σ H x y v u Q I rx ry h
  obtain ⟨t, d, k, xs, rfl, rfl, hk, hd8, hd, q⟩ := h
  obtain rfl : v = Value.ref t := rx
  obtain rfl : u = Value.ref d := ry
  obtain ⟨z, ys, hm, rel⟩ := nd_of I hd
  refine wpAny_notIn_heap (knd := nestedKind X.prog X.w) (show X.A.in1.units + 8 < cLine by have := hu; show X.A.units + 1 + 8 < cLine; omega) ⟨hk.is I.hok rfl, hd8⟩ z hm ?_
  refine ⟨.bl _, H, I.tok _, ?_, q⟩
  rcases kat_rel (k := k) rel with ⟨e1, e2⟩ | ⟨v, p, e1, e2, _⟩
  · rw [e1, e2]; rfl
  · rw [e1, e2]; rfl
/-- d[key] -/
def rIxN (P : Program) (w : World) : R2 := fun x y H Q => ∃ (t d : Addr) (k : NestedKey) (xs : List NEnt) (v : V), x = .ref d ∧ y = .ref t ∧ NK H (.ref t) k ∧ k.depth ≤ 8 ∧ ND P w H d xs ∧ kat xs k = some v ∧ Q v H
theorem ix_dictN (hu : X.A.units + 64 < cLine) : IxR X (rIxN X.prog X.w) := by
  intro value slice pins s σ H x y v u Q I rx ry h hs
  obtain ⟨t, d, k, xs, vv, rfl, rfl, hk, hd8, hd, hv, q⟩ := h
  obtain rfl : v = Value.ref d := rx
  obtain rfl : u = Value.ref t := ry
  obtain ⟨z, ys, hm, rel⟩ := nd_of I hd
  rcases kat_rel (k := k) rel with ⟨e1, e2⟩ | ⟨v, p, e1, e2, rv⟩
  · rw [e1] at hv; cases hv
  · obtain rfl : v = vv := Option.some.inj (e1.symm.trans hv)
    exact tail_any hm.typeIs PySem.F.slot_dict_getitem.lookup (wpAny_getItem_heap (knd := nestedKind X.prog X.w) (show X.A.in1.units + 8 < cLine by have := hu; show X.A.units + 1 + 8 < cLine; omega) ⟨hk.is I.hok rfl, hd8⟩ hm e2 ⟨v, H, I.tok _, rv, q⟩) hs
/-- d[key] = v, a new key -/
def sNPut (P : Program) (w : World) (td ty tv : TE) : TS := fun D σ H => tv σ H fun v H1 => td σ H1 fun x H2 => ty σ H2 fun y H3 => ∃ (t d : Addr) (k : NestedKey) (xs : List NEnt), x = .ref d ∧ y = .ref t ∧ NK H3 (.ref t) k ∧ k.depth ≤ 8 ∧ ND P w H3 d xs ∧
  kat xs k = none ∧ xs.length ≤ sizeLine ∧ D.nx σ (upd H3 d (NdO P w d (xs ++ [(k, t, v)])))
theorem ps_nput {o i value : Expr} {td ty tv : TE} {pos pos' : Pos} (hu : X.A.units + 64 < cLine) (ho : PE X o td) (hi : PE X i ty) (hv : PE X value tv) (hs : swapsWith value (some (.Subscript o i pos')) pos.line X.env = pure false) :
    PS X (.Assign [.Subscript o i pos'] value pos) (sNPut X.prog X.w td ty tv) := by
  refine ⟨fun pins s σ H D I h => ?_⟩
  refine wpAny_Assign_Subscript (thn (hv.run pins s σ H _ I h) fun r s1 ⟨v, H1, I1, rv, q1⟩ => thn (ho.run pins s1 σ H1 _ I1 q1) fun u s2 ⟨x, H2, I2, rx, q2⟩ => thn (hi.run pins s2 σ H2 _ I2 q2) fun iv s3 ⟨y, H3, I3, ry, t, d, k, xs, ex, ey, hk, h8, hd, hn, hl, q3⟩ => ?_) hs
  subst ex; subst ey
  obtain rfl : u = Value.ref d := rx
  obtain rfl : iv = Value.ref t := ry
  obtain ⟨z, ys, hm, rel⟩ := nd_of I3 hd
  have e2 : atKey ys k = none := by
    rcases kat_rel (k := k) rel with ⟨_, e2⟩ | ⟨v, p, e1, _⟩
    · exact e2
    · rw [e1] at hn; cases hn
  refine wpAny_setItem_heap (knd := nestedKind X.prog X.w) (hsz := by rw [← Paired.length rel]; exact hl) (show X.A.in1.units + 8 < cLine by have := hu; show X.A.units + 1 + 8 < cLine; omega) ⟨hk.is I3.hok rfl, h8⟩ hm fun h' hm2 hsb => ?_
  rw [storedH_new e2] at hm2
  obtain ⟨o2, es2, ep2, a1, a2, a3, a4, a5, a6⟩ := hm2
  refine ⟨σ, upd H3 d (NdO X.prog X.w d (xs ++ [(k, t, v)])), ?_, q3⟩
  exact I3.write (e := d) (t' := s3.toks + (nestedKind X.prog X.w).draws k) (by rw [hd.at_]; trivial) (.inl rfl) (fun b u hb hu2 => (hsb.2 b hb).trans hu2) ⟨o2, a1⟩ (ndO_new ⟨z, _, o2, es2, ep2, a1, a2, a3, a4, a6, Paired.snoc rel ⟨rfl, rfl, rv⟩⟩)
/-- the dict behind it -/
theorem ND.put {P : Program} {w : World} {H : Hp} {d t : Addr} {xs : List NEnt} {k : NestedKey} {v : V} (h : ND P w H d xs) (hk : NK H (.ref t) k) (h8 : k.depth ≤ 8) : ND P w (upd H d (NdO P w d (xs ++ [(k, t, v)]))) d (xs ++ [(k, t, v)]) := by
  have e : ∀ b ys, H b = some (.tup ys) → upd H d (NdO P w d (xs ++ [(k, t, v)])) b = some (.tup ys) := fun b ys hb => by
    have n : b ≠ d := fun q => by
      rw [q, h.at_] at hb
      have z := Option.some.inj hb
      exact absurd (show HO.ext _ = HO.tup ys from z) (fun y => nomatch y)
    rw [upd_ne n]; exact hb
  refine ⟨upd_same, fun x hx => ?_⟩
  rcases List.mem_append.mp hx with hx | hx
  · exact ⟨(h.key x hx).1.up e, (h.key x hx).2⟩
  · rw [List.mem_singleton.mp hx]
    exact ⟨hk.up e, h8⟩
theorem kat_put {xs : List NEnt} {k j : NestedKey} {t : Addr} {v : V} (h : kat xs k = none) : kat (xs ++ [(k, t, v)]) j = if j = k then some v else kat xs j := by
  unfold kat at *
  rw [List.find?_append]
  by_cases e : j = k
  · subst e
    rw [if_pos rfl]
    have h2 : xs.find? (fun x => decide (x.1 = j)) = none := by
      cases q : xs.find? (fun x => decide (x.1 = j)) with
      | none => rfl
      | some y => rw [q] at h; cases h
    rw [h2]
    simp
  · rw [if_neg e]
    have e2 : ¬ k = j := fun q => e q.symm
    simp [e2]
end
end M
end

section
set_option Elab.async false
set_option linter.all false
set_option maxRecDepth 100000
set_option maxHeartbeats 2000000
/-! nested keys as members of sets: small questions that a search and a store ask of them -/
namespace M
open PySem PySem.Spec L2
open PyProof.Rows hiding St
section
variable {P : Program} {w : World} {E : Value → Shared → Prop}
mutual
/-- such a key is of no class statement -/
theorem class_nk : ∀ (k : NestedKey) (v : Value) (n : Nat) (A : Around) (s : Shared) (Q : Bool → Shared → Prop), NestedIs s.heap k v → k.depth ≤ n → Q false s → wpAny (model P w) A (ofAClassStatement n v) Q E s
  | .none, _, n, A, s, Q, x, _, h => by
    cases x
    cases n <;> exact wpAny_pure h
  | .num i, _, n, A, s, Q, x, _, h => by
    cases x <;> cases n <;> exact wpAny_pure h
  | .text z, _, n, A, s, Q, x, _, h => by
    cases x
    cases n <;> exact wpAny_pure h
  | .tup ks, _, n, A, s, Q, x, hn, h => by
    cases x with
    | tup ho hc hd hk =>
      simp only [NestedKey.depth] at hn
      match n, hn with
      | n + 1, hn =>
        unfold ofAClassStatement
        refine wpAny_bind (wpAny_typeOf ⟨_, ho, hc⟩ ?_)
        dsimp only
        have e : (("tuple" : String) == "tuple") = true := by decide
        simp only [e, if_true]
        try refine wpAny_bind (wpAny_pure ?_)
        simp only [Bool.not_true, Bool.false_eq_true, if_false]
        refine wpAny_bind (wpAny_seqItems ho hd ?_)
        dsimp only
        refine wpAny_bind ?_
        rw [← Array.forIn_toList]
        refine class_nks ks _ n A s _ hk (by omega) ?_
        exact wpAny_pure h
theorem class_nks : ∀ (ks : List NestedKey) (vs : List Value) (n : Nat) (A : Around) (s : Shared) (Q : Option Bool × Unit → Shared → Prop), NestedAll s.heap ks vs → NestedKey.depthAll ks ≤ n → Q (none, ()) s →
    wpAny (model P w) A (forIn vs ((none, ()) : Option Bool × Unit) fun y _ => do if ← ofAClassStatement n y then pure (ForInStep.done (some true, ())) else pure (ForInStep.yield (none, ()))) Q E s
  | [], _, n, A, s, Q, x, _, h => by
    cases x
    exact wpAny_pure h
  | k :: ks, _, n, A, s, Q, x, hn, h => by
    cases x with
    | cons x1 x2 =>
      simp only [NestedKey.depthAll] at hn
      rw [List.forIn_cons]
      refine wpAny_bind (wpAny_bind (class_nk k _ n A s _ x1 (by omega) ?_))
      refine wpAny_pure ?_
      exact class_nks ks _ n A s Q x2 (by omega) h
end
mutual
/-- whether its hash stands by its value: it tells one or the other -/
theorem byval_nk : ∀ (k : NestedKey) (v : Value) (n : Nat) (A : Around) (s : Shared) (Q : Bool → Shared → Prop), NestedIs s.heap k v → (∀ b, Q b s) → wpAny (model P w) A (hashByValue n v) Q E s
  | .none, _, n, A, s, Q, x, h => by
    cases x
    cases n <;> exact wpAny_pure (h _)
  | .num i, _, n, A, s, Q, x, h => by
    cases x <;> cases n <;> exact wpAny_pure (h _)
  | .text z, _, n, A, s, Q, x, h => by
    cases x
    cases n <;> exact wpAny_pure (h _)
  | .tup ks, _, n, A, s, Q, x, h => by
    cases x with
    | tup ho hc hd hk =>
      cases n with
      | zero => exact wpAny_pure (h _)
      | succ n =>
        unfold hashByValue
        refine wpAny_bind (wpAny_specialOf (T := "tuple") ⟨_, ho, hc⟩ PySem.F.slot_tuple_hash.lookup ?_)
        dsimp only
        refine wpAny_bind (wpAny_seqItems ho hd ?_)
        refine wpAny_bind ?_
        show wpAny _ _ (forIn _ _ _) _ _ s
        rw [← Array.forIn_toList]
        refine byval_nks ks _ n A s _ hk (fun r => ?_)
        rcases r with _ | b
        · exact wpAny_pure (h _)
        · exact wpAny_pure (h _)
theorem byval_nks : ∀ (ks : List NestedKey) (vs : List Value) (n : Nat) (A : Around) (s : Shared) (Q : Option Bool × Unit → Shared → Prop), NestedAll s.heap ks vs → (∀ r, Q (r, ()) s) →
    wpAny (model P w) A (forIn vs ((none, ()) : Option Bool × Unit) fun x _ => do if (!(← hashByValue n x)) = true then pure (ForInStep.done (some false, ())) else pure (ForInStep.yield (none, ()))) Q E s
  | [], _, n, A, s, Q, x, h => by
    cases x
    exact wpAny_pure (h _)
  | k :: ks, _, n, A, s, Q, x, h => by
    cases x with
    | cons x1 x2 =>
      rw [List.forIn_cons]
      refine wpAny_bind (wpAny_bind (byval_nk k _ n A s _ x1 fun b => ?_))
      cases b with
      | true => exact wpAny_pure (byval_nks ks _ n A s Q x2 h)
      | false => exact wpAny_pure (wpAny_pure (h _))
end
/-- a search among such keys shows nothing -/
theorem search_nk {A : Around} {s : Shared} {k : NestedKey} {b : Addr} {Q : Bool → Shared → Prop} (hk : NestedIs s.heap k (.ref b)) (h8 : k.depth ≤ 8) : ∀ (ys : List Value), (∀ y ∈ ys, ∃ k' c, y = Value.ref c ∧ NestedIs s.heap k' (.ref c) ∧ k'.depth ≤ 8) → Q false s →
    wpAny (model P w) A (searchCouldBeSeen (.ref b) ys) Q E s := by
  intro ys hy h
  unfold searchCouldBeSeen
  refine wpAny_bind ?_
  have key : ∀ (l : List Value), (∀ y ∈ l, y ∈ ys) → ∀ (R : Option Bool × Unit → Shared → Prop), R (none, ()) s → wpAny (model P w) A (forIn l ((none, ()) : Option Bool × Unit) (fun y __s => do
      let very := match Value.ref b, y with
        | .ref a, .ref b => a == b
        | _, _ => false
      if (very || (carriedByValue (.ref b) && carriedByValue y)) = true then pure (ForInStep.yield (none, ()))
      else do
        if (!(← eqIsQuiet 8 (.ref b))) = true then pure (ForInStep.done (some true, ()))
        else do
          if (!(← eqIsQuiet 8 y)) = true then pure (ForInStep.done (some true, ()))
          else do
            if (← ofAClassStatement 8 (.ref b)) = true then pure (ForInStep.done (some true, ()))
            else do
              if (← ofAClassStatement 8 y) = true then pure (ForInStep.done (some true, ()))
              else pure (ForInStep.yield (none, ())))) R E s := fun l => by
    induction l with
    | nil => intro _ R hR; exact wpAny_pure hR
    | cons y l ih =>
      intro hl R hR
      obtain ⟨k', c, rfl, hc, hc8⟩ := hy y (hl y List.mem_cons_self)
      have rest := ih (fun z hz => hl z (List.mem_cons_of_mem _ hz)) R hR
      rw [List.forIn_cons]
      refine wpAny_bind ?_
      dsimp only
      split
      · exact wpAny_pure rest
      · refine wpAny_bind (quiet_key k _ 8 s hk h8 A E _ ?_)
        refine wpAny_bind (quiet_key k' _ 8 s hc hc8 A E _ ?_)
        refine wpAny_bind (class_nk k _ 8 A s _ hk h8 ?_)
        refine wpAny_bind (class_nk k' _ 8 A s _ hc hc8 ?_)
        exact wpAny_pure rest
  exact key ys (fun y hy => hy) _ (wpAny_pure h)
end
end M
end

section
set_option Elab.async false
set_option linter.all false
set_option maxRecDepth 100000
set_option maxHeartbeats 2000000
/-! sets of nested keys: the search -/
namespace M
open PySem PySem.Spec L2
open PyProof.Rows hiding St
abbrev NMem := Addr × NestedKey
def nrow (w : World) (p : NMem) : Int × Value := (p.2.hash w, .ref p.1)
/-- the set at a holds the keys L, each at its address, in the table's order -/
structure SN (w : World) (h : Heap) (a : Addr) (L : List NMem) (es : Array (Int × Value)) (ep : Nat) (t : SetTable) : Prop where
  obj : ∃ o, h.get? a = some o ∧ o.ExactSet ∧ o.data = .set es ep t
  rows : es.toList = L.map (nrow w)
  tab : TabOk t (L.map fun p => p.2.hash w)
  once : (L.map (·.2)).Nodup
  key : ∀ p ∈ L, NestedIs h p.2 (.ref p.1) ∧ p.2.depth ≤ 8
  roomy : L.length * 5 < t.mask * 3
  few : L.length < 64
  led : w.params.followText "set-order" = true ∨ t.led = true
section
variable {P : Program} {w : World} {A : Around} {E : Value → Shared → Prop} {s : Shared} {a : Addr} {L : List NMem} {es : Array (Int × Value)} {ep : Nat} {t : SetTable}
theorem SN.size (R : SN w s.heap a L es ep t) : es.size = L.length := by
  rw [← Array.length_toList, R.rows, List.length_map]
theorem SN.at (R : SN w s.heap a L es ep t) {i : Nat} {p : NMem} (h : L[i]? = some p) : es[i]? = some (nrow w p) := by
  rw [← Array.getElem?_toList, R.rows, List.getElem?_map, h]
  rfl
theorem SN.places (R : SN w s.heap a L es ep t) : t.place.size = L.length := by
  have := R.tab.sz
  rwa [List.length_map] at this
theorem SN.fit (R : SN w s.heap a L es ep t) : t.fits es.size = true := by
  have h1 := R.places
  have h2 := R.size
  have h3 := R.roomy
  unfold SetTable.fits SetTable.fill
  rw [R.tab.dm, h2, Bool.and_eq_true, beq_iff_eq, decide_eq_true_eq]
  exact ⟨h1, by show t.place.size + 0 ≤ t.mask; omega⟩
theorem SN.kept (R : SN w s.heap a L es ep t) : ¬ t.gaveWay = true := by
  unfold SetTable.gaveWay
  rw [mask_odd R.tab.mok]
  decide
/-- the probe behind c steps -/
abbrev pth (m : Nat) (h : Int) (c : Nat) : SetTable.Probe := nth m (runAt m (SetTable.bits h % (m + 1)) (SetTable.bits h)) c
theorem pth_on (m : Nat) (h : Int) (c q : Nat) : nth m (pth m h c) q = pth m h (c + q) := (nth_add m c _ q).symm
theorem pth_bare (m : Nat) (h : Int) : ∀ c, (pth m h c).dummy = none
  | 0 => rfl
  | c + 1 => by
    have ih := pth_bare m h c
    have e : pth m h (c + 1) = adv m (pth m h c) := nth_succ m _ c
    rw [e]
    unfold adv
    split <;> exact ih
/-- where what is sought may still stand -/
def Ahead (w : World) (L : List NMem) (t : SetTable) (k : NestedKey) (c K : Nat) : Prop := ∀ (i : Nat) (p : NMem), L[i]? = some p → p.2 = k → ∃ c', c ≤ c' ∧ c' < K ∧ t.place.toList[i]? = some (way t.mask (k.hash w) c')
theorem find_nk (R : SN w s.heap a L es ep t) {x : Addr} {k : NestedKey} (hx : NestedIs s.heap k (.ref x)) (h8 : k.depth ≤ 8) (hu : A.units + 8 < cLine) {K : Nat} (hf : K < 10 * SetTable.turns t.mask)
    (hK : way t.mask (k.hash w) K ∉ t.place.toList) (hb : ∀ c, c < K → way t.mask (k.hash w) c ∈ t.place.toList) {Q : SetFound → Shared → Prop} (yes : k ∈ L.map (·.2) → Q (.there none) s) (no : k ∉ L.map (·.2) → Q (.free (way t.mask (k.hash w) K) false) s) :
    ∀ (f c : Nat) (stand : Option SetTable.Probe), stand.getD (t.probeStart (k.hash w)) = pth t.mask (k.hash w) c → c ≤ K → K < c + f → Ahead w L t k c K → wpAny (model P w) A (setSearchFrom a (.ref x) (k.hash w) true f stand) Q E s := by
  intro f
  induction f with
  | zero => intro c _ _ h1 h2; omega
  | succ f ih =>
    intro c stand hst hc hcf hah
    obtain ⟨o, ho, _, hd⟩ := R.obj
    have get : ∀ {α : Type} {g : (Array (Int × Value) × Nat × SetTable) → Sem α} {Q : α → Shared → Prop}, wpAny (model P w) A (g (es, ep, t)) Q E s → wpAny (model P w) A (setState a >>= g) Q E s := fun h => wpAny_bind (wpAny_setState_of ho hd R.fit h)
    have at_ : ∀ q, (nth t.mask (pth t.mask (k.hash w) c) q).j = way t.mask (k.hash w) (c + q) := fun q => by rw [pth_on]
    obtain ⟨n, rfl⟩ : ∃ n, K = c + n := ⟨K - c, by omega⟩
    have key := go_spec t R.tab.ris R.tab.dm (fun i => (es[i]?.map (·.1)).getD 0) (k.hash w) (10 * SetTable.turns t.mask) n (pth t.mask (k.hash w) c) (pth_bare _ _ c) (by omega)
      (fun q hq => by rw [at_]; exact hb _ (by omega)) (by rw [at_]; exact hK)
    have hash : ∀ {i : Nat} {p : NMem}, L[i]? = some p → (fun i => (es[i]?.map (·.1)).getD 0) i = p.2.hash w := fun {i p} hp => by
      show (es[i]?.map (·.1)).getD 0 = _
      rw [R.at hp]
      rfl
    rw [setSearchFrom_succ]
    refine get ?_
    dsimp only
    refine wp_if_neg R.kept ?_
    try refine wpAny_bind (wpAny_pure ?_)
    rcases key with ⟨q, i, hq, hi, hh, before, hp⟩ | ⟨before, hp⟩
    · have hp2 : t.probe (fun i => (es[i]?.map (·.1)).getD 0) (k.hash w) (stand.getD (t.probeStart (k.hash w))) = some (.candidate (way t.mask (k.hash w) (c + q)) i (pth t.mask (k.hash w) (c + (q + 1)))) := by
        rw [hst, ← at_, ← pth_on]
        exact hp
      rw [hp2]
      dsimp only
      rw [at_] at hi
      have hil : i < L.length := by
        have := (List.getElem?_eq_some_iff.mp hi).1
        rw [Array.length_toList, R.places] at this
        exact this
      obtain ⟨p, hp1⟩ : ∃ p, L[i]? = some p := ⟨_, List.getElem?_eq_getElem hil⟩
      have hmem := List.mem_of_getElem? hp1
      obtain ⟨pk, p8⟩ := R.key p hmem
      have slot := slot_live R.tab.ris hi
      have rest : wpAny (model P w) A (searchRest a (.ref x) (k.hash w) true f es t (way t.mask (k.hash w) (c + q)) i (pth t.mask (k.hash w) (c + (q + 1)))) Q E s := by
        unfold searchRest
        rw [R.at hp1]
        dsimp only [nrow]
        refine wpAny_bind (wpAny_holding ((nestedKind P w).eqBool (show A.units + 8 < cLine from hu) ⟨pk, p8⟩ ⟨hx, h8⟩ ?_))
        refine get ?_
        dsimp only
        by_cases same : p.2 = k
        · refine wp_if_pos (by simp [same]) ?_
          exact wpAny_pure (yes (List.mem_map.mpr ⟨p, hmem, same⟩))
        · refine wp_if_neg (by simp [same]) ?_
          try refine wpAny_bind (wpAny_pure ?_)
          rw [sameMem]
          dsimp only
          simp only [if_true, slot, R.at hp1, nrow]
          refine wpAny_bind (wpAny_isSame_ref_self (wpAny_bind (wpAny_pure ?_)))
          simp only [if_true]
          refine wp_if_neg (by simp [same]) ?_
          refine ih (c + (q + 1)) _ rfl (by omega) (by omega) fun i0 p0 h0 e0 => ?_
          obtain ⟨c', a1, a2, a3⟩ := hah i0 p0 h0 e0
          refine ⟨c', ?_, a2, a3⟩
          rcases Nat.lt_trichotomy c' (c + q) with lt | eq | gt
          · refine absurd ((hash h0).trans (by rw [e0])) (before (c' - c) i0 (by omega) ?_)
            rw [at_, show c + (c' - c) = c' by omega]
            exact a3
          · rw [eq] at a3
            have z := slot_live R.tab.ris a3
            rw [slot] at z
            injection z with z
            rw [← z, hp1] at h0
            exact absurd ((congrArg Prod.snd (Option.some.inj h0)).trans e0) same
          · omega
      by_cases led : t.led = true
      · refine wp_if_neg (by simp [led]) ?_
        try refine wpAny_bind (wpAny_pure ?_)
        exact rest
      · refine wp_if_pos (by simp [led]) ?_
        refine wpAny_bind (search_nk hx h8 _ (fun y hy => ?_) ?_)
        · obtain ⟨e, he, rfl⟩ := List.mem_map.mp hy
          have he2 : e ∈ es.toList := by
            have : e ∈ es ∧ e.1 = k.hash w := by simpa using he
            simpa using this.1
          rw [R.rows] at he2
          obtain ⟨p2, hp2, rfl⟩ := List.mem_map.mp he2
          exact ⟨p2.2, p2.1, rfl, R.key p2 hp2⟩
        · refine wp_if_neg (by decide) ?_
          try refine wpAny_bind (wpAny_pure ?_)
          exact rest
    · have hp2 : t.probe (fun i => (es[i]?.map (·.1)).getD 0) (k.hash w) (stand.getD (t.probeStart (k.hash w))) = some (.empty (way t.mask (k.hash w) (c + n)) none) := by
        rw [hst, ← at_]
        exact hp
      rw [hp2]
      dsimp only
      refine wpAny_pure (no fun hm => ?_)
      obtain ⟨p0, hm0, e0⟩ := List.mem_map.mp hm
      obtain ⟨i0, h0⟩ := List.getElem?_of_mem hm0
      obtain ⟨c', a1, a2, a3⟩ := hah i0 p0 h0 e0
      refine absurd ((hash h0).trans (by rw [e0])) (before (c' - c) i0 (by omega) ?_)
      rw [at_, show c + (c' - c) = c' by omega]
      exact a3
/-- the search that adding asks for -/
theorem seek_nk (R : SN w s.heap a L es ep t) {x : Addr} {k : NestedKey} (hx : NestedIs s.heap k (.ref x)) (h8 : k.depth ≤ 8) (hu : A.units + 8 < cLine) {Q : SetFound → Shared → Prop} (yes : k ∈ L.map (·.2) → Q (.there none) s)
    (no : ∀ K, k ∉ L.map (·.2) → way t.mask (k.hash w) K ∉ t.place.toList → (∀ c, c < K → way t.mask (k.hash w) c ∈ t.place.toList) → Q (.free (way t.mask (k.hash w) K) false) s) :
    wpAny (model P w) A (setSearch a (.ref x) (k.hash w) true) Q E s := by
  have roomy := R.roomy
  obtain ⟨K, h1, h2, h3⟩ := R.tab.first (by rw [List.length_map]; omega) (k.hash w)
  have big : 10 * SetTable.turns t.mask ≤ 1420 := by
    unfold SetTable.turns
    rcases R.tab.mok with e | e | e <;> omega
  unfold setSearch
  refine find_nk R hx h8 hu h1 h2 h3 yes (fun n => no K n h2 h3) 100000 0 none rfl (Nat.zero_le _) (by omega) fun i p hp e => ?_
  have hi : (L.map fun p => p.2.hash w)[i]? = some (k.hash w) := by rw [List.getElem?_map, hp, ← e]; rfl
  have hil : i < t.place.toList.length := by
    rw [Array.length_toList, R.places]
    exact (List.getElem?_eq_some_iff.mp hp).1
  obtain ⟨c, hc, e2⟩ := R.tab.before h2 hi (List.getElem?_eq_getElem hil)
  exact ⟨c, Nat.zero_le _, hc, by rw [List.getElem?_eq_getElem hil, e2]⟩
end
end M
end

section
set_option Elab.async false
set_option linter.all false
set_option maxRecDepth 100000
set_option maxHeartbeats 2000000
/-! sets of nested keys: adding -/
namespace M
open PySem PySem.Spec L2
open PyProof.Rows hiding St
theorem all_range {α : Type} : ∀ L : List α, (List.range L.length).filterMap (fun i => L[i]?) = L
  | [] => rfl
  | x :: l => by
    have ih := all_range l
    have e : (List.range l.length).filterMap ((fun i => (x :: l)[i]?) ∘ Nat.succ) = l := ih
    rw [List.length_cons, List.range_succ_eq_map, List.filterMap_cons_some (f := fun i => (x :: l)[i]?) (b := x) rfl, List.filterMap_map, e]
theorem reorder {w : World} {L : List NMem} {es : Array (Int × Value)} {order : Array Nat} (hr : es.toList = L.map (nrow w)) (hp : order.toList.Perm (List.range L.length)) :
    ∃ L2 : List NMem, (order.filterMap (es[·]?)).toList = L2.map (nrow w) ∧ L2.Perm L ∧ (L2.map fun p => p.2.hash w) = order.toList.map fun i => (es.map (·.1)).getD i 0 := by
  have at_ : ∀ i, es[i]? = (L[i]?).map (nrow w) := fun i => by rw [← Array.getElem?_toList, hr, List.getElem?_map]
  refine ⟨order.toList.filterMap fun i => L[i]?, ?_, ?_, ?_⟩
  · rw [Array.toList_filterMap, List.map_filterMap]
    congr 1
    funext i
    exact at_ i
  · have h := hp.filterMap fun i => L[i]?
    rw [all_range] at h
    exact h
  · have small : ∀ i ∈ order.toList, i < L.length := fun i hi => List.mem_range.mp (hp.mem_iff.mp hi)
    generalize order.toList = l at small
    induction l with
    | nil => rfl
    | cons i l ih =>
      have hi := small i List.mem_cons_self
      rw [List.filterMap_cons_some (List.getElem?_eq_getElem hi), List.map_cons, List.map_cons, ih fun j hj => small j (List.mem_cons_of_mem _ hj)]
      congr 1
      have e : (es.map (·.1))[i]? = some ((L[i]).2.hash w) := by
        rw [Array.getElem?_map, at_, List.getElem?_eq_getElem hi]
        rfl
      simp [Array.getD_eq_getD_getElem?, e]
section
variable {P : Program} {w : World} {A : Around} {E : Value → Shared → Prop} {s : Shared} {a : Addr} {L : List NMem} {es : Array (Int × Value)} {ep : Nat} {t : SetTable}
theorem nk_but {h h' : Heap} {k : NestedKey} {v : Value} {o : Obj} (x : NestedIs h k v) (ho : h.get? a = some o) (hd : o.data = .set es ep t) (sb : Heap.SameBut a h h') : NestedIs h' k v :=
  NestedIs.at (fun b ob vs n hb hs => (sb.2 b fun e => by
    subst e
    rw [ho] at hb
    have e2 := Option.some.inj hb
    subst e2
    rw [hd] at hs
    exact nomatch hs).trans hb) k v x
theorem relay_nk {o : Obj} (ho : s.heap.get? a = some o) (hex : o.ExactSet) (hd : o.data = .set es ep t) (rows : es.toList = L.map (nrow w)) (pl : t.place.size = es.size) (dm : t.dummies = #[]) (fl : es.size ≤ t.mask)
    (once : (L.map (·.2)).Nodup) (key : ∀ p ∈ L, NestedIs s.heap p.2 (.ref p.1) ∧ p.2.depth ≤ 8) (few : L.length < 64) (ld : w.params.followText "set-order" = true ∨ t.led = true) {wanted M : Nat} (hw : SetTable.sizeAbove wanted - 1 = M) (hM : MaskOk M) (hw2 : SetTable.sizeAbove wanted ≤ 128) (hn : L.length * 5 < M * 3)
    {Q : Unit → Shared → Prop} (hQ : ∀ h' L' es' ep' t', Heap.SameBut a s.heap h' → SN w h' a L' es' ep' t' → L'.Perm L → Q () { s with heap := h' }) : wpAny (model P w) A (setRelay a wanted) Q E s := by
  have num : es.size = L.length := by rw [← Array.length_toList, rows, List.length_map]
  have fit : t.fits es.size = true := by
    unfold SetTable.fits SetTable.fill
    rw [dm, Bool.and_eq_true, beq_iff_eq, decide_eq_true_eq]
    exact ⟨pl, by show t.place.size + 0 ≤ t.mask; omega⟩
  obtain ⟨t', order, e1, e2, e3, e4, e5, _, _⟩ := relaid_ok t (hs := es.map (·.1)) (wanted := wanted) hw hM (by rw [Array.size_map, num]; omega)
  rw [Array.size_map, num] at e2
  obtain ⟨L2, r1, r2, r3⟩ := reorder rows e2
  rw [← r3] at e3
  have num2 : (order.filterMap (es[·]?)).size = es.size := by
    rw [← Array.length_toList, r1, List.length_map, r2.length_eq, num]
  rw [setRelay_eq]
  refine wpAny_bind (wpAny_setState_of ho hd fit ?_)
  dsimp only
  refine wp_if_neg (by rw [sizeLine_eq]; omega) ?_
  try refine wpAny_bind (wpAny_pure ?_)
  rw [e1]
  dsimp only
  refine wpAny_bind ?_
  refine wp_if_neg (by rw [num2]; simp) ?_
  try refine wpAny_bind (wpAny_pure ?_)
  refine wpAny_pure ?_
  dsimp only
  refine wpAny_storeSet_of ho hd ?_ (by rw [num2, num, sizeLine_eq]; omega)
  have sb : Heap.SameBut a s.heap (s.heap.update a (Obj.putSet (order.filterMap (es[·]?)) t')) := Heap.SameBut.update ..
  refine hQ _ L2 (order.filterMap (es[·]?)) (ep + 1) t' sb ⟨⟨_, store_at ho hd, ⟨hex.1, hex.2.1, hex.2.2⟩, rfl⟩, r1, e3, (r2.map (·.2)).nodup_iff.mpr once, fun p hp => ?_, by rw [r2.length_eq, e4]; exact hn, by rw [r2.length_eq]; exact few, by rw [e5]; exact ld⟩ r2
  obtain ⟨k1, k2⟩ := key p (r2.mem_iff.mp hp)
  exact ⟨nk_but k1 ho hd sb, k2⟩
theorem put_nk (R : SN w s.heap a L es ep t) {x : Addr} {k : NestedKey} (hx : NestedIs s.heap k (.ref x)) (h8 : k.depth ≤ 8) (hu : A.units + 8 < cLine) (few : L.length + 1 < 64) {Q : Bool → Shared → Prop}
    (hQ : ∀ b h' L' es' ep' t', Heap.SameBut a s.heap h' → SN w h' a L' es' ep' t' → (k ∈ L.map (·.2) → L' = L) → (k ∉ L.map (·.2) → L'.Perm ((x, k) :: L)) → Q b { s with heap := h' }) :
    wpAny (model P w) A (setAddHashed a (.ref x) (k.hash w)) Q E s := by
  obtain ⟨o, ho, hex, hd⟩ := R.obj
  have num := R.size
  have roomy := R.roomy
  unfold setAddHashed
  refine wpAny_holding ?_
  rw [show (100000 : Nat) = 99999 + 1 from rfl, setAddHashedIn_succ]
  refine wpAny_bind (wpAny_setState_of ho hd R.fit ?_)
  dsimp only
  refine wp_if_neg (by simp [byScan, Value.scannable]) ?_
  try refine wpAny_bind (wpAny_pure ?_)
  refine wpAny_bind (seek_nk R hx h8 hu (fun hm => ?_) fun K hm hK hb => ?_)
  · exact wpAny_pure (hQ false s.heap L es ep t (Heap.SameBut.refl a s.heap) R (fun _ => rfl) fun z => absurd hm z)
  · dsimp only
    refine wpAny_bind (wpAny_setState_of ho hd R.fit ?_)
    dsimp only
    obtain ⟨q1, q2, q3, q4, q5, q6, q7, q8, q9⟩ := R.tab.put hK hb
    generalize t.put (way t.mask (k.hash w) K) = pt at q1 q3 q4 q5 q6 q7 q8 q9 ⊢
    obtain ⟨t1, p⟩ := pt
    dsimp only at q1 q3 q4 q5 q6 q7 q8 q9 ⊢
    subst q1
    have rows1 : (SetTable.insertAt es (SetTable.below t.place (way t.mask (k.hash w) K)) (k.hash w, Value.ref x)).toList = (L.take (SetTable.below t.place (way t.mask (k.hash w) K)) ++ (x, k) :: L.drop (SetTable.below t.place (way t.mask (k.hash w) K))).map (nrow w) := by
      rw [SetTable.toList_insertAt, R.rows, List.map_append, List.map_cons, List.map_take, List.map_drop]
      rfl
    generalize SetTable.below t.place (way t.mask (k.hash w) K) = p at q2 q3 rows1 ⊢
    have pm : (L.take p ++ (x, k) :: L.drop p).Perm ((x, k) :: L) := by
      have := List.perm_middle (a := (x, k)) (l₁ := L.take p) (l₂ := L.drop p)
      rwa [List.take_append_drop] at this
    have hh : (L.take p ++ (x, k) :: L.drop p).map (fun p => p.2.hash w) = (L.map fun p => p.2.hash w).take p ++ k.hash w :: (L.map fun p => p.2.hash w).drop p := by
      rw [List.map_append, List.map_cons, List.map_take, List.map_drop]
    rw [← hh] at q3
    have once1 : ((L.take p ++ (x, k) :: L.drop p).map (·.2)).Nodup := by
      refine (pm.map (·.2)).nodup_iff.mpr ?_
      rw [List.map_cons]
      exact List.nodup_cons.mpr ⟨hm, R.once⟩
    generalize L.take p ++ (x, k) :: L.drop p = L1 at pm q3 rows1 once1
    have len1 : L1.length = L.length + 1 := pm.length_eq
    have num1 : (SetTable.insertAt es p (k.hash w, Value.ref x)).size = L.length + 1 := by rw [← Array.length_toList, rows1, List.length_map, len1]
    generalize SetTable.insertAt es p (k.hash w, Value.ref x) = es1 at rows1 num1 ⊢
    -- whatever the hash's kind: the table but for its mark
    have go : ∀ t2 : SetTable, TabOk t2 (L1.map fun p => p.2.hash w) → t2.mask = t.mask → t2.fill = L.length + 1 → t2.led = t.led →
        wpAny (model P w) A (do
          storeSet a es1 t2
          if (!false && t2.tooFull) = true then setRelay a (SetTable.grown (es.size + 1))
          return true) Q E s := fun t2 T2 m2 f2 l2 => by
      have ld2 : w.params.followText "set-order" = true ∨ t2.led = true := by rw [l2]; exact R.led
      refine wpAny_bind (wpAny_storeSet_of ho hd ?_ (by rw [num1, sizeLine_eq]; omega))
      have sb : Heap.SameBut a s.heap (s.heap.update a (Obj.putSet es1 t2)) := Heap.SameBut.update ..
      have ho1 := store_at (es' := es1) (t' := t2) ho hd
      generalize s.heap.update a (Obj.putSet es1 t2) = h1 at sb ho1 ⊢
      have key1 : ∀ p ∈ L1, NestedIs h1 p.2 (.ref p.1) ∧ p.2.depth ≤ 8 := fun p hp => by
        rcases List.mem_cons.mp (pm.mem_iff.mp hp) with e | hp
        · rw [e]; exact ⟨nk_but hx ho hd sb, h8⟩
        · obtain ⟨k1, k2⟩ := R.key p hp
          exact ⟨nk_but k1 ho hd sb, k2⟩
      by_cases full : t2.tooFull = true
      · refine wp_if_pos (by simp [full]) ?_
        refine wpAny_bind ?_
        have much : (L.length + 1) * 5 ≥ t2.mask * 3 := by
          have h := full
          unfold SetTable.tooFull at h
          rw [decide_eq_true_eq, f2] at h
          exact h
        rw [m2] at much
        have pl1 : t2.place.size = es1.size := by
          have h := T2.sz
          rw [List.length_map, len1] at h
          rw [h, num1]
        have two : (t.mask = 7 ∧ L.length = 4) ∨ (t.mask = 31 ∧ L.length = 18) := by
          rcases R.tab.mok with e | e | e
          · rw [e] at much roomy; exact .inl ⟨e, by omega⟩
          · rw [e] at much roomy; exact .inr ⟨e, by omega⟩
          · rw [e] at much; omega
        rw [num]
        have lay : ∀ M, SetTable.sizeAbove (SetTable.grown (L.length + 1)) - 1 = M → MaskOk M → SetTable.sizeAbove (SetTable.grown (L.length + 1)) ≤ 128 → (L.length + 1) * 5 < M * 3 → es1.size ≤ t2.mask →
            wpAny (model P w) A (setRelay a (SetTable.grown (L.length + 1))) (fun _ s' => wpAny (model P w) A (pure true) Q E s') E { s with heap := h1 } := fun M c1 c2 c3 c4 c5 => by
          refine relay_nk (s := { s with heap := h1 }) ho1 ⟨hex.1, hex.2.1, hex.2.2⟩ rfl rows1 pl1 T2.dm c5 once1 key1 (by rw [len1]; exact few) ld2 c1 c2 c3 (by rw [len1]; exact c4) fun h2 L2 es2 ep2 t3 sb2 R2 pm2 => ?_
          exact wpAny_pure (hQ true h2 L2 es2 ep2 t3 (sb.trans sb2) R2 (fun z => absurd z hm) fun _ => pm2.trans pm)
        rcases two with ⟨e0, e⟩ | ⟨e0, e⟩
        · exact lay 31 (by rw [e, size_20]) (.inr (.inl rfl)) (by rw [e, size_20]; decide) (by omega) (by rw [num1, m2]; omega)
        · exact lay 127 (by rw [e, size_76]) (.inr (.inr rfl)) (by rw [e, size_76]; decide) (by omega) (by rw [num1, m2]; omega)
      · refine wp_if_neg (by simp [full]) ?_
        refine wpAny_pure (hQ true h1 L1 es1 (ep + 1) t2 sb ⟨⟨_, ho1, ⟨hex.1, hex.2.1, hex.2.2⟩, rfl⟩, rows1, T2, once1, key1, ?_, by rw [len1]; exact few, ld2⟩ (fun z => absurd z hm) fun _ => pm)
        have h := full
        unfold SetTable.tooFull at h
        rw [decide_eq_true_eq, f2] at h
        rw [len1]
        omega
    have f1 : t1.fill = L.length + 1 := by rw [q9, List.length_map]
    split
    · refine wpAny_bind (byval_nk k _ 8 A s _ hx fun b => ?_)
      cases b with
      | true => exact go t1 q3 q4 f1 q5
      | false => exact go { t1 with plain := false } ⟨q3.ris, q3.dm, q3.sz, q3.mok, q3.bd, q3.reach⟩ q4 f1 q5
    · exact wpAny_bind (wpAny_pure (go t1 q3 q4 f1 q5))
end
end M
end

section
set_option Elab.async false
set_option linter.all false
set_option maxRecDepth 100000
set_option maxHeartbeats 2000000
/-! sets of nested keys, as rules: set(), add -/
namespace M
open PySem PySem.Spec L2
open PyProof.Rows hiding St
/-- the set's own object -/
def SnIn (w : World) (a : Addr) (L : List NMem) (h : Heap) : Prop := ∃ (es : Array (Int × Value)) (ep : Nat) (t : SetTable), (∃ o, h.get? a = some o ∧ o.ExactSet ∧ o.data = .set es ep t) ∧ es.toList = L.map (nrow w) ∧ TabOk t (L.map fun p => p.2.hash w) ∧
  (L.map (·.2)).Nodup ∧ L.length * 5 < t.mask * 3 ∧ L.length < 64 ∧ (w.params.followText "set-order" = true ∨ t.led = true)
def SnO (w : World) (a : Addr) (L : List NMem) : HO := .ext (SnIn w a L)
theorem SN.own {w : World} {h : Heap} {a : Addr} {L : List NMem} {es : Array (Int × Value)} {ep : Nat} {t : SetTable} (R : SN w h a L es ep t) : SnIn w a L h := ⟨es, ep, t, R.obj, R.rows, R.tab, R.once, R.roomy, R.few, R.led⟩
theorem snO_new {P : Program} {w : World} {H : Hp} {h : Heap} {a : Addr} {L : List NMem} (R : SnIn w a L h) : ObjOk P w H h a (SnO w a L) := by
  have ⟨es, ep, t, ⟨o, ho, r⟩, q⟩ := R
  refine ⟨R, ⟨o, ho⟩, fun h1 h2 ⟨es, ep, t, ⟨o, ho, r⟩, q⟩ k => ⟨es, ep, t, ⟨o, k o ho, r⟩, q⟩⟩
/-- the set at a, and that its members' tuples stand -/
structure SNS (w : World) (H : Hp) (a : Addr) (L : List NMem) : Prop where
  at_ : H a = some (SnO w a L)
  key : ∀ p ∈ L, NK H (.ref p.1) p.2 ∧ p.2.depth ≤ 8
theorem SNS.keep {w : World} {H H' : Hp} {a : Addr} {L : List NMem} (h : SNS w H a L) (e : ∀ b ys, H b = some (.tup ys) → H' b = some (.tup ys)) (k : H' a = some (SnO w a L)) : SNS w H' a L :=
  ⟨k, fun x hx => ⟨(h.key x hx).1.up e, (h.key x hx).2⟩⟩
theorem nk_upd {H : Hp} {a : Addr} {φ : Heap → Prop} {o : HO} (h : H a = some (.ext φ)) : ∀ b ys, H b = some (.tup ys) → upd H a o b = some (.tup ys) := fun b ys hb => by
  have n : b ≠ a := fun q => by
    rw [q, h] at hb
    have z := Option.some.inj hb
    exact absurd (show HO.ext _ = HO.tup ys from z) (fun y => nomatch y)
  rw [upd_ne n]; exact hb
/-- with another order, or one more -/
theorem SNS.put {w : World} {H : Hp} {a t : Addr} {L L' : List NMem} {k : NestedKey} (h : SNS w H a L) (hk : NK H (.ref t) k) (h8 : k.depth ≤ 8) (p : L' = L ∨ L'.Perm ((t, k) :: L)) : SNS w (upd H a (SnO w a L')) a L' := by
  refine ⟨upd_same, fun x hx => ?_⟩
  have e := nk_upd (o := SnO w a L') h.at_
  rcases p with rfl | p
  · exact ⟨(h.key x hx).1.up e, (h.key x hx).2⟩
  · rcases List.mem_cons.mp (p.mem_iff.mp hx) with rfl | hx
    · exact ⟨hk.up e, h8⟩
    · exact ⟨(h.key x hx).1.up e, (h.key x hx).2⟩
section
variable {X : Cx} {pins : List (Addr × Obj)} {σ : L2.St} {H : Hp} {s : Shared}
theorem sns_of {a : Addr} {L : List NMem} (I : Inv X pins σ H s) (h : SNS X.w H a L) : ∃ es ep t, SN X.w s.heap a L es ep t := by
  obtain ⟨⟨es, ep, t, h1, h2, h3, h4, h5, h6, h7⟩, -, -⟩ := I.hok a _ h.at_
  exact ⟨es, ep, t, h1, h2, h3, h4, fun p hp => ⟨(h.key p hp).1.is I.hok rfl, (h.key p hp).2⟩, h5, h6, h7⟩
theorem sn_fresh {w : World} {h : Heap} {a : Addr} {led : Bool} (hl : w.params.followText "set-order" = true ∨ led = true) (ho : h.get? a = some { cls := .type "set", dict := none, data := .set #[] 0 (.fresh 0 0 led) }) : SN w h a [] #[] 0 (.fresh 0 0 led) where
  obj := ⟨_, ho, ⟨rfl, rfl, rfl⟩, rfl⟩
  rows := rfl
  tab := ⟨List.Pairwise.nil, rfl, rfl, .inl rfl, fun x hx => (by cases hx), fun i h j hi => (by simp at hi)⟩
  once := List.nodup_nil
  key := fun p hp => nomatch hp
  roomy := by
    show 0 * 5 < 7 * 3
    decide
  few := by decide
  led := hl
/-- set() -/
def rSn0 (w : World) : List V → Hp → VK → Prop := fun xs H Q => xs = [] ∧ ∀ p, H p = none → Q (.ref p) (upd H p (SnO w p []))
theorem cr_sn0 : CallR X (.type "set") (rSn0 X.w) := by
  intro pins s σ H xs us Q I r ⟨e, q⟩
  subst e
  cases r
  refine setR_new fun _ => ⟨.ref _, upd H s.heap.objs.size (SnO X.w s.heap.objs.size []), ?_, rfl, q _ (I.hok.fresh (Nat.le_refl _))⟩
  exact I.laid (t' := s.toks) (fun b u z => Heap.get?_push_of_some _ z) (Nat.le_refl _) (snO_new (sn_fresh (by cases X.w.params.followText "set-order" <;> simp) (Heap.get?_push_size _ rfl)).own)
/-- found.add(k) -/
def rSnAdd (w : World) : V → List V → Hp → VK → Prop := fun x xs H Q => ∃ (a t : Addr) (k : NestedKey) (L : List NMem), x = V.ref a ∧ xs = [V.ref t] ∧ SNS w H a L ∧ NK H (.ref t) k ∧ k.depth ≤ 8 ∧ L.length + 1 < 64 ∧
  ∀ L', (k ∈ L.map (·.2) → L' = L) → (k ∉ L.map (·.2) → L'.Perm ((t, k) :: L)) → Q .non (upd H a (SnO w a L'))
theorem SN.isSet {w : World} {a : Addr} {L : List NMem} {es : Array (Int × Value)} {ep : Nat} {t : SetTable} (R : SN w s.heap a L es ep t) : s.TypeIs (.ref a) "set" := by
  obtain ⟨o, ho, hex, _⟩ := R.obj
  exact ⟨o, ho, hex.1⟩
theorem mt_snadd (hu : X.A.units + 64 < cLine) : MtR X "set.add" (rSnAdd X.w) := by
  intro pins s σ H x xs v us Q I rx rxs ⟨a, t, k, L, e1, e2, hs, hk, h8, few, q⟩
  subst e1; subst e2
  cases rx
  cases rxs with
  | cons ry rt =>
    cases rt
    cases ry
    obtain ⟨es, ep, tb, R⟩ := sns_of I hs
    have kn := hk.is I.hok (u := .ref t) rfl
    refine wpAny_call_entry PySem.F.slot_set_add R.isSet PySem.F.entry_set_add ?_ (PySem.F.args_set_add_2 _ _)
    unfold Builtin.«set.add» Builtin.Frozenset.oneOther
    simp only [List.isEmpty_nil, bind_assoc]
    unfold Builtin.Frozenset.addrOf setAdd
    refine wpAny_bind (wpAny_pure ?_)
    refine wpAny_bind (wpAny_pure ?_)
    refine wpAny_bind (wpAny_holding (wpAny_bind (pyHash_key k _ _ _ _ kn (by show X.A.units + 1 + k.depth < cLine; omega) ?_)))
    refine put_nk (s := { s with toks := s.toks + k.draws }) R kn h8 (by show X.A.units + 1 + 8 < cLine; omega) few fun b hp L' es' ep' t' sb R2 p1 p2 => ?_
    show wpAny _ _ (ret Value.none) _ _ _
    refine wpAny_pure ⟨_, rfl, .non, upd H a (SnO X.w a L'), ?_, rfl, q L' p1 p2⟩
    have ⟨o, at_, _⟩ := R2.obj
    exact I.write (e := a) (t' := s.toks + k.draws) (by rw [hs.at_]; trivial) (.inl rfl) (fun b u hb hu2 => (sb.2 b hb).trans hu2) ⟨o, at_⟩ (snO_new R2.own)
def tSnAdd (w : World) (to : TE) (t : TA) : TE := fun σ H Q => to σ H fun x H1 => (∃ a L, x = V.ref a ∧ SNS w H1 a L) ∧ t σ H1 fun xs H2 => rSnAdd w x xs H2 Q
variable {o e : Expr} {es : List Expr} {to : TE} {t : TA} {apos cpos : Pos}
theorem pe_snadd (hu : X.A.units + 64 < cLine) (ho : PE X o to) (ha : PA X (e :: es) t) (b1 : attributeBase o "add" X.env (eval o X.env) = eval o X.env := by rfl)
    (b2 : ((backTo cpos (starEach (e :: es) X.env)).all (fun x => !x.1) && (backToKw cpos (keywordEach [] X.env)).all (fun x => x.1.isSome) && decide ((e :: es).length + ([] : List Keyword).length + (if ([] : List Keyword).isEmpty then 0 else 1) < 30)) = true := by rfl)
    (b3 : (apos.endLine == cpos.line) = true := by rfl) (b4 : starEach (e :: es) X.env = (false, eval e X.env) :: starEach es X.env := by rfl) (b5 : (backTo cpos (starEach es X.env)).any (·.1) = false := by rfl) :
    PE X (.Call (.Attribute o "add" apos) (e :: es) [] cpos) (tSnAdd X.w to t) := by
  refine ⟨fun pins s σ H Q I h => wpAny_Call_method_late b1 b2 b3 rfl (thn (ho.run pins s σ H _ I h) fun v s1 ⟨x, H1, I1, r1, ty, q1⟩ => ?_)⟩
  obtain ⟨a, L, rfl, hs⟩ := ty
  obtain ⟨es1, ep, tb, R⟩ := sns_of I1 hs
  cases r1
  have ⟨ob, at_, ex, _⟩ := R.obj
  refine ⟨"set", "set.add", PySem.F.plainAttrs_set, PySem.F.slot_set_add, PySem.F.type_set_add, R.isSet, (fun b hb => ?_), ?_⟩
  · cases hb
    exact ⟨ob, at_, ex.2.1⟩
  have hA := ha.run cpos pins s1 σ H1 _ I1 q1
  rw [b4] at hA ⊢
  exact Calls.callWith_builtin (by show (false || (backTo cpos (starEach es X.env)).any (·.1)) = false; rw [b5] <;> rfl) (Calls.evalArgs_plain (thn hA fun us s2 ⟨vs, H2, I2, r2, q2⟩ => mt_snadd hu pins s2 σ H2 (.ref a) vs (.ref a) us Q I2 rfl r2 q2))
end
end M
end

section
set_option Elab.async false
set_option linter.all false
set_option maxRecDepth 100000
set_option maxHeartbeats 4000000
/-! set(list of nested keys) -/
namespace M
open PySem PySem.Spec PyProof.Rows L2
/-- of the first i keys these are in the set -/
structure Taken (ks L : List NMem) (i : Nat) : Prop where
  sub : ∀ p ∈ L, p ∈ ks
  all : ∀ p ∈ ks.take i, p.2 ∈ L.map (·.2)
  few : L.length ≤ i
theorem Taken.step {ks L L' : List NMem} {i : Nat} {p : NMem} (h : Taken ks L i) (hp : ks[i]? = some p) (p1 : p.2 ∈ L.map (·.2) → L' = L) (p2 : p.2 ∉ L.map (·.2) → L'.Perm (p :: L)) : Taken ks L' (i + 1) := by
  have nx : ks.take (i + 1) = ks.take i ++ [p] := by rw [List.take_succ, hp]; rfl
  by_cases m : p.2 ∈ L.map (·.2)
  · obtain rfl := p1 m
    refine ⟨h.sub, fun q hq => ?_, by have := h.few; omega⟩
    rw [nx] at hq
    rcases List.mem_append.mp hq with hq | hq
    · exact h.all q hq
    · rw [List.mem_singleton.mp hq]; exact m
  · have pm := p2 m
    refine ⟨fun q hq => ?_, fun q hq => ?_, by rw [pm.length_eq]; have := h.few; simp; omega⟩
    · rcases List.mem_cons.mp (pm.mem_iff.mp hq) with rfl | hq
      · exact List.mem_of_getElem? hp
      · exact h.sub q hq
    · rw [nx] at hq
      refine (pm.map (·.2)).mem_iff.mpr ?_
      rw [List.map_cons]
      rcases List.mem_append.mp hq with hq | hq
      · exact List.mem_cons_of_mem _ (h.all q hq)
      · rw [List.mem_singleton.mp hq]; exact List.mem_cons_self
section
variable {P : Program} {w : World} {A : Around} {E : Value → Shared → Prop} {s : Shared}
/-- the loop that puts the items of a list into a set -/
theorem sn_loop {h0 : Heap} {it a : Addr} {fp wr : List Addr} {G : Array GenState → Array GenState → Prop} {m : Nat} {Pv : Nat → Value → Prop} {St : Nat → Shared → Prop} {R : Result → Shared → Prop}
    (W : WalksS P w A.in1 it fp wr G m Pv St) (na : a ∉ fp) (ks : List NMem) (len : m = ks.length) (few : m < 63) (hu : A.units + 20 < cLine) (val : ∀ i v, Pv i v → ∃ p, ks[i]? = some p ∧ v = .ref p.1)
    (key : ∀ p ∈ ks, NestedIs h0 p.2 (.ref p.1) ∧ p.2.depth ≤ 8) (a0 : h0.get? a = none) (w0 : ∀ b ∈ wr, h0.get? b = none) :
    ∀ (left i : Nat) (s : Shared), m - i = left → i ≤ m → St i s → (∀ b u, h0.get? b = some u → s.heap.get? b = some u) → (∃ L es ep t, Taken ks L i ∧ SN w s.heap a L es ep t) →
      (∀ s' L es ep t, Moved (a :: wr) G s s' → (∀ b u, h0.get? b = some u → s'.heap.get? b = some u) → Taken ks L m → SN w s'.heap a L es ep t → R (.ok (.ret .none)) s') →
      codeAny (model P w) A (.builtin "set.update.loop" ⟨[.ref a, .ref it], []⟩) R s := by
  have nw : a ∉ wr := fun z => na (W.sub _ z)
  have more : ∀ b ∈ wr, b ∈ a :: wr := fun b z => List.mem_cons_of_mem _ z
  have kin : ∀ {s : Shared}, (∀ b u, h0.get? b = some u → s.heap.get? b = some u) → ∀ p ∈ ks, NestedIs s.heap p.2 (.ref p.1) := fun o p hp => NestedIs.at (fun b u _ _ hb _ => o b u hb) _ _ (key p hp).1
  have stay : ∀ {s s' : Shared} {L es ep t}, SN w s.heap a L es ep t → (∀ u, s.heap.get? a = some u → s'.heap.get? a = some u) → (∀ p ∈ L, p ∈ ks) → (∀ b u, h0.get? b = some u → s'.heap.get? b = some u) → SN w s'.heap a L es ep t := fun {s s' L es ep t} R k sub o => by
    obtain ⟨ob, h1, h2⟩ := R.obj
    exact ⟨⟨ob, k _ h1, h2⟩, R.rows, R.tab, R.once, fun p hp => ⟨kin o p (sub p hp), (R.key p hp).2⟩, R.roomy, R.few, R.led⟩
  intro left
  induction left with
  | zero =>
    intro i s e le st old ⟨L, es, ep, t, T, S0⟩ out
    obtain rfl : i = m := by omega
    refine codeAny_builtin PyProof.Rows.F.entry_set_update_loop (by
      rw [Around.under_plainId PyProof.Rows.F.plain_set_update_loop _]
      show wpAny _ A.in1 (pyNext (.ref it) >>= _) _ _ s
      refine wpAny_bind (W.done s _ _ st fun s' mv => ?_)
      have old2 : ∀ b u, h0.get? b = some u → s'.heap.get? b = some u := fun b u z => mv.heap b u (fun q => by rw [w0 b q] at z; cases z) (old b u z)
      show wpAny _ A.in1 (ret Value.none) _ _ s'
      exact wpAny_pure (out s' L es ep t (mv.mono more) old2 T (stay S0 (fun u z => mv.heap a u nw z) T.sub old2)))
  | succ left ih =>
    intro i s e le st old ⟨L, es, ep, t, T, S0⟩ out
    have lt : i < m := by omega
    refine codeAny_builtin PyProof.Rows.F.entry_set_update_loop (by
      rw [Around.under_plainId PyProof.Rows.F.plain_set_update_loop _]
      show wpAny _ A.in1 (pyNext (.ref it) >>= _) _ _ s
      refine wpAny_bind (W.item i s _ _ lt st fun v s' pv st' mv => ?_)
      obtain ⟨p, hp, rfl⟩ := val i v pv
      have hmem := List.mem_of_getElem? hp
      have old2 : ∀ b u, h0.get? b = some u → s'.heap.get? b = some u := fun b u z => mv.heap b u (fun q => by rw [w0 b q] at z; cases z) (old b u z)
      have S1 := stay S0 (fun u z => mv.heap a u nw z) T.sub old2
      show wpAny _ A.in1 (holding [.ref p.1] (setAdd a (.ref p.1)) >>= _) _ _ s'
      refine wpAny_bind (wpAny_holding ?_)
      unfold setAdd
      have kd := (key p hmem).2
      refine wpAny_holding (wpAny_bind (pyHash_key p.2 _ _ _ _ (kin old2 p hmem) (by show A.units + 1 + p.2.depth < cLine; omega) ?_))
      have T2 := T.few
      refine put_nk (s := { s' with toks := s'.toks + p.2.draws }) S1 (kin old2 p hmem) kd (by show A.units + 1 + 8 < cLine; omega) (by omega) fun b hp2 L' es' ep' t' sb S2 p1 p2 => ?_
      have same : ∀ c u, c ≠ a → s'.heap.get? c = some u → hp2.get? c = some u := fun c u nc z => (sb.2 c nc).trans z
      refine wpAny_pure ⟨plainId_quiet PyProof.Rows.F.plain_set_update_loop _, ih (i + 1) _ (by omega) lt (W.frame _ s' _ _ st' (Nat.le_add_right _ _) fun b hb u z => ?_) (fun b u z => same b u (fun q => by rw [q, a0] at z; cases z) (old2 b u z)) ⟨L', es', ep', t', T.step hp p1 p2, S2⟩ fun s'' L'' es'' ep'' t'' mv2 o2 T3 S4 => ?_⟩
      · exact same b u (fun y : b = a => na (y ▸ hb)) z
      · refine out s'' L'' es'' ep'' t'' (Moved.trans W.gtrans ((mv.mono more).then_heap (Nat.le_add_right _ _) fun b u nb z => ?_) mv2) o2 T3 S4
        exact same b u (fun y : b = a => nb (y ▸ List.mem_cons_self)) z)
/-- set(xs), xs a list of keys -/
theorem call_sn {l : Addr} {items : Array Value} {ks : List NMem} {Q : Value → Shared → Prop} (calm : A.handled = none) (hu : A.units + 40 < cLine) (hl : s.heap.IsList l items) (len : items.size = ks.length) (few : ks.length < 63)
    (val : ∀ (i : Nat) (v : Value), items[i]? = some v → ∃ p, ks[i]? = some p ∧ v = .ref p.1) (key : ∀ p ∈ ks, NestedIs s.heap p.2 (.ref p.1) ∧ p.2.depth ≤ 8)
    (fin : ∀ (hp : Heap) (tk : Nat) (L : List NMem) (es : Array (Int × Value)) (ep : Nat) (t : SetTable), Taken ks L ks.length → SN w hp s.heap.objs.size L es ep t → (∀ b u, s.heap.get? b = some u → hp.get? b = some u) → Q (.ref s.heap.objs.size) { s with heap := hp, toks := tk }) :
    wpAny (model P w) A (call (.type "set") [.ref l]) Q E s := by
  have made := PySem.F.called_set.made
  have subs := PySem.F.called_set.sub
  obtain ⟨_, _, order⟩ := PySem.F.called_set.mro
  refine wpAny_call (codeAny_of_tree (by
    show wpAny _ _ (callAny (.type "set") _) _ _ _
    refine wpAny_pure ⟨Code.quiet_builtin _ (by decide +kernel), codeAny_builtin PySem.F.entry_type_call ?_⟩
    rw [Around.under_plain (weight_type_call_type "set" [.ref l] []) rfl]
    have t1 := PySem.F.called_set.notType
    have t2 := PySem.F.called_set.canCreate
    have t3 := PySem.F.typeCall_set_1 (.ref l)
    repeat (any_goals (first | assumption | wp_step))
    refine codeAny_mono (code_set_led1 (.ref l) (E := E) (Q₁ := fun x s1 => x = .ref s.heap.objs.size ∧ s1 = { s with heap := s.heap.push (bareSet w) }) ⟨rfl, rfl⟩) fun r s1 got => ?_
    cases r with
    | error e => exact got
    | ok fl =>
      cases fl with
      | ret x =>
        obtain ⟨rfl, rfl⟩ := got
        have seen : (s.heap.push (bareSet w)).get? s.heap.objs.size = some (bareSet w) := Heap.get?_push_size _ rfl
        have typ : Shared.TypeIs { s with heap := s.heap.push (bareSet w) } (.ref s.heap.objs.size) "set" := ⟨_, seen, rfl⟩
        have i1 := PySem.F.called_set.init.lookup
        have i2 := PySem.F.called_set.init.bind (.ref s.heap.objs.size)
        repeat (any_goals (first | assumption | wp_step))
        refine codeAny_mono (codeAny_call_builtin (R := wants (fun y s2 => y = .none ∧ ∃ hp tk L es ep t, s2 = { s with heap := hp, toks := tk } ∧ Taken ks L ks.length ∧ SN w hp s.heap.objs.size L es ep t ∧ ∀ b u, s.heap.get? b = some u → hp.get? b = some u) E)
          PySem.F.called_set.init.plain PySem.F.entry_set_init (check_set_init_1 typ ?_)) fun r2 s2 got2 => ?_
        · obtain ⟨ob, at_, cls, num, dat⟩ := hl
          obtain ⟨oc, od, ot, os⟩ := ob
          simp only at cls dat
          subst cls; subst dat
          have at1 : (s.heap.push (bareSet w)).get? l = some { cls := .type "list", dict := od, data := .seq items num, slots := os } := Heap.get?_push_of_some _ at_
          have u1 := PySem.F.sub_list_set
          have u2 := PySem.F.sub_list_frozenset
          have u3 : (Value.type "list" == Value.type "dict") = false := by decide
          have isl : (s.heap.push (bareSet w)).IsList l items := ⟨_, at1, rfl, num, rfl⟩
          unfold Builtin.«set.__init__» noKeywords Builtin.Frozenset.updateFrom
          generalize gen : pyIter = PI
          wp_walk
          subst gen
          refine wpAny_pyIter_list isl (wpAny_bind (wpAny_runValue ?_))
          have below : l < s.heap.objs.size := Heap.lt_size at_
          have calm3 : A.in1.in1.in1.handled = none := by simp [calm]
          have apart : l ≠ (s.heap.push (bareSet w)).objs.size := by rw [Heap.size_push]; exact Nat.ne_of_lt (Nat.lt_succ_of_lt below)
          have out : s.heap.objs.size ∉ [(s.heap.push (bareSet w)).objs.size, l] := by
            rw [Heap.size_push]
            intro z
            rcases List.mem_cons.mp z with z | z
            · exact Nat.ne_of_lt (Nat.lt_succ_self _) z
            · exact Nat.ne_of_gt below (List.mem_singleton.mp z)
          refine sn_loop (h0 := s.heap) ((Walks.list calm3 _ l apart items).toS) out ks len (by omega) (by show A.units + 1 + 1 + 20 < cLine; omega) val key (by
              cases q : s.heap.get? s.heap.objs.size with
              | none => rfl
              | some u => exact absurd (Heap.lt_size q) (Nat.lt_irrefl _)) (fun b hb => by
              rw [List.mem_singleton.mp hb]
              cases q : s.heap.get? (s.heap.push (bareSet w)).objs.size with
              | none => rfl
              | some u =>
                have := Heap.lt_size q
                rw [Heap.size_push] at this
                exact absurd this (Nat.not_lt.mpr (Nat.le_succ _))) (items.size - 0) 0 _ (by omega) (Nat.zero_le _)
            ⟨⟨_, Heap.get?_push_size _ rfl, rfl, rfl⟩, (isl.push _)⟩ (fun b u z => Heap.get?_push_of_some _ (Heap.get?_push_of_some _ z)) ⟨[], _, _, _, ⟨(fun p hp => nomatch hp), (fun p hp => by rw [List.take_zero] at hp; exact nomatch hp), Nat.le_refl _⟩, sn_fresh (led_bare w) (Heap.get?_push_of_some _ seen)⟩ fun s3 L es ep t mv old T3 S3 => ?_
          obtain ⟨hp, g3, d3, tk, os3⟩ := s3
          have g0 : g3 = s.gens := mv.gens
          have d0 : d3 = s.drawn := mv.drawn
          have o0 : os3 = s.os := mv.os
          subst g0; subst d0; subst o0
          show wpAny _ _ _ _ _ _
          refine wpAny_pure (by
            show wpAny _ _ (ret Value.none) _ _ _
            refine wpAny_pure ⟨rfl, hp, tk, L, es, ep, t, rfl, by rw [← len]; exact T3, S3, old⟩)
        · cases r2 with
          | error e => exact got2
          | ok fl2 =>
            cases fl2 with
            | ret y =>
              obtain ⟨rfl, hp, tk, L, es, ep, t, rfl, T3, S3, old⟩ := got2
              repeat (any_goals (first | assumption | wp_step))
              exact fin _ _ _ _ _ _ T3 S3 old
            | _ => exact got2.elim
      | _ => exact got.elim))
end
end M
end

section
set_option Elab.async false
set_option linter.all false
set_option maxRecDepth 100000
set_option maxHeartbeats 4000000
/-! set(list of nested keys), as a rule -/
namespace M
open PySem PySem.Spec L2
open PyProof.Rows hiding St
theorem refs_nm : ∀ {ks : List NMem} {us : List Value}, Vals (ks.map fun p => V.ref p.1) us → us = ks.map fun p => Value.ref p.1
  | [], _, .nil => rfl
  | p :: ks, _, .cons r t => by
    cases r
    rw [refs_nm t]
    rfl
section
variable {X : Cx}
def rSnL (K : PySem.W.Frag) (w : World) : List V → Hp → VK → Prop := fun xs H Q => ∃ (l : Addr) (ks : List NMem), xs = [V.ref l] ∧ SqL K H l (ks.map fun p => V.ref p.1) ∧ (∀ p ∈ ks, NK H (.ref p.1) p.2 ∧ p.2.depth ≤ 8) ∧ ks.length < 63 ∧
  ∀ a L, H a = none → Taken ks L ks.length → Q (.ref a) (upd H a (SnO w a L))
theorem cr_snL (hc : X.calm = true) (hu : X.A.units + 64 < cLine) : CallR X (.type "set") (rSnL X.K X.w) := by
  intro pins s σ H xs us Q I r ⟨l, ks, e, hl, hk, few, q⟩
  subst e
  rw [Vals.ref1 r]
  obtain ⟨its, rv, pl, hz⟩ := I.list hl
  have eq := refs_nm rv
  have hn : H s.heap.objs.size = none := I.hok.fresh (Nat.le_refl _)
  refine call_sn (ks := ks) (I.ok.hd hc) (by omega) pl.isList (by rw [List.size_toArray, eq, List.length_map]) few (fun i v hv => ?_) (fun p hp => ⟨(hk p hp).1.is I.hok rfl, (hk p hp).2⟩) fun hp tk L es ep t T R old => ?_
  · rw [List.getElem?_toArray, eq, List.getElem?_map] at hv
    obtain ⟨p, h1, h2⟩ := Option.map_eq_some_iff.mp hv
    exact ⟨p, h1, h2.symm⟩
  · exact ⟨.ref s.heap.objs.size, upd H s.heap.objs.size (SnO X.w s.heap.objs.size L), I.laid (t' := tk) old (Nat.le_refl _) (snO_new R.own), rfl, q _ L hn T⟩
theorem SNS.taken {w : World} {H : Hp} {a : Addr} {ks L : List NMem} (hk : ∀ p ∈ ks, NK H (.ref p.1) p.2 ∧ p.2.depth ≤ 8) (T : Taken ks L ks.length) (n : H a = none) : SNS w (upd H a (SnO w a L)) a L :=
  ⟨upd_same, fun p hp => ⟨(hk p (T.sub p hp)).1.up fun b ys hb => by rw [upd_ne (ne_of_none hb n)]; exact hb, (hk p (T.sub p hp)).2⟩⟩
end
end M
end

section
set_option Elab.async false
set_option linter.all false
set_option maxRecDepth 100000
set_option maxHeartbeats 4000000
/-! sorted(set of triples) -/
namespace M
open PySem PySem.Spec L2
open PyProof.Rows hiding St
theorem perm_back {α β : Type} {f : α → β} : ∀ {l m : List β}, l.Perm m → ∀ {L : List α}, m = L.map f → ∃ L' : List α, L'.Perm L ∧ l = L'.map f := by
  intro l m h
  induction h with
  | nil => intro L e; exact ⟨L, .refl _, e⟩
  | @cons x l1 l2 h ih =>
    intro L e
    match L, e with
    | y :: L2, e =>
      injection e with e1 e2
      obtain ⟨L', p, e3⟩ := ih e2
      exact ⟨y :: L', p.cons y, by rw [List.map_cons, ← e1, ← e3]⟩
  | swap x y l =>
    intro L e
    match L, e with
    | a :: b :: L2, e =>
      injection e with e1 e2
      injection e2 with e2 e3
      exact ⟨b :: a :: L2, .swap _ _ _, by rw [List.map_cons, List.map_cons, ← e1, ← e2, ← e3]⟩
  | trans _ _ ih1 ih2 =>
    intro L e
    obtain ⟨L1, p1, e1⟩ := ih2 e
    obtain ⟨L2, p2, e2⟩ := ih1 e1
    exact ⟨L2, p2.trans p1, e2⟩
abbrev Mk3 := Nat × Nat × Nat
def trip (m : Mk3) : NestedKey := .tup [.num (m.1 : Nat), .text ⟨#[m.2.1]⟩, .num (m.2.2 : Nat)]
def Low (m : Mk3) : Prop := m.1 < 2 ^ 32 ∧ m.2.1 < 2 ^ 32 ∧ m.2.2 < 2 ^ 32
def rk3 (m : Mk3) : Nat := (m.1 * 2 ^ 32 + m.2.1) * 2 ^ 32 + m.2.2
def Tri (h : Heap) (x : Addr) (m : Mk3) : Prop := ∃ (o : Obj) (vs : Array Value) (n : Nat) (t1 t2 t3 : Tok), h.get? x = some o ∧ o.cls = .type "tuple" ∧ o.data = .seq vs n ∧ vs.toList = [.int (m.1 : Nat) t1, .str ⟨#[m.2.1]⟩ t2, .int (m.2.2 : Nat) t3]
theorem nk_tri {P : Program} {w : World} {H : Hp} {h : Heap} (ok : HOk P w H h) {x : Addr} {m : Mk3} (k : NK H (.ref x) (trip m)) : Tri h x m := by
  unfold trip at k
  generalize e : NestedKey.tup [.num (m.1 : Nat), .text ⟨#[m.2.1]⟩, .num (m.2.2 : Nat)] = q at k
  cases k with
  | @tup a xs ks ha t =>
    injection e with e
    subst e
    cases t with
    | cons k1 t =>
      cases t with
      | cons k2 t =>
        cases t with
        | cons k3 t =>
          cases t
          cases k1
          cases k2
          cases k3
          obtain ⟨_, its, rv, o, ho, hc, n, hd⟩ := ok x _ ha
          cases rv with
          | cons r1 rv =>
            cases rv with
            | cons r2 rv =>
              cases rv with
              | cons r3 rv =>
                cases rv
                obtain ⟨t1, rfl⟩ := r1
                obtain ⟨t2, rfl⟩ := r2
                obtain ⟨t3, rfl⟩ := r3
                exact ⟨o, _, n, t1, t2, t3, ho, hc, hd, by simp⟩
theorem rk_lt1 {m q : Mk3} (hm : Low m) (hq : Low q) (h : m.1 ≠ q.1) : decide ((m.1 : Int) < (q.1 : Int)) = decide ((rk3 m : Int) < rk3 q) := by
  obtain ⟨h1, h2, h3⟩ := hm
  obtain ⟨g1, g2, g3⟩ := hq
  apply decide_eq_decide.mpr
  unfold rk3
  omega
theorem rk_lt2 {m q : Mk3} (hm : Low m) (hq : Low q) (e : m.1 = q.1) (h : m.2.1 ≠ q.2.1) : decide (([m.2.1] : List Nat) < [q.2.1]) = decide ((rk3 m : Int) < rk3 q) := by
  obtain ⟨h1, h2, h3⟩ := hm
  obtain ⟨g1, g2, g3⟩ := hq
  apply decide_eq_decide.mpr
  have z : ([m.2.1] : List Nat) < [q.2.1] ↔ m.2.1 < q.2.1 := by rw [List.cons_lt_cons_iff]; simp
  rw [z]
  unfold rk3
  omega
theorem rk_lt3 {m q : Mk3} (e : m.1 = q.1) (h : m.2.1 = q.2.1) : decide ((m.2.2 : Int) < (q.2.2 : Int)) = decide ((rk3 m : Int) < rk3 q) := by
  apply decide_eq_decide.mpr
  unfold rk3
  omega
section
variable {P : Program} {w : World} {A : Around} {E : Value → Shared → Prop} {s : Shared}
theorem tri_lt {x y : Addr} {m q : Mk3} {Q : Bool → Shared → Prop} (hx : Tri s.heap x m) (hy : Tri s.heap y q) (lm : Low m) (lq : Low q) (h : Q (decide ((rk3 m : Int) < rk3 q)) s) : wpAny (model P w) A (keyLt' (tuples' true) (.ref x) (.ref y)) Q E s := by
  obtain ⟨o, vs, n, t1, t2, t3, ho, hc, hd, e⟩ := hx
  obtain ⟨o', vs', n', u1, u2, u3, ho', hc', hd', e'⟩ := hy
  refine PySem.W.kat_lt ho hd ho' hd' ?_
  have sz : decide (vs.size < vs'.size) = false := by
    have l1 := congrArg List.length e
    have l2 := congrArg List.length e'
    rw [Array.length_toList] at l1 l2
    exact decide_eq_false (by rw [l1, l2]; exact Nat.lt_irrefl 3)
  rw [sz, e, e']
  show PySem.W.KatLex P w A true false Q [(.int _ t1, .int _ u1), (.str _ t2, .str _ u2), (.int _ t3, .int _ u3)] 0 s
  refine PySem.W.kat_cons (wpAny_eqBool_int ?_)
  by_cases c1 : m.1 = q.1
  · rw [show ((m.1 : Int) == (q.1 : Int)) = true by rw [c1]; simp]
    refine PySem.W.kat_yes (PySem.W.kat_cons (wpAny_eqBool_str ?_))
    by_cases c2 : m.2.1 = q.2.1
    · rw [show decide ((⟨#[m.2.1]⟩ : Str) = ⟨#[q.2.1]⟩) = true by rw [c2]; simp]
      refine PySem.W.kat_yes (PySem.W.kat_cons (wpAny_eqBool_int ?_))
      by_cases c3 : m.2.2 = q.2.2
      · rw [show ((m.2.2 : Int) == (q.2.2 : Int)) = true by rw [c3]; simp]
        refine PySem.W.kat_yes (PySem.W.kat_nil ?_)
        rw [← rk_lt3 c1 c2, c3] at h
        simpa using h
      · rw [show ((m.2.2 : Int) == (q.2.2 : Int)) = false by simp; omega]
        refine PySem.W.kat_no (PyProof.Rows.oneLt_any_int ?_)
        rw [rk_lt3 c1 c2]; exact h
    · rw [show decide ((⟨#[m.2.1]⟩ : Str) = ⟨#[q.2.1]⟩) = false by
        refine decide_eq_false fun z => c2 ?_
        have := congrArg (fun z : Str => z.cps.toList) z
        simpa using this]
      refine PySem.W.kat_no (PyProof.Rows.oneLt_any_str ?_)
      have z := rk_lt2 lm lq c1 c2
      show Q (decide (([m.2.1] : List Nat) < [q.2.1])) s
      rw [z]; exact h
  · rw [show ((m.1 : Int) == (q.1 : Int)) = false by simp; omega]
    refine PySem.W.kat_no (PyProof.Rows.oneLt_any_int ?_)
    rw [rk_lt1 lm lq c1]; exact h
end
end M
end

section
set_option Elab.async false
set_option linter.all false
set_option maxRecDepth 100000
set_option maxHeartbeats 4000000
/-! sorted(set of triples): the rule -/
namespace M
open PySem PySem.Spec L2
open PyProof.Rows hiding St
def rkN : NestedKey → Int
  | .tup [.num a, .text z, .num b] => (a * 2 ^ 32 + ((z.cps.toList.headD 0 : Nat) : Int)) * 2 ^ 32 + b
  | _ => 0
theorem rkN_trip (m : Mk3) : rkN (trip m) = (rk3 m : Int) := by
  show ((m.1 : Int) * 2 ^ 32 + (m.2.1 : Nat)) * 2 ^ 32 + (m.2.2 : Nat) = _
  unfold rk3
  omega
def rkV (L : List NMem) : Value → Int
  | .ref x => ((L.find? fun p => p.1 == x).map fun p => rkN p.2).getD 0
  | _ => 0
theorem rkV_at {h : Heap} {L : List NMem} (k : ∀ p ∈ L, NestedIs h p.2 (.ref p.1)) {p : NMem} (hp : p ∈ L) : rkV L (.ref p.1) = rkN p.2 := by
  unfold rkV
  cases e : L.find? fun q => q.1 == p.1 with
  | none => exact absurd (List.find?_eq_none.mp e p hp) (by simp)
  | some q =>
    have e1 := List.find?_some e
    have e2 := List.mem_of_find?_eq_some e
    have e3 : q.1 = p.1 := by simpa using e1
    have k1 := k q e2
    rw [e3] at k1
    have e4 := NestedIs.inj _ _ _ k1 (k p hp)
    dsimp only
    rw [e]
    show rkN q.2 = rkN p.2
    rw [e4]
theorem tri_firsts {h : Heap} : ∀ vs : List Value, (∀ v ∈ vs, ∃ x m, v = .ref x ∧ Tri h x m) → ∃ fs, PySem.W.KatTups h vs fs ∧ fs.length = vs.length ∧ ∀ f ∈ fs, ∃ i t, f = Value.int i t
  | [], _ => ⟨[], PySem.W.KatTups.nil, rfl, fun f hf => nomatch hf⟩
  | v :: vs, hv => by
    obtain ⟨fs, k, hl, hi⟩ := tri_firsts vs fun u hu => hv u (List.mem_cons_of_mem _ hu)
    obtain ⟨x, m, rfl, o, xs, n, t1, t2, t3, ho, hc, hd, e⟩ := hv v List.mem_cons_self
    refine ⟨.int (m.1 : Nat) t1 :: fs, PySem.W.KatTups.cons ho hc hd ?_ k, by simp [hl], fun f hf => ?_⟩
    · rw [← Array.getElem?_toList, e]
      rfl
    · rcases List.mem_cons.mp hf with rfl | hf
      · exact ⟨_, _, rfl⟩
      · exact hi f hf
section
variable {P : Program} {w : World} {A : Around} {E : Value → Shared → Prop} {s : Shared} {a : Addr} {L : List NMem} {es : Array (Int × Value)} {ep : Nat} {t : SetTable}
theorem sorted_sn {Q : Value → Shared → Prop} (R : SN w s.heap a L es ep t) (calm : A.handled = none) (tri : ∀ p ∈ L, ∃ m, p.2 = trip m ∧ Low m ∧ Tri s.heap p.1 m)
    (fin : ∀ (s' : Shared) (p : Addr) (out : Array Value) (c : Nat) (L' : List NMem), (∀ b u, s.heap.get? b = some u → s'.heap.get? b = some u) → s'.gens = s.gens → s'.os = s.os → s.heap.objs.size ≤ p →
      s'.heap.get? p = some (seqObj "list" out c) → out.toList = L'.map (fun q => Value.ref q.1) → L'.Perm L → L'.Pairwise (fun q r => rkN q.2 ≤ rkN r.2) → Q (.ref p) s') :
    wpAny (model P w) A (call (.builtin "sorted") [.ref a]) Q E s := by
  obtain ⟨ob, at_, ex, dat⟩ := R.obj
  have few := R.few
  have num := R.size
  refine Calls.call_function_entry kind_sorted plain_sorted entry_sorted (args_sorted1 _) (by
    unfold Builtin.«sorted»
    refine wpAny_bind (m := checkCount "sorted" 1 1 _) (wpAny_pure (wpAny_bind (collect_set (A := A.in1) calm ⟨ob, at_, ex.1, dat⟩ R.fit (by rw [num]; unfold scanBound; omega) R.tab.ris R.led fun s1 vs old grown gens os perm => ?_)))
    rw [R.rows, List.map_map] at perm
    have perm2 : vs.Perm (L.map fun p => Value.ref p.1) := perm
    have len : vs.length = L.length := by rw [perm2.length_eq, List.length_map]
    refine wpAny_bind (wpAny_newList ?_ (by rw [len, sizeLine_eq]; omega))
    have new : (s1.heap.push (seqObj "list" vs.toArray 0)).get? s1.heap.objs.size = some (seqObj "list" vs.toArray 0) := Heap.get?_push_size _ rfl
    have own : ∀ v ∈ vs, ∃ p ∈ L, v = .ref p.1 := fun v hv => by
      obtain ⟨p, hp, e⟩ := List.mem_map.mp (perm2.mem_iff.mp hv)
      exact ⟨p, hp, e.symm⟩
    have keys : ∀ p ∈ L, NestedIs s.heap p.2 (.ref p.1) := fun p hp => (R.key p hp).1
    have mid : ∀ p ∈ L, ∀ m, Tri s.heap p.1 m → Tri (TS.midHeap (s1.heap.push (seqObj "list" vs.toArray 0)) s1.heap.objs.size vs) p.1 m := fun p hp m ⟨o, xs, n, t1, t2, t3, ho, r⟩ => by
      have h1 := old _ _ ho
      exact ⟨o, xs, n, t1, t2, t3, TS.midHeap_old (Nat.ne_of_lt (Heap.lt_size h1)) (Heap.get?_push_of_some _ h1), r⟩
    refine wpAny_bind (wpAny_holding (wpAny_call_entry slot_list_sort ⟨_, new, rfl⟩ entry_list_sort (SK.plain_sort (r := rkV L) new (by rw [len]; exact few) (fun h2 Q' hQ' => ?_) fun ps out o1 o2 o3 => ⟨_, rfl, ?_⟩) (args_list_sort _)))
    · obtain ⟨fs, k, hl, hi⟩ := tri_firsts (h := TS.midHeap (s1.heap.push (seqObj "list" vs.toArray 0)) s1.heap.objs.size vs) vs fun v hv => by
        obtain ⟨p, hp, rfl⟩ := own v hv
        obtain ⟨m, _, _, ht⟩ := tri p hp
        exact ⟨_, m, rfl, mid p hp m ht⟩
      refine PySem.W.kat_kind (T := Value.type "int") k (by omega) (fun f hf => ?_) rfl (hQ' _ ?_)
      · obtain ⟨i, t, rfl⟩ := hi f hf
        exact PySem.W.Looks.of_pure rfl
      · intro x y hx hy Q2 E2 hq
        rw [pairsOf_toList] at hx hy
        obtain ⟨p, hp, e1⟩ := own _ (mem_zip_self hx).2
        obtain ⟨q, hq1, e2⟩ := own _ (mem_zip_self hy).2
        obtain ⟨m, em, lm, tm⟩ := tri p hp
        obtain ⟨n, en, ln, tn⟩ := tri q hq1
        rw [e1, e2, rkV_at keys hp, rkV_at keys hq1, em, en, rkN_trip, rkN_trip] at hq
        rw [e1, e2]
        exact tri_lt (mid p hp m tm) (mid q hq1 n tn) lm ln hq
    · obtain ⟨pm, so⟩ := TS.out_rank o1 o2 o3
      obtain ⟨L', p2, e2⟩ := perm_back (f := fun p : NMem => Value.ref p.1) (pm.trans perm2) rfl
      obtain ⟨c, at2⟩ := sortedHeap_at (vs := vs) (out := out) new
      refine wpAny_pure ⟨_, rfl, fin _ s1.heap.objs.size out c L' (fun b u z => ?_) gens os grown at2 e2 p2 ?_⟩
      · have z1 := old b u z
        have lt := Heap.lt_size z1
        exact (sortedHeap_old (h := s1.heap.push (seqObj "list" vs.toArray 0)) (Nat.ne_of_lt lt) (by rw [size_push']; exact Nat.lt_succ_of_lt lt)).trans (Heap.get?_push_of_some _ z1)
      · rw [e2, List.pairwise_map] at so
        refine List.Pairwise.imp_of_mem (fun {q r} hq hr h => ?_) so
        rw [rkV_at keys (p2.mem_iff.mp hq), rkV_at keys (p2.mem_iff.mp hr)] at h
        exact h)
end
end M
end

section
set_option Elab.async false
set_option linter.all false
set_option maxRecDepth 100000
set_option maxHeartbeats 4000000
/-! sorted(set of triples), as a rule; sorted triples are told in one way -/
namespace M
open PySem PySem.Spec L2
open PyProof.Rows hiding St
theorem vals_nm : ∀ ks : List NMem, Vals (ks.map fun p => V.ref p.1) (ks.map fun p => Value.ref p.1)
  | [] => .nil
  | p :: ks => .cons rfl (vals_nm ks)
section
variable {X : Cx}
def rSortN (w : World) : List V → Hp → VK → Prop := fun xs H Q => ∃ (a : Addr) (L : List NMem), xs = [V.ref a] ∧ SNS w H a L ∧ (∀ p ∈ L, ∃ m, p.2 = trip m ∧ Low m) ∧
  ∀ (L' : List NMem) (p : Addr), L'.Perm L → (L'.map (·.2)).Nodup → L'.Pairwise (fun q r => rkN q.2 ≤ rkN r.2) → H p = none → Q (.ref p) (upd H p (.lst (L'.map fun q => V.ref q.1)))
theorem cr_sortN (hc : X.calm = true) : CallR X (.builtin "sorted") (rSortN X.w) := by
  intro pins s σ H xs us Q I r ⟨a, L, e, hs, tri, q⟩
  subst e
  rw [Vals.ref1 r]
  obtain ⟨es, ep, t, R⟩ := sns_of I hs
  refine sorted_sn R (I.ok.hd hc) (fun p hp => ?_) fun s' p out c L' old gens os above at_ eo pm so => ?_
  · obtain ⟨m, e, lm⟩ := tri p hp
    have k := (hs.key p hp).1
    rw [e] at k
    exact ⟨m, e, lm, nk_tri I.hok k⟩
  have fresh : H p = none := I.hok.fresh above
  have size : (L'.map fun q => V.ref q.1).length ≤ sizeLine := by
    have := R.few
    rw [List.length_map, pm.length_eq, sizeLine_eq]
    omega
  have J : Inv X pins σ (upd H p (.lst (L'.map fun q => V.ref q.1))) { s with heap := s'.heap, gens := s'.gens, drawn := s'.drawn, toks := s'.toks } :=
    I.call (ch := []) (Un.laid old above fresh) (I.hok.laid old above ⟨size, out.toList, c, by rw [eo]; exact vals_nm L', at_⟩) (by rw [gens]; exact I.bare) fun _ z => nomatch z
  have same : s' = { s with heap := s'.heap, gens := s'.gens, drawn := s'.drawn, toks := s'.toks } := by cases s'; cases s; cases os; rfl
  rw [same]
  exact ⟨.ref p, _, J, rfl, q L' p pm ((pm.map (·.2)).nodup_iff.mpr R.once) so fresh⟩
end
/-! ### marks that are told in one way -/
/-- low marks, rising -/
def Canon (ms : List Mark) : Prop := (∀ m ∈ ms, Low m) ∧ ms.Pairwise (fun a b => rk3 a < rk3 b)
theorem rk3_inj {a b : Mk3} (ha : Low a) (hb : Low b) (h : rk3 a = rk3 b) : a = b := by
  obtain ⟨a1, a2, a3⟩ := a
  obtain ⟨b1, b2, b3⟩ := b
  obtain ⟨h1, h2, h3⟩ := ha
  obtain ⟨g1, g2, g3⟩ := hb
  unfold rk3 at h
  dsimp only at *
  obtain rfl : a1 = b1 := by omega
  obtain rfl : a2 = b2 := by omega
  obtain rfl : a3 = b3 := by omega
  rfl
theorem canon_one : ∀ xs ys : List Mark, Canon xs → Canon ys → (∀ m, m ∈ xs ↔ m ∈ ys) → xs = ys
  | [], [], _, _, _ => rfl
  | [], y :: ys, _, _, h => absurd ((h y).mpr List.mem_cons_self) (by simp)
  | x :: xs, [], _, _, h => absurd ((h x).mp List.mem_cons_self) (by simp)
  | x :: xs, y :: ys, ⟨lx, px⟩, ⟨ly, py⟩, h => by
    obtain ⟨px1, px2⟩ := List.pairwise_cons.mp px
    obtain ⟨py1, py2⟩ := List.pairwise_cons.mp py
    have e : x = y := by
      rcases List.mem_cons.mp ((h x).mp List.mem_cons_self) with e | hx
      · exact e
      · rcases List.mem_cons.mp ((h y).mpr List.mem_cons_self) with e | hy
        · exact e.symm
        · have z1 := py1 x hx
          have z2 := px1 y hy
          omega
    subst e
    have rest : ∀ m, m ∈ xs ↔ m ∈ ys := fun m => by
      constructor
      · intro hm
        rcases List.mem_cons.mp ((h m).mp (List.mem_cons_of_mem _ hm)) with e | hm2
        · subst e
          exact absurd (px1 m hm) (Nat.lt_irrefl _)
        · exact hm2
      · intro hm
        rcases List.mem_cons.mp ((h m).mpr (List.mem_cons_of_mem _ hm)) with e | hm2
        · subst e
          exact absurd (py1 m hm) (Nat.lt_irrefl _)
        · exact hm2
    rw [canon_one xs ys ⟨fun m hm => lx m (List.mem_cons_of_mem _ hm), px2⟩ ⟨fun m hm => ly m (List.mem_cons_of_mem _ hm), py2⟩ rest]
/-- what sorted gives of such a set -/
theorem canon_of {L : List NMem} {ms : List Mark} (e : L.map (·.2) = ms.map trip) (lo : ∀ m ∈ ms, Low m) (nd : (L.map (·.2)).Nodup) (so : L.Pairwise (fun q r => rkN q.2 ≤ rkN r.2)) : Canon ms := by
  refine ⟨lo, ?_⟩
  have h1 : (L.map (·.2)).Pairwise (fun a b => rkN a ≤ rkN b) := List.pairwise_map.mpr so
  rw [e] at h1 nd
  have h2 := List.pairwise_map.mp h1
  have h3 := List.pairwise_map.mp nd
  refine List.Pairwise.imp_of_mem (fun {a b} ha hb h => ?_) (h2.and h3)
  obtain ⟨z1, z2⟩ := h
  rw [rkN_trip, rkN_trip] at z1
  have z3 : rk3 a ≠ rk3 b := fun q => z2 (by rw [rk3_inj (lo a ha) (lo b hb) q])
  omega
end M
end

section
set_option Elab.async false
set_option linter.all false
set_option maxRecDepth 100000
/-! tables of kinds: what stands of them; rows put together are alike where their parts are -/
namespace M
/-- one half of being alike to a depth more -/
def Hf (d : Nat) (r s : List Nat) : Prop := ∀ i c, r[i]? = some c → ∃ j, s[j]? = some c ∧ Al d (r.take i) (s.take j) ∧ Al d (r.drop (i + 1)) (s.drop (j + 1))
theorem al_hf {d : Nat} {r s : List Nat} : Al (d + 1) r s ↔ Hf d r s ∧ Hf d s r :=
  ⟨fun h => ⟨h.1, fun j c e => let ⟨i, a, b, g⟩ := h.2 j c e; ⟨i, a, b.symm, g.symm⟩⟩, fun h => ⟨h.1, fun j c e => let ⟨i, a, b, g⟩ := h.2 j c e; ⟨i, a, b.symm, g.symm⟩⟩⟩
theorem app_get {r s : List Nat} {i c : Nat} (h : (r ++ s)[i]? = some c) : (i < r.length ∧ r[i]? = some c) ∨ (∃ k, i = r.length + k ∧ s[k]? = some c) := by
  by_cases q : i < r.length
  · rw [List.getElem?_append_left q] at h
    exact .inl ⟨q, h⟩
  · rw [List.getElem?_append_right (by omega)] at h
    exact .inr ⟨i - r.length, by omega, h⟩
theorem take_l {r s : List Nat} {i : Nat} (h : i < r.length) : (r ++ s).take i = r.take i := List.take_append_of_le_length (Nat.le_of_lt h)
theorem drop_l {r s : List Nat} {i : Nat} (h : i < r.length) : (r ++ s).drop (i + 1) = r.drop (i + 1) ++ s := List.drop_append_of_le_length h
theorem take_r {r s : List Nat} {k : Nat} : (r ++ s).take (r.length + k) = r ++ s.take k := by rw [List.take_append]; simp [List.take_of_length_le]
theorem drop_r {r s : List Nat} {k : Nat} : (r ++ s).drop (r.length + k + 1) = s.drop (k + 1) := by
  rw [List.drop_append, List.drop_of_length_le (by omega)]
  simp only [List.nil_append]
  congr 1
  omega
theorem Al.app : ∀ {d : Nat} {r s r' s' : List Nat}, Al d r s → Al d r' s' → Al d (r ++ r') (s ++ s')
  | 0, _, _, _, _, _, _ => trivial
  | d + 1, r, s, r', s', h, g => by
    have half : ∀ {r s r' s' : List Nat}, Al (d + 1) r s → Al (d + 1) r' s' → Hf d (r ++ r') (s ++ s') := fun {r s r' s'} h g i c e => by
      rcases app_get e with ⟨q, e0⟩ | ⟨k, rfl, e0⟩
      · obtain ⟨j, e2, a1, a2⟩ := h.1 i c e0
        have q2 := (List.getElem?_eq_some_iff.mp e2).1
        refine ⟨j, by rw [List.getElem?_append_left q2]; exact e2, ?_, ?_⟩
        · rw [take_l q, take_l q2]; exact a1
        · rw [drop_l q, drop_l q2]; exact a2.app g.less
      · obtain ⟨j, e2, a1, a2⟩ := g.1 k c e0
        refine ⟨s.length + j, by rw [List.getElem?_append_right (by omega)]; rw [Nat.add_sub_cancel_left]; exact e2, ?_, ?_⟩
        · rw [take_r, take_r]; exact h.less.app a1
        · rw [drop_r, drop_r]; exact a2
    exact al_hf.mpr ⟨half h g, half h.symm g.symm⟩
/-! ### tables of kinds that come of rows -/
def Fits (t : KTab) (d : Nat) (ms : List Mark) (r : List Nat) : Prop :=
  (∀ i c, r[i]? = some c → ∃ a b, (a, c, b) ∈ ms ∧ Rep t d a (r.take i) ∧ Rep t d b (r.drop (i + 1))) ∧ (∀ a c b, (a, c, b) ∈ ms → ∃ i, r[i]? = some c ∧ Rep t d a (r.take i) ∧ Rep t d b (r.drop (i + 1)))
theorem rep_fits {t : KTab} {d n : Nat} {r : List Nat} : Rep t (d + 1) n r ↔ ∃ ms, t[n]? = some (d + 1, ms) ∧ Fits t d ms r := Iff.rfl
theorem Fits.up {t u : KTab} (g : Grows t u) {d : Nat} {ms : List Mark} {r : List Nat} (h : Fits t d ms r) : Fits u d ms r :=
  ⟨fun i c e => let ⟨a, b, m, x, y⟩ := h.1 i c e; ⟨a, b, m, x.up g, y.up g⟩, fun a c b m => let ⟨i, e, x, y⟩ := h.2 a c b m; ⟨i, e, x.up g, y.up g⟩⟩
/-- rows that may be told: closed under parts, short, few -/
structure Sub (S : List (List Nat)) (D : Nat) : Prop where
  tak : ∀ r ∈ S, ∀ i, r.take i ∈ S
  drp : ∀ r ∈ S, ∀ i, r.drop i ∈ S
  len : ∀ r ∈ S, r.length ≤ 60
  low : ∀ r ∈ S, ∀ c ∈ r, c < 2 ^ 32
  few : S.length * (D + 1) ≤ 2 ^ 20
  emp : [] ∈ S
structure TOk (canon : List Mark → Prop) (S : List (List Nat)) (D : Nat) (t : KTab) : Prop where
  ok : KOk canon t
  zero : t[0]? = some (0, [])
  wit : ∀ n d ms, t[n]? = some (d, ms) → n ≠ 0 → ∃ e r, d = e + 1 ∧ d ≤ D ∧ r ∈ S ∧ Fits t e ms r
section
variable {canon : List Mark → Prop} {S : List (List Nat)} {D : Nat} {t u : KTab}
theorem TOk.rep (T : TOk canon S D t) {n d : Nat} {ms : List Mark} (h : t[n]? = some (d, ms)) : ∃ r, (n ≠ 0 → r ∈ S ∧ d ≤ D) ∧ Rep t d n r := by
  by_cases q : n = 0
  · subst q
    have := T.zero.symm.trans h
    injection this with this
    injection this with e1 e2
    subst e1
    exact ⟨[], fun q => absurd rfl q, rfl⟩
  · obtain ⟨e, r, rfl, h1, h2, h3⟩ := T.wit n d ms h q
    exact ⟨r, fun _ => ⟨h2, h1⟩, ms, h, h3⟩
theorem TOk.lt (T : TOk canon S D t) {n d : Nat} {r : List Nat} (h : Rep t d n r) : n < t.length := by
  cases d with
  | zero =>
    have : n = 0 := h
    subst this
    exact (List.getElem?_eq_some_iff.mp T.zero).1
  | succ d =>
    obtain ⟨ms, e, _⟩ := h
    exact (List.getElem?_eq_some_iff.mp e).1
theorem TOk.ne (T : TOk canon S D t) {n d : Nat} {r : List Nat} (h : Rep t (d + 1) n r) : n ≠ 0 := fun e => by
  subst e
  obtain ⟨ms, e, _⟩ := h
  rw [T.zero] at e
  cases e
/-- what the number of a kind tells in the table -/
theorem TOk.at (T : TOk canon S D t) {n d : Nat} {r : List Nat} (h : Rep t d n r) : ∃ ms, t[n]? = some (d, ms) := by
  cases d with
  | zero =>
    have : n = 0 := h
    subst this
    exact ⟨_, T.zero⟩
  | succ d => exact let ⟨ms, e, _⟩ := h; ⟨ms, e⟩
theorem nodup_sub {α : Type} : ∀ (l L : List α), l.Nodup → (∀ x ∈ l, x ∈ L) → l.length ≤ L.length
  | [], _, _, _ => Nat.zero_le _
  | x :: l, L, d, s => by
    obtain ⟨d1, d2⟩ := List.nodup_cons.mp d
    obtain ⟨L1, L2, rfl⟩ := List.append_of_mem (s x List.mem_cons_self)
    have q := nodup_sub l (L1 ++ L2) d2 fun y hy => by
      rcases List.mem_append.mp (s y (List.mem_cons_of_mem _ hy)) with z | z
      · exact List.mem_append.mpr (.inl z)
      · rcases List.mem_cons.mp z with z | z
        · exact absurd (z ▸ hy) d1
        · exact List.mem_append.mpr (.inr z)
    simp only [List.length_append, List.length_cons] at q ⊢
    omega
theorem pairs_len (S : List (List Nat)) (D : Nat) : ((List.range D).flatMap fun d => S.map fun r => (d, r)).length = S.length * D := by
  induction D with
  | zero => rfl
  | succ D ih =>
    rw [List.range_succ, List.flatMap_append, List.length_append, ih]
    simp [Nat.mul_succ]
/-- there are few kinds -/
theorem TOk.few (hc : ∀ xs ys, canon xs → canon ys → (∀ m, m ∈ xs ↔ m ∈ ys) → xs = ys) (T : TOk canon S D t) : t.length ≤ S.length * D + 1 := by
  have ex : ∀ n : Nat, ∃ p : Nat × List Nat, n + 1 < t.length → (p.1 ∈ List.range D ∧ p.2 ∈ S) ∧ Rep t (p.1 + 1) (n + 1) p.2 := fun n => by
    by_cases q : n + 1 < t.length
    · obtain ⟨e, r, h1, h2, h3, h4⟩ := T.wit (n + 1) (t[n + 1]).1 (t[n + 1]).2 (List.getElem?_eq_getElem q) (by omega)
      refine ⟨(e, r), fun _ => ⟨⟨List.mem_range.mpr (by omega), h3⟩, (t[n + 1]).2, ?_, h4⟩⟩
      rw [List.getElem?_eq_getElem q]
      show some t[n + 1] = some (e + 1, (t[n + 1]).2)
      rw [← h1]
    · exact ⟨(0, []), fun z => absurd z q⟩
  let f := fun n => Classical.choose (ex n)
  have hf : ∀ n, n + 1 < t.length → ((f n).1 ∈ List.range D ∧ (f n).2 ∈ S) ∧ Rep t ((f n).1 + 1) (n + 1) (f n).2 := fun n => Classical.choose_spec (ex n)
  have q := nodup_sub ((List.range (t.length - 1)).map f) ((List.range D).flatMap fun d => S.map fun r => (d, r)) ?_ ?_
  · simp only [List.length_map, List.length_range] at q
    have e := pairs_len S D
    omega
  · refine List.pairwise_map.mpr (List.Pairwise.imp_of_mem (fun {a b} ha hb (h : a ≠ b) e => ?_) List.nodup_range)
    have la := List.mem_range.mp ha
    have lb := List.mem_range.mp hb
    have h1 := (hf a (by omega)).2
    have h2 := (hf b (by omega)).2
    rw [e] at h1
    have := Rep.one hc T.ok h1 h2
    omega
  · intro p hp
    obtain ⟨n, hn, rfl⟩ := List.mem_map.mp hp
    have ln := List.mem_range.mp hn
    obtain ⟨⟨h1, h2⟩, _⟩ := hf n (by omega)
    exact List.mem_flatMap.mpr ⟨_, h1, List.mem_map.mpr ⟨_, h2, rfl⟩⟩
/-- a kind has at most as many marks as its rows have places -/
theorem TOk.marks (hc : ∀ xs ys, canon xs → canon ys → (∀ m, m ∈ xs ↔ m ∈ ys) → xs = ys) (nd : ∀ xs, canon xs → xs.Nodup) (T : TOk canon S D t) {n d : Nat} {ms : List Mark} {r : List Nat} (h : t[n]? = some (d + 1, ms)) (g : Rep t (d + 1) n r) : ms.length ≤ r.length := by
  obtain ⟨ms', h', g1, g2⟩ := g
  obtain rfl : ms = ms' := by
    have := h.symm.trans h'
    injection this with this
    injection this
  have ex : ∀ i : Nat, ∃ m : Mark, i < r.length → m ∈ ms ∧ r[i]? = some m.2.1 ∧ Rep t d m.1 (r.take i) ∧ Rep t d m.2.2 (r.drop (i + 1)) := fun i => by
    by_cases q : i < r.length
    · obtain ⟨a, b, h1, h2, h3⟩ := g1 i r[i] (List.getElem?_eq_getElem q)
      exact ⟨(a, r[i], b), fun _ => ⟨h1, List.getElem?_eq_getElem q, h2, h3⟩⟩
    · exact ⟨(0, 0, 0), fun z => absurd z q⟩
  let f := fun n => Classical.choose (ex n)
  have hf : ∀ i, i < r.length → f i ∈ ms ∧ r[i]? = some (f i).2.1 ∧ Rep t d (f i).1 (r.take i) ∧ Rep t d (f i).2.2 (r.drop (i + 1)) := fun i => Classical.choose_spec (ex i)
  have q := nodup_sub ms ((List.range r.length).map f) (nd _ (T.ok.can _ _ _ h)) fun ⟨a, c, b⟩ hm => by
    obtain ⟨i, e, x, y⟩ := g2 a c b hm
    have hi := (List.getElem?_eq_some_iff.mp e).1
    obtain ⟨f1, f2, f3, f4⟩ := hf i hi
    refine List.mem_map.mpr ⟨i, List.mem_range.mpr hi, ?_⟩
    have e1 := Rep.one hc T.ok f3 x
    have e3 := Rep.one hc T.ok f4 y
    have e2 : (f i).2.1 = c := Option.some.inj (f2.symm.trans e)
    exact Prod.ext e1 (Prod.ext e2 e3)
  simpa using q
/-- a new kind -/
theorem TOk.add (T : TOk canon S D t) {d : Nat} {ms : List Mark} {r : List Nat} (hc : canon ms) (new : ∀ n : Nat, t[n]? ≠ some (d + 1, ms)) (hd : d + 1 ≤ D) (hr : r ∈ S) (hf : Fits t d ms r) : TOk canon S D (t ++ [(d + 1, ms)]) := by
  have at_ : ∀ {n : Nat} {x : Nat × List Mark}, (t ++ [(d + 1, ms)])[n]? = some x → t[n]? = some x ∨ (n = t.length ∧ x = (d + 1, ms)) := fun {n x} h => by
    by_cases q : n < t.length
    · rw [List.getElem?_append_left q] at h; exact .inl h
    · rw [List.getElem?_append_right (by omega)] at h
      have q2 : n - t.length < 1 := by simpa using (List.getElem?_eq_some_iff.mp h).1
      have q3 : n = t.length := by omega
      subst q3
      rw [Nat.sub_self] at h
      exact .inr ⟨rfl, (Option.some.inj h).symm⟩
  have g := Grows.app t [(d + 1, ms)]
  refine ⟨⟨fun n m x h1 h2 => ?_, fun n e ms' h => ?_⟩, g _ _ T.zero, fun n e ms' h q => ?_⟩
  · rcases at_ h1 with h1 | ⟨rfl, rfl⟩
    · rcases at_ h2 with h2 | ⟨rfl, rfl⟩
      · exact T.ok.one n m x h1 h2
      · exact absurd h1 (new n)
    · rcases at_ h2 with h2 | ⟨rfl, _⟩
      · exact absurd h2 (new m)
      · rfl
  · rcases at_ h with h | ⟨rfl, e1⟩
    · exact T.ok.can _ _ _ h
    · injection e1 with _ e2
      rw [e2]; exact hc
  · rcases at_ h with h | ⟨rfl, e1⟩
    · obtain ⟨e', r', h1, h2, h3, h4⟩ := T.wit n e ms' h q
      exact ⟨e', r', h1, h2, h3, h4.up g⟩
    · injection e1 with e1 e2
      subst e1; subst e2
      exact ⟨d, r, rfl, hd, hr, hf.up g⟩
/-! ### made of others -/
def BW (t : KTab) (d b b' x : Nat) : Prop := ∃ s, Rep t d b s ∧ Rep t d b' (s ++ [x])
def AW (t : KTab) (d a a' x : Nat) : Prop := ∃ s, Rep t d a s ∧ Rep t d a' (x :: s)
def LW (t : KTab) (d a a' : Nat) : Prop := ∃ s, Rep t d a s ∧ Rep t (d - 1) a' s
theorem BW.up (g : Grows t u) {d b b' x : Nat} : BW t d b b' x → BW u d b b' x := fun ⟨s, h1, h2⟩ => ⟨s, h1.up g, h2.up g⟩
theorem AW.up (g : Grows t u) {d b b' x : Nat} : AW t d b b' x → AW u d b b' x := fun ⟨s, h1, h2⟩ => ⟨s, h1.up g, h2.up g⟩
theorem LW.up (g : Grows t u) {d b b' : Nat} : LW t d b b' → LW u d b b' := fun ⟨s, h1, h2⟩ => ⟨s, h1.up g, h2.up g⟩
theorem BW.all {d b b' x : Nat} (h : BW t d b b' x) {r : List Nat} (hr : Rep t d b r) : Rep t d b' (r ++ [x]) := by
  obtain ⟨s, h1, h2⟩ := h
  exact h2.move ((h1.al hr).app (Al.refl _ _))
theorem AW.all {d b b' x : Nat} (h : AW t d b b' x) {r : List Nat} (hr : Rep t d b r) : Rep t d b' (x :: r) := by
  obtain ⟨s, h1, h2⟩ := h
  exact h2.move ((Al.refl d [x]).app (h1.al hr))
theorem LW.all {d b b' : Nat} (h : LW t d b b') {r : List Nat} (hr : Rep t d b r) : Rep t (d - 1) b' r := by
  obtain ⟨s, h1, h2⟩ := h
  exact h2.move ((h1.al hr).mono (Nat.sub_le _ _))
theorem fits_behind {d x l e : Nat} {ms ms' : List Mark} {r : List Nat} (h : Fits u d ms r) (hl : Rep u d l r) (he : Rep u d e []) (h1 : ∀ a c b, (a, c, b) ∈ ms → ∃ b', (a, c, b') ∈ ms' ∧ BW u d b b' x)
    (h2 : ∀ a c b', (a, c, b') ∈ ms' → (a, c, b') = (l, x, e) ∨ ∃ b, (a, c, b) ∈ ms ∧ BW u d b b' x) (h3 : (l, x, e) ∈ ms') : Fits u d ms' (r ++ [x]) := by
  refine ⟨fun i c q => ?_, fun a c b m => ?_⟩
  · rcases app_get q with ⟨q1, q0⟩ | ⟨k, rfl, q0⟩
    · obtain ⟨a, b, m, y1, y2⟩ := h.1 i c q0
      obtain ⟨b', m', w⟩ := h1 _ _ _ m
      exact ⟨a, b', m', by rw [take_l q1]; exact y1, by rw [drop_l q1]; exact w.all y2⟩
    · have k0 : k = 0 := by
        have := (List.getElem?_eq_some_iff.mp q0).1
        simp at this
        exact this
      subst k0
      obtain rfl : x = c := Option.some.inj q0
      exact ⟨l, e, h3, by simpa using hl, by rw [List.drop_of_length_le (by simp)]; exact he⟩
  · rcases h2 a c b m with q | ⟨b0, m0, w⟩
    · injection q with q1 q2
      injection q2 with q2 q3
      subst q1; subst q2; subst q3
      exact ⟨r.length, by simp, by simpa using hl, by rw [List.drop_of_length_le (by simp)]; exact he⟩
    · obtain ⟨i, q, y1, y2⟩ := h.2 _ _ _ m0
      have q1 := (List.getElem?_eq_some_iff.mp q).1
      exact ⟨i, by rw [List.getElem?_append_left q1]; exact q, by rw [take_l q1]; exact y1, by rw [drop_l q1]; exact w.all y2⟩
theorem fits_ahead {d x l e : Nat} {ms ms' : List Mark} {r : List Nat} (h : Fits u d ms r) (hl : Rep u d l r) (he : Rep u d e []) (h1 : ∀ a c b, (a, c, b) ∈ ms → ∃ a', (a', c, b) ∈ ms' ∧ AW u d a a' x)
    (h2 : ∀ a' c b, (a', c, b) ∈ ms' → (a', c, b) = (e, x, l) ∨ ∃ a, (a, c, b) ∈ ms ∧ AW u d a a' x) (h3 : (e, x, l) ∈ ms') : Fits u d ms' (x :: r) := by
  refine ⟨fun i c q => ?_, fun a c b m => ?_⟩
  · cases i with
    | zero =>
      obtain rfl : x = c := Option.some.inj q
      exact ⟨e, l, h3, he, hl⟩
    | succ i =>
      obtain ⟨a, b, m, y1, y2⟩ := h.1 i c q
      obtain ⟨a', m', w⟩ := h1 _ _ _ m
      exact ⟨a', b, m', w.all y1, y2⟩
  · rcases h2 a c b m with q | ⟨a0, m0, w⟩
    · injection q with q1 q2
      injection q2 with q2 q3
      subst q1; subst q2; subst q3
      exact ⟨0, rfl, he, hl⟩
    · obtain ⟨i, q, y1, y2⟩ := h.2 _ _ _ m0
      exact ⟨i + 1, q, w.all y1, y2⟩
theorem fits_less {d : Nat} {ms ms' : List Mark} {r : List Nat} (h : Fits u (d + 1) ms r) (h1 : ∀ a c b, (a, c, b) ∈ ms → ∃ a' b', (a', c, b') ∈ ms' ∧ LW u (d + 1) a a' ∧ LW u (d + 1) b b')
    (h2 : ∀ a' c b', (a', c, b') ∈ ms' → ∃ a b, (a, c, b) ∈ ms ∧ LW u (d + 1) a a' ∧ LW u (d + 1) b b') : Fits u d ms' r := by
  refine ⟨fun i c q => ?_, fun a c b m => ?_⟩
  · obtain ⟨a, b, m, y1, y2⟩ := h.1 i c q
    obtain ⟨a', b', m', w1, w2⟩ := h1 _ _ _ m
    exact ⟨a', b', m', w1.all y1, w2.all y2⟩
  · obtain ⟨a0, b0, m0, w1, w2⟩ := h2 a c b m
    obtain ⟨i, q, y1, y2⟩ := h.2 _ _ _ m0
    exact ⟨i, q, w1.all y1, w2.all y2⟩
/-- the marks of a row's places, one by one -/
def Places (t : KTab) (d : Nat) (ms : List Mark) (r : List Nat) : Prop := ms.length = r.length ∧ ∀ i a c b, ms[i]? = some (a, c, b) → r[i]? = some c ∧ Rep t d a (r.take i) ∧ Rep t d b (r.drop (i + 1))
theorem Places.up (g : Grows t u) {d : Nat} {ms : List Mark} {r : List Nat} (h : Places t d ms r) : Places u d ms r := ⟨h.1, fun i a c b e => let ⟨h1, h2, h3⟩ := h.2 i a c b e; ⟨h1, h2.up g, h3.up g⟩⟩
theorem Places.fits {d : Nat} {ms ms' : List Mark} {r : List Nat} (h : Places t d ms r) (e : ∀ m, m ∈ ms' ↔ m ∈ ms) : Fits t d ms' r := by
  refine ⟨fun i c q => ?_, fun a c b m => ?_⟩
  · have hi := (List.getElem?_eq_some_iff.mp q).1
    have hi2 : i < ms.length := by rw [h.1]; exact hi
    obtain ⟨⟨a, c', b⟩, hm⟩ : ∃ x, ms[i]? = some x := ⟨_, List.getElem?_eq_getElem hi2⟩
    obtain ⟨h1, h2, h3⟩ := h.2 i a c' b hm
    obtain rfl : c' = c := Option.some.inj (h1.symm.trans q)
    exact ⟨a, b, (e _).mpr (List.mem_of_getElem? hm), h2, h3⟩
  · obtain ⟨i, hi⟩ := List.getElem?_of_mem ((e _).mp m)
    obtain ⟨h1, h2, h3⟩ := h.2 i a c b hi
    exact ⟨i, h1, h2, h3⟩
/-- all parts of a row that lie side by side -/
def subs (r : List Nat) : List (List Nat) := (List.range (r.length + 1)).flatMap fun i => (List.range (r.length + 1)).map fun j => (r.drop i).take j
theorem mem_subs {r s : List Nat} : s ∈ subs r ↔ ∃ i j, s = (r.drop i).take j := by
  unfold subs
  simp only [List.mem_flatMap, List.mem_map, List.mem_range]
  constructor
  · rintro ⟨i, _, j, _, rfl⟩; exact ⟨i, j, rfl⟩
  · rintro ⟨i, j, rfl⟩
    by_cases q : i < r.length + 1
    · by_cases q2 : j < r.length + 1
      · exact ⟨i, q, j, q2, rfl⟩
      · exact ⟨i, q, r.length, by omega, by rw [List.take_of_length_le (by simp), List.take_of_length_le (by simp; omega)]⟩
    · exact ⟨0, by omega, 0, by omega, by rw [List.drop_of_length_le (i := i) (by omega)]; simp⟩
theorem subs_len (r : List Nat) : (subs r).length = (r.length + 1) * (r.length + 1) := by
  unfold subs
  generalize r.length + 1 = n
  have : ∀ m, ((List.range m).flatMap fun i => (List.range n).map fun j => (r.drop i).take j).length = m * n := fun m => by
    induction m with
    | zero => simp
    | succ m ih => rw [List.range_succ, List.flatMap_append, List.length_append, ih]; simp [Nat.succ_mul]
  exact this n
/-- the parts of some rows -/
def subsAll (rs : List (List Nat)) : List (List Nat) := [] :: rs.flatMap subs
theorem sub_all {rs : List (List Nat)} {D : Nat} (len : ∀ r ∈ rs, r.length ≤ 60) (low : ∀ r ∈ rs, ∀ c ∈ r, c < 2 ^ 32) (few : (subsAll rs).length * (D + 1) ≤ 2 ^ 20) : Sub (subsAll rs) D := by
  have mem : ∀ {s : List Nat}, s ∈ subsAll rs ↔ s = [] ∨ ∃ r ∈ rs, ∃ i j, s = (r.drop i).take j := fun {s} => by
    unfold subsAll
    rw [List.mem_cons, List.mem_flatMap]
    simp only [mem_subs]
  refine ⟨fun r hr i => ?_, fun r hr i => ?_, fun r hr => ?_, fun r hr c hc => ?_, few, List.mem_cons_self⟩
  · rcases mem.mp hr with rfl | ⟨r0, h0, p, q, rfl⟩
    · simp [subsAll]
    · exact mem.mpr (.inr ⟨r0, h0, p, min i q, by rw [List.take_take]⟩)
  · rcases mem.mp hr with rfl | ⟨r0, h0, p, q, rfl⟩
    · simp [subsAll]
    · exact mem.mpr (.inr ⟨r0, h0, p + i, q - i, by rw [List.drop_take, List.drop_drop]⟩)
  · rcases mem.mp hr with rfl | ⟨r0, h0, p, q, rfl⟩
    · simp
    · have := len r0 h0
      simp only [List.length_take, List.length_drop]
      omega
  · rcases mem.mp hr with rfl | ⟨r0, h0, p, q, rfl⟩
    · simp at hc
    · exact low r0 h0 c (List.mem_of_mem_drop (List.mem_of_mem_take hc))
theorem mem_all {rs : List (List Nat)} {r : List Nat} (h : r ∈ rs) : r ∈ subsAll rs := List.mem_cons_of_mem _ (List.mem_flatMap.mpr ⟨r, h, mem_subs.mpr ⟨0, r.length, by simp⟩⟩)
end
end M
end

section
set_option Elab.async false
set_option linter.all false
set_option maxRecDepth 100000
set_option maxHeartbeats 2000000
/-! what a Kinds object holds -/
namespace M
open PySem PySem.Spec L2 Evl
open PyProof.Rows hiding St
structure KA where
  (a1 a2 a3 a4 a5 a6 a7 a8 : Addr)
def KA.all (k : KA) : List Addr := [k.a1, k.a2, k.a3, k.a4, k.a5, k.a6, k.a7, k.a8]
/-- which rows, how deep, where -/
structure KC where
  S : List (List Nat)
  D : Nat
  x : Addr
  A : KA
def keyR (z : Str) (d : Nat) : NestedKey := .tup [.text z, .num (d : Nat)]
def keyN (d : Nat) (ms : List Mark) : NestedKey := .tup [.num (d : Nat), .tup (ms.map trip)]
def keyB (n c : Nat) : NestedKey := .tup [.num (n : Nat), .text ⟨#[c]⟩]
def keyA (c n : Nat) : NestedKey := .tup [.text ⟨#[c]⟩, .num (n : Nat)]
theorem one_inj {a b : Nat} (h : (⟨#[a]⟩ : Str) = ⟨#[b]⟩) : a = b := by
  have := congrArg (fun z : Str => z.cps.toList) h
  simpa using this
theorem keyR_inj {z z' : Str} {d d' : Nat} (h : keyR z d = keyR z' d') : z = z' ∧ d = d' := by
  unfold keyR at h
  injection h with h
  injection h with h1 h
  injection h with h2 _
  injection h1 with h1
  injection h2 with h2
  exact ⟨h1, by omega⟩
theorem keyB_inj {n n' c c' : Nat} (h : keyB n c = keyB n' c') : n = n' ∧ c = c' := by
  unfold keyB at h
  injection h with h
  injection h with h1 h
  injection h with h2 _
  injection h1 with h1
  injection h2 with h2
  exact ⟨by omega, one_inj h2⟩
theorem keyA_inj {n n' c c' : Nat} (h : keyA c n = keyA c' n') : c = c' ∧ n = n' := by
  unfold keyA at h
  injection h with h
  injection h with h1 h
  injection h with h2 _
  injection h1 with h1
  injection h2 with h2
  exact ⟨one_inj h1, by omega⟩
theorem trip_inj {a b : Mark} (h : trip a = trip b) : a = b := by
  unfold trip at h
  injection h with h
  injection h with h1 h
  injection h with h2 h
  injection h with h3 _
  injection h1 with h1
  injection h2 with h2
  injection h3 with h3
  obtain ⟨a1, a2, a3⟩ := a
  obtain ⟨b1, b2, b3⟩ := b
  have e2 := one_inj h2
  dsimp only at *
  obtain rfl : a1 = b1 := by omega
  obtain rfl : a3 = b3 := by omega
  rw [e2]
theorem trips_inj : ∀ {a b : List Mark}, a.map trip = b.map trip → a = b
  | [], [], _ => rfl
  | [], _ :: _, h => by cases h
  | _ :: _, [], h => by cases h
  | x :: a, y :: b, h => by
    injection h with h1 h2
    rw [trip_inj h1, trips_inj h2]
theorem keyN_inj {d d' : Nat} {a b : List Mark} (h : keyN d a = keyN d' b) : d = d' ∧ a = b := by
  unfold keyN at h
  injection h with h
  injection h with h1 h
  injection h with h2 _
  injection h1 with h1
  injection h2 with h2
  exact ⟨by omega, trips_inj h2⟩
theorem trip_depth (m : Mark) : (trip m).depth ≤ 3 := by
  show NestedKey.depth (.tup [_, _, _]) ≤ 3
  simp [NestedKey.depth, NestedKey.depthAll]
theorem trips_depth : ∀ ms : List Mark, NestedKey.depthAll (ms.map trip) ≤ 3
  | [] => by simp [NestedKey.depthAll]
  | m :: ms => by
    have h1 := trip_depth m
    have h2 := trips_depth ms
    rw [List.map_cons]
    simp only [NestedKey.depthAll]
    omega
theorem keyN_depth (d : Nat) (ms : List Mark) : (keyN d ms).depth ≤ 8 := by
  have := trips_depth ms
  unfold keyN
  simp only [NestedKey.depth, NestedKey.depthAll]
  omega
theorem keyR_depth (z : Str) (d : Nat) : (keyR z d).depth ≤ 8 := by unfold keyR; simp [NestedKey.depth, NestedKey.depthAll]
theorem keyB_depth (n c : Nat) : (keyB n c).depth ≤ 8 := by unfold keyB; simp [NestedKey.depth, NestedKey.depthAll]
theorem keyA_depth (c n : Nat) : (keyA c n).depth ≤ 8 := by unfold keyA; simp [NestedKey.depth, NestedKey.depthAll]
theorem trip_depth8 (m : Mark) : (trip m).depth ≤ 8 := Nat.le_trans (trip_depth m) (by decide)
/-! ### rows of a dict -/
theorem kat_mem {e : List NEnt} {k : NestedKey} {v : V} (h : kat e k = some v) : ∃ p ∈ e, p.1 = k ∧ p.2.2 = v := by
  unfold kat at h
  obtain ⟨p, h1, h2⟩ := Option.map_eq_some_iff.mp h
  exact ⟨p, List.mem_of_find?_eq_some h1, by simpa using List.find?_some h1, h2⟩
theorem kat_none {e : List NEnt} {k : NestedKey} (h : kat e k = none) : k ∉ e.map (·.1) := fun hm => by
  obtain ⟨p, hp, rfl⟩ := List.mem_map.mp hm
  unfold kat at h
  rw [Option.map_eq_none_iff] at h
  exact absurd (List.find?_eq_none.mp h p hp) (by simp)
theorem kat_some {e : List NEnt} {k : NestedKey} (h : k ∈ e.map (·.1)) : ∃ v, kat e k = some v := by
  cases q : kat e k with
  | some v => exact ⟨v, rfl⟩
  | none => exact absurd h (kat_none q)
def Once (e : List NEnt) : Prop := (e.map (·.1)).Nodup
theorem Once.put {e : List NEnt} (h : Once e) {k : NestedKey} {t : Addr} {v : V} (n : kat e k = none) : Once (e ++ [(k, t, v)]) := by
  unfold Once
  rw [List.map_append]
  refine List.nodup_append.mpr ⟨h, by simp, fun a ha b hb q => kat_none n ?_⟩
  have : b = k := by simpa using hb
  rw [← this, ← q]; exact ha
theorem Once.len {e : List NEnt} (h : Once e) {L : List NestedKey} (s : ∀ p ∈ e, p.1 ∈ L) : e.length ≤ L.length := by
  have := nodup_sub _ L h fun x hx => by
    obtain ⟨p, hp, rfl⟩ := List.mem_map.mp hx
    exact s p hp
  simpa using this
/-! ### refs to triples -/
def Trs (H : Hp) (rs : List V) (ms : List Mark) : Prop := ∃ L : List NMem, rs = L.map (fun p => V.ref p.1) ∧ L.map (·.2) = ms.map trip ∧ ∀ p ∈ L, NK H (.ref p.1) p.2
/-- tuples stand -/
def Tk (H H' : Hp) : Prop := ∀ b ys, H b = some (.tup ys) → H' b = some (.tup ys)
theorem Tk.of {H H' : Hp} (x : Ex H H') : Tk H H' := fun b ys e => x b _ e
theorem Tk.trans {H H' H2 : Hp} (x : Tk H H') (y : Tk H' H2) : Tk H H2 := fun b ys e => y b ys (x b ys e)
theorem Trs.up {H H' : Hp} (x : Tk H H') {rs : List V} {ms : List Mark} (h : Trs H rs ms) : Trs H' rs ms := by
  obtain ⟨L, h1, h2, h3⟩ := h
  exact ⟨L, h1, h2, fun p hp => (h3 p hp).up x⟩
theorem nks_trs {H : Hp} : ∀ {ms : List Mark} {xs : List V}, NKs H xs (ms.map trip) → Trs H xs ms
  | [], _, h => by cases h; exact ⟨[], rfl, rfl, fun p hp => nomatch hp⟩
  | m :: ms, _, h => by
    cases h with
    | cons h1 h2 =>
      obtain ⟨L, e1, e2, e3⟩ := nks_trs h2
      generalize e : trip m = k at h1
      cases h1 with
      | int => exact nomatch e
      | str => exact nomatch e
      | @tup a ys ks ha t =>
        refine ⟨(a, trip m) :: L, by rw [e1]; rfl, by rw [List.map_cons, e2]; rfl, fun p hp => ?_⟩
        rcases List.mem_cons.mp hp with rfl | hp
        · rw [e]; exact .tup ha t
        · exact e3 p hp
theorem trs_nks {H : Hp} : ∀ {L : List NMem} {ms : List Mark}, L.map (·.2) = ms.map trip → (∀ p ∈ L, NK H (.ref p.1) p.2) → NKs H (L.map fun p => V.ref p.1) (ms.map trip)
  | [], [], _, _ => .nil
  | [], _ :: _, h, _ => by cases h
  | _ :: _, [], h, _ => by cases h
  | p :: L, m :: ms, h, k => by
    injection h with h1 h2
    refine .cons ?_ (trs_nks h2 fun q hq => k q (List.mem_cons_of_mem _ hq))
    rw [← h1]; exact k p List.mem_cons_self
theorem nk_trs {H : Hp} {a : Addr} {ms : List Mark} (h : NK H (.ref a) (.tup (ms.map trip))) : ∃ xs, H a = some (.tup xs) ∧ Trs H xs ms := by
  generalize e : NestedKey.tup (ms.map trip) = k at h
  cases h with
  | @tup a xs ks ha t =>
    injection e with e
    subst e
    exact ⟨xs, ha, nks_trs t⟩
theorem trs_nk {H : Hp} {a : Addr} {xs : List V} {ms : List Mark} (h : H a = some (.tup xs)) (t : Trs H xs ms) : NK H (.ref a) (.tup (ms.map trip)) := by
  obtain ⟨L, rfl, e2, e3⟩ := t
  exact .tup h (trs_nks e2 e3)
theorem Trs.len {H : Hp} {xs : List V} {ms : List Mark} (t : Trs H xs ms) : xs.length = ms.length := by
  obtain ⟨L, rfl, e2, _⟩ := t
  have := congrArg List.length e2
  simpa using this
/-- a triple at an address -/
theorem nk_trip {H : Hp} {a : Addr} {m : Mark} (h : NK H (.ref a) (trip m)) : H a = some (.tup [.int (m.1 : Nat), .str ⟨#[m.2.1]⟩, .int (m.2.2 : Nat)]) := by
  unfold trip at h
  generalize e : NestedKey.tup [.num (m.1 : Nat), .text ⟨#[m.2.1]⟩, .num (m.2.2 : Nat)] = q at h
  cases h with
  | @tup a xs ks ha t =>
    injection e with e
    subst e
    cases t with
    | cons k1 t =>
      cases t with
      | cons k2 t =>
        cases t with
        | cons k3 t =>
          cases t
          cases k1
          cases k2
          cases k3
          exact ha
theorem trip_nk {H : Hp} {a : Addr} {n c m : Nat} (h : H a = some (.tup [.int (n : Nat), .str ⟨#[c]⟩, .int (m : Nat)])) : NK H (.ref a) (trip (n, c, m)) := .tup h (.cons (.int _) (.cons (.str _) (.cons (.int _) .nil)))
theorem Trs.at {H : Hp} {xs : List V} {ms : List Mark} (t : Trs H xs ms) {i : Nat} {m : Mark} (h : ms[i]? = some m) : ∃ a, xs[i]? = some (.ref a) ∧ H a = some (.tup [.int (m.1 : Nat), .str ⟨#[m.2.1]⟩, .int (m.2.2 : Nat)]) := by
  obtain ⟨L, rfl, e2, e3⟩ := t
  have h2 : (ms.map trip)[i]? = some (trip m) := by rw [List.getElem?_map, h]; rfl
  rw [← e2, List.getElem?_map] at h2
  obtain ⟨p, h3, h4⟩ := Option.map_eq_some_iff.mp h2
  refine ⟨p.1, by rw [List.getElem?_map, h3]; rfl, ?_⟩
  have := e3 p (List.mem_of_getElem? h3)
  rw [h4] at this
  exact nk_trip this
theorem Trs.snoc {H : Hp} {xs : List V} {ms : List Mark} (t : Trs H xs ms) {a : Addr} {m : Mark} (h : NK H (.ref a) (trip m)) : Trs H (xs ++ [.ref a]) (ms ++ [m]) := by
  obtain ⟨L, rfl, e2, e3⟩ := t
  refine ⟨L ++ [(a, trip m)], by simp, by rw [List.map_append, List.map_append, e2]; rfl, fun p hp => ?_⟩
  rcases List.mem_append.mp hp with hp | hp
  · exact e3 p hp
  · rw [List.mem_singleton.mp hp]; exact h
theorem Trs.nil {H : Hp} : Trs H [] [] := ⟨[], rfl, rfl, fun p hp => nomatch hp⟩
/-! ### d[key] = v, the key there or not -/
def putE (xs : List NEnt) (k : NestedKey) (t : Addr) (v : V) : List NEnt := if (kat xs k).isSome then xs.map (fun x => if x.1 = k then (x.1, x.2.1, v) else x) else xs ++ [(k, t, v)]
theorem putE_keys {xs : List NEnt} {k : NestedKey} {t : Addr} {v : V} : (putE xs k t v).map (·.1) = if (kat xs k).isSome then xs.map (·.1) else xs.map (·.1) ++ [k] := by
  unfold putE
  split
  · rw [List.map_map]
    apply List.map_congr_left
    intro x hx
    show (if x.1 = k then (x.1, x.2.1, v) else x).1 = x.1
    split <;> rfl
  · rw [List.map_append]; rfl
theorem mem_putE {xs : List NEnt} {k : NestedKey} {t : Addr} {v : V} {p : NEnt} (h : p ∈ putE xs k t v) : (p ∈ xs ∧ p.1 ≠ k) ∨ (p.1 = k ∧ p.2.2 = v ∧ (p.2.1 = t ∨ ∃ q ∈ xs, q.1 = k ∧ q.2.1 = p.2.1)) := by
  unfold putE at h
  split at h
  · obtain ⟨q, hq, rfl⟩ := List.mem_map.mp h
    by_cases e : q.1 = k
    · rw [if_pos e]; exact .inr ⟨e, rfl, .inr ⟨q, hq, e, rfl⟩⟩
    · rw [if_neg e]; exact .inl ⟨hq, e⟩
  · rename_i no
    rcases List.mem_append.mp h with h | h
    · refine .inl ⟨h, fun e => no ?_⟩
      have : k ∈ xs.map (·.1) := List.mem_map.mpr ⟨p, h, e⟩
      unfold kat
      rw [Option.isSome_map, List.find?_isSome]
      exact ⟨p, h, by simp [e]⟩
    · rw [List.mem_singleton.mp h]; exact .inr ⟨rfl, rfl, .inl rfl⟩
theorem kat_isSome {xs : List NEnt} {k : NestedKey} : (kat xs k).isSome = true ↔ k ∈ xs.map (·.1) := by
  unfold kat
  rw [Option.isSome_map, List.find?_isSome, List.mem_map]
  constructor
  · rintro ⟨p, h, e⟩; exact ⟨p, h, by simpa using e⟩
  · rintro ⟨p, h, e⟩; exact ⟨p, h, by simpa using e⟩
theorem kat_putE {xs : List NEnt} {k : NestedKey} {t : Addr} {v : V} : kat (putE xs k t v) k = some v := by
  have m : k ∈ (putE xs k t v).map (·.1) := by
    rw [putE_keys]
    split
    · rename_i h; exact kat_isSome.mp h
    · simp
  have h := kat_isSome.mpr m
  cases q : kat (putE xs k t v) k with
  | none => rw [q] at h; cases h
  | some u =>
    unfold kat at q
    obtain ⟨p, h1, h2⟩ := Option.map_eq_some_iff.mp q
    have h3 := List.mem_of_find?_eq_some h1
    have h4 : p.1 = k := by simpa using List.find?_some h1
    rcases mem_putE h3 with ⟨_, n⟩ | ⟨_, e, _⟩
    · exact absurd h4 n
    · rw [← h2, e]
theorem paired_put {k : NestedKey} {v : V} {p : Value} (rv : RelV v p) : ∀ {xs : List NEnt} {ys : List (NestedKey × Addr × Value)}, Paired NRel xs ys → Paired NRel (xs.map fun x => if x.1 = k then (x.1, x.2.1, v) else x) (ys.map (putAt k p))
  | _, _, .nil => .nil
  | _, _, .cons (a := a) (b := b) r t => by
    obtain ⟨r1, r2, r3⟩ := r
    refine .cons ?_ (paired_put rv t)
    show NRel (if a.1 = k then (a.1, a.2.1, v) else a) (if b.1 = k then (b.1, b.2.1, p) else b)
    rw [← r1]
    by_cases e : a.1 = k
    · rw [if_pos e, if_pos e]; exact ⟨rfl, r2, rv⟩
    · rw [if_neg e, if_neg e]; exact ⟨r1, r2, r3⟩
section
variable {X : Cx} {pins : List (Addr × Obj)} {σ : L2.St} {H : Hp} {s : Shared}
def sNPutG (P : Program) (w : World) (td ty tv : TE) : TS := fun D σ H => tv σ H fun v H1 => td σ H1 fun x H2 => ty σ H2 fun y H3 => ∃ (t d : Addr) (k : NestedKey) (xs : List NEnt), x = .ref d ∧ y = .ref t ∧ NK H3 (.ref t) k ∧ k.depth ≤ 8 ∧ ND P w H3 d xs ∧
  xs.length ≤ sizeLine ∧ D.nx σ (upd H3 d (NdO P w d (putE xs k t v)))
theorem ps_nputG {o i value : Expr} {td ty tv : TE} {pos pos' : Pos} (hu : X.A.units + 64 < cLine) (ho : PE X o td) (hi : PE X i ty) (hv : PE X value tv) (hs : swapsWith value (some (.Subscript o i pos')) pos.line X.env = pure false) :
    PS X (.Assign [.Subscript o i pos'] value pos) (sNPutG X.prog X.w td ty tv) := by
  refine ⟨fun pins s σ H D I h => ?_⟩
  refine wpAny_Assign_Subscript (thn (hv.run pins s σ H _ I h) fun r s1 ⟨v, H1, I1, rv, q1⟩ => thn (ho.run pins s1 σ H1 _ I1 q1) fun u s2 ⟨x, H2, I2, rx, q2⟩ => thn (hi.run pins s2 σ H2 _ I2 q2) fun iv s3 ⟨y, H3, I3, ry, t, d, k, xs, ex, ey, hk, h8, hd, hl, q3⟩ => ?_) hs
  subst ex; subst ey
  obtain rfl : u = Value.ref d := rx
  obtain rfl : iv = Value.ref t := ry
  obtain ⟨z, ys, hm, rel⟩ := nd_of I3 hd
  refine wpAny_setItem_heap (knd := nestedKind X.prog X.w) (hsz := by rw [← Paired.length rel]; exact hl) (show X.A.in1.units + 8 < cLine by have := hu; show X.A.units + 1 + 8 < cLine; omega) ⟨hk.is I3.hok rfl, h8⟩ hm fun h' hm2 hsb => ?_
  obtain ⟨o2, es2, ep2, a1, a2, a3, a4, a5, a6⟩ := hm2
  refine ⟨σ, upd H3 d (NdO X.prog X.w d (putE xs k t v)), ?_, q3⟩
  refine I3.write (e := d) (t' := s3.toks + (nestedKind X.prog X.w).draws k) (by rw [hd.at_]; trivial) (.inl rfl) (fun b u hb hu2 => (hsb.2 b hb).trans hu2) ⟨o2, a1⟩ (ndO_new ⟨z, _, o2, es2, ep2, a1, a2, a3, a4, a6, ?_⟩)
  rcases kat_rel (k := k) rel with ⟨e1, e2⟩ | ⟨v0, p0, e1, e2, _⟩
  · rw [storedH_new e2]
    unfold putE
    rw [e1]
    exact Paired.snoc rel ⟨rfl, rfl, rv⟩
  · rw [storedH_old e2]
    unfold putE
    rw [e1]
    exact paired_put rv rel
end
theorem ND.putG {P : Program} {w : World} {H : Hp} {d t : Addr} {xs : List NEnt} {k : NestedKey} {v : V} (h : ND P w H d xs) (hk : NK H (.ref t) k) (h8 : k.depth ≤ 8) : ND P w (upd H d (NdO P w d (putE xs k t v))) d (putE xs k t v) := by
  have e : ∀ b ys, H b = some (.tup ys) → upd H d (NdO P w d (putE xs k t v)) b = some (.tup ys) := nk_upd h.at_
  refine ⟨upd_same, fun x hx => ?_⟩
  rcases mem_putE hx with ⟨hx, _⟩ | ⟨e1, e2, e3⟩
  · exact ⟨(h.key x hx).1.up e, (h.key x hx).2⟩
  · rw [e1]
    refine ⟨?_, h8⟩
    rcases e3 with e3 | ⟨q, hq, e4, e5⟩
    · rw [e3]; exact hk.up e
    · have := (h.key q hq).1.up e
      rw [e4, e5] at this
      exact this
theorem Once.putG {e : List NEnt} (h : Once e) {k : NestedKey} {t : Addr} {v : V} : Once (putE e k t v) := by
  unfold Once
  rw [putE_keys]
  split
  · exact h
  · rename_i no
    refine List.nodup_append.mpr ⟨h, by simp, fun a ha b hb q => no (kat_isSome.mpr ?_)⟩
    have : b = k := by simpa using hb
    rw [← this, ← q]; exact ha
end M
end

section
set_option Elab.async false
set_option linter.all false
set_option maxRecDepth 100000
set_option maxHeartbeats 2000000
/-! what a Kinds object holds: its eight containers -/
namespace M
open PySem PySem.Spec L2 Evl
open PyProof.Rows hiding St
section
variable {P : Program} {w : World} {C : Addr} {k : KC} {Ls : List Addr} {H H' : Hp} {t t' : KTab}
theorem rd_one {t : KTab} {S : List (List Nat)} {D d n m : Nat} {r : List Nat} (T : TOk Canon S D t) (h : Rep t d n r) (g : Rep t d m r) : n = m := Rep.one canon_one T.ok h g
theorem canon_nodup {xs : List Mark} (h : Canon xs) : xs.Nodup := List.Pairwise.imp (fun {a b} z e => by rw [e] at z; exact Nat.lt_irrefl _ z) h.2
theorem TOk.deep {S : List (List Nat)} {D d e n : Nat} {r s : List Nat} (T : TOk Canon S D t) (h : Rep t d n r) (g : Rep t e n s) : d = e := by
  obtain ⟨ms, h1⟩ := T.at h
  obtain ⟨ms', h2⟩ := T.at g
  rw [h1] at h2
  injection h2 with h2
  injection h2
/-- the table's size -/
theorem TOk.size {S : List (List Nat)} {D : Nat} (B : Sub S D) (T : TOk Canon S D t) : t.length ≤ 2 ^ 20 + 1 := by
  have h1 := T.few canon_one
  have h2 := B.few
  have : S.length * D ≤ S.length * (D + 1) := Nat.mul_le_mul_left _ (Nat.le_succ _)
  omega
/-- lists of keys -/
def pairs {α : Type} (S : List (List Nat)) (D : Nat) (f : Nat → List Nat → α) : List α := (List.range D).flatMap fun d => S.map fun r => f d r
theorem pairs_size {α : Type} (S : List (List Nat)) (f : Nat → List Nat → α) : ∀ D, (pairs S D f).length = S.length * D
  | 0 => rfl
  | D + 1 => by
    have ih := pairs_size S f D
    unfold pairs at *
    rw [List.range_succ, List.flatMap_append, List.length_append, ih]
    simp [Nat.mul_succ]
theorem mem_pairs {α : Type} {S : List (List Nat)} {D : Nat} {f : Nat → List Nat → α} {d : Nat} {r : List Nat} (hd : d < D) (hr : r ∈ S) : f d r ∈ pairs S D f := List.mem_flatMap.mpr ⟨d, List.mem_range.mpr hd, List.mem_map.mpr ⟨r, hr, rfl⟩⟩
theorem codes_back (z : Str) : (⟨(codes z).toArray⟩ : Str) = z := by
  obtain ⟨a⟩ := z
  show (⟨a.toList.toArray⟩ : Str) = _
  rw [Array.toArray_toList]
/-! the containers -/
def E1 (k : KC) (t : KTab) (p : NEnt) : Prop := ∃ z d n, p.1 = keyR z d ∧ p.2.2 = .int (n : Nat) ∧ codes z ∈ k.S ∧ d ≤ k.D ∧ Rep t d n (codes z)
def K1 (P : Program) (w : World) (k : KC) (t : KTab) (H : Hp) : Prop := ∃ e, ND P w H k.A.a1 e ∧ Once e ∧ ∀ p ∈ e, E1 k t p
def E2 (k : KC) (Ls : List Addr) (t : KTab) (H : Hp) (p : NEnt) : Prop := ∃ z d l rs ms, p.1 = keyR z d ∧ p.2.2 = .ref l ∧ codes z ∈ k.S ∧ d ≤ k.D ∧ l ∈ Ls ∧ H l = some (.lst rs) ∧ Trs H rs ms ∧ Places t d ms (codes z)
def K2 (P : Program) (w : World) (k : KC) (Ls : List Addr) (t : KTab) (H : Hp) : Prop := ∃ e, ND P w H k.A.a2 e ∧ Once e ∧ ∀ p ∈ e, E2 k Ls t H p
def E3 (t : KTab) (p : NEnt) : Prop := ∃ d ms n, p.1 = keyN d ms ∧ p.2.2 = .int (n : Nat) ∧ t[n]? = some (d, ms) ∧ n ≠ 0
def K3 (P : Program) (w : World) (k : KC) (t : KTab) (H : Hp) : Prop := ∃ e, ND P w H k.A.a3 e ∧ Once e ∧ (∀ p ∈ e, E3 t p) ∧ ∀ n d ms, t[n]? = some (d, ms) → n ≠ 0 → keyN d ms ∈ e.map (·.1)
def K4 (k : KC) (t : KTab) (H : Hp) : Prop := ∃ ms : List Addr, H k.A.a4 = some (.lst (ms.map V.ref)) ∧ ms.length = t.length ∧ ∀ (n : Nat) m d xs, ms[n]? = some m → t[n]? = some (d, xs) → NK H (.ref m) (.tup (xs.map trip))
def depsV (t : KTab) : List V := t.map fun p => V.int (p.1 : Nat)
def K5 (k : KC) (t : KTab) (H : Hp) : Prop := H k.A.a5 = some (.lst (depsV t))
def E6 (t : KTab) (p : Key × V) : Prop := ∃ n m d, p.1 = Sum.inl ((n : Nat) : Int) ∧ p.2 = .int (m : Nat) ∧ LW t d n m
def K6 (k : KC) (t : KTab) (H : Hp) : Prop := ∃ kv : List (Key × V), H k.A.a6 = some (.dK kv) ∧ (kv.map (·.1)).Nodup ∧ (Sum.inl 0 : Key) ∈ kv.map (·.1) ∧ ∀ p ∈ kv, E6 t p
def E7 (k : KC) (t : KTab) (p : NEnt) : Prop := ∃ n c m d r, p.1 = keyB n c ∧ p.2.2 = .int (m : Nat) ∧ d ≤ k.D ∧ Rep t d n r ∧ r ++ [c] ∈ k.S ∧ Rep t d m (r ++ [c])
def K7 (P : Program) (w : World) (k : KC) (t : KTab) (H : Hp) : Prop := ∃ e, ND P w H k.A.a7 e ∧ Once e ∧ ∀ p ∈ e, E7 k t p
def E8 (k : KC) (t : KTab) (p : NEnt) : Prop := ∃ n c m d r, p.1 = keyA c n ∧ p.2.2 = .int (m : Nat) ∧ d ≤ k.D ∧ Rep t d n r ∧ c :: r ∈ k.S ∧ Rep t d m (c :: r)
def K8 (P : Program) (w : World) (k : KC) (t : KTab) (H : Hp) : Prop := ∃ e, ND P w H k.A.a8 e ∧ Once e ∧ ∀ p ∈ e, E8 k t p
def kFields (A : KA) : List (Str × V) := [("known_kinds", .ref A.a1), ("known_places", .ref A.a2), ("numbers", .ref A.a3), ("marks", .ref A.a4), ("depths", .ref A.a5), ("lesser_kinds", .ref A.a6), ("longer_behind", .ref A.a7), ("longer_ahead", .ref A.a8)]
structure KS (P : Program) (w : World) (C : Addr) (k : KC) (Ls : List Addr) (H : Hp) (t : KTab) : Prop where
  sub : Sub k.S k.D
  tok : TOk Canon k.S k.D t
  ins : ∃ dx, H k.x = some (.ins C dx (kFields k.A))
  nd : k.A.all.Nodup
  lsd : ∀ l ∈ Ls, l ∉ k.A.all ∧ ∃ rs, H l = some (.lst rs)
  k1 : K1 P w k t H
  k2 : K2 P w k Ls t H
  k3 : K3 P w k t H
  k4 : K4 k t H
  k5 : K5 k t H
  k6 : K6 k t H
  k7 : K7 P w k t H
  k8 : K8 P w k t H
theorem K1.keep (h : K1 P w k t H) (g : Grows t t') (tk : Tk H H') (a : ∀ o, H k.A.a1 = some o → H' k.A.a1 = some o) : K1 P w k t' H' := by
  obtain ⟨e, h1, h2, h3⟩ := h
  exact ⟨e, h1.keep tk (a _ h1.at_), h2, fun p hp => let ⟨z, d, n, e1, e2, e3, e4, e5⟩ := h3 p hp; ⟨z, d, n, e1, e2, e3, e4, e5.up g⟩⟩
theorem K2.keep {Ls' : List Addr} (h : K2 P w k Ls t H) (g : Grows t t') (tk : Tk H H') (a : ∀ o, H k.A.a2 = some o → H' k.A.a2 = some o) (ls : ∀ l ∈ Ls, l ∈ Ls' ∧ ∀ o, H l = some o → H' l = some o) : K2 P w k Ls' t' H' := by
  obtain ⟨e, h1, h2, h3⟩ := h
  refine ⟨e, h1.keep tk (a _ h1.at_), h2, fun p hp => ?_⟩
  obtain ⟨z, d, l, rs, ms, e1, e2, e3, e4, e5, e6, e7, e8⟩ := h3 p hp
  exact ⟨z, d, l, rs, ms, e1, e2, e3, e4, (ls l e5).1, (ls l e5).2 _ e6, e7.up tk, e8.up g⟩
theorem K3.keep (h : K3 P w k t H) (tk : Tk H H') (a : ∀ o, H k.A.a3 = some o → H' k.A.a3 = some o) : K3 P w k t H' := by
  obtain ⟨e, h1, h2, h3, h4⟩ := h
  exact ⟨e, h1.keep tk (a _ h1.at_), h2, h3, h4⟩
theorem K4.keep (h : K4 k t H) (tk : Tk H H') (a : ∀ o, H k.A.a4 = some o → H' k.A.a4 = some o) : K4 k t H' := by
  obtain ⟨ms, h1, h2, h3⟩ := h
  exact ⟨ms, a _ h1, h2, fun n m d xs e1 e2 => (h3 n m d xs e1 e2).up tk⟩
theorem K5.keep (h : K5 k t H) (a : ∀ o, H k.A.a5 = some o → H' k.A.a5 = some o) : K5 k t H' := a _ h
theorem K6.keep (h : K6 k t H) (g : Grows t t') (a : ∀ o, H k.A.a6 = some o → H' k.A.a6 = some o) : K6 k t' H' := by
  obtain ⟨kv, h1, h2, h3, h4⟩ := h
  exact ⟨kv, a _ h1, h2, h3, fun p hp => let ⟨n, m, d, e1, e2, e3⟩ := h4 p hp; ⟨n, m, d, e1, e2, e3.up g⟩⟩
theorem K7.keep (h : K7 P w k t H) (g : Grows t t') (tk : Tk H H') (a : ∀ o, H k.A.a7 = some o → H' k.A.a7 = some o) : K7 P w k t' H' := by
  obtain ⟨e, h1, h2, h3⟩ := h
  exact ⟨e, h1.keep tk (a _ h1.at_), h2, fun p hp => let ⟨n, c, m, d, r, e1, e2, e3, e4, e5, e6⟩ := h3 p hp; ⟨n, c, m, d, r, e1, e2, e3, e4.up g, e5, e6.up g⟩⟩
theorem K8.keep (h : K8 P w k t H) (g : Grows t t') (tk : Tk H H') (a : ∀ o, H k.A.a8 = some o → H' k.A.a8 = some o) : K8 P w k t' H' := by
  obtain ⟨e, h1, h2, h3⟩ := h
  exact ⟨e, h1.keep tk (a _ h1.at_), h2, fun p hp => let ⟨n, c, m, d, r, e1, e2, e3, e4, e5, e6⟩ := h3 p hp; ⟨n, c, m, d, r, e1, e2, e3, e4.up g, e5, e6.up g⟩⟩
/-- the containers are no tuples, nor the object -/
theorem KS.tup (h : KS P w C k Ls H t) {b : Addr} (hb : b ∈ k.A.all) {ys : List V} : H b ≠ some (.tup ys) := fun e => by
  obtain ⟨e1, n1, _⟩ := h.k1
  obtain ⟨e2, n2, _⟩ := h.k2
  obtain ⟨e3, n3, _⟩ := h.k3
  obtain ⟨e4, n4, _⟩ := h.k4
  have n5 := h.k5
  obtain ⟨e6, n6, _⟩ := h.k6
  obtain ⟨e7, n7, _⟩ := h.k7
  obtain ⟨e8, n8, _⟩ := h.k8
  simp only [KA.all, List.mem_cons, List.not_mem_nil, or_false] at hb
  unfold K5 at n5
  have no : ∀ {φ : Heap → Prop}, some (HO.ext φ) = some (HO.tup ys) → False := fun z => nomatch z
  rcases hb with rfl | rfl | rfl | rfl | rfl | rfl | rfl | rfl
  · exact no (n1.at_.symm.trans e)
  · exact no (n2.at_.symm.trans e)
  · exact no (n3.at_.symm.trans e)
  · exact nomatch n4.symm.trans e
  · exact nomatch n5.symm.trans e
  · exact nomatch n6.symm.trans e
  · exact no (n7.at_.symm.trans e)
  · exact no (n8.at_.symm.trans e)
theorem KS.out (h : KS P w C k Ls H t) : k.x ∉ k.A.all := fun hb => by
  obtain ⟨dx, e⟩ := h.ins
  obtain ⟨e1, n1, _⟩ := h.k1
  obtain ⟨e2, n2, _⟩ := h.k2
  obtain ⟨e3, n3, _⟩ := h.k3
  obtain ⟨e4, n4, _⟩ := h.k4
  have n5 := h.k5
  obtain ⟨e6, n6, _⟩ := h.k6
  obtain ⟨e7, n7, _⟩ := h.k7
  obtain ⟨e8, n8, _⟩ := h.k8
  simp only [KA.all, List.mem_cons, List.not_mem_nil, or_false] at hb
  unfold K5 at n5
  have no : ∀ {φ : Heap → Prop} {fs}, some (HO.ext φ) = some (HO.ins C dx fs) → False := fun z => nomatch z
  rcases hb with z | z | z | z | z | z | z | z
  · rw [z] at e; exact no (n1.at_.symm.trans e)
  · rw [z] at e; exact no (n2.at_.symm.trans e)
  · rw [z] at e; exact no (n3.at_.symm.trans e)
  · rw [z] at e; exact nomatch n4.symm.trans e
  · rw [z] at e; exact nomatch n5.symm.trans e
  · rw [z] at e; exact nomatch n6.symm.trans e
  · rw [z] at e; exact no (n7.at_.symm.trans e)
  · rw [z] at e; exact no (n8.at_.symm.trans e)
theorem KS.ne_none (h : KS P w C k Ls H t) {b : Addr} (hb : b ∈ k.A.all) : H b ≠ none := fun e => by
  obtain ⟨e1, n1, _⟩ := h.k1
  obtain ⟨e2, n2, _⟩ := h.k2
  obtain ⟨e3, n3, _⟩ := h.k3
  obtain ⟨e4, n4, _⟩ := h.k4
  have n5 := h.k5
  obtain ⟨e6, n6, _⟩ := h.k6
  obtain ⟨e7, n7, _⟩ := h.k7
  obtain ⟨e8, n8, _⟩ := h.k8
  simp only [KA.all, List.mem_cons, List.not_mem_nil, or_false] at hb
  unfold K5 at n5
  rcases hb with rfl | rfl | rfl | rfl | rfl | rfl | rfl | rfl
  · exact nomatch n1.at_.symm.trans e
  · exact nomatch n2.at_.symm.trans e
  · exact nomatch n3.at_.symm.trans e
  · exact nomatch n4.symm.trans e
  · exact nomatch n5.symm.trans e
  · exact nomatch n6.symm.trans e
  · exact nomatch n7.at_.symm.trans e
  · exact nomatch n8.at_.symm.trans e
/-- all that counts stands -/
theorem KS.move (h : KS P w C k Ls H t) (tk : Tk H H') (x : ∀ o, H k.x = some o → H' k.x = some o) (a : ∀ b ∈ k.A.all, ∀ o, H b = some o → H' b = some o) (ls : ∀ l ∈ Ls, ∀ o, H l = some o → H' l = some o) : KS P w C k Ls H' t := by
  obtain ⟨dx, hx⟩ := h.ins
  exact ⟨h.sub, h.tok, ⟨dx, x _ hx⟩, h.nd, fun l hl => (let ⟨h1, rs, h2⟩ := h.lsd l hl; ⟨h1, rs, ls l hl _ h2⟩), h.k1.keep (.refl _) tk (a _ (by simp [KA.all])), h.k2.keep (.refl _) tk (a _ (by simp [KA.all])) (fun l hl => ⟨hl, ls l hl⟩), h.k3.keep tk (a _ (by simp [KA.all])), h.k4.keep tk (a _ (by simp [KA.all])),
    h.k5.keep (a _ (by simp [KA.all])), h.k6.keep (.refl _) (a _ (by simp [KA.all])), h.k7.keep (.refl _) tk (a _ (by simp [KA.all])), h.k8.keep (.refl _) tk (a _ (by simp [KA.all]))⟩
theorem KS.ex (h : KS P w C k Ls H t) (x : Ex H H') : KS P w C k Ls H' t := h.move (Tk.of x) (fun o e => x _ _ e) (fun b _ o e => x _ _ e) fun l hl o e => x _ _ e
/-- an object that is none of them changes -/
theorem KS.mut (h : KS P w C k Ls H t) {a : Addr} {o : HO} (h1 : a ∉ k.A.all) (h2 : a ≠ k.x) (h3 : a ∉ Ls) (h4 : ∀ ys, H a ≠ some (.tup ys)) : KS P w C k Ls (upd H a o) t :=
  h.move (fun b ys e => by rw [upd_ne fun z => h4 ys (by rw [← z]; exact e)]; exact e) (fun o e => by rw [upd_ne (Ne.symm h2)]; exact e) (fun b hb o e => by rw [upd_ne fun z => h1 (by rw [← z]; exact hb)]; exact e)
    fun l hl o e => by rw [upd_ne fun z => h3 (by rw [← z]; exact hl)]; exact e
/-- what a call leaves: more kinds, and what is not the object's own stands -/
structure Stp (k : KC) (Ls : List Addr) (H : Hp) (t : KTab) (Ls' : List Addr) (H' : Hp) (t' : KTab) : Prop where
  grows : Grows t t'
  old : ∀ b o, b ∉ k.A.all → H b = some o → H' b = some o
  ls : ∀ l ∈ Ls', l ∈ Ls ∨ H l = none
theorem Stp.refl : Stp k Ls H t Ls H t := ⟨.refl _, fun _ _ _ e => e, fun _ h => .inl h⟩
theorem Stp.trans {Ls1 Ls2 : List Addr} {H1 H2 : Hp} {t1 t2 : KTab} (h : KS P w C k Ls1 H1 t1) (x : Stp k Ls H t Ls1 H1 t1) (y : Stp k Ls1 H1 t1 Ls2 H2 t2) : Stp k Ls H t Ls2 H2 t2 := by
  refine ⟨x.grows.trans y.grows, fun b o hb e => y.old b o hb (x.old b o hb e), fun l hl => ?_⟩
  rcases y.ls l hl with q | q
  · exact x.ls l q
  · right
    cases e : H l with
    | none => rfl
    | some o => rw [x.old l o (fun hb => h.ne_none hb q) e] at q; cases q
theorem Stp.tk (h : KS P w C k Ls H t) {Ls' : List Addr} (x : Stp k Ls H t Ls' H' t') : Tk H H' := fun b ys e => x.old b _ (fun hb => h.tup hb e) e
end
end M
end

section
set_option Elab.async false
set_option linter.all false
set_option maxRecDepth 100000
set_option maxHeartbeats 2000000
/-! a Kinds object changes; what its methods promise -/
namespace M
open PySem PySem.Spec L2 Evl
open PyProof.Rows hiding St
section
variable {P : Program} {w : World} {C : Addr} {k : KC} {Ls : List Addr} {H H' : Hp} {t t' : KTab}
theorem KS.ls_out (h : KS P w C k Ls H t) {l : Addr} (hl : l ∈ Ls) : l ∉ k.A.all ∧ l ≠ k.x ∧ H l ≠ none := by
  obtain ⟨h1, rs, h2⟩ := h.lsd l hl
  obtain ⟨dx, hx⟩ := h.ins
  exact ⟨h1, fun e => by rw [e, hx] at h2; exact (nomatch h2), by rw [h2]; exact fun z => nomatch z⟩
theorem KS.new_out (h : KS P w C k Ls H t) {a : Addr} (n : H a = none) : a ∉ k.A.all ∧ a ≠ k.x ∧ a ∉ Ls := by
  obtain ⟨dx, hx⟩ := h.ins
  exact ⟨fun m => h.ne_none m n, fun e => by rw [e, hx] at n; exact (nomatch n), fun m => (h.ls_out m).2.2 n⟩
theorem KA.ap {A : KA} (h : A.all.Nodup) (i j : Nat) (hi : i < 8 := by decide) (hj : j < 8 := by decide) (n : i ≠ j := by decide) : A.all[i]'(Nat.lt_of_lt_of_eq hi rfl) ≠ A.all[j]'(Nat.lt_of_lt_of_eq hj rfl) := fun z => n ((List.getElem_inj h).mp z)
/-- what stands when one container changes -/
theorem KS.keeps (h : KS P w C k Ls H t) {a : Addr} {o : HO} (ha : a ∈ k.A.all) : Tk H (upd H a o) ∧ (∀ o', H k.x = some o' → upd H a o k.x = some o') ∧ (∀ l ∈ Ls, ∀ o', H l = some o' → upd H a o l = some o') ∧ (∀ b, b ≠ a → ∀ o', H b = some o' → upd H a o b = some o') := by
  refine ⟨fun b ys e => ?_, fun o' e => ?_, fun l hl o' e => ?_, fun b hb o' e => by rw [upd_ne hb]; exact e⟩
  · rw [upd_ne fun z => h.tup ha (by rw [← z]; exact e)]; exact e
  · rw [upd_ne fun z => h.out (by rw [z]; exact ha)]; exact e
  · rw [upd_ne fun z => (h.lsd l hl).1 (by rw [z]; exact ha)]; exact e
theorem KS.lsd_keep (h : KS P w C k Ls H t) (f : ∀ l ∈ Ls, ∀ o, H l = some o → H' l = some o) : ∀ l ∈ Ls, l ∉ k.A.all ∧ ∃ rs, H' l = some (.lst rs) := fun l hl => let ⟨h1, rs, h2⟩ := h.lsd l hl; ⟨h1, rs, f l hl _ h2⟩
theorem KS.put1 (h : KS P w C k Ls H t) {e : List NEnt} (hn : ND P w H k.A.a1 e) (ho : Once e) (hE : ∀ p ∈ e, E1 k t p) {tk : Addr} {z : Str} {d n : Nat} (hk : NK H (.ref tk) (keyR z d)) (e1 : codes z ∈ k.S) (e2 : d ≤ k.D) (e3 : Rep t d n (codes z)) :
    KS P w C k Ls (upd H k.A.a1 (NdO P w k.A.a1 (putE e (keyR z d) tk (.int (n : Nat))))) t := by
  obtain ⟨tkk, fx, fl, fa⟩ := h.keeps (a := k.A.a1) (o := NdO P w k.A.a1 (putE e (keyR z d) tk (.int (n : Nat)))) (by simp [KA.all])
  obtain ⟨dx, hx⟩ := h.ins
  refine ⟨h.sub, h.tok, ⟨dx, fx _ hx⟩, h.nd, h.lsd_keep fl, ⟨_, hn.putG hk (keyR_depth _ _), ho.putG, fun p hp => ?_⟩, h.k2.keep (.refl _) tkk (fa _ (KA.ap h.nd 1 0)) (fun l hl => ⟨hl, fl l hl⟩), h.k3.keep tkk (fa _ (KA.ap h.nd 2 0)), h.k4.keep tkk (fa _ (KA.ap h.nd 3 0)), h.k5.keep (fa _ (KA.ap h.nd 4 0)),
    h.k6.keep (.refl _) (fa _ (KA.ap h.nd 5 0)), h.k7.keep (.refl _) tkk (fa _ (KA.ap h.nd 6 0)), h.k8.keep (.refl _) tkk (fa _ (KA.ap h.nd 7 0))⟩
  rcases mem_putE hp with ⟨hp, _⟩ | ⟨q1, q2, _⟩
  · exact hE p hp
  · exact ⟨z, d, n, q1, q2, e1, e2, e3⟩
theorem KS.put2 (h : KS P w C k Ls H t) {e : List NEnt} (hn : ND P w H k.A.a2 e) (ho : Once e) (hE : ∀ p ∈ e, E2 k Ls t H p) {tk : Addr} {z : Str} {d : Nat} {l : Addr} {rs : List V} {ms : List Mark} (hk : NK H (.ref tk) (keyR z d)) (e1 : codes z ∈ k.S) (e2 : d ≤ k.D) (e3 : l ∉ k.A.all) (e4 : H l = some (.lst rs)) (e5 : Trs H rs ms)
    (e6 : Places t d ms (codes z)) : KS P w C k (l :: Ls) (upd H k.A.a2 (NdO P w k.A.a2 (putE e (keyR z d) tk (.ref l)))) t := by
  obtain ⟨tkk, fx, fl, fa⟩ := h.keeps (a := k.A.a2) (o := NdO P w k.A.a2 (putE e (keyR z d) tk (.ref l))) (by simp [KA.all])
  obtain ⟨dx, hx⟩ := h.ins
  have el := fa l (fun z => e3 (by rw [z]; simp [KA.all])) _ e4
  refine ⟨h.sub, h.tok, ⟨dx, fx _ hx⟩, h.nd, fun l' hl' => ?_, h.k1.keep (.refl _) tkk (fa _ (KA.ap h.nd 0 1)), ⟨_, hn.putG hk (keyR_depth _ _), ho.putG, fun p hp => ?_⟩, h.k3.keep tkk (fa _ (KA.ap h.nd 2 1)), h.k4.keep tkk (fa _ (KA.ap h.nd 3 1)), h.k5.keep (fa _ (KA.ap h.nd 4 1)),
    h.k6.keep (.refl _) (fa _ (KA.ap h.nd 5 1)), h.k7.keep (.refl _) tkk (fa _ (KA.ap h.nd 6 1)), h.k8.keep (.refl _) tkk (fa _ (KA.ap h.nd 7 1))⟩
  · rcases List.mem_cons.mp hl' with rfl | hl'
    · exact ⟨e3, rs, el⟩
    · exact h.lsd_keep fl l' hl'
  · rcases mem_putE hp with ⟨hp, _⟩ | ⟨q1, q2, _⟩
    · obtain ⟨z', d', l', rs', ms', g1, g2, g3, g4, g5, g6, g7, g8⟩ := hE p hp
      exact ⟨z', d', l', rs', ms', g1, g2, g3, g4, List.mem_cons_of_mem _ g5, fl l' g5 _ g6, g7.up tkk, g8⟩
    · exact ⟨z, d, l, rs, ms, q1, q2, e1, e2, List.mem_cons_self, el, e5.up tkk, e6⟩
theorem KS.put7 (h : KS P w C k Ls H t) {e : List NEnt} (hn : ND P w H k.A.a7 e) (ho : Once e) (hE : ∀ p ∈ e, E7 k t p) {tk : Addr} {d n c m : Nat} {r : List Nat} (hk : NK H (.ref tk) (keyB n c)) (e1 : d ≤ k.D) (e2 : Rep t d n r) (e3 : r ++ [c] ∈ k.S) (e4 : Rep t d m (r ++ [c])) :
    KS P w C k Ls (upd H k.A.a7 (NdO P w k.A.a7 (putE e (keyB n c) tk (.int (m : Nat))))) t := by
  obtain ⟨tkk, fx, fl, fa⟩ := h.keeps (a := k.A.a7) (o := NdO P w k.A.a7 (putE e (keyB n c) tk (.int (m : Nat)))) (by simp [KA.all])
  obtain ⟨dx, hx⟩ := h.ins
  refine ⟨h.sub, h.tok, ⟨dx, fx _ hx⟩, h.nd, h.lsd_keep fl, h.k1.keep (.refl _) tkk (fa _ (KA.ap h.nd 0 6)), h.k2.keep (.refl _) tkk (fa _ (KA.ap h.nd 1 6)) (fun l hl => ⟨hl, fl l hl⟩), h.k3.keep tkk (fa _ (KA.ap h.nd 2 6)), h.k4.keep tkk (fa _ (KA.ap h.nd 3 6)), h.k5.keep (fa _ (KA.ap h.nd 4 6)),
    h.k6.keep (.refl _) (fa _ (KA.ap h.nd 5 6)), ⟨_, hn.putG hk (keyB_depth _ _), ho.putG, fun p hp => ?_⟩, h.k8.keep (.refl _) tkk (fa _ (KA.ap h.nd 7 6))⟩
  rcases mem_putE hp with ⟨hp, _⟩ | ⟨q1, q2, _⟩
  · exact hE p hp
  · exact ⟨n, c, m, d, r, q1, q2, e1, e2, e3, e4⟩
theorem KS.put8 (h : KS P w C k Ls H t) {e : List NEnt} (hn : ND P w H k.A.a8 e) (ho : Once e) (hE : ∀ p ∈ e, E8 k t p) {tk : Addr} {d n c m : Nat} {r : List Nat} (hk : NK H (.ref tk) (keyA c n)) (e1 : d ≤ k.D) (e2 : Rep t d n r) (e3 : c :: r ∈ k.S) (e4 : Rep t d m (c :: r)) :
    KS P w C k Ls (upd H k.A.a8 (NdO P w k.A.a8 (putE e (keyA c n) tk (.int (m : Nat))))) t := by
  obtain ⟨tkk, fx, fl, fa⟩ := h.keeps (a := k.A.a8) (o := NdO P w k.A.a8 (putE e (keyA c n) tk (.int (m : Nat)))) (by simp [KA.all])
  obtain ⟨dx, hx⟩ := h.ins
  refine ⟨h.sub, h.tok, ⟨dx, fx _ hx⟩, h.nd, h.lsd_keep fl, h.k1.keep (.refl _) tkk (fa _ (KA.ap h.nd 0 7)), h.k2.keep (.refl _) tkk (fa _ (KA.ap h.nd 1 7)) (fun l hl => ⟨hl, fl l hl⟩), h.k3.keep tkk (fa _ (KA.ap h.nd 2 7)), h.k4.keep tkk (fa _ (KA.ap h.nd 3 7)), h.k5.keep (fa _ (KA.ap h.nd 4 7)),
    h.k6.keep (.refl _) (fa _ (KA.ap h.nd 5 7)), h.k7.keep (.refl _) tkk (fa _ (KA.ap h.nd 6 7)), ⟨_, hn.putG hk (keyA_depth _ _), ho.putG, fun p hp => ?_⟩⟩
  rcases mem_putE hp with ⟨hp, _⟩ | ⟨q1, q2, _⟩
  · exact hE p hp
  · exact ⟨n, c, m, d, r, q1, q2, e1, e2, e3, e4⟩
open Classical in
theorem putK_keys {kv : List (Key × V)} {j : Key} {v : V} : (putK kv j v).map (·.1) = if j ∈ kv.map (·.1) then kv.map (·.1) else kv.map (·.1) ++ [j] := by
  unfold putK
  have e : (kv.any fun p => decide (p.1 = j)) = true ↔ j ∈ kv.map (·.1) := by
    rw [List.any_eq_true, List.mem_map]
    constructor
    · rintro ⟨p, h, e⟩; exact ⟨p, h, by simpa using e⟩
    · rintro ⟨p, h, e⟩; exact ⟨p, h, by simpa using e⟩
  by_cases q : j ∈ kv.map (·.1)
  · rw [if_pos (e.mpr q), if_pos q, List.map_map]
    apply List.map_congr_left
    intro x hx
    show (if x.1 = j then (x.1, v) else x).1 = x.1
    split <;> rfl
  · rw [if_neg fun z => q (e.mp z), if_neg q, List.map_append]
    rfl
theorem mem_putK {kv : List (Key × V)} {j : Key} {v : V} {p : Key × V} (h : p ∈ putK kv j v) : p ∈ kv ∨ p = (j, v) := by
  unfold putK at h
  split at h
  · obtain ⟨q, hq, rfl⟩ := List.mem_map.mp h
    split
    · rename_i e; exact .inr (by rw [e])
    · exact .inl hq
  · rcases List.mem_append.mp h with h | h
    · exact .inl h
    · exact .inr (List.mem_singleton.mp h)
theorem valV_mem {kv : List (Key × V)} {j : Key} {v : V} (h : valV kv j = some v) : (j, v) ∈ kv := by
  unfold valV at h
  obtain ⟨p, h1, h2⟩ := Option.map_eq_some_iff.mp h
  have h3 : p.1 = j := by simpa using List.find?_some h1
  have := List.mem_of_find?_eq_some h1
  rw [← h3, ← h2]; exact this
theorem valV_there {kv : List (Key × V)} {j : Key} (h : j ∈ kv.map (·.1)) : ∃ v, valV kv j = some v := by
  unfold valV
  obtain ⟨p, hp, e⟩ := List.mem_map.mp h
  cases q : kv.find? fun x => decide (x.1 = j) with
  | some y => exact ⟨y.2, rfl⟩
  | none => exact absurd (List.find?_eq_none.mp q p hp) (by simp [e])
theorem KS.put6 (h : KS P w C k Ls H t) {kv : List (Key × V)} (hn : H k.A.a6 = some (.dK kv)) (ho : (kv.map (·.1)).Nodup) (h0 : (Sum.inl 0 : Key) ∈ kv.map (·.1)) (hE : ∀ p ∈ kv, E6 t p) {d n m : Nat} (e : LW t d n m) :
    KS P w C k Ls (upd H k.A.a6 (.dK (putK kv (Sum.inl ((n : Nat) : Int)) (.int (m : Nat))))) t := by
  obtain ⟨tkk, fx, fl, fa⟩ := h.keeps (a := k.A.a6) (o := .dK (putK kv (Sum.inl ((n : Nat) : Int)) (.int (m : Nat)))) (by simp [KA.all])
  obtain ⟨dx, hx⟩ := h.ins
  refine ⟨h.sub, h.tok, ⟨dx, fx _ hx⟩, h.nd, h.lsd_keep fl, h.k1.keep (.refl _) tkk (fa _ (KA.ap h.nd 0 5)), h.k2.keep (.refl _) tkk (fa _ (KA.ap h.nd 1 5)) (fun l hl => ⟨hl, fl l hl⟩), h.k3.keep tkk (fa _ (KA.ap h.nd 2 5)), h.k4.keep tkk (fa _ (KA.ap h.nd 3 5)), h.k5.keep (fa _ (KA.ap h.nd 4 5)),
    ⟨_, upd_same, ?_, ?_, fun p hp => ?_⟩, h.k7.keep (.refl _) tkk (fa _ (KA.ap h.nd 6 5)), h.k8.keep (.refl _) tkk (fa _ (KA.ap h.nd 7 5))⟩
  · rw [putK_keys]
    split
    · exact ho
    · rename_i no
      refine List.nodup_append.mpr ⟨ho, by simp, fun a ha b hb q => no ?_⟩
      have : b = Sum.inl (n : Int) := by simpa using hb
      rw [← this, ← q]; exact ha
  · rw [putK_keys]
    split
    · exact h0
    · exact List.mem_append.mpr (.inl h0)
  · rcases mem_putK hp with hp | rfl
    · exact hE p hp
    · exact ⟨n, m, d, rfl, rfl, e⟩
/-- a new kind -/
theorem KS.grow (h : KS P w C k Ls H t) (fr : ∀ b o, b ≠ k.A.a3 → b ≠ k.A.a4 → b ≠ k.A.a5 → H b = some o → H' b = some o) (g : Grows t t') (T : TOk Canon k.S k.D t') (c3 : K3 P w k t' H') (c4 : K4 k t' H') (c5 : K5 k t' H') : KS P w C k Ls H' t' := by
  have out : ∀ b, b ∉ k.A.all → ∀ o, H b = some o → H' b = some o := fun b hb o e => fr b o (fun z => hb (by rw [z]; simp [KA.all])) (fun z => hb (by rw [z]; simp [KA.all])) (fun z => hb (by rw [z]; simp [KA.all])) e
  have tk : Tk H H' := fun b ys e => out b (fun z => h.tup z e) _ e
  have fl : ∀ l ∈ Ls, ∀ o, H l = some o → H' l = some o := fun l hl => out l (h.lsd l hl).1
  obtain ⟨dx, hx⟩ := h.ins
  exact ⟨h.sub, T, ⟨dx, out _ h.out _ hx⟩, h.nd, h.lsd_keep fl, h.k1.keep g tk (fun o => fr _ o (KA.ap h.nd 0 2) (KA.ap h.nd 0 3) (KA.ap h.nd 0 4)), h.k2.keep g tk (fun o => fr _ o (KA.ap h.nd 1 2) (KA.ap h.nd 1 3) (KA.ap h.nd 1 4)) (fun l hl => ⟨hl, fl l hl⟩), c3, c4, c5,
    h.k6.keep g (fun o => fr _ o (KA.ap h.nd 5 2) (KA.ap h.nd 5 3) (KA.ap h.nd 5 4)), h.k7.keep g tk (fun o => fr _ o (KA.ap h.nd 6 2) (KA.ap h.nd 6 3) (KA.ap h.nd 6 4)), h.k8.keep g tk (fun o => fr _ o (KA.ap h.nd 7 2) (KA.ap h.nd 7 3) (KA.ap h.nd 7 4))⟩
/-- one container changed -/
theorem KS.stp (h : KS P w C k Ls H t) {a : Addr} {o : HO} (ha : a ∈ k.A.all) : Stp k Ls H t Ls (upd H a o) t := ⟨.refl _, fun b u hb e => by rw [upd_ne fun z => hb (by rw [z]; exact ha)]; exact e, fun l hl => .inl hl⟩
theorem Stp.ex (x : Ex H H') : Stp k Ls H t Ls H' t := ⟨.refl _, fun b o _ e => x _ _ e, fun l hl => .inl hl⟩
/-! ### there is room -/
theorem KS.size (h : KS P w C k Ls H t) : t.length ≤ 2 ^ 20 + 1 := h.tok.size h.sub
theorem KS.room1 (h : KS P w C k Ls H t) {e : List NEnt} (ho : Once e) (hE : ∀ p ∈ e, E1 k t p) : e.length ≤ sizeLine := by
  have := ho.len (L := pairs k.S (k.D + 1) fun d r => keyR ⟨r.toArray⟩ d) fun p hp => by
    obtain ⟨z, d, n, e1, _, e2, e3, _⟩ := hE p hp
    rw [e1]
    have := mem_pairs (S := k.S) (D := k.D + 1) (f := fun d r => keyR ⟨r.toArray⟩ d) (d := d) (by omega) e2
    rwa [codes_back] at this
  rw [pairs_size] at this
  have := h.sub.few
  rw [sizeLine_eq]
  omega
theorem KS.room2 (h : KS P w C k Ls H t) {e : List NEnt} (ho : Once e) (hE : ∀ p ∈ e, E2 k Ls t H p) : e.length ≤ sizeLine := by
  have := ho.len (L := pairs k.S (k.D + 1) fun d r => keyR ⟨r.toArray⟩ d) fun p hp => by
    obtain ⟨z, d, l, rs, ms, e1, _, e2, e3, _⟩ := hE p hp
    rw [e1]
    have := mem_pairs (S := k.S) (D := k.D + 1) (f := fun d r => keyR ⟨r.toArray⟩ d) (d := d) (by omega) e2
    rwa [codes_back] at this
  rw [pairs_size] at this
  have := h.sub.few
  rw [sizeLine_eq]
  omega
theorem KS.room3 (h : KS P w C k Ls H t) {e : List NEnt} (ho : Once e) (hE : ∀ p ∈ e, E3 t p) : e.length ≤ sizeLine := by
  have := ho.len (L := t.map fun p => keyN p.1 p.2) fun p hp => by
    obtain ⟨d, ms, n, e1, _, e2, _⟩ := hE p hp
    rw [e1]
    exact List.mem_map.mpr ⟨_, List.mem_of_getElem? e2, rfl⟩
  rw [List.length_map] at this
  have := h.size
  rw [sizeLine_eq]
  omega
open Classical in
noncomputable def numAt (t : KTab) (d : Nat) (r : List Nat) : Nat := if h : ∃ n, Rep t d n r then choose h else 0
theorem numAt_eq {S : List (List Nat)} {D : Nat} (T : TOk Canon S D t) {d n : Nat} {r : List Nat} (h : Rep t d n r) : numAt t d r = n := by
  unfold numAt
  rw [dif_pos ⟨n, h⟩]
  exact rd_one T (Classical.choose_spec (⟨n, h⟩ : ∃ n, Rep t d n r)) h
theorem KS.room7 (h : KS P w C k Ls H t) {e : List NEnt} (ho : Once e) (hE : ∀ p ∈ e, E7 k t p) : e.length ≤ sizeLine := by
  have := ho.len (L := pairs k.S (k.D + 1) fun d r => keyB (numAt t d r.dropLast) (r.getLastD 0)) fun p hp => by
    obtain ⟨n, c, m, d, r, e1, _, e2, e3, e4, _⟩ := hE p hp
    rw [e1]
    have := mem_pairs (S := k.S) (D := k.D + 1) (f := fun d r => keyB (numAt t d r.dropLast) (r.getLastD 0)) (d := d) (by omega) e4
    rw [List.dropLast_concat, numAt_eq h.tok e3] at this
    simpa using this
  rw [pairs_size] at this
  have := h.sub.few
  rw [sizeLine_eq]
  omega
theorem KS.room8 (h : KS P w C k Ls H t) {e : List NEnt} (ho : Once e) (hE : ∀ p ∈ e, E8 k t p) : e.length ≤ sizeLine := by
  have := ho.len (L := pairs k.S (k.D + 1) fun d r => keyA (r.headD 0) (numAt t d r.tail)) fun p hp => by
    obtain ⟨n, c, m, d, r, e1, _, e2, e3, e4, _⟩ := hE p hp
    rw [e1]
    have := mem_pairs (S := k.S) (D := k.D + 1) (f := fun d r => keyA (r.headD 0) (numAt t d r.tail)) (d := d) (by omega) e4
    rw [List.tail_cons, numAt_eq h.tok e3] at this
    simpa using this
  rw [pairs_size] at this
  have := h.sub.few
  rw [sizeLine_eq]
  omega
theorem KS.room6 (h : KS P w C k Ls H t) {kv : List (Key × V)} (ho : (kv.map (·.1)).Nodup) (hE : ∀ p ∈ kv, E6 t p) : kv.length < sizeLine := by
  have := nodup_sub _ ((List.range t.length).map fun n => (Sum.inl ((n : Nat) : Int) : Key)) ho fun x hx => by
    obtain ⟨p, hp, rfl⟩ := List.mem_map.mp hx
    obtain ⟨n, m, d, e1, _, s, e2, _⟩ := hE p hp
    rw [e1]
    exact List.mem_map.mpr ⟨n, List.mem_range.mpr (h.tok.lt e2), rfl⟩
  simp only [List.length_map, List.length_range] at this
  have := h.size
  rw [sizeLine_eq]
  omega
/-! ### what is held at a key -/
theorem KS.get1 (h : KS P w C k Ls H t) : ∃ e, ND P w H k.A.a1 e ∧ Once e ∧ (∀ p ∈ e, E1 k t p) ∧ e.length ≤ sizeLine ∧ ∀ z d v, kat e (keyR z d) = some v → ∃ n : Nat, v = .int (n : Nat) ∧ Rep t d n (codes z) := by
  obtain ⟨e, h1, h2, h3⟩ := h.k1
  refine ⟨e, h1, h2, h3, h.room1 h2 h3, fun z d v q => ?_⟩
  obtain ⟨p, hp, q1, q2⟩ := kat_mem q
  obtain ⟨z', d', n, e1, e2, _, _, e5⟩ := h3 p hp
  obtain ⟨rfl, rfl⟩ := keyR_inj (q1.symm.trans e1)
  exact ⟨n, by rw [← q2, e2], e5⟩
theorem KS.get2 (h : KS P w C k Ls H t) : ∃ e, ND P w H k.A.a2 e ∧ Once e ∧ (∀ p ∈ e, E2 k Ls t H p) ∧ e.length ≤ sizeLine ∧ ∀ z d v, kat e (keyR z d) = some v → ∃ l rs ms, v = .ref l ∧ l ∈ Ls ∧ H l = some (.lst rs) ∧ Trs H rs ms ∧ Places t d ms (codes z) := by
  obtain ⟨e, h1, h2, h3⟩ := h.k2
  refine ⟨e, h1, h2, h3, h.room2 h2 h3, fun z d v q => ?_⟩
  obtain ⟨p, hp, q1, q2⟩ := kat_mem q
  obtain ⟨z', d', l, rs, ms, e1, e2, _, _, e5, e6, e7, e8⟩ := h3 p hp
  obtain ⟨rfl, rfl⟩ := keyR_inj (q1.symm.trans e1)
  exact ⟨l, rs, ms, by rw [← q2, e2], e5, e6, e7, e8⟩
theorem KS.get3 (h : KS P w C k Ls H t) : ∃ e, ND P w H k.A.a3 e ∧ Once e ∧ (∀ p ∈ e, E3 t p) ∧ e.length ≤ sizeLine ∧ (∀ n d ms, t[n]? = some (d, ms) → n ≠ 0 → keyN d ms ∈ e.map (·.1)) ∧ ∀ d ms v, kat e (keyN d ms) = some v → ∃ n : Nat, v = .int (n : Nat) ∧ t[n]? = some (d, ms) := by
  obtain ⟨e, h1, h2, h3, h4⟩ := h.k3
  refine ⟨e, h1, h2, h3, h.room3 h2 h3, h4, fun d ms v q => ?_⟩
  obtain ⟨p, hp, q1, q2⟩ := kat_mem q
  obtain ⟨d', ms', n, e1, e2, e3, _⟩ := h3 p hp
  obtain ⟨rfl, rfl⟩ := keyN_inj (q1.symm.trans e1)
  exact ⟨n, by rw [← q2, e2], e3⟩
theorem KS.get7 (h : KS P w C k Ls H t) : ∃ e, ND P w H k.A.a7 e ∧ Once e ∧ (∀ p ∈ e, E7 k t p) ∧ e.length ≤ sizeLine ∧ ∀ n c v, kat e (keyB n c) = some v → ∃ m d : Nat, v = .int (m : Nat) ∧ BW t d n m c := by
  obtain ⟨e, h1, h2, h3⟩ := h.k7
  refine ⟨e, h1, h2, h3, h.room7 h2 h3, fun n c v q => ?_⟩
  obtain ⟨p, hp, q1, q2⟩ := kat_mem q
  obtain ⟨n', c', m, d, r, e1, e2, _, e4, _, e6⟩ := h3 p hp
  obtain ⟨rfl, rfl⟩ := keyB_inj (q1.symm.trans e1)
  exact ⟨m, d, by rw [← q2, e2], r, e4, e6⟩
theorem KS.get8 (h : KS P w C k Ls H t) : ∃ e, ND P w H k.A.a8 e ∧ Once e ∧ (∀ p ∈ e, E8 k t p) ∧ e.length ≤ sizeLine ∧ ∀ n c v, kat e (keyA c n) = some v → ∃ m d : Nat, v = .int (m : Nat) ∧ AW t d n m c := by
  obtain ⟨e, h1, h2, h3⟩ := h.k8
  refine ⟨e, h1, h2, h3, h.room8 h2 h3, fun n c v q => ?_⟩
  obtain ⟨p, hp, q1, q2⟩ := kat_mem q
  obtain ⟨n', c', m, d, r, e1, e2, _, e4, _, e6⟩ := h3 p hp
  obtain ⟨rfl, rfl⟩ := keyA_inj (q1.symm.trans e1)
  exact ⟨m, d, by rw [← q2, e2], r, e4, e6⟩
theorem KS.get6 (h : KS P w C k Ls H t) : ∃ kv : List (Key × V), H k.A.a6 = some (.dK kv) ∧ (kv.map (·.1)).Nodup ∧ (Sum.inl 0 : Key) ∈ kv.map (·.1) ∧ (∀ p ∈ kv, E6 t p) ∧ kv.length < sizeLine ∧ ∀ (n : Nat) v, valV kv (Sum.inl ((n : Nat) : Int)) = some v → ∃ m d : Nat, v = .int (m : Nat) ∧ LW t d n m := by
  obtain ⟨kv, h1, h2, h3, h4⟩ := h.k6
  refine ⟨kv, h1, h2, h3, h4, h.room6 h2 h4, fun n v q => ?_⟩
  obtain ⟨n', m, d, e1, e2, e3⟩ := h4 _ (valV_mem q)
  injection e1 with e1
  obtain rfl : n = n' := by omega
  exact ⟨m, d, e2, e3⟩
/-- a kind's own marks and depth -/
theorem KS.get4 (h : KS P w C k Ls H t) {n d : Nat} {xs : List Mark} (e : t[n]? = some (d, xs)) : ∃ (ms : List Addr) (m : Addr), H k.A.a4 = some (.lst (ms.map V.ref)) ∧ (ms.map V.ref)[n]? = some (.ref m) ∧ NK H (.ref m) (.tup (xs.map trip)) := by
  obtain ⟨ms, h1, h2, h3⟩ := h.k4
  have hn : n < ms.length := by rw [h2]; exact (List.getElem?_eq_some_iff.mp e).1
  exact ⟨ms, ms[n], h1, by rw [List.getElem?_map, List.getElem?_eq_getElem hn]; rfl, h3 n _ d xs (List.getElem?_eq_getElem hn) e⟩
theorem depsV_at {n d : Nat} {xs : List Mark} (e : t[n]? = some (d, xs)) : (depsV t)[n]? = some (.int (d : Nat)) := by
  unfold depsV
  rw [List.getElem?_map, e]
  rfl
end
/-! ### what the methods promise -/
def After (P : Program) (w : World) (C : Addr) (k : KC) (Ls : List Addr) (H : Hp) (t : KTab) (R : KTab → Nat → Prop) (Q : VK) : Prop := ∀ (n : Nat) t' Ls' H', KS P w C k Ls' H' t' → Stp k Ls H t Ls' H' t' → R t' n → Q (.int (n : Nat)) H'
def sp_numbered (P : Program) (w : World) (C : Addr) : Sp := fun vs H Q _ => ∃ (k : KC) (Ls : List Addr) (t : KTab) (d : Nat) (m : Addr) (ms : List Mark), vs = [.ref k.x, .int (d : Nat), .ref m] ∧ KS P w C k Ls H t ∧ NK H (.ref m) (.tup (ms.map trip)) ∧ Canon ms ∧ (∀ e, d = e + 1 → d ≤ k.D ∧ ∃ r ∈ k.S, Fits t e ms r) ∧
  After P w C k Ls H t (fun t' n => (d = 0 → n = 0) ∧ ∀ e, d = e + 1 → t'[n]? = some (d, ms)) Q
def sp_empty (P : Program) (w : World) (C : Addr) : Sp := fun vs H Q _ => ∃ (k : KC) (Ls : List Addr) (t : KTab) (d : Nat), vs = [.ref k.x, .int (d : Nat)] ∧ KS P w C k Ls H t ∧ d ≤ k.D ∧ After P w C k Ls H t (fun t' n => Rep t' d n []) Q
def sp_lesser (P : Program) (w : World) (C : Addr) (f : Nat) : Sp := fun vs H Q _ => ∃ (k : KC) (Ls : List Addr) (t : KTab) (n d : Nat) (r : List Nat), vs = [.ref k.x, .int (n : Nat)] ∧ KS P w C k Ls H t ∧ d < f ∧ Rep t d n r ∧ r ∈ k.S ∧ After P w C k Ls H t (fun t' m => Rep t' (d - 1) m r) Q
def sp_behind (P : Program) (w : World) (C : Addr) (f : Nat) : Sp := fun vs H Q _ => ∃ (k : KC) (Ls : List Addr) (t : KTab) (n d c : Nat) (r : List Nat), vs = [.ref k.x, .int (n : Nat), .str ⟨#[c]⟩] ∧ KS P w C k Ls H t ∧ d < f ∧ d ≤ k.D ∧ Rep t d n r ∧ r ++ [c] ∈ k.S ∧ After P w C k Ls H t (fun t' m => Rep t' d m (r ++ [c])) Q
def sp_ahead (P : Program) (w : World) (C : Addr) (f : Nat) : Sp := fun vs H Q _ => ∃ (k : KC) (Ls : List Addr) (t : KTab) (n d c : Nat) (r : List Nat), vs = [.ref k.x, .str ⟨#[c]⟩, .int (n : Nat)] ∧ KS P w C k Ls H t ∧ d < f ∧ d ≤ k.D ∧ Rep t d n r ∧ c :: r ∈ k.S ∧ After P w C k Ls H t (fun t' m => Rep t' d m (c :: r)) Q
def sp_marks (P : Program) (w : World) (C : Addr) : Sp := fun vs H Q _ => ∃ (k : KC) (Ls : List Addr) (t : KTab) (d : Nat) (z : Str), vs = [.ref k.x, .str z, .int (d : Nat)] ∧ KS P w C k Ls H t ∧ d ≤ k.D ∧ d ≤ 8 ∧ codes z ∈ k.S ∧
  ∀ (l : Addr) rs ms t' Ls' H', KS P w C k Ls' H' t' → Stp k Ls H t Ls' H' t' → H l = none → l ∉ k.A.all → l ∉ Ls' → H' l = some (.lst rs) → Trs H' rs ms → Places t' d ms (codes z) → Q (.ref l) H'
def sp_places (P : Program) (w : World) (C : Addr) : Sp := fun vs H Q _ => ∃ (k : KC) (Ls : List Addr) (t : KTab) (d : Nat) (z : Str), vs = [.ref k.x, .str z, .int (d : Nat)] ∧ KS P w C k Ls H t ∧ d ≤ k.D ∧ d ≤ 8 ∧ codes z ∈ k.S ∧
  ∀ (l : Addr) rs ms t' Ls' H', KS P w C k Ls' H' t' → Stp k Ls H t Ls' H' t' → l ∈ Ls' → H' l = some (.lst rs) → Trs H' rs ms → Places t' d ms (codes z) → Q (.ref l) H'
def sp_of_row (P : Program) (w : World) (C : Addr) : Sp := fun vs H Q _ => ∃ (k : KC) (Ls : List Addr) (t : KTab) (d : Nat) (z : Str), vs = [.ref k.x, .str z, .int (d : Nat)] ∧ KS P w C k Ls H t ∧ d ≤ k.D ∧ d ≤ 8 ∧ codes z ∈ k.S ∧ After P w C k Ls H t (fun t' n => Rep t' d n (codes z)) Q
def sp_kalike (P : Program) (w : World) (C : Addr) : Sp := fun vs H Q _ => ∃ (k : KC) (Ls : List Addr) (t : KTab) (d : Nat) (y z : Str), vs = [.ref k.x, .str y, .str z, .int (d : Nat)] ∧ KS P w C k Ls H t ∧ d ≤ k.D ∧ d ≤ 8 ∧ codes y ∈ k.S ∧ codes z ∈ k.S ∧
  ∀ (b : Bool) t' Ls' H', KS P w C k Ls' H' t' → Stp k Ls H t Ls' H' t' → (b = true ↔ Al d (codes y) (codes z)) → Q (.bl b) H'
end M
end

section
set_option Elab.async false
set_option linter.all false
set_option maxRecDepth 100000
set_option maxHeartbeats 2000000
/-! the rules of sets and dicts, said by what stands behind them -/
namespace M
open PySem PySem.Spec L2 Evl
open PyProof.Rows hiding St
/-- the set at a holds the triples T -/
def SetT (w : World) (H : Hp) (a : Addr) (T : List Mark) : Prop := ∃ L, SNS w H a L ∧ L.map (·.2) = T.map trip
theorem SetT.keep {w : World} {H H' : Hp} {a : Addr} {T : List Mark} (h : SetT w H a T) (e : Tk H H') (x : ∀ o, H a = some o → H' a = some o) : SetT w H' a T := by
  obtain ⟨L, h1, h2⟩ := h
  exact ⟨L, h1.keep e (x _ h1.at_), h2⟩
theorem SetT.ne_none {w : World} {H : Hp} {a : Addr} {T : List Mark} (h : SetT w H a T) : H a ≠ none := by
  obtain ⟨L, h1, _⟩ := h
  rw [h1.at_]
  exact fun z => nomatch z
section
variable {X : Cx}
theorem pe_weak {e : Expr} {t t' : TE} (h : PE X e t) (w : ∀ σ H Q, t' σ H Q → t σ H Q) : PE X e t' := ⟨fun pins s σ H Q I q => h.run pins s σ H Q I (w σ H Q q)⟩
theorem cr_weak {f : Value} {r r' : List V → Hp → VK → Prop} (h : CallR X f r) (w : ∀ xs H Q, r' xs H Q → r xs H Q) : CallR X f r' := fun pins s σ H xs us Q I rv q => h pins s σ H xs us Q I rv (w xs H Q q)
/-- {} -/
def tDNewH (P : Program) (w : World) : TE := fun _ H Q => ∀ d H', H d = none → H' = upd H d (NdO P w d []) → Q (.ref d) H'
theorem pe_dnewH {pos : Pos} : PE X (.Dict [] [] pos) (tDNewH X.prog X.w) := pe_weak pe_dnewN fun σ H Q h d hd => h d _ hd rfl
/-- d[key] = v -/
def sNPutH (P : Program) (w : World) (td ty tv : TE) : TS := fun D σ H => tv σ H fun v H1 => td σ H1 fun x H2 => ty σ H2 fun y H3 => ∃ (t d : Addr) (k : NestedKey) (xs : List NEnt), x = .ref d ∧ y = .ref t ∧ NK H3 (.ref t) k ∧ k.depth ≤ 8 ∧ ND P w H3 d xs ∧
  xs.length ≤ sizeLine ∧ ∀ H4, H4 = upd H3 d (NdO P w d (putE xs k t v)) → D.nx σ H4
theorem ps_nputH {o i value : Expr} {td ty tv : TE} {pos pos' : Pos} (hu : X.A.units + 64 < cLine) (ho : PE X o td) (hi : PE X i ty) (hv : PE X value tv) (hs : swapsWith value (some (.Subscript o i pos')) pos.line X.env = pure false) :
    PS X (.Assign [.Subscript o i pos'] value pos) (sNPutH X.prog X.w td ty tv) := by
  refine ⟨fun pins s σ H D I h => ?_⟩
  refine wpAny_Assign_Subscript (thn (hv.run pins s σ H _ I h) fun r s1 ⟨v, H1, I1, rv, q1⟩ => thn (ho.run pins s1 σ H1 _ I1 q1) fun u s2 ⟨x, H2, I2, rx, q2⟩ => thn (hi.run pins s2 σ H2 _ I2 q2) fun iv s3 ⟨y, H3, I3, ry, t, d, k, xs, ex, ey, hk, h8, hd, hl, q3⟩ => ?_) hs
  subst ex; subst ey
  obtain rfl : u = Value.ref d := rx
  obtain rfl : iv = Value.ref t := ry
  obtain ⟨z, ys, hm, rel⟩ := nd_of I3 hd
  refine wpAny_setItem_heap (knd := nestedKind X.prog X.w) (hsz := by rw [← Paired.length rel]; exact hl) (show X.A.in1.units + 8 < cLine by have := hu; show X.A.units + 1 + 8 < cLine; omega) ⟨hk.is I3.hok rfl, h8⟩ hm fun h' hm2 hsb => ?_
  obtain ⟨o2, es2, ep2, a1, a2, a3, a4, a5, a6⟩ := hm2
  refine ⟨σ, upd H3 d (NdO X.prog X.w d (putE xs k t v)), ?_, q3 _ rfl⟩
  refine I3.write (e := d) (t' := s3.toks + (nestedKind X.prog X.w).draws k) (by rw [hd.at_]; trivial) (.inl rfl) (fun b u hb hu2 => (hsb.2 b hb).trans hu2) ⟨o2, a1⟩ (ndO_new ⟨z, _, o2, es2, ep2, a1, a2, a3, a4, a6, ?_⟩)
  rcases kat_rel (k := k) rel with ⟨e1, e2⟩ | ⟨v0, p0, e1, e2, _⟩
  · rw [storedH_new e2]
    unfold putE
    rw [e1]
    exact Paired.snoc rel ⟨rfl, rfl, rv⟩
  · rw [storedH_old e2]
    unfold putE
    rw [e1]
    exact paired_put rv rel
/-- set() -/
def rSnew (w : World) : List V → Hp → VK → Prop := fun xs H Q => xs = [] ∧ ∀ p H', H p = none → Ex H H' → SetT w H' p [] → (∀ b, b ≠ p → H' b = H b) → Q (.ref p) H'
theorem cr_snew : CallR X (.type "set") (rSnew X.w) := cr_weak cr_sn0 fun xs H Q h => ⟨h.1, fun p hp => h.2 p _ hp (Ex.new hp) ⟨[], ⟨upd_same, fun x hx => nomatch hx⟩, rfl⟩ fun b hb => upd_ne hb⟩
/-- found.add((n, c, m)) -/
def rSadd (w : World) : V → List V → Hp → VK → Prop := fun x xs H Q => ∃ (a t : Addr) (m : Mark) (T : List Mark), x = V.ref a ∧ xs = [V.ref t] ∧ SetT w H a T ∧ NK H (.ref t) (trip m) ∧ T.length + 1 < 64 ∧
  ∀ H' T', SetT w H' a T' → (∀ q, q ∈ T' ↔ q = m ∨ q ∈ T) → T'.length ≤ T.length + 1 → (∀ b, b ≠ a → H' b = H b) → Tk H H' → Q .non H'
theorem mt_sadd (hu : X.A.units + 64 < cLine) : MtR X "set.add" (rSadd X.w) := by
  intro pins s σ H x xs v us Q I rx rxs ⟨a, t, m, T, e1, e2, ⟨L, hs, hL⟩, hk, few, q⟩
  have hlen : L.length = T.length := by
    have := congrArg List.length hL
    simpa using this
  refine mt_snadd hu pins s σ H x xs v us Q I rx rxs ⟨a, t, trip m, L, e1, e2, hs, hk, trip_depth8 m, by omega, fun L' p1 p2 => ?_⟩
  have tk := nk_upd (o := SnO X.w a L') hs.at_
  by_cases hm : trip m ∈ L.map (·.2)
  · have e := p1 hm
    subst e
    refine q _ T ⟨L', hs.put hk (trip_depth8 m) (.inl rfl), hL⟩ (fun y => ⟨.inr, fun z => ?_⟩) (Nat.le_succ _) (fun b hb => upd_ne hb) tk
    rcases z with rfl | z
    · rw [hL] at hm
      obtain ⟨m', h1, h2⟩ := List.mem_map.mp hm
      rw [← trip_inj h2]; exact h1
    · exact z
  · have pm := p2 hm
    have pk := pm.map (·.2)
    rw [List.map_cons, hL] at pk
    obtain ⟨T', h1, h2⟩ := perm_back (f := trip) (L := m :: T) pk rfl
    refine q _ T' ⟨L', hs.put hk (trip_depth8 m) (.inr pm), h2⟩ (fun y => by rw [h1.mem_iff, List.mem_cons]) (by rw [h1.length_eq]; simp) (fun b hb => upd_ne hb) tk
def tSadd (w : World) (to : TE) (t : TA) : TE := fun σ H Q => to σ H fun x H1 => (∃ a T, x = V.ref a ∧ SetT w H1 a T) ∧ t σ H1 fun xs H2 => rSadd w x xs H2 Q
variable {o e : Expr} {es : List Expr} {to : TE} {t : TA} {apos cpos : Pos}
theorem pe_sadd (hu : X.A.units + 64 < cLine) (ho : PE X o to) (ha : PA X (e :: es) t) (b1 : attributeBase o "add" X.env (eval o X.env) = eval o X.env := by rfl)
    (b2 : ((backTo cpos (starEach (e :: es) X.env)).all (fun x => !x.1) && (backToKw cpos (keywordEach [] X.env)).all (fun x => x.1.isSome) && decide ((e :: es).length + ([] : List Keyword).length + (if ([] : List Keyword).isEmpty then 0 else 1) < 30)) = true := by rfl)
    (b3 : (apos.endLine == cpos.line) = true := by rfl) (b4 : starEach (e :: es) X.env = (false, eval e X.env) :: starEach es X.env := by rfl) (b5 : (backTo cpos (starEach es X.env)).any (·.1) = false := by rfl) :
    PE X (.Call (.Attribute o "add" apos) (e :: es) [] cpos) (tSadd X.w to t) := by
  refine ⟨fun pins s σ H Q I h => wpAny_Call_method_late b1 b2 b3 rfl (thn (ho.run pins s σ H _ I h) fun v s1 ⟨x, H1, I1, r1, ty, q1⟩ => ?_)⟩
  obtain ⟨a, T, rfl, L, hs, _⟩ := ty
  obtain ⟨es1, ep, tb, R⟩ := sns_of I1 hs
  cases r1
  have ⟨ob, at_, ex, _⟩ := R.obj
  refine ⟨"set", "set.add", PySem.F.plainAttrs_set, PySem.F.slot_set_add, PySem.F.type_set_add, R.isSet, (fun b hb => ?_), ?_⟩
  · cases hb
    exact ⟨ob, at_, ex.2.1⟩
  have hA := ha.run cpos pins s1 σ H1 _ I1 q1
  rw [b4] at hA ⊢
  exact Calls.callWith_builtin (by show (false || (backTo cpos (starEach es X.env)).any (·.1)) = false; rw [b5] <;> rfl) (Calls.evalArgs_plain (thn hA fun us s2 ⟨vs, H2, I2, r2, q2⟩ => mt_sadd hu pins s2 σ H2 (.ref a) vs (.ref a) us Q I2 rfl r2 q2))
/-- sorted(found) -/
def rSsort (w : World) : List V → Hp → VK → Prop := fun xs H Q => ∃ (a : Addr) (T : List Mark), xs = [V.ref a] ∧ SetT w H a T ∧ (∀ m ∈ T, Low m) ∧
  ∀ p rs ms H', H p = none → Ex H H' → H' p = some (.lst rs) → (∀ b, b ≠ p → H' b = H b) → Canon ms → (∀ q, q ∈ ms ↔ q ∈ T) → Trs H rs ms → Q (.ref p) H'
theorem cr_ssort (hc : X.calm = true) : CallR X (.builtin "sorted") (rSsort X.w) := cr_weak (cr_sortN hc) fun xs H Q h => by
  obtain ⟨a, T, e, ⟨L, hs, hL⟩, lo, q⟩ := h
  refine ⟨a, L, e, hs, fun p hp => ?_, fun L' p pm nd so hp => ?_⟩
  · have hm : p.2 ∈ T.map trip := by rw [← hL]; exact List.mem_map.mpr ⟨p, hp, rfl⟩
    obtain ⟨m, h1, h2⟩ := List.mem_map.mp hm
    exact ⟨m, h2.symm, lo m h1⟩
  · have pk := pm.map (·.2)
    rw [hL] at pk
    obtain ⟨ms, h1, h2⟩ := perm_back (f := trip) (L := T) pk rfl
    have lo2 : ∀ m ∈ ms, Low m := fun m hm => lo m (h1.mem_iff.mp hm)
    exact q p _ ms _ hp (Ex.new hp) upd_same (fun b hb => upd_ne hb) (canon_of h2 lo2 nd so) (fun q => h1.mem_iff) ⟨L', rfl, h2, fun x hx => (hs.key x (pm.mem_iff.mp hx)).1⟩
/-- set(marks) -/
def rSlist (K : PySem.W.Frag) (w : World) : List V → Hp → VK → Prop := fun xs H Q => ∃ (l : Addr) (rs : List V) (ms : List Mark), xs = [V.ref l] ∧ SqL K H l rs ∧ Trs H rs ms ∧ ms.length < 63 ∧
  ∀ a T H', H a = none → Ex H H' → SetT w H' a T → (∀ q, q ∈ T ↔ q ∈ ms) → T.length ≤ ms.length → (∀ b, b ≠ a → H' b = H b) → Q (.ref a) H'
theorem cr_slist (hc : X.calm = true) (hu : X.A.units + 64 < cLine) : CallR X (.type "set") (rSlist X.K X.w) := cr_weak (cr_snL hc hu) fun xs H Q h => by
  obtain ⟨l, rs, ms, e, hl, ⟨ks, e1, e2, e3⟩, few, q⟩ := h
  have hlen : ks.length = ms.length := by
    have := congrArg List.length e2
    simpa using this
  have key : ∀ p ∈ ks, NK H (.ref p.1) p.2 ∧ p.2.depth ≤ 8 := fun p hp => ⟨e3 p hp, by
    have hm : p.2 ∈ ms.map trip := by rw [← e2]; exact List.mem_map.mpr ⟨p, hp, rfl⟩
    obtain ⟨m, _, h2⟩ := List.mem_map.mp hm
    rw [← h2]; exact trip_depth8 m⟩
  refine ⟨l, ks, e, by rw [← e1]; exact hl, key, by omega, fun a L ha T => ?_⟩
  have ex : ∃ T' : List Mark, L.map (·.2) = T'.map trip := by
    have : ∀ L : List NMem, (∀ p ∈ L, p ∈ ks) → ∃ T' : List Mark, L.map (·.2) = T'.map trip := fun L => by
      induction L with
      | nil => exact fun _ => ⟨[], rfl⟩
      | cons p L ih =>
        intro hs
        obtain ⟨T', h1⟩ := ih fun q hq => hs q (List.mem_cons_of_mem _ hq)
        have hm : p.2 ∈ ms.map trip := by rw [← e2]; exact List.mem_map.mpr ⟨p, hs p List.mem_cons_self, rfl⟩
        obtain ⟨m, _, h2⟩ := List.mem_map.mp hm
        exact ⟨m :: T', by rw [List.map_cons, h1, ← h2]; rfl⟩
    exact this L T.sub
  obtain ⟨T', hT⟩ := ex
  have all : ∀ q : Mark, q ∈ T' ↔ q ∈ ms := fun q => by
    constructor
    · intro hq
      have h1 : trip q ∈ L.map (·.2) := by rw [hT]; exact List.mem_map.mpr ⟨q, hq, rfl⟩
      obtain ⟨p, hp, h2⟩ := List.mem_map.mp h1
      have h3 : trip q ∈ ms.map trip := by rw [← e2, ← h2]; exact List.mem_map.mpr ⟨p, T.sub p hp, rfl⟩
      obtain ⟨m, h4, h5⟩ := List.mem_map.mp h3
      rw [← trip_inj h5]; exact h4
    · intro hq
      have h1 : trip q ∈ ks.map (·.2) := by rw [e2]; exact List.mem_map.mpr ⟨q, hq, rfl⟩
      obtain ⟨p, hp, h2⟩ := List.mem_map.mp h1
      have h3 := T.all p (by rw [List.take_length]; exact hp)
      rw [h2, hT] at h3
      obtain ⟨m, h4, h5⟩ := List.mem_map.mp h3
      rw [← trip_inj h5]; exact h4
  have few2 : T'.length ≤ ms.length := by
    have h1 := T.few
    have h2 := congrArg List.length hT
    simp only [List.length_map] at h2
    omega
  exact q a T' _ ha (Ex.new ha) ⟨L, SNS.taken key T ha, hT⟩ all few2 fun b hb => upd_ne hb
end
end M
namespace M
open PySem PySem.Spec L2 Evl
open PyProof.Rows hiding St
section
variable {P : Program} {w : World} {C : Addr} {k : KC} {Ls Ls' : List Addr} {H H' G : Hp} {t t' : KTab}
theorem Stp.exx (x : Stp k Ls H t Ls' H' t') (e : Ex H' G) : Stp k Ls H t Ls' G t' := ⟨x.grows, fun b o hb q => e _ _ (x.old b o hb q), x.ls⟩
theorem Stp.mut (x : Stp k Ls H t Ls' H' t') {a : Addr} {o : HO} (n : H a = none) : Stp k Ls H t Ls' (upd H' a o) t' := ⟨x.grows, fun b u hb q => by rw [upd_ne (ne_of_none q n)]; exact x.old b u hb q, x.ls⟩
theorem Stp.fresh (x : Stp k Ls H t Ls' H' t') {a : Addr} (h1 : a ∉ Ls) (h2 : H a ≠ none) : a ∉ Ls' := fun h => by
  rcases x.ls a h with q | q
  · exact h1 q
  · exact h2 q
theorem Stp.back (h : KS P w C k Ls' H' t') (x : Stp k Ls H t Ls' H' t') {a : Addr} (n : H' a = none) : H a = none := by
  cases e : H a with
  | none => rfl
  | some o => rw [x.old a o (h.new_out n).1 e] at n; cases n
theorem codes_rev (z : Str) : codes (revS z) = (codes z).reverse := by
  unfold codes revS
  simp
theorem codes_at {z : Str} {i c : Nat} (h : z.cps[i]? = some c) : (codes z)[i]? = some c := by
  unfold codes
  rw [Array.getElem?_toList]; exact h
theorem size_codes (z : Str) : z.cps.size = (codes z).length := (codes_len z).symm
end
end M
namespace M
open PySem PySem.Spec L2 Evl
open PyProof.Rows hiding St
def sp_kinit (P : Program) (w : World) (C : Addr) : Sp := fun vs H Q _ => ∃ (x dx : Addr) (S : List (List Nat)) (D : Nat), vs = [.ref x] ∧ H x = some (.ins C dx []) ∧ Sub S D ∧ ∀ (A : KA) H', KS P w C ⟨S, D, x, A⟩ [] H' [(0, [])] → (∀ b o, b ≠ x → H b = some o → H' b = some o) → (∀ b ∈ A.all, H b = none) → Q .non H'
theorem tok0 {S : List (List Nat)} {D : Nat} : TOk Canon S D [(0, [])] := by
  have at_ : ∀ {n : Nat} {x : Nat × List Mark}, ([(0, [])] : KTab)[n]? = some x → n = 0 ∧ x = (0, []) := fun {n x} h => by
    cases n with
    | zero => exact ⟨rfl, (Option.some.inj h).symm⟩
    | succ n => simp at h
  refine ⟨⟨fun n m x h1 h2 => by rw [(at_ h1).1, (at_ h2).1], fun n d ms h => ?_⟩, rfl, fun n d ms h n0 => absurd (at_ h).1 n0⟩
  have := (at_ h).2
  injection this with _ e
  rw [e]
  exact ⟨(fun m h => nomatch h), .nil⟩
end M
end

section
set_option Elab.async false
set_option linter.all false
set_option maxRecDepth 100000
set_option maxHeartbeats 2000000
/-! rows bent, rows alike: what defs about alike rows promise -/
namespace M
open PySem PySem.Spec L2 Evl
open PyProof.Rows hiding St
theorem abc_codes {z : Str} : Abc z ↔ ∀ c ∈ codes z, 97 ≤ c ∧ c ≤ 122 := Iff.rfl
def sp_check_rows : Sp := fun vs H Q _ => ∃ y z : Str, vs = [.str y, .str z] ∧ Abc y ∧ Abc z ∧ y.length ≤ 1000 ∧ z.length ≤ 1000 ∧ ∀ H', Ex H H' → Q .non H'
def sp_not_neg : Sp := fun vs H Q _ => ∃ n : Nat, vs = [.int (n : Nat)] ∧ Q .non H
def sp_check_rd : Sp := fun vs H Q _ => ∃ (y z : Str) (d : Nat), vs = [.str y, .str z, .int (d : Nat)] ∧ Abc y ∧ Abc z ∧ y.length ≤ 1000 ∧ z.length ≤ 1000 ∧ ∀ H', Ex H H' → Q .non H'
def sp_are_alike : Sp := fun vs H Q _ => ∃ (y z : Str) (d : Nat), vs = [.str y, .str z, .int (d : Nat)] ∧ Abc y ∧ Abc z ∧ y.length ≤ 60 ∧ z.length ≤ 60 ∧ d ≤ 8 ∧ ∀ H' (b : Bool), Ex H H' → (b = true ↔ Al d (codes y) (codes z)) → Q (.bl b) H'
/-- the rows of which two rows are made -/
theorem sub_two {y z : Str} (hy : Abc y) (hz : Abc z) (ly : y.length ≤ 60) (lz : z.length ≤ 60) : Sub (subsAll [codes y, codes z]) 8 := by
  have e1 := codes_len y
  have e2 := codes_len z
  refine sub_all (fun r hr => ?_) (fun r hr c hc => ?_) ?_
  · simp only [List.mem_cons, List.not_mem_nil, or_false] at hr
    rcases hr with rfl | rfl <;> omega
  · simp only [List.mem_cons, List.not_mem_nil, or_false] at hr
    rcases hr with rfl | rfl
    · have := (hy c hc).2; omega
    · have := (hz c hc).2; omega
  · unfold subsAll
    simp only [List.flatMap_cons, List.flatMap_nil, List.length_cons, List.length_append, List.length_nil, subs_len]
    have h1 : ((codes y).length + 1) * ((codes y).length + 1) ≤ 61 * 61 := Nat.mul_le_mul (by omega) (by omega)
    have h2 : ((codes z).length + 1) * ((codes z).length + 1) ≤ 61 * 61 := Nat.mul_le_mul (by omega) (by omega)
    omega
/-! ### texts cut -/
theorem mem_cut {z : Str} {lo hi : Option Int} {c : Nat} (h : c ∈ codes (cutS z lo hi)) : c ∈ codes z := by
  unfold codes cutS at h
  simp only [List.toList_toArray] at h
  exact List.mem_of_mem_drop (List.mem_of_mem_take h)
theorem abc_cut {z : Str} {lo hi : Option Int} (h : Abc z) : Abc (cutS z lo hi) := fun c hc => h c (mem_cut hc)
theorem codes_app (y z : Str) : codes (y ++ z) = codes y ++ codes z := by
  unfold codes
  show (y.cps ++ z.cps).toList = _
  simp
theorem len_app (y z : Str) : (y ++ z).length = y.length + z.length := by
  rw [← codes_len, ← codes_len, ← codes_len, codes_app, List.length_append]
theorem abc_app {y z : Str} (h : Abc y) (g : Abc z) : Abc (y ++ z) := fun c hc => by
  have hc : c ∈ codes (y ++ z) := hc
  rw [codes_app] at hc
  rcases List.mem_append.mp hc with hc | hc
  · exact h c hc
  · exact g c hc
theorem abc_rev {z : Str} (h : Abc z) : Abc (revS z) := fun c hc => by
  have hc : c ∈ codes (revS z) := hc
  rw [codes_rev] at hc
  exact h c (List.mem_reverse.mp hc)
theorem len_rev (z : Str) : (revS z).length = z.length := by rw [← codes_len, ← codes_len, codes_rev, List.length_reverse]
theorem abc_one {c : Nat} (h : 97 ≤ c ∧ c ≤ 122) : Abc ⟨#[c]⟩ := fun d hd => by
  have : d = c := by simpa using hd
  rw [this]; exact h
theorem len_cut {z : Str} {lo hi : Nat} : (cutS z (some ((lo : Nat) : Int)) (some ((hi : Nat) : Int))).length ≤ hi - lo := by
  have e : (cutS z (some ((lo : Nat) : Int)) (some ((hi : Nat) : Int))).length = ((z.cps.toList.drop (HT.sIx z.length 0 (some ((lo : Nat) : Int)))).take (HT.sIx z.length z.length (some ((hi : Nat) : Int)) - HT.sIx z.length 0 (some ((lo : Nat) : Int)))).length := by
    show (List.toArray _).size = _
    rw [List.size_toArray]
  rw [e, List.length_take, List.length_drop, HT.sIx_nat, HT.sIx_nat]
  have hl : z.cps.toList.length = z.length := Array.length_toList
  omega
theorem len_to {z : Str} {hi : Nat} : (cutS z none (some ((hi : Nat) : Int))).length ≤ hi := by
  by_cases h : hi ≤ z.length
  · rw [← codes_len, codes_cut1 h, List.length_take]; omega
  · have := cut_len (z := z) (lo := none) (hi := some ((hi : Nat) : Int))
    omega
theorem len_from {z : Str} {n : Nat} : (cutS z (some ((n : Nat) : Int)) none).length ≤ z.length - n := by
  have e : (cutS z (some ((n : Nat) : Int)) none).length = ((z.cps.toList.drop (HT.sIx z.length 0 (some ((n : Nat) : Int)))).take (HT.sIx z.length z.length none - HT.sIx z.length 0 (some ((n : Nat) : Int)))).length := by
    show (List.toArray _).size = _
    rw [List.size_toArray]
  rw [e, List.length_take, List.length_drop, HT.sIx_nat]
  have hl : z.cps.toList.length = z.length := Array.length_toList
  omega
def sp_bent : Sp := fun vs H Q _ => ∃ (H0 : Hp) (p : Addr) (m : Nat) (y z : Str), vs = [.ref p, .str y, .str z] ∧ Pl H0 H p m ∧ m + 4 ≤ 2 ^ 20 ∧ Abc y ∧ y.length ≤ 80 ∧ Names z ∧ ∀ (v : Str) H', Pl H0 H' p (m + 4) → Abc v → v.length ≤ y.length + 3 → Q (.str v) H'
def sp_lalike (n : Nat) : Sp := fun vs H Q _ => ∃ (y z : Str) (d : Nat), vs = [.str y, .str z, .int (d : Nat)] ∧ y.length ≤ 100 ∧ z.length ≤ 100 ∧ d < n ∧ ∀ H' (b : Bool), Ex H H' → (b = true ↔ Al d (codes y) (codes z)) → Q (.bl b) H'
def sp_pair : Sp := fun vs H Q _ => ∃ (H0 : Hp) (p : Addr) (m n : Nat), vs = [.ref p, .int (n : Nat)] ∧ Pl H0 H p m ∧ m + 200 ≤ 2 ^ 20 ∧ n ≤ 60 ∧ ∀ (a : Addr) (y z : Str) H', Pl H0 H' p (m + 200) → H' a = some (.tup [.str y, .str z]) → Abc y → Abc z → y.length ≤ n → z.length ≤ n → Q (.ref a) H'
theorem namesB {k : Int} (h0 : 0 ≤ k) (h3 : k < 4) : ∃ z : Str, atI [V.str "ab", V.str "a", V.str "abc", V.str "xyb"] k = some (.str z) ∧ Names z := by
  have n1 : Names "ab" := ⟨by unfold Abc; decide +kernel, by decide +kernel, by decide +kernel⟩
  have n2 : Names "a" := ⟨by unfold Abc; decide +kernel, by decide +kernel, by decide +kernel⟩
  have n3 : Names "abc" := ⟨by unfold Abc; decide +kernel, by decide +kernel, by decide +kernel⟩
  have n4 : Names "xyb" := ⟨by unfold Abc; decide +kernel, by decide +kernel, by decide +kernel⟩
  rcases (by omega : k = 0 ∨ k = 1 ∨ k = 2 ∨ k = 3) with rfl | rfl | rfl | rfl
  · exact ⟨_, rfl, n1⟩
  · exact ⟨_, rfl, n2⟩
  · exact ⟨_, rfl, n3⟩
  · exact ⟨_, rfl, n4⟩
end M
end

section
set_option Elab.async false
set_option linter.all false
set_option maxRecDepth 100000
set_option maxHeartbeats 2000000
/-! rows turned, renamed, repeated; short rows are told apart -/
namespace M
theorem al_half {d : Nat} {r s : List Nat} (h : Hf d r s) (g : Hf d s r) : Al (d + 1) r s := al_hf.mpr ⟨h, g⟩
theorem Al.hf {d : Nat} {r s : List Nat} (h : Al (d + 1) r s) : Hf d r s := h.1
/-- turned about -/
theorem rev_at {r : List Nat} {i c : Nat} (h : r.reverse[i]? = some c) : ∃ k, r[k]? = some c ∧ i + k + 1 = r.length ∧ r.reverse.take i = (r.drop (k + 1)).reverse ∧ r.reverse.drop (i + 1) = (r.take k).reverse := by
  have hi : i < r.length := by simpa using (List.getElem?_eq_some_iff.mp h).1
  rw [List.getElem?_reverse hi] at h
  refine ⟨r.length - 1 - i, h, by omega, ?_, ?_⟩
  · rw [List.take_reverse, show r.length - 1 - i + 1 = r.length - i by omega]
  · rw [List.drop_reverse, show r.length - (i + 1) = r.length - 1 - i by omega]
theorem at_rev {r : List Nat} {k c : Nat} (h : r[k]? = some c) : ∃ i, r.reverse[i]? = some c ∧ i + k + 1 = r.length ∧ r.reverse.take i = (r.drop (k + 1)).reverse ∧ r.reverse.drop (i + 1) = (r.take k).reverse := by
  have hk := (List.getElem?_eq_some_iff.mp h).1
  have hi : r.length - 1 - k < r.length := by omega
  refine ⟨r.length - 1 - k, ?_, by omega, ?_, ?_⟩
  · rw [List.getElem?_reverse hi, show r.length - 1 - (r.length - 1 - k) = k by omega]; exact h
  · rw [List.take_reverse, show r.length - (r.length - 1 - k) = k + 1 by omega]
  · rw [List.drop_reverse, show r.length - (r.length - 1 - k + 1) = k by omega]
theorem Al.rev : ∀ {d : Nat} {r s : List Nat}, Al d r s → Al d r.reverse s.reverse
  | 0, _, _, _ => trivial
  | d + 1, r, s, h => by
    have half : ∀ {r s : List Nat}, Al (d + 1) r s → Hf d r.reverse s.reverse := fun {r s} h i c e => by
      obtain ⟨k, e1, _, e3, e4⟩ := rev_at e
      obtain ⟨j, f1, a1, a2⟩ := h.1 k c e1
      obtain ⟨j', g1, _, g3, g4⟩ := at_rev f1
      exact ⟨j', g1, by rw [e3, g3]; exact a2.rev, by rw [e4, g4]; exact a1.rev⟩
    exact al_half (half h) (half h.symm)
theorem al_rev {d : Nat} {r s : List Nat} : Al d r.reverse s.reverse ↔ Al d r s := ⟨fun h => by simpa using h.rev, Al.rev⟩
/-- renamed, letters perhaps made one -/
theorem Al.map (f : Nat → Nat) : ∀ {d : Nat} {r s : List Nat}, Al d r s → Al d (r.map f) (s.map f)
  | 0, _, _, _ => trivial
  | d + 1, r, s, h => by
    have half : ∀ {r s : List Nat}, Al (d + 1) r s → Hf d (r.map f) (s.map f) := fun {r s} h i c e => by
      rw [List.getElem?_map] at e
      obtain ⟨c', e1, rfl⟩ := Option.map_eq_some_iff.mp e
      obtain ⟨j, f1, a1, a2⟩ := h.1 i c' e1
      refine ⟨j, by rw [List.getElem?_map, f1]; rfl, ?_, ?_⟩
      · rw [← List.map_take, ← List.map_take]; exact a1.map f
      · rw [← List.map_drop, ← List.map_drop]; exact a2.map f
    exact al_half (half h) (half h.symm)
/-! ### repeated -/
def rep (r : List Nat) (m : Nat) : List Nat := (List.replicate m r).flatten
theorem rep_zero (r : List Nat) : rep r 0 = [] := rfl
theorem rep_succ (r : List Nat) (m : Nat) : rep r (m + 1) = r ++ rep r m := by simp [rep, List.replicate_succ]
theorem rep_len (r : List Nat) : ∀ m, (rep r m).length = m * r.length
  | 0 => by simp [rep]
  | m + 1 => by rw [rep_succ, List.length_append, rep_len r m, Nat.succ_mul, Nat.add_comm]
theorem rep_split {r : List Nat} : ∀ {m i c : Nat}, (rep r m)[i]? = some c → ∃ p o, p < m ∧ r[o]? = some c ∧ (rep r m).take i = rep r p ++ r.take o ∧ (rep r m).drop (i + 1) = r.drop (o + 1) ++ rep r (m - 1 - p)
  | 0, i, c, h => by simp [rep] at h
  | m + 1, i, c, h => by
    rw [rep_succ] at h ⊢
    rcases app_get h with ⟨q, e⟩ | ⟨k, rfl, e⟩
    · exact ⟨0, i, by omega, e, by rw [take_l q, rep_zero]; rfl, by rw [drop_l q]; rfl⟩
    · obtain ⟨p, o, h1, h2, h3, h4⟩ := rep_split e
      refine ⟨p + 1, o, by omega, h2, by rw [take_r, h3, rep_succ, List.append_assoc], ?_⟩
      rw [drop_r, h4, show m + 1 - 1 - (p + 1) = m - 1 - p by omega]
theorem rep_at {r : List Nat} {o c : Nat} (h : r[o]? = some c) : ∀ {q n : Nat}, q < n → ∃ j, (rep r n)[j]? = some c ∧ (rep r n).take j = rep r q ++ r.take o ∧ (rep r n).drop (j + 1) = r.drop (o + 1) ++ rep r (n - 1 - q)
  | 0, n + 1, _ => by
    have ho := (List.getElem?_eq_some_iff.mp h).1
    rw [rep_succ]
    exact ⟨o, by rw [List.getElem?_append_left ho]; exact h, by rw [take_l ho]; rfl, by rw [drop_l ho]; rfl⟩
  | q + 1, n + 1, hq => by
    obtain ⟨j, h1, h2, h3⟩ := rep_at h (q := q) (n := n) (by omega)
    rw [rep_succ]
    refine ⟨r.length + j, by rw [List.getElem?_append_right (by omega), Nat.add_sub_cancel_left]; exact h1, by rw [take_r, h2, rep_succ, List.append_assoc], ?_⟩
    rw [drop_r, h3, show n + 1 - 1 - (q + 1) = n - 1 - q by omega]
theorem al_rep (r : List Nat) : ∀ (d : Nat) {m n : Nat}, m = n ∨ (2 ^ d - 1 ≤ m ∧ 2 ^ d - 1 ≤ n) → Al d (rep r m) (rep r n)
  | 0, _, _, _ => trivial
  | d + 1, m, n, h => by
    have pd : 2 ^ (d + 1) = 2 * 2 ^ d := by rw [Nat.pow_succ, Nat.mul_comm]
    have p0 : 0 < 2 ^ d := Nat.two_pow_pos d
    have half : ∀ {m n : Nat}, m = n ∨ (2 ^ (d + 1) - 1 ≤ m ∧ 2 ^ (d + 1) - 1 ≤ n) → Hf d (rep r m) (rep r n) := fun {m n} h i c e => by
      obtain ⟨p, o, h1, h2, h3, h4⟩ := rep_split e
      have pick : ∃ q, q < n ∧ (p = q ∨ (2 ^ d - 1 ≤ p ∧ 2 ^ d - 1 ≤ q)) ∧ (m - 1 - p = n - 1 - q ∨ (2 ^ d - 1 ≤ m - 1 - p ∧ 2 ^ d - 1 ≤ n - 1 - q)) := by
        rcases h with rfl | ⟨hm, hn⟩
        · exact ⟨p, h1, .inl rfl, .inl rfl⟩
        · by_cases c1 : p < 2 ^ d - 1
          · exact ⟨p, by omega, .inl rfl, .inr (by omega)⟩
          · by_cases c2 : m - 1 - p < 2 ^ d - 1
            · exact ⟨n - 1 - (m - 1 - p), by omega, .inr (by omega), .inl (by omega)⟩
            · exact ⟨2 ^ d - 1, by omega, .inr (by omega), .inr (by omega)⟩
      obtain ⟨q, q1, q2, q3⟩ := pick
      obtain ⟨j, f1, f2, f3⟩ := rep_at h2 q1
      refine ⟨j, f1, ?_, ?_⟩
      · rw [h3, f2]; exact (al_rep r d q2).app (Al.refl _ _)
      · rw [h4, f3]; exact (Al.refl _ _).app (al_rep r d q3)
    exact al_half (half h) (half (h.elim (fun e => .inl e.symm) fun e => .inr ⟨e.2, e.1⟩))
/-! ### one letter -/
theorem rep_one (c m : Nat) : rep [c] m = List.replicate m c := by
  induction m with
  | zero => rfl
  | succ m ih => rw [rep_succ, ih, List.replicate_succ]; rfl
theorem take_rep {c m i : Nat} (h : i ≤ m) : (List.replicate m c).take i = List.replicate i c := by rw [List.take_replicate]; congr 1; omega
theorem one_low (c : Nat) : ∀ (d : Nat) {m n : Nat}, m < n → Al d (List.replicate m c) (List.replicate n c) → 2 ^ d - 1 ≤ m
  | 0, m, n, _, _ => by simp
  | d + 1, m, n, lt, h => by
    have pd : 2 ^ (d + 1) = 2 * 2 ^ d := by rw [Nat.pow_succ, Nat.mul_comm]
    have p0 : 0 < 2 ^ d := Nat.two_pow_pos d
    have both : ∀ {i j : Nat}, Al d (List.replicate i c) (List.replicate j c) → i = j ∨ (2 ^ d - 1 ≤ i ∧ 2 ^ d - 1 ≤ j) := fun {i j} a => by
      rcases Nat.lt_trichotomy i j with q | q | q
      · have := one_low c d q a; exact .inr (by omega)
      · exact .inl q
      · have := one_low c d q a.symm; exact .inr (by omega)
    by_cases big : 2 ^ (d + 1) - 1 ≤ m
    · exact big
    · exfalso
      have hi : min (2 ^ d - 1) m < n := by omega
      obtain ⟨j, e, a1, a2⟩ := h.2 (min (2 ^ d - 1) m) c (by rw [List.getElem?_replicate, if_pos hi])
      have hj : j < m := by simpa using (List.getElem?_eq_some_iff.mp e).1
      rw [take_rep (by omega), take_rep (by omega)] at a1
      rw [List.drop_replicate, List.drop_replicate] at a2
      have b1 := both a1
      have b2 := both a2
      omega
theorem one_al (c d m n : Nat) : Al d (List.replicate m c) (List.replicate n c) ↔ m = n ∨ (2 ^ d - 1 ≤ m ∧ 2 ^ d - 1 ≤ n) := by
  constructor
  · intro a
    rcases Nat.lt_trichotomy m n with q | q | q
    · have := one_low c d q a; exact .inr (by omega)
    · exact .inl q
    · have := one_low c d q a.symm; exact .inr (by omega)
  · intro h
    rw [← rep_one, ← rep_one]
    exact al_rep [c] d h
/-! ### short rows -/
theorem join_at {r : List Nat} {i c : Nat} (h : r[i]? = some c) : r = r.take i ++ c :: r.drop (i + 1) := by
  obtain ⟨hi, e⟩ := List.getElem?_eq_some_iff.mp h
  rw [← e, ← List.drop_eq_getElem_cons hi, List.take_append_drop]
theorem al_nil {d : Nat} {s : List Nat} (h : Al (d + 1) [] s) : s = [] := by
  cases s with
  | nil => rfl
  | cons c s =>
    obtain ⟨j, e, _⟩ := h.2 0 c rfl
    simp at e
theorem al_short : ∀ (d : Nat) {r s : List Nat}, r.length < 2 ^ d - 1 → Al d r s → r = s
  | 0, r, s, h, _ => by simp at h
  | d + 1, r, s, h, a => by
    have pd : 2 ^ (d + 1) = 2 * 2 ^ d := by rw [Nat.pow_succ, Nat.mul_comm]
    have p0 : 0 < 2 ^ d := Nat.two_pow_pos d
    -- a row with a place whose both sides are short
    have simple : ∀ {r s : List Nat}, r.length < 2 ^ (d + 1) - 2 → Al (d + 1) r s → r = s := fun {r s} h a => by
      by_cases z : r.length = 0
      · have := List.length_eq_zero_iff.mp z
        subst this
        exact (al_nil a).symm
      · have hi : (r.length - 1) / 2 < r.length := by omega
        obtain ⟨j, e, a1, a2⟩ := a.1 _ _ (List.getElem?_eq_getElem hi)
        have e1 := al_short d (by rw [List.length_take]; omega) a1
        have e2 := al_short d (by rw [List.length_drop]; omega) a2
        rw [join_at (List.getElem?_eq_getElem hi), join_at e, e1, e2]
    by_cases c1 : r.length < 2 ^ (d + 1) - 2
    · exact simple c1 a
    · by_cases c2 : s.length < 2 ^ (d + 1) - 2
      · exact (simple c2 a.symm).symm
      · have hr : r.length = 2 * (2 ^ d - 1) := by omega
        by_cases t0 : 2 ^ d - 1 = 0
        · have : r = [] := List.length_eq_zero_iff.mp (by omega)
          subst this
          exact (al_nil a).symm
        by_cases c3 : s.length = r.length
        · have h1 : 2 ^ d - 1 - 1 < r.length := by omega
          have h2 : 2 ^ d - 1 < r.length := by omega
          obtain ⟨j, e, a1, a2⟩ := a.1 _ _ (List.getElem?_eq_getElem h1)
          obtain ⟨l, f, b1, b2⟩ := a.1 _ _ (List.getElem?_eq_getElem h2)
          have e1 := al_short d (by rw [List.length_take]; omega) a1
          have f1 := al_short d (by rw [List.length_drop]; omega) b2
          have hj := (List.getElem?_eq_some_iff.mp e).1
          have hl := (List.getElem?_eq_some_iff.mp f).1
          have ej : j = 2 ^ d - 1 - 1 := by
            have := congrArg List.length e1
            simp only [List.length_take] at this
            omega
          have el : l = 2 ^ d - 1 := by
            have := congrArg List.length f1
            simp only [List.length_drop] at this
            omega
          subst ej; subst el
          have k1 : r.take (2 ^ d - 1) = s.take (2 ^ d - 1) := by
            have q : 2 ^ d - 1 = (2 ^ d - 1 - 1) + 1 := by omega
            rw [q, List.take_add_one, List.take_add_one, e, List.getElem?_eq_getElem h1]
            rw [e1]
          have k2 : r.drop (2 ^ d - 1) = s.drop (2 ^ d - 1) := by
            rw [List.drop_eq_getElem_cons h2, List.drop_eq_getElem_cons hl, f1]
            congr 1
            exact (Option.some.inj ((List.getElem?_eq_getElem hl).symm.trans f)).symm
          rw [← List.take_append_drop (2 ^ d - 1) r, ← List.take_append_drop (2 ^ d - 1) s, k1, k2]
        · have big : s.length > r.length := by omega
          have hs : 2 ^ d - 1 < s.length := by omega
          obtain ⟨j, e, a1, a2⟩ := a.2 _ _ (List.getElem?_eq_getElem hs)
          have hj := (List.getElem?_eq_some_iff.mp e).1
          exfalso
          by_cases c4 : j < 2 ^ d - 1
          · have e1 := al_short d (by rw [List.length_take]; omega) a1
            have := congrArg List.length e1
            simp only [List.length_take] at this
            omega
          · have e1 := al_short d (by rw [List.length_drop]; omega) a2
            have := congrArg List.length e1
            simp only [List.length_drop] at this
            omega
/-- the least depth that parts -/
theorem parts_by {r s : List Nat} (ne : r ≠ s) (h : r.length ≤ 60) : ¬ Al 6 r s := fun a => ne (al_short 6 (by have : 2 ^ 6 = 64 := rfl; omega) a)
end M
namespace M
open PySem PySem.Spec L2 Evl
open PyProof.Rows hiding St
theorem fold_app (x : Array Nat) : ∀ (k : Nat) (acc : Array Nat), ((List.replicate k x).foldl (· ++ ·) acc).toList = acc.toList ++ rep x.toList k
  | 0, acc => by simp [rep]
  | k + 1, acc => by
    rw [List.replicate_succ, List.foldl_cons, fold_app x k, rep_succ]
    simp
theorem codes_times (z : Str) (n : Int) : codes (Txt.mul z n) = rep (codes z) n.toNat := by
  unfold Txt.mul
  by_cases h1 : n < 1
  · rw [if_pos h1, show n.toNat = 0 by omega]; rfl
  · rw [if_neg h1]
    by_cases h2 : (n == 1 || z.length == 0) = true
    · rw [if_pos h2]
      rw [Bool.or_eq_true, beq_iff_eq, beq_iff_eq] at h2
      rcases h2 with h2 | h2
      · rw [h2]
        show codes z = rep (codes z) 1
        rw [show (1 : Nat) = 0 + 1 from rfl, rep_succ, rep_zero, List.append_nil]
      · have : codes z = [] := List.length_eq_zero_iff.mp (by rw [codes_len]; exact h2)
        rw [this]
        have : (rep [] n.toNat).length = 0 := by rw [rep_len]; simp
        rw [List.length_eq_zero_iff.mp this]
    · rw [if_neg h2]
      show ((List.replicate n.toNat z.cps).foldl (· ++ ·) #[]).toList = _
      rw [fold_app]
      rfl
theorem mul_ok {z : Str} {n : Nat} (h : z.length * n ≤ 100000) (hn : n ≤ 100000) : MulOk z ((n : Nat) : Int) := by
  have e63 : (2 : Int) ^ 63 = 9223372036854775808 := by decide
  refine ⟨?_, fun h1 h2 => ?_, fun h1 h2 => ?_⟩
  · rw [Bool.or_eq_false_iff]
    exact ⟨decide_eq_false (by omega), decide_eq_false (by omega)⟩
  · have hn0 : 0 < n := by omega
    have : ((z.length : Nat) : Int) ≤ (2 ^ 63 - 1) / ((n : Nat) : Int) := by
      apply Int.le_ediv_of_mul_le (by omega)
      have : ((z.length : Nat) : Int) * ((n : Nat) : Int) ≤ 100000 := by
        have h2 : ((z.length * n : Nat) : Int) ≤ ((100000 : Nat) : Int) := Int.ofNat_le.mpr h
        rw [Int.natCast_mul] at h2
        exact h2
      omega
    omega
  · rw [Int.toNat_natCast]
    refine decide_eq_false ?_
    rw [sizeLine_eq]
    omega
theorem abc_times {z : Str} {n : Int} (h : Abc z) : Abc (Txt.mul z n) := fun c hc => by
  have hc : c ∈ codes (Txt.mul z n) := hc
  rw [codes_times] at hc
  unfold rep at hc
  obtain ⟨l, hl, hcl⟩ := List.mem_flatten.mp hc
  rw [(List.mem_replicate.mp hl).2] at hcl
  exact h c hcl
theorem len_times (z : Str) (n : Int) : (Txt.mul z n).length = n.toNat * z.length := by rw [← codes_len, codes_times, rep_len, codes_len]
def sp_depth_between (P : Program) (w : World) (C : Addr) : Sp := fun vs H Q _ => ∃ (k : KC) (Ls : List Addr) (t : KTab) (y z : Str), vs = [.ref k.x, .str y, .str z] ∧ KS P w C k Ls H t ∧ 7 ≤ k.D ∧ codes y ∈ k.S ∧ codes z ∈ k.S ∧
  (y = z → ∀ t' Ls' H', KS P w C k Ls' H' t' → Stp k Ls H t Ls' H' t' → Q .non H') ∧
  (y ≠ z → ∀ (n : Nat) t' Ls' H', KS P w C k Ls' H' t' → Stp k Ls H t Ls' H' t' → ¬ Al n (codes y) (codes z) → (∀ e, e < n → Al e (codes y) (codes z)) → Q (.int (n : Nat)) H')
def sp_parting_depth : Sp := fun vs H Q _ => ∃ (y z : Str) (_ : Unit), vs = [.str y, .str z] ∧ Abc y ∧ Abc z ∧ y.length ≤ 60 ∧ z.length ≤ 60 ∧ (y = z → ∀ H', Ex H H' → Q .non H') ∧
  (y ≠ z → ∀ (n : Nat) H', Ex H H' → ¬ Al n (codes y) (codes z) → (∀ e, e < n → Al e (codes y) (codes z)) → Q (.int (n : Nat)) H')
theorem codes_ne {y z : Str} (h : y ≠ z) : codes y ≠ codes z := fun e => h (by rw [← codes_back y, ← codes_back z, e])
end M
end

section
set_option Elab.async false
set_option linter.all false
set_option maxRecDepth 100000
set_option maxHeartbeats 2000000
/-! k04: rows put together, renamed -/
namespace M
open PySem PySem.Spec L2 Evl
open PyProof.Rows hiding St
def In3 (z : Str) : Prop := ∀ c ∈ codes z, 97 ≤ c ∧ c ≤ 99
theorem In3.abc {z : Str} (h : In3 z) : Abc z := fun c hc => by have := h c hc; omega
theorem in3_app {y z : Str} (h : In3 y) (g : In3 z) : In3 (y ++ z) := fun c hc => by
  rw [codes_app] at hc
  rcases List.mem_append.mp hc with hc | hc
  · exact h c hc
  · exact g c hc
theorem in3_times {z : Str} {n : Int} (h : In3 z) : In3 (Txt.mul z n) := fun c hc => by
  rw [codes_times] at hc
  unfold rep at hc
  obtain ⟨l, hl, hcl⟩ := List.mem_flatten.mp hc
  rw [(List.mem_replicate.mp hl).2] at hcl
  exact h c hcl
theorem in3_of {z y : Str} (h : ∀ c ∈ z.cps.toList, c ∈ y.cps.toList) (g : In3 y) : In3 z := fun c hc => g c (h c hc)
theorem in3_abc : In3 "abc" := by unfold In3 codes; decide +kernel
theorem in3_ab : In3 "ab" := by unfold In3 codes; decide +kernel
theorem names_ab : Names "ab" := ⟨by unfold Abc; decide +kernel, by decide +kernel, by decide +kernel⟩
theorem names_abc : Names "abc" := ⟨by unfold Abc; decide +kernel, by decide +kernel, by decide +kernel⟩
theorem idx3 {c : Nat} (h : 97 ≤ c ∧ c ≤ 99) : ∃ rest, Builtin.Str.occurrences "abc" ⟨#[c]⟩ 0 ("abc" : Str).length 1 = (c - 97) :: rest := by
  rcases (by omega : c = 97 ∨ c = 98 ∨ c = 99) with rfl | rfl | rfl
  · exact ⟨[], by decide +kernel⟩
  · exact ⟨[], by decide +kernel⟩
  · exact ⟨[], by decide +kernel⟩
def ren (nm : Str) (c : Nat) : Nat := (codes nm).getD (c - 97) 0
def sp_two : Sp := fun vs H Q _ => ∃ (H0 : Hp) (p : Addr) (m d : Nat), vs = [.ref p, .int (d : Nat)] ∧ Pl H0 H p m ∧ m + 40 ≤ 2 ^ 20 ∧ d ≤ 4 ∧ ∀ (a : Addr) (y z : Str) H1 H', Ex H0 H1 → Pl H1 H' p (m + 40) → H1 a = some (.tup [.str y, .str z]) → In3 y → In3 z →
  y.length ≤ 2 * (2 ^ d + 1) + 4 → z.length ≤ 2 * (2 ^ d + 1) + 4 → Al d (codes y) (codes z) → Q (.ref a) H'
def sp_renamed : Sp := fun vs H Q _ => ∃ (y nm : Str), vs = [.str y, .str nm] ∧ y.length ≤ 100 ∧ In3 y ∧ nm.length = 3 ∧ ∀ (z : Str) H', Ex H H' → codes z = (codes y).map (ren nm) → Q (.str z) H'
theorem ren_abc {nm : Str} (h : nm.length = 3) (g : Abc nm) {y z : Str} (hy : In3 y) (e : codes z = (codes y).map (ren nm)) : Abc z ∧ z.length = y.length := by
  have hl := codes_len nm
  refine ⟨fun c hc => ?_, by rw [← codes_len, e, List.length_map, codes_len]⟩
  have hc : c ∈ codes z := hc
  rw [e] at hc
  obtain ⟨b, hb, rfl⟩ := List.mem_map.mp hc
  have h3 := hy b hb
  have hi : b - 97 < (codes nm).length := by omega
  unfold ren
  rw [List.getD_eq_getElem?_getD, List.getElem?_eq_getElem hi]
  exact g _ (List.getElem_mem hi)
theorem least4 {d : Nat} (h : d < 4) : atI [V.int 0, V.int 1, V.int 3, V.int 7] ((d : Nat) : Int) = some (.int ((2 ^ d - 1 : Nat) : Int)) := by
  rcases (by omega : d = 0 ∨ d = 1 ∨ d = 2 ∨ d = 3) with rfl | rfl | rfl | rfl <;> rfl
theorem four3 {i : Nat} {x : V} (h : [V.str "bca", V.str "xyz", V.str "aab", V.str "ccc"][i]? = some x) : ∃ nm : Str, x = .str nm ∧ nm.length = 3 ∧ Abc nm := by
  match i, h with
  | 0, h => cases h; exact ⟨_, rfl, by decide +kernel, by unfold Abc; decide +kernel⟩
  | 1, h => cases h; exact ⟨_, rfl, by decide +kernel, by unfold Abc; decide +kernel⟩
  | 2, h => cases h; exact ⟨_, rfl, by decide +kernel, by unfold Abc; decide +kernel⟩
  | 3, h => cases h; exact ⟨_, rfl, by decide +kernel, by unfold Abc; decide +kernel⟩
  | i + 4, h => simp at h
theorem r62a (d : Nat) : -2 ^ 62 ≤ ((d : Nat) : Int) := Int.le_trans (by decide) (Int.natCast_nonneg d)
theorem r62b {d : Nat} (h : d ≤ 1000) : ((d : Nat) : Int) < 2 ^ 62 := Int.lt_of_le_of_lt (Int.ofNat_le.mpr h) (by decide)
end M
end

section
set_option Elab.async false
set_option linter.all false
set_option maxRecDepth 100000
set_option maxHeartbeats 2000000
/-! k05: rows of one letter -/
namespace M
open PySem PySem.Spec L2 Evl
open PyProof.Rows hiding St
theorem shw_n : ∀ n : Fin 12, Shw (.int (n.val : Nat)) := by
  intro n
  refine ⟨?_, rfl, Nat.zero_le _, ?_⟩
  · revert n; decide +kernel
  · revert n; decide +kernel
theorem shw_nat {n : Nat} (h : n < 12) : Shw (.int (n : Nat)) := shw_n ⟨n, h⟩
theorem shw_none : Shw .none := ⟨rfl, rfl, by decide, by decide +kernel⟩
def sp_least : Sp := fun vs H Q _ => ∃ (d : Nat) (_ _ : Unit), vs = [.int (d : Nat)] ∧ d ≤ 20 ∧ Q (.int ((2 ^ d - 1 : Nat) : Int)) H
theorem names26 : Names "abcdefghijklmnopqrstuvwxyz" := ⟨by unfold Abc; decide +kernel, by decide +kernel, by decide +kernel⟩
theorem codes_one (c : Nat) : codes ⟨#[c]⟩ = [c] := rfl
theorem codes_ones (c n : Nat) : codes (Txt.mul ⟨#[c]⟩ ((n : Nat) : Int)) = List.replicate n c := by rw [codes_mul]; rfl
/-- the least depth at which two rows of one letter part -/
theorem one_parts {c h t n : Nat} (ne : h ≠ t) (h1 : ¬ Al n (List.replicate h c) (List.replicate t c)) (h2 : ∀ e, e < n → Al e (List.replicate h c) (List.replicate t c)) : min h t < 2 ^ n - 1 ∧ ∀ e, e < n → 2 ^ e - 1 ≤ min h t := by
  refine ⟨?_, fun e he => ?_⟩
  · rw [one_al] at h1
    omega
  · have := h2 e he
    rw [one_al] at this
    omega
theorem least_one {m n l : Nat} (h1 : m < 2 ^ n - 1) (h2 : ∀ e, e < n → 2 ^ e - 1 ≤ m) (l0 : 1 ≤ l) (g1 : m < 2 ^ l - 1) (g2 : ∀ e, 1 ≤ e → e < l → 2 ^ e - 1 ≤ m) : n = l := by
  rcases Nat.lt_trichotomy n l with q | q | q
  · have n0 : 1 ≤ n := by
      cases n with
      | zero => simp at h1
      | succ n => omega
    have := g2 n n0 q
    omega
  · exact q
  · have := h2 l q
    omega
end M
end

section
set_option Elab.async false
set_option linter.all false
set_option maxRecDepth 100000
set_option maxHeartbeats 4000000
/-! sorted(list of triples) -/
namespace M
open PySem PySem.Spec L2 Evl
open PyProof.Rows hiding St
section
variable {P : Program} {w : World} {A : Around} {E : Value → Shared → Prop} {s : Shared}
theorem sorted_trl {l : Addr} {L : List NMem} {vs : List Value} {Q : Value → Shared → Prop} (hl : s.heap.IsList l vs.toArray) (ev : vs = L.map fun p => Value.ref p.1) (few : vs.length < 64) (keys : ∀ p ∈ L, NestedIs s.heap p.2 (.ref p.1)) (tri : ∀ p ∈ L, ∃ m, p.2 = trip m ∧ Low m ∧ Tri s.heap p.1 m)
    (fin : ∀ (out : Array Value) (L' : List NMem), out.toList = L'.map (fun q => Value.ref q.1) → L'.Perm L → L'.Pairwise (fun q r => rkN q.2 ≤ rkN r.2) → Q (.ref (s.heap.objs.size + 1)) { s with heap := sortedAll s.heap vs out }) :
    wpAny (model P w) A (call (.builtin "sorted") [.ref l]) Q E s := by
  refine Calls.call_function_entry kind_sorted plain_sorted entry_sorted (args_sorted1 _) ?_
  unfold Builtin.«sorted»
  refine wpAny_bind (m := checkCount "sorted" 1 1 _) (wpAny_pure ?_)
  refine wpAny_bind (collect_list hl ?_ (by rw [sizeLine_eq]; omega))
  refine wpAny_bind (wpAny_newList ?_ (by rw [sizeLine_eq]; omega))
  have hsz : ((s.heap.push (seqObj "list" #[] 0)).update s.heap.objs.size (Obj.mapSeq (· ++ vs.toArray))).objs.size = s.heap.objs.size + 1 := by
    rw [Heap.size_update, size_push']
  have hoL : (((s.heap.push (seqObj "list" #[] 0)).update s.heap.objs.size (Obj.mapSeq (· ++ vs.toArray))).push (seqObj "list" vs.toArray 0)).get? (s.heap.objs.size + 1) = some (seqObj "list" vs.toArray 0) := by
    rw [← hsz]; exact Heap.get?_push_size _ rfl
  have keep : ∀ b o, s.heap.get? b = some o → (((s.heap.push (seqObj "list" #[] 0)).update s.heap.objs.size (Obj.mapSeq (· ++ vs.toArray))).push (seqObj "list" vs.toArray 0)).get? b = some o := fun b o q => by
    have hlt : b < s.heap.objs.size := Heap.lt_size q
    rw [Heap.get?_push_ne _ _ _ (by rw [hsz]; exact Nat.ne_of_lt (Nat.lt_succ_of_lt hlt)), Heap.get?_update_ne _ _ _ _ (Nat.ne_of_lt hlt), Heap.get?_push_ne _ _ _ (Nat.ne_of_lt hlt)]
    exact q
  show wpAny _ _ _ _ _ { s with heap := ((s.heap.push (seqObj "list" #[] 0)).update s.heap.objs.size (Obj.mapSeq (· ++ vs.toArray))).push (seqObj "list" vs.toArray 0) }
  rw [hsz]
  have own : ∀ v ∈ vs, ∃ p ∈ L, v = .ref p.1 := fun v hv => by
    rw [ev] at hv
    obtain ⟨p, hp, e⟩ := List.mem_map.mp hv
    exact ⟨p, hp, e.symm⟩
  have mid : ∀ p ∈ L, ∀ m, Tri s.heap p.1 m → Tri (TS.midHeap (((s.heap.push (seqObj "list" #[] 0)).update s.heap.objs.size (Obj.mapSeq (· ++ vs.toArray))).push (seqObj "list" vs.toArray 0)) (s.heap.objs.size + 1) vs) p.1 m := fun p hp m ⟨o, xs, n, t1, t2, t3, ho, r⟩ =>
    ⟨o, xs, n, t1, t2, t3, TS.midHeap_old (Nat.ne_of_lt (Nat.lt_succ_of_lt (Heap.lt_size ho))) (keep _ _ ho), r⟩
  refine wpAny_bind (wpAny_holding (wpAny_call_entry slot_list_sort ⟨_, hoL, rfl⟩ entry_list_sort (SK.plain_sort (r := rkV L) hoL few (fun h2 Q' hQ' => ?_) fun ps out o1 o2 o3 => ⟨_, rfl, ?_⟩) (args_list_sort _)))
  · obtain ⟨fs, k, hl2, hi⟩ := tri_firsts (h := TS.midHeap (((s.heap.push (seqObj "list" #[] 0)).update s.heap.objs.size (Obj.mapSeq (· ++ vs.toArray))).push (seqObj "list" vs.toArray 0)) (s.heap.objs.size + 1) vs) vs fun v hv => by
      obtain ⟨p, hp, rfl⟩ := own v hv
      obtain ⟨m, _, _, ht⟩ := tri p hp
      exact ⟨_, m, rfl, mid p hp m ht⟩
    refine PySem.W.kat_kind (T := Value.type "int") k (by omega) (fun f hf => ?_) rfl (hQ' _ ?_)
    · obtain ⟨i, t, rfl⟩ := hi f hf
      exact PySem.W.Looks.of_pure rfl
    · intro x y hx hy Q2 E2 hq
      rw [pairsOf_toList] at hx hy
      obtain ⟨p, hp, e1⟩ := own _ (mem_zip_self hx).2
      obtain ⟨q, hq1, e2⟩ := own _ (mem_zip_self hy).2
      obtain ⟨m, em, lm, tm⟩ := tri p hp
      obtain ⟨n, en, ln, tn⟩ := tri q hq1
      rw [e1, e2, rkV_at keys hp, rkV_at keys hq1, em, en, rkN_trip, rkN_trip] at hq
      rw [e1, e2]
      exact tri_lt (mid p hp m tm) (mid q hq1 n tn) lm ln hq
  · obtain ⟨pm, so⟩ := TS.out_rank o1 o2 o3
    obtain ⟨L', p2, e2⟩ := perm_back (f := fun p : NMem => Value.ref p.1) (L := L) (pm.trans (by rw [ev])) rfl
    refine wpAny_pure ⟨_, rfl, fin out L' e2 p2 ?_⟩
    rw [e2, List.pairwise_map] at so
    refine List.Pairwise.imp_of_mem (fun {q r} hq hr h => ?_) so
    rw [rkV_at keys (p2.mem_iff.mp hq), rkV_at keys (p2.mem_iff.mp hr)] at h
    exact h
end
section
variable {X : Cx}
/-- sorted(marks), a list of unlike triples -/
def rLsort (K : PySem.W.Frag) : List V → Hp → VK → Prop := fun xs H Q => ∃ (a : Addr) (rs : List V) (ms : List Mark), xs = [V.ref a] ∧ SqL K H a rs ∧ Trs H rs ms ∧ ms.Nodup ∧ ms.length < 64 ∧ (∀ m ∈ ms, Low m) ∧
  ∀ p rs' ms' H', H p = none → Ex H H' → H' p = some (.lst rs') → (∀ b, b ≠ p → H' b = H b) → Canon ms' → (∀ q, q ∈ ms' ↔ q ∈ ms) → Trs H rs' ms' → Q (.ref p) H'
theorem cr_lsort : CallR X (.builtin "sorted") (rLsort X.K) := by
  intro pins s σ H xs us Q I r ⟨a, rs, ms, e, hs, ⟨L, e1, e2, e3⟩, nd, few, lo, q⟩
  subst e
  rw [Vals.ref1 r]
  obtain ⟨its, rv, pl, hz⟩ := I.list hs
  rw [e1] at rv
  have ev := refs_nm rv
  have hlen : L.length = ms.length := by
    have := congrArg List.length e2
    simpa using this
  have tri : ∀ p ∈ L, ∃ m, p.2 = trip m ∧ Low m := fun p hp => by
    have hm : p.2 ∈ ms.map trip := by rw [← e2]; exact List.mem_map.mpr ⟨p, hp, rfl⟩
    obtain ⟨m, h1, h2⟩ := List.mem_map.mp hm
    exact ⟨m, h2.symm, lo m h1⟩
  refine sorted_trl (L := L) pl.isList ev (by rw [ev, List.length_map]; omega) (fun p hp => (e3 p hp).is I.hok rfl) (fun p hp => ?_) fun out L' eo pm so => ?_
  · obtain ⟨m, h1, h2⟩ := tri p hp
    have k := e3 p hp
    rw [h1] at k
    exact ⟨m, h1, h2, nk_tri I.hok k⟩
  · have pk := pm.map (·.2)
    rw [e2] at pk
    obtain ⟨ms', h1, h2⟩ := perm_back (f := trip) (L := ms) pk rfl
    have lo2 : ∀ m ∈ ms', Low m := fun m hm => lo m (h1.mem_iff.mp hm)
    have nd2 : (L'.map (·.2)).Nodup := by
      rw [h2]
      exact List.pairwise_map.mpr (List.Pairwise.imp (fun {a b} h z => h (trip_inj z)) (h1.nodup_iff.mpr nd))
    obtain ⟨ep, he'⟩ := PyProof.Rows.sortedAll_at s.heap its out
    have hp : H (s.heap.objs.size + 1) = none := I.hok.fresh (Nat.le_succ _)
    refine ⟨.ref _, upd H (s.heap.objs.size + 1) (.lst (L'.map fun q => V.ref q.1)), I.laid (t' := s.toks) (fun _ _ => PyProof.Rows.sortedAll_old) (Nat.le_succ _) ⟨?_, out.toList, ep, by rw [eo]; exact vals_nm L', he'⟩, rfl, ?_⟩
    · rw [List.length_map, pm.length_eq, hlen, sizeLine_eq]; omega
    · exact q _ _ ms' _ hp (Ex.new hp) upd_same (fun b hb => upd_ne hb) (canon_of h2 lo2 nd2 so) (fun q => h1.mem_iff) ⟨L', rfl, h2, fun x hx => e3 x (pm.mem_iff.mp hx)⟩
end
end M
end

section
set_option Elab.async false
set_option linter.all false
set_option maxRecDepth 100000
set_option maxHeartbeats 4000000
/-! a law's own kinds: numbers for lists of marks, told by a dict -/
namespace M
abbrev LTab := List (Nat × List Mark)
def LRep (u : LTab) : Nat → Nat → List Nat → Prop
  | 0, n, _ => n = 0
  | d + 1, n, r => ∃ ms, (n, ms) ∈ u ∧ (∀ i c, r[i]? = some c → ∃ a b, (a, c, b) ∈ ms ∧ LRep u d a (r.take i) ∧ LRep u d b (r.drop (i + 1))) ∧
      (∀ a c b, (a, c, b) ∈ ms → ∃ i, r[i]? = some c ∧ LRep u d a (r.take i) ∧ LRep u d b (r.drop (i + 1)))
def LFits (u : LTab) (d : Nat) (ms : List Mark) (r : List Nat) : Prop :=
  (∀ i c, r[i]? = some c → ∃ a b, (a, c, b) ∈ ms ∧ LRep u d a (r.take i) ∧ LRep u d b (r.drop (i + 1))) ∧ (∀ a c b, (a, c, b) ∈ ms → ∃ i, r[i]? = some c ∧ LRep u d a (r.take i) ∧ LRep u d b (r.drop (i + 1)))
theorem LRep.up {u v : LTab} (g : ∀ x ∈ u, x ∈ v) : ∀ {d n : Nat} {r : List Nat}, LRep u d n r → LRep v d n r
  | 0, _, _, h => h
  | d + 1, n, r, ⟨ms, h, h1, h2⟩ => ⟨ms, g _ h, fun i c e => let ⟨a, b, m, x, y⟩ := h1 i c e; ⟨a, b, m, x.up g, y.up g⟩, fun a c b m => let ⟨i, e, x, y⟩ := h2 a c b m; ⟨i, e, x.up g, y.up g⟩⟩
theorem LFits.up {u v : LTab} (g : ∀ x ∈ u, x ∈ v) {d : Nat} {ms : List Mark} {r : List Nat} (h : LFits u d ms r) : LFits v d ms r :=
  ⟨fun i c e => let ⟨a, b, m, x, y⟩ := h.1 i c e; ⟨a, b, m, x.up g, y.up g⟩, fun a c b m => let ⟨i, e, x, y⟩ := h.2 a c b m; ⟨i, e, x.up g, y.up g⟩⟩
theorem LFits.same {u : LTab} {d : Nat} {ms ms' : List Mark} {r : List Nat} (h : LFits u d ms r) (e : ∀ m, m ∈ ms' ↔ m ∈ ms) : LFits u d ms' r :=
  ⟨fun i c q => let ⟨a, b, m, x, y⟩ := h.1 i c q; ⟨a, b, (e _).mpr m, x, y⟩, fun a c b m => h.2 a c b ((e _).mp m)⟩
structure LOk (S : List (List Nat)) (D : Nat) (u : LTab) : Prop where
  num : ∀ n ms ms', (n, ms) ∈ u → (n, ms') ∈ u → ms = ms'
  one : ∀ n m ms, (n, ms) ∈ u → (m, ms) ∈ u → n = m
  can : ∀ n ms, (n, ms) ∈ u → Canon ms
  nd : u.Nodup
  wit : ∀ n ms, (n, ms) ∈ u → ∃ d r, d + 1 ≤ D ∧ r ∈ S ∧ LFits u d ms r
section
variable {S : List (List Nat)} {D : Nat} {u v : LTab}
theorem LRep.al (T : LOk S D u) : ∀ {d n : Nat} {r s : List Nat}, LRep u d n r → LRep u d n s → Al d r s
  | 0, _, _, _, _, _ => trivial
  | d + 1, n, r, s, ⟨ms, h, h1, h2⟩, ⟨ms', g, g1, g2⟩ => by
    obtain rfl := T.num _ _ _ h g
    refine al_half (fun i c e => ?_) (fun i c e => ?_)
    · obtain ⟨a, b, m, x, y⟩ := h1 i c e
      obtain ⟨j, e2, x2, y2⟩ := g2 a c b m
      exact ⟨j, e2, x.al T x2, y.al T y2⟩
    · obtain ⟨a, b, m, x, y⟩ := g1 i c e
      obtain ⟨j, e2, x2, y2⟩ := h2 a c b m
      exact ⟨j, e2, x.al T x2, y.al T y2⟩
theorem LRep.move : ∀ {d n : Nat} {r s : List Nat}, LRep u d n r → Al d r s → LRep u d n s
  | 0, _, _, _, h, _ => h
  | d + 1, n, r, s, ⟨ms, h, h1, h2⟩, g => by
    refine ⟨ms, h, fun j c e => ?_, fun a c b m => ?_⟩
    · obtain ⟨i, e2, x, y⟩ := g.2 j c e
      obtain ⟨a, b, m, x2, y2⟩ := h1 i c e2
      exact ⟨a, b, m, x2.move x, y2.move y⟩
    · obtain ⟨i, e, x, y⟩ := h2 a c b m
      obtain ⟨j, e2, x2, y2⟩ := g.1 i c e
      exact ⟨j, e2, x.move x2, y.move y2⟩
theorem LRep.one (T : LOk S D u) : ∀ {d n m : Nat} {r : List Nat}, LRep u d n r → LRep u d m r → n = m
  | 0, _, _, _, h, g => h.trans g.symm
  | d + 1, n, m, r, ⟨ms, h, h1, h2⟩, ⟨ms', g, g1, g2⟩ => by
    have half : ∀ {xs ys : List Mark}, (∀ a c b, (a, c, b) ∈ xs → ∃ i, r[i]? = some c ∧ LRep u d a (r.take i) ∧ LRep u d b (r.drop (i + 1))) →
        (∀ i c, r[i]? = some c → ∃ a b, (a, c, b) ∈ ys ∧ LRep u d a (r.take i) ∧ LRep u d b (r.drop (i + 1))) → ∀ m, m ∈ xs → m ∈ ys := fun {xs ys} p q ⟨a, c, b⟩ hm => by
      obtain ⟨i, e, x, y⟩ := p a c b hm
      obtain ⟨a', b', hm', x', y'⟩ := q i c e
      rw [LRep.one T x x', LRep.one T y y']
      exact hm'
    have e : ms = ms' := canon_one _ _ (T.can _ _ h) (T.can _ _ g) fun m => ⟨half h2 g1 m, half g2 h1 m⟩
    subst e
    exact T.one _ _ _ h g
theorem LRep.iff (T : LOk S D u) {d n m : Nat} {r s : List Nat} (h : LRep u d n r) (g : LRep u d m s) : n = m ↔ Al d r s :=
  ⟨fun e => by subst e; exact h.al T g, fun a => LRep.one T (h.move a) g⟩
theorem LOk.few (T : LOk S D u) : u.length ≤ S.length * D := by
  have ex : ∀ x : Nat × List Mark, ∃ p : Nat × List Nat, x ∈ u → (p.1 ∈ List.range D ∧ p.2 ∈ S) ∧ LRep u (p.1 + 1) x.1 p.2 := fun ⟨n, ms⟩ => by
    by_cases q : (n, ms) ∈ u
    · obtain ⟨d, r, h1, h2, h3⟩ := T.wit n ms q
      exact ⟨(d, r), fun _ => ⟨⟨List.mem_range.mpr (by omega), h2⟩, ms, q, h3⟩⟩
    · exact ⟨(0, []), fun z => absurd z q⟩
  let f := fun x => Classical.choose (ex x)
  have hf : ∀ x, x ∈ u → ((f x).1 ∈ List.range D ∧ (f x).2 ∈ S) ∧ LRep u ((f x).1 + 1) x.1 (f x).2 := fun x => Classical.choose_spec (ex x)
  have q := nodup_sub (u.map f) ((List.range D).flatMap fun d => S.map fun r => (d, r)) ?_ ?_
  · rw [List.length_map, pairs_len] at q
    exact q
  · refine List.pairwise_map.mpr (List.Pairwise.imp_of_mem (fun {a b} ha hb (h : a ≠ b) e => ?_) T.nd)
    have h1 := (hf a ha).2
    have h2 := (hf b hb).2
    rw [e] at h1
    have e1 := LRep.one T h1 h2
    obtain ⟨a1, a2⟩ := a
    obtain ⟨b1, b2⟩ := b
    have e1 : a1 = b1 := e1
    subst e1
    exact h (by rw [T.num _ _ _ ha hb])
  · intro p hp
    obtain ⟨n, hn, rfl⟩ := List.mem_map.mp hp
    obtain ⟨⟨h1, h2⟩, _⟩ := hf n hn
    exact List.mem_flatMap.mpr ⟨_, h1, List.mem_map.mpr ⟨_, h2, rfl⟩⟩
theorem LOk.add (T : LOk S D u) {n d : Nat} {ms : List Mark} {r : List Nat} (hc : Canon ms) (n1 : ∀ ms', (n, ms') ∉ u) (n2 : ∀ m, (m, ms) ∉ u) (hd : d + 1 ≤ D) (hr : r ∈ S) (hf : LFits u d ms r) : LOk S D ((n, ms) :: u) := by
  have g : ∀ x ∈ u, x ∈ (n, ms) :: u := fun x h => List.mem_cons_of_mem _ h
  refine ⟨fun k a b h1 h2 => ?_, fun k l a h1 h2 => ?_, fun k a h => ?_, List.nodup_cons.mpr ⟨n1 ms, T.nd⟩, fun k a h => ?_⟩
  · rcases List.mem_cons.mp h1 with e1 | h1
    · rcases List.mem_cons.mp h2 with e2 | h2
      · cases e1; cases e2; rfl
      · cases e1; exact absurd h2 (n1 _)
    · rcases List.mem_cons.mp h2 with e2 | h2
      · cases e2; exact absurd h1 (n1 _)
      · exact T.num _ _ _ h1 h2
  · rcases List.mem_cons.mp h1 with e1 | h1
    · rcases List.mem_cons.mp h2 with e2 | h2
      · cases e1; cases e2; rfl
      · cases e1; exact absurd h2 (n2 _)
    · rcases List.mem_cons.mp h2 with e2 | h2
      · cases e2; exact absurd h1 (n2 _)
      · exact T.one _ _ _ h1 h2
  · rcases List.mem_cons.mp h with e | h
    · cases e; exact hc
    · exact T.can _ _ h
  · rcases List.mem_cons.mp h with e | h
    · cases e; exact ⟨d, r, hd, hr, hf.up g⟩
    · obtain ⟨d', r', h1, h2, h3⟩ := T.wit _ _ h
      exact ⟨d', r', h1, h2, h3.up g⟩
end
end M
namespace M
open PySem PySem.Spec L2 Evl
open PyProof.Rows hiding St
def keyL (ms : List Mark) : NestedKey := .tup [.text "", .tup (ms.map trip)]
theorem keyL_inj {a b : List Mark} (h : keyL a = keyL b) : a = b := by
  unfold keyL at h
  injection h with h
  injection h with _ h
  injection h with h2 _
  injection h2 with h2
  exact trips_inj h2
theorem keyL_depth (ms : List Mark) : (keyL ms).depth ≤ 8 := by
  have := trips_depth ms
  unfold keyL
  simp only [NestedKey.depth, NestedKey.depthAll]
  omega
theorem keyL_ne {ms : List Mark} {z : Str} {d : Nat} : keyL ms ≠ keyR z d := fun h => by
  unfold keyL keyR at h
  injection h with h
  injection h with _ h
  injection h with h2 _
  cases h2
/-- the dict of a law's kinds -/
structure LK (P : Program) (w : World) (S : List (List Nat)) (D : Nat) (H : Hp) (k : Addr) (e : List NEnt) (u : LTab) : Prop where
  sub : Sub S D
  ok : LOk S D u
  nd : ND P w H k e
  once : Once e
  ent : ∀ p ∈ e, (∃ z d n, p.1 = keyR z d ∧ p.2.2 = .int (n : Nat) ∧ codes z ∈ S ∧ d ≤ D ∧ LRep u d n (codes z)) ∨ (∃ ms n, p.1 = keyL ms ∧ p.2.2 = .int (n : Nat) ∧ (n, ms) ∈ u)
  all : ∀ n ms, (n, ms) ∈ u → keyL ms ∈ e.map (·.1)
  low : ∀ n ms, (n, ms) ∈ u → n < e.length
section
variable {P : Program} {w : World} {S : List (List Nat)} {D : Nat} {H H' : Hp} {k : Addr} {e : List NEnt} {u : LTab}
theorem LK.room (h : LK P w S D H k e u) : e.length ≤ 2 ^ 22 := by
  have := h.once.len (L := pairs S (D + 1) (fun d r => keyR ⟨r.toArray⟩ d) ++ u.map fun x => keyL x.2) fun p hp => by
    rcases h.ent p hp with ⟨z, d, n, e1, _, e2, e3, _⟩ | ⟨ms, n, e1, _, e2⟩
    · refine List.mem_append.mpr (.inl ?_)
      rw [e1]
      have := mem_pairs (S := S) (D := D + 1) (f := fun d r => keyR ⟨r.toArray⟩ d) (d := d) (by omega) e2
      rwa [codes_back] at this
    · refine List.mem_append.mpr (.inr ?_)
      rw [e1]
      exact List.mem_map.mpr ⟨_, e2, rfl⟩
  rw [List.length_append, pairs_size, List.length_map] at this
  have h1 := h.ok.few
  have h2 := h.sub.few
  have : S.length * D ≤ S.length * (D + 1) := Nat.mul_le_mul_left _ (Nat.le_succ _)
  omega
theorem LK.size (h : LK P w S D H k e u) : e.length ≤ sizeLine := Nat.le_trans h.room (by decide)
theorem LK.num (h : LK P w S D H k e u) {d n : Nat} {r : List Nat} (g : LRep u d n r) : n < 2 ^ 32 := by
  cases d with
  | zero =>
    have : n = 0 := g
    omega
  | succ d =>
    obtain ⟨ms, hm, _⟩ := g
    have := h.low _ _ hm
    have := h.room
    omega
theorem LK.ex (h : LK P w S D H k e u) (tk : Tk H H') (a : ∀ o, H k = some o → H' k = some o) : LK P w S D H' k e u := ⟨h.sub, h.ok, h.nd.keep tk (a _ h.nd.at_), h.once, h.ent, h.all, h.low⟩
theorem LK.tup (h : LK P w S D H k e u) {ys : List V} : H k ≠ some (.tup ys) := fun z => by
  rw [h.nd.at_] at z
  exact absurd (show HO.ext _ = HO.tup ys from Option.some.inj z) fun y => nomatch y
theorem LK.tk (h : LK P w S D H k e u) (x : ∀ b o, b ≠ k → H b = some o → H' b = some o) : Tk H H' := fun b ys q => x b _ (fun z => h.tup (by rw [← z]; exact q)) q
theorem LK.new {P : Program} {w : World} {S : List (List Nat)} {D : Nat} {H : Hp} {k : Addr} (hS : Sub S D) (at_ : H k = some (NdO P w k [])) : LK P w S D H k [] [] :=
  ⟨hS, ⟨(fun _ _ _ h => nomatch h), (fun _ _ _ h => nomatch h), (fun _ _ h => nomatch h), .nil, (fun _ _ h => nomatch h)⟩, ⟨at_, fun x hx => nomatch hx⟩, List.nodup_nil, (fun p hp => nomatch hp), (fun _ _ h => nomatch h), (fun _ _ h => nomatch h)⟩
theorem LK.getR (h : LK P w S D H k e u) {z : Str} {d : Nat} {v : V} (q : kat e (keyR z d) = some v) : ∃ n : Nat, v = .int (n : Nat) ∧ LRep u d n (codes z) := by
  obtain ⟨p, hp, q1, q2⟩ := kat_mem q
  rcases h.ent p hp with ⟨z', d', n, e1, e2, _, _, e5⟩ | ⟨ms, n, e1, _, _⟩
  · obtain ⟨rfl, rfl⟩ := keyR_inj (q1.symm.trans e1)
    exact ⟨n, by rw [← q2, e2], e5⟩
  · exact absurd (e1.symm.trans q1) keyL_ne
theorem LK.getL (h : LK P w S D H k e u) {ms : List Mark} {v : V} (q : kat e (keyL ms) = some v) : ∃ n : Nat, v = .int (n : Nat) ∧ (n, ms) ∈ u := by
  obtain ⟨p, hp, q1, q2⟩ := kat_mem q
  rcases h.ent p hp with ⟨z', d', n, e1, _⟩ | ⟨ms', n, e1, e2, e3⟩
  · exact absurd (q1.symm.trans e1) keyL_ne
  · obtain rfl := keyL_inj (q1.symm.trans e1)
    exact ⟨n, by rw [← q2, e2], e3⟩
/-- known[line, deep] = n -/
theorem LK.putR (h : LK P w S D H k e u) {tk : Addr} {z : Str} {d n : Nat} (hk : NK H (.ref tk) (keyR z d)) (e1 : codes z ∈ S) (e2 : d ≤ D) (e3 : LRep u d n (codes z)) :
    LK P w S D (upd H k (NdO P w k (putE e (keyR z d) tk (.int (n : Nat))))) k (putE e (keyR z d) tk (.int (n : Nat))) u := by
  refine ⟨h.sub, h.ok, h.nd.putG hk (keyR_depth _ _), h.once.putG, fun p hp => ?_, fun m ms hm => ?_, fun m ms hm => ?_⟩
  · rcases mem_putE hp with ⟨hp, _⟩ | ⟨q1, q2, _⟩
    · exact h.ent p hp
    · exact .inl ⟨z, d, n, q1, q2, e1, e2, e3⟩
  · rw [putE_keys]
    split
    · exact h.all m ms hm
    · exact List.mem_append.mpr (.inl (h.all m ms hm))
  · have l1 := h.low m ms hm
    have l2 := congrArg List.length (putE_keys (xs := e) (k := keyR z d) (t := tk) (v := .int (n : Nat)))
    rw [List.length_map] at l2
    rw [l2]
    split <;> simp <;> omega
/-- known[key] = len(known) -/
theorem LK.putL (h : LK P w S D H k e u) {tk : Addr} {ms : List Mark} {d : Nat} {r : List Nat} (hk : NK H (.ref tk) (keyL ms)) (no : kat e (keyL ms) = none) (hc : Canon ms) (hd : d + 1 ≤ D) (hr : r ∈ S) (hf : LFits u d ms r) :
    LK P w S D (upd H k (NdO P w k (putE e (keyL ms) tk (.int (e.length : Nat))))) k (putE e (keyL ms) tk (.int (e.length : Nat))) ((e.length, ms) :: u) := by
  have nk := kat_none no
  have l2 := congrArg List.length (putE_keys (xs := e) (k := keyL ms) (t := tk) (v := .int (e.length : Nat)))
  rw [List.length_map, no] at l2
  have l3 : (putE e (keyL ms) tk (.int (e.length : Nat))).length = e.length + 1 := by
    rw [l2]
    simp
  have g : ∀ x ∈ u, x ∈ (e.length, ms) :: u := fun x h => List.mem_cons_of_mem _ h
  refine ⟨h.sub, h.ok.add hc (fun ms' q => Nat.lt_irrefl _ (h.low _ _ q)) (fun m q => nk (h.all _ _ q)) hd hr hf, h.nd.putG hk (keyL_depth _), h.once.putG, fun p hp => ?_, fun m ms' hm => ?_, fun m ms' hm => ?_⟩
  · rcases mem_putE hp with ⟨hp, _⟩ | ⟨q1, q2, _⟩
    · rcases h.ent p hp with ⟨z, d, n, e1, e2, e3, e4, e5⟩ | ⟨ms', n, e1, e2, e3⟩
      · exact .inl ⟨z, d, n, e1, e2, e3, e4, e5.up g⟩
      · exact .inr ⟨ms', n, e1, e2, g _ e3⟩
    · exact .inr ⟨ms, e.length, q1, q2, List.mem_cons_self⟩
  · rw [putE_keys, no]
    rcases List.mem_cons.mp hm with q | hm
    · cases q; simp
    · exact List.mem_append.mpr (.inl (h.all m ms' hm))
  · rw [l3]
    rcases List.mem_cons.mp hm with q | hm
    · cases q; omega
    · have := h.low m ms' hm; omega
end
def rLenN (P : Program) (w : World) : List V → Hp → VK → Prop := fun xs H Q => ∃ (d : Addr) (e : List NEnt), xs = [.ref d] ∧ ND P w H d e ∧ e.length ≤ sizeLine ∧ Q (.int ((e.length : Nat) : Int)) H
theorem call_lenN {X : Cx} : CallR X (.builtin "len") (rLenN X.prog X.w) := by
  intro pins s σ H xs us Q I r h
  obtain ⟨d, e, rfl, hd, hz, q⟩ := h
  obtain ⟨u, rfl, rx⟩ := vals1 r
  obtain rfl : u = .ref d := rx
  obtain ⟨z, ys, hm, rel⟩ := nd_of I hd
  have hl : e.length = ys.length := Paired.length rel
  refine call_len_dictH z hm (by rw [← hl]; rw [sizeLine_eq] at hz; omega) ?_
  rw [← hl]
  exact ⟨.int ((e.length : Nat) : Int), H, I.tok _, ⟨_, rfl⟩, q⟩
/-! ### triples as data -/
def tripD (m : Mark) : PyData := .tuple [.int (m.1 : Nat), .str ⟨#[m.2.1]⟩, .int (m.2.2 : Nat)]
theorem eqv_trip (a b : Mark) : PyData.eqv (tripD a) (tripD b) = decide (a = b) := by
  unfold tripD
  simp only [PyData.eqv, PyData.eqvAll, Bool.and_true]
  obtain ⟨a1, a2, a3⟩ := a
  obtain ⟨b1, b2, b3⟩ := b
  apply Bool.eq_iff_iff.mpr
  simp only [Bool.and_eq_true, beq_iff_eq, decide_eq_true_eq, Prod.mk.injEq]
  constructor
  · rintro ⟨h1, h2, h3⟩
    exact ⟨by omega, M.one_inj h2, by omega⟩
  · rintro ⟨rfl, rfl, rfl⟩
    exact ⟨rfl, rfl, rfl⟩
theorem any_trip (ms : List Mark) (m : Mark) : ((ms.map tripD).any fun z => PyData.eqv z (tripD m)) = decide (m ∈ ms) := by
  induction ms with
  | nil => rfl
  | cons x ms ih =>
    rw [List.map_cons, List.any_cons, ih, eqv_trip]
    apply Bool.eq_iff_iff.mpr
    simp only [Bool.or_eq_true, decide_eq_true_eq, List.mem_cons]
    exact ⟨fun h => h.imp (fun e => e.symm) id, fun h => h.imp (fun e => e.symm) id⟩
theorem lay_trip {m : Mark} (h : m.2.1 < 1114112) : (tripD m).canLay0 = true := by
  unfold tripD
  simp only [PyData.canLay0, PyData.canLayAll0, Bool.and_true, Bool.true_and]
  unfold PyData.strOk
  simp [h]
theorem shaped_trip {m : Mark} (h : m.2.1 < 1114112) : SeqAt.shaped (tripD m) = true := by
  unfold SeqAt.shaped
  rw [lay_trip h]
  rfl
theorem trips_all : ∀ {ms : List Mark}, (∀ m ∈ ms, m.2.1 < 1114112) → PyData.canLayAll0 (ms.map tripD) = true ∧ PyData.depthAll (ms.map tripD) ≤ 1
  | [], _ => ⟨rfl, Nat.zero_le _⟩
  | m :: ms, h => by
    obtain ⟨h1, h2⟩ := trips_all fun q hq => h q (List.mem_cons_of_mem _ hq)
    rw [List.map_cons]
    constructor
    · simp only [PyData.canLayAll0, lay_trip (h m List.mem_cons_self), h1, Bool.and_true]
    · have : (tripD m).depth = 1 := rfl
      simp only [PyData.depthAll, this]
      omega
theorem shaped_trips {ms : List Mark} (h : ∀ m ∈ ms, m.2.1 < 1114112) : SeqAt.shaped (.list (ms.map tripD)) = true := by
  obtain ⟨h1, h2⟩ := trips_all h
  unfold SeqAt.shaped
  rw [Bool.and_eq_true, decide_eq_true_eq]
  refine ⟨?_, ?_⟩
  · simp only [PyData.canLay0]; exact h1
  · simp only [PyData.depth]; omega
theorem dp_trip {K : PySem.W.Frag} {H : Hp} {a : Addr} {m : Mark} (h : H a = some (.tup [.int (m.1 : Nat), .str ⟨#[m.2.1]⟩, .int (m.2.2 : Nat)])) : Dp K H (.ref a) (tripD m) := .tup (SqT.of h) (.cons (.int _) (.cons (.str _) (.cons (.int _) .nil)))
theorem dp_trips {K : PySem.W.Frag} {H : Hp} {l : Addr} {rs : List V} {ms : List Mark} (h : H l = some (.lst rs)) (t : Trs H rs ms) : Dp K H (.ref l) (.list (ms.map tripD)) := by
  refine .lst (SqL.of h) ?_
  obtain ⟨L, rfl, e2, e3⟩ := t
  clear h
  revert e2 e3
  induction L generalizing ms with
  | nil =>
    intro e2 e3
    have : ms = [] := by cases ms with | nil => rfl | cons m ms => cases e2
    subst this
    exact .nil
  | cons p L ih =>
    intro e2 e3
    cases ms with
    | nil => cases e2
    | cons m ms =>
      injection e2 with h1 h2
      have k := e3 p List.mem_cons_self
      have h1 : p.2 = trip m := h1
      rw [h1] at k
      exact .cons (dp_trip (nk_trip k)) (ih h2 fun q hq => e3 q (List.mem_cons_of_mem _ hq))
theorem room65 {k : Nat} {A : Around} (r : Room k A) : A.units + 65 < cLine := by
  have := r.un
  omega
def sp_lkind (P : Program) (w : World) (f : Nat) : Sp := fun vs H Q _ => ∃ (S : List (List Nat)) (D : Nat) (e : List NEnt) (u : LTab) (k : Addr) (z : Str) (d : Nat), vs = [.str z, .int (d : Nat), .ref k] ∧ LK P w S D H k e u ∧ d < f ∧ d ≤ D ∧ codes z ∈ S ∧ (∀ c ∈ codes z, c < 1114112) ∧
  ∀ (n : Nat) e' u' H', LK P w S D H' k e' u' → (∀ x ∈ u, x ∈ u') → (∀ b o, b ≠ k → H b = some o → H' b = some o) → LRep u' d n (codes z) → Q (.int (n : Nat)) H'
end M
end

section
set_option Elab.async false
set_option linter.all false
set_option maxRecDepth 100000
set_option maxHeartbeats 2000000
/-! answers and picks -/
namespace M
open PySem PySem.Spec L2 Evl
open PyProof.Rows hiding St
/-- place j of s answers place i of r when d more turns are left -/
def Ans (d : Nat) (r s : List Nat) (i j : Nat) : Prop := r[i]? = s[j]? ∧ i < r.length ∧ j < s.length ∧ Al d (r.take i) (s.take j) ∧ Al d (r.drop (i + 1)) (s.drop (j + 1))
open Classical in
noncomputable def ansB (d : Nat) (r s : List Nat) (i j : Nat) : Bool := decide (Ans d r s i j)
theorem ansB_iff {d : Nat} {r s : List Nat} {i j : Nat} : ansB d r s i j = true ↔ Ans d r s i j := by
  unfold ansB
  simp
noncomputable def good (d : Nat) (r s : List Nat) (i : Nat) : List Nat := (List.range s.length).filter (ansB d r s i)
def natsV (ns : List Nat) : List V := ns.map fun n => V.int (n : Nat)
theorem Ans.down {d : Nat} {r s : List Nat} {i j : Nat} (h : Ans d r s i j) {e : Nat} (he : e ≤ d) : Ans e r s i j := ⟨h.1, h.2.1, h.2.2.1, h.2.2.2.1.mono he, h.2.2.2.2.mono he⟩
theorem marks_same {k : KC} {t : KTab} (T : TOk Canon k.S k.D t) {d e i j : Nat} {r s : List Nat} {ms ns : List Mark} {m n : Mark} (h1 : Places t e ms r) (h2 : Places t e ns s) (g1 : ms[i]? = some m) (g2 : ns[j]? = some n) (he : e ≤ d) (a : Ans d r s i j) : n = m := by
  obtain ⟨a1, c1, b1⟩ := m
  obtain ⟨a2, c2, b2⟩ := n
  obtain ⟨e1, r1, r2⟩ := h1.2 _ _ _ _ g1
  obtain ⟨e2, r3, r4⟩ := h2.2 _ _ _ _ g2
  have a := a.down he
  have := a.1
  rw [e1, e2] at this
  cases this
  rw [(Rep.iff canon_one T.ok r1 r3).mpr a.2.2.2.1, (Rep.iff canon_one T.ok r2 r4).mpr a.2.2.2.2]
theorem filt_succ {L : List Nat} {f : Nat → Bool} {j a : Nat} (h : L[j]? = some a) : (L.take (j + 1)).filter f = (L.take j).filter f ++ (if f a = true then [a] else []) := by
  rw [List.take_succ, h, List.filter_append]
  congr 1
  show List.filter f [a] = _
  rw [List.filter_cons]
  rfl
theorem natsV_at {L : List Nat} {j : Nat} {x : V} (h : (natsV L)[j]? = some x) : ∃ a, L[j]? = some a ∧ x = .int (a : Nat) := by
  unfold natsV at h
  rw [List.getElem?_map] at h
  obtain ⟨a, h1, h2⟩ := Option.map_eq_some_iff.mp h
  exact ⟨a, h1, h2.symm⟩
theorem natsV_len (L : List Nat) : (natsV L).length = L.length := List.length_map _
theorem natsV_snoc (L : List Nat) (a : Nat) : natsV L ++ [.int (a : Nat)] = natsV (L ++ [a]) := by
  unfold natsV
  simp
theorem filt_few (n : Nat) (f : Nat → Bool) : ((List.range n).filter f).length ≤ n := by
  have := List.length_filter_le f (List.range n)
  rwa [List.length_range] at this
theorem rgV_nats (n : Nat) : rgV 0 ((n : Nat) : Int) = natsV ((List.range n).filter fun _ => true) := by
  unfold rgV natsV
  rw [List.filter_eq_self.mpr (fun _ _ => rfl)]
  have : (((n : Nat) : Int) - 0).toNat = n := by omega
  rw [this]
  refine List.map_congr_left fun a _ => ?_
  show V.int (0 + (a : Nat)) = _
  rw [show (0 : Int) + (a : Nat) = (a : Nat) by omega]
theorem good_of {d i : Nat} {r s : List Nat} {f : Nat → Bool} (h : ∀ j, Ans d r s i j → f j = true) : ((List.range s.length).filter f).filter (ansB d r s i) = good d r s i := by
  unfold good
  rw [List.filter_filter]
  refine List.filter_congr fun j _ => ?_
  cases e : ansB d r s i j with
  | false => rfl
  | true => rw [h j (ansB_iff.mp e)]; rfl
def sp_is_good (P : Program) (w : World) (C : Addr) : Sp := fun vs H Q _ => ∃ (k : KC) (Ls : List Addr) (t : KTab) (d i j : Nat) (y z : Str), vs = [.ref k.x, .str y, .int (i : Nat), .str z, .int (j : Nat), .int ((d + 1 : Nat) : Int)] ∧ KS P w C k Ls H t ∧ d ≤ k.D ∧ d ≤ 8 ∧ codes y ∈ k.S ∧ codes z ∈ k.S ∧ i < y.length ∧ j < z.length ∧
  ∀ (b : Bool) t' Ls' H', KS P w C k Ls' H' t' → Stp k Ls H t Ls' H' t' → (b = true ↔ Ans d (codes y) (codes z) i j) → Q (.bl b) H'
def sp_good (P : Program) (w : World) (C : Addr) : Sp := fun vs H Q _ => ∃ (k : KC) (Ls : List Addr) (t : KTab) (d i : Nat) (y z : Str), vs = [.ref k.x, .str y, .int (i : Nat), .str z, .int ((d + 1 : Nat) : Int)] ∧ KS P w C k Ls H t ∧ d ≤ k.D ∧ d ≤ 8 ∧ codes y ∈ k.S ∧ codes z ∈ k.S ∧ i < y.length ∧ (∀ c ∈ codes y, c < 1114112) ∧ (∀ c ∈ codes z, c < 1114112) ∧
  ∀ (l : Addr) t' Ls' H', KS P w C k Ls' H' t' → Stp k Ls H t Ls' H' t' → H l = none → H' l = some (.lst (natsV (good d (codes y) (codes z) i))) → Q (.ref l) H'
def sp_answers : Sp := fun vs H Q _ => ∃ (d i : Nat) (y z : Str), vs = [.str y, .str z, .int ((d + 1 : Nat) : Int), .int (i : Nat)] ∧ Abc y ∧ Abc z ∧ y.length ≤ 60 ∧ z.length ≤ 60 ∧ d ≤ 7 ∧ i < y.length ∧
  ∀ (l : Addr) H', Ex H H' → H l = none → H' l = some (.lst (natsV (good d (codes y) (codes z) i))) → Q (.ref l) H'
end M
namespace M
open PySem PySem.Spec L2 Evl
open PyProof.Rows hiding St
/-- a triple as a list -/
def tripL (m : Mark) : PyData := .list [.int (m.1 : Nat), .str ⟨#[m.2.1]⟩, .int (m.2.2 : Nat)]
theorem eqv_tripL (a b : Mark) : PyData.eqv (tripL a) (tripL b) = decide (a = b) := eqv_trip a b
theorem shaped_tripL {m : Mark} (h : m.2.1 < 1114112) : SeqAt.shaped (tripL m) = true := by
  unfold SeqAt.shaped
  rw [Bool.and_eq_true]
  refine ⟨?_, rfl⟩
  unfold tripL
  simp only [PyData.canLay0, PyData.canLayAll0, Bool.and_true, Bool.true_and]
  unfold PyData.strOk
  simp [h]
theorem dp_tripL {K : PySem.W.Frag} {H : Hp} {a : Addr} {m : Mark} (h : H a = some (.lst [.int (m.1 : Nat), .str ⟨#[m.2.1]⟩, .int (m.2.2 : Nat)])) : Dp K H (.ref a) (tripL m) := .lst (SqL.of h) (.cons (.int _) (.cons (.str _) (.cons (.int _) .nil)))
def sp_ldue (P : Program) (w : World) : Sp := fun vs H Q _ => ∃ (S : List (List Nat)) (D : Nat) (e : List NEnt) (u : LTab) (k : Addr) (y z : Str) (d i : Nat), vs = [.str y, .str z, .int ((d + 1 : Nat) : Int), .int (i : Nat), .ref k] ∧ LK P w S D H k e u ∧ d < 7 ∧ d ≤ D ∧ codes y ∈ S ∧ codes z ∈ S ∧ (∀ c ∈ codes y, c < 1114112) ∧ (∀ c ∈ codes z, c < 1114112) ∧ i < y.length ∧
  ∀ (l : Addr) e' u' H', LK P w S D H' k e' u' → (∀ b o, b ≠ k → H b = some o → H' b = some o) → H l = none → H' l = some (.lst (natsV (good d (codes y) (codes z) i))) → Q (.ref l) H'
end M
namespace M
open PySem PySem.Spec L2 Evl
open PyProof.Rows hiding St
/-- small data: how deep, how heavy -/
structure Sml (d : PyData) (D W : Nat) : Prop where
  s : d.showable = true
  h : d.hasDict = false
  l : d.leavesShort 8 = true
  dp : d.depth ≤ D
  w : d.weight ≤ W
theorem sml_fin : ∀ n : Fin 128, ((PyData.int (n.val : Nat)).showable && (!(PyData.int (n.val : Nat)).hasDict && ((PyData.int (n.val : Nat)).leavesShort 8 && (decide ((PyData.int (n.val : Nat)).depth ≤ 0) && decide ((PyData.int (n.val : Nat)).weight ≤ 7))))) = true := by decide +kernel
theorem sml_int {n : Nat} (h : n < 128) : Sml (.int (n : Nat)) 0 7 := by
  have := sml_fin ⟨n, h⟩
  simp only [Bool.and_eq_true, decide_eq_true_eq, Bool.not_eq_true'] at this
  exact ⟨this.1, this.2.1, this.2.2.1, this.2.2.2.1, this.2.2.2.2⟩
theorem sml_all {D W : Nat} : ∀ {ds : List PyData}, (∀ d ∈ ds, Sml d D W) → PyData.showableAll ds = true ∧ PyData.hasDictAll ds = false ∧ PyData.leavesShortAll 8 ds = true ∧ PyData.depthAll ds ≤ D ∧ PyData.weightAll ds ≤ ds.length * (W + 1)
  | [], _ => ⟨rfl, rfl, rfl, Nat.zero_le _, Nat.zero_le _⟩
  | d :: ds, h => by
    obtain ⟨h1, h2, h3, h4, h5⟩ := sml_all fun q hq => h q (List.mem_cons_of_mem _ hq)
    obtain ⟨g1, g2, g3, g4, g5⟩ := h d List.mem_cons_self
    simp only [PyData.showableAll, PyData.hasDictAll, PyData.leavesShortAll, PyData.depthAll, PyData.weightAll, h1, h2, h3, g1, g2, g3, List.length_cons, Bool.and_true, Bool.or_false, Nat.succ_mul]
    exact ⟨trivial, trivial, trivial, by omega, by omega⟩
theorem sml_list {D W : Nat} {ds : List PyData} (h : ∀ d ∈ ds, Sml d D W) : Sml (.list ds) (D + 1) (ds.length * (W + 1)) := by
  obtain ⟨h1, h2, h3, h4, h5⟩ := sml_all h
  exact ⟨by simpa only [PyData.showable] using h1, by simpa only [PyData.hasDict] using h2, by simpa only [PyData.leavesShort] using h3, by simp only [PyData.depth]; omega, by simpa only [PyData.weight] using h5⟩
theorem sml_tup {D W : Nat} {ds : List PyData} (h : ∀ d ∈ ds, Sml d D W) : Sml (.tuple ds) (D + 1) (ds.length * (W + 1)) := by
  obtain ⟨h1, h2, h3, h4, h5⟩ := sml_all h
  exact ⟨by simpa only [PyData.showable] using h1, by simpa only [PyData.hasDict] using h2, by simpa only [PyData.leavesShort] using h3, by simp only [PyData.depth]; omega, by simpa only [PyData.weight] using h5⟩
theorem Sml.up {d : PyData} {D W D' W' : Nat} (h : Sml d D W) (h1 : D ≤ D') (h2 : W ≤ W') : Sml d D' W' := ⟨h.s, h.h, h.l, by have := h.dp; omega, by have := h.w; omega⟩
theorem Sml.shw {d : PyData} {D W : Nat} (h : Sml d D W) (h1 : D ≤ 50) (h2 : W ≤ 2 ^ 20) : Shw d :=
  ⟨h.s, h.h, by have := h.dp; omega, PyData.shown_fits (B := 8) (by decide) (by decide) h.l (by have := h.w; omega)⟩
/-- a list of small numbers as data -/
def dN (L : List Nat) : PyData := .list (L.map fun n => .int (n : Nat))
theorem sml_dN {L : List Nat} {k : Nat} (h : ∀ n ∈ L, n < 128) (hl : L.length ≤ k) : Sml (dN L) 1 (k * 8) := by
  refine Sml.up (sml_list (D := 0) (W := 7) fun d hd => ?_) (Nat.le_refl _) ?_
  · obtain ⟨n, hn, rfl⟩ := List.mem_map.mp hd
    exact sml_int (h n hn)
  · rw [List.length_map]
    exact Nat.mul_le_mul_right _ hl
theorem sml_dNN {L : List Nat} {k : Nat} (h : ∀ n ∈ L, n < 128) (hl : L.length ≤ k) : Sml (.list [dN L, dN L]) 2 (2 * (k * 8 + 1)) :=
  sml_list (ds := [dN L, dN L]) fun d hd => by
    simp only [List.mem_cons, List.not_mem_nil, or_false] at hd
    rcases hd with rfl | rfl <;> exact sml_dN h hl
theorem dps_nats {K : PySem.W.Frag} {H : Hp} : ∀ (L : List Nat), DpAll K H (natsV L) (L.map fun n => PyData.int (n : Nat))
  | [] => .nil
  | n :: L => .cons (.int _) (dps_nats L)
theorem dp_nats {K : PySem.W.Frag} {H : Hp} {l : Addr} {L : List Nat} (h : H l = some (.lst (natsV L))) : Dp K H (.ref l) (dN L) := .lst (SqL.of h) (dps_nats L)
theorem shaped_dN (L : List Nat) : SeqAt.shaped (dN L) = true := by
  have h : ∀ L : List Nat, PyData.canLayAll0 (L.map fun n => PyData.int (n : Nat)) = true ∧ PyData.depthAll (L.map fun n => PyData.int (n : Nat)) = 0 := fun L => by
    induction L with
    | nil => exact ⟨rfl, rfl⟩
    | cons n L ih => exact ⟨by rw [List.map_cons]; simp only [PyData.canLayAll0, PyData.canLay0, ih.1, Bool.and_true], by rw [List.map_cons]; simp only [PyData.depthAll, PyData.depth, ih.2]; rfl⟩
  unfold SeqAt.shaped dN
  rw [Bool.and_eq_true, decide_eq_true_eq]
  exact ⟨by simp only [PyData.canLay0]; exact (h L).1, by simp only [PyData.depth, (h L).2]; omega⟩
theorem eqv_dN (L M : List Nat) : PyData.eqv (dN L) (dN M) = decide (L = M) := by
  unfold dN
  simp only [PyData.eqv]
  induction L generalizing M with
  | nil => cases M <;> simp [PyData.eqvAll]
  | cons n L ih =>
    cases M with
    | nil => simp [PyData.eqvAll]
    | cons m M =>
      simp only [List.map_cons, PyData.eqvAll, ih, PyData.eqv]
      apply Bool.eq_iff_iff.mpr
      simp only [Bool.and_eq_true, beq_iff_eq, decide_eq_true_eq, List.cons.injEq, Int.natCast_inj]
theorem good_small {d i : Nat} {r s : List Nat} : ∀ n ∈ good d r s i, n < s.length := fun n hn => List.mem_range.mp (List.mem_filter.mp hn).1
theorem good_len {d i : Nat} {r s : List Nat} : (good d r s i).length ≤ s.length := filt_few _ _
theorem al_good {d i : Nat} {r s : List Nat} (a : Al (d + 1) r s) (hi : i < r.length) : good d r s i ≠ [] := fun e => by
  obtain ⟨j, e2, h1, h2⟩ := a.1 i _ (List.getElem?_eq_getElem hi)
  have hj := (List.getElem?_eq_some_iff.mp e2).1
  have : j ∈ good d r s i := List.mem_filter.mpr ⟨List.mem_range.mpr hj, ansB_iff.mpr ⟨by rw [e2, List.getElem?_eq_getElem hi], hi, hj, h1, h2⟩⟩
  rw [e] at this
  exact nomatch this
end M
namespace M
open PySem PySem.Spec L2 Evl
open PyProof.Rows hiding St
theorem Pl.old {H0 H H' : Hp} {p q : Addr} {m : Nat} (h : Pl H0 H p m) (hq : H0 q = none) (np : p ≠ q) (old : ∀ b o, b ≠ q → H b = some o → H' b = some o) : Pl H0 H' p m := by
  obtain ⟨a, b, c, h1, r⟩ := h.at_
  exact ⟨fun b o e => old b o (ne_of_none e hq) (h.ex b o e), h.out, a, b, c, old _ _ np h1, r⟩
theorem Pl.tk {H0 H H' : Hp} {p : Addr} {m : Nat} (h : Pl H0 H p m) (x : ∀ b, b ≠ p → H' b = H b) : Tk H H' := fun b ys e => by
  obtain ⟨a, b', c, h1, _⟩ := h.at_
  rw [x b fun z => by rw [z, h1] at e; exact nomatch e]
  exact e
end M
namespace M
open PySem PySem.Spec L2 Evl
open PyProof.Rows hiding St
def sameM (a b d : Nat) : Bool := decide (a = b ∨ (2 ^ d - 1 ≤ a ∧ 2 ^ d - 1 ≤ b))
def sp_same : Sp := fun vs H Q _ => ∃ (a b d : Nat), vs = [.int (a : Nat), .int (b : Nat), .int (d : Nat)] ∧ a ≤ 100 ∧ b ≤ 100 ∧ d ≤ 10 ∧ Q (.bl (sameM a b d)) H
theorem same_al {a b d c : Nat} : sameM a b d = true ↔ Al d (List.replicate a c) (List.replicate b c) := by
  unfold sameM
  rw [decide_eq_true_eq, one_al]
theorem rep_get {n c i : Nat} (h : i < n) : (List.replicate n c)[i]? = some c := by
  rw [List.getElem?_replicate, if_pos h]
theorem one_ans {d m n i j c : Nat} (hi : i < m) (hj : j < n) : ansB d (List.replicate m c) (List.replicate n c) i j = (sameM i j d && sameM (m - 1 - i) (n - 1 - j) d) := by
  refine Bool.eq_iff_iff.mpr ?_
  rw [ansB_iff, Bool.and_eq_true, same_al (c := c), same_al (c := c)]
  unfold Ans
  rw [rep_get hi, rep_get hj, List.length_replicate, List.length_replicate, List.take_replicate, List.take_replicate, List.drop_replicate, List.drop_replicate, Nat.min_eq_left (Nat.le_of_lt hi), Nat.min_eq_left (Nat.le_of_lt hj),
    show m - (i + 1) = m - 1 - i by omega, show n - (j + 1) = n - 1 - j by omega]
  exact ⟨fun h => ⟨h.2.2.2.1, h.2.2.2.2⟩, fun h => ⟨rfl, hi, hj, h.1, h.2⟩⟩
end M
end

section
set_option Elab.async false
set_option linter.all false
set_option maxRecDepth 100000
set_option maxHeartbeats 2000000
/-! picks without an answer: lists of pairs -/
namespace M
open PySem PySem.Spec L2 Evl
open PyProof.Rows hiding St
def Prs (H : Hp) (rs : List V) (ps : List (Nat × Nat)) : Prop := ∃ L : List (Addr × (Nat × Nat)), rs = L.map (fun p => V.ref p.1) ∧ ps = L.map (·.2) ∧ ∀ p ∈ L, H p.1 = some (.tup [.int (p.2.1 : Nat), .int (p.2.2 : Nat)])
theorem Prs.nil {H : Hp} : Prs H [] [] := ⟨[], rfl, rfl, fun p h => nomatch h⟩
theorem Prs.up {H H' : Hp} (x : Tk H H') {rs : List V} {ps : List (Nat × Nat)} (h : Prs H rs ps) : Prs H' rs ps := by
  obtain ⟨L, h1, h2, h3⟩ := h
  exact ⟨L, h1, h2, fun p hp => x _ _ (h3 p hp)⟩
theorem Prs.len {H : Hp} {rs : List V} {ps : List (Nat × Nat)} (h : Prs H rs ps) : rs.length = ps.length := by
  obtain ⟨L, rfl, rfl, _⟩ := h
  simp
theorem Prs.snoc {H : Hp} {rs : List V} {ps : List (Nat × Nat)} (h : Prs H rs ps) {a : Addr} {x y : Nat} (e : H a = some (.tup [.int (x : Nat), .int (y : Nat)])) : Prs H (rs ++ [.ref a]) (ps ++ [(x, y)]) := by
  obtain ⟨L, rfl, rfl, h3⟩ := h
  refine ⟨L ++ [(a, (x, y))], by simp, by simp, fun p hp => ?_⟩
  rcases List.mem_append.mp hp with hp | hp
  · exact h3 p hp
  · rw [List.mem_singleton.mp hp]; exact e
theorem Prs.at {H : Hp} {rs : List V} {ps : List (Nat × Nat)} (h : Prs H rs ps) {i : Nat} {p : Nat × Nat} (e : ps[i]? = some p) : ∃ a, rs[i]? = some (.ref a) ∧ H a = some (.tup [.int (p.1 : Nat), .int (p.2 : Nat)]) := by
  obtain ⟨L, rfl, rfl, h3⟩ := h
  rw [List.getElem?_map] at e
  obtain ⟨q, h1, rfl⟩ := Option.map_eq_some_iff.mp e
  exact ⟨q.1, by rw [List.getElem?_map, h1]; rfl, h3 q (List.mem_of_getElem? h1)⟩
noncomputable def lone (d : Nat) (r s : List Nat) (i : Nat) : Bool := (good d r s i).isEmpty
noncomputable def side (sd d : Nat) (r s : List Nat) : List (Nat × Nat) := ((List.range r.length).filter (lone d r s)).map fun i => (sd, i)
noncomputable def winP (d : Nat) (r s : List Nat) : List (Nat × Nat) := side 0 d r s ++ side 1 d s r
theorem side_len {sd d : Nat} {r s : List Nat} : (side sd d r s).length ≤ r.length := by
  unfold side
  rw [List.length_map]
  exact filt_few _ _
def sp_picks (P : Program) (w : World) (C : Addr) : Sp := fun vs H Q _ => ∃ (k : KC) (Ls : List Addr) (t : KTab) (d : Nat) (y z : Str), vs = [.ref k.x, .str y, .str z, .int ((d + 1 : Nat) : Int)] ∧ KS P w C k Ls H t ∧ d ≤ k.D ∧ d ≤ 8 ∧ codes y ∈ k.S ∧ codes z ∈ k.S ∧ (∀ c ∈ codes y, c < 1114112) ∧ (∀ c ∈ codes z, c < 1114112) ∧
  ∀ (l : Addr) rs t' Ls' H', KS P w C k Ls' H' t' → Stp k Ls H t Ls' H' t' → H l = none → H' l = some (.lst rs) → Prs H' rs (winP d (codes y) (codes z)) → Q (.ref l) H'
noncomputable def wins (d : Nat) (r s : List Nat) : List (Nat × Nat) := match d with
  | 0 => []
  | d + 1 => winP d r s
def sp_wins : Sp := fun vs H Q _ => ∃ (d : Nat) (y z : Str), vs = [.str y, .str z, .int (d : Nat)] ∧ Abc y ∧ Abc z ∧ y.length ≤ 60 ∧ z.length ≤ 60 ∧ d ≤ 8 ∧
  ∀ (l : Addr) rs H', Ex H H' → H l = none → H' l = some (.lst rs) → Prs H' rs (wins d (codes y) (codes z)) → Q (.ref l) H'
/-- rows that are not alike have a pick without an answer -/
theorem wins_ne {d : Nat} {r s : List Nat} : winP d r s = [] ↔ Al (d + 1) r s := by
  unfold winP side
  rw [List.append_eq_nil_iff, List.map_eq_nil_iff, List.map_eq_nil_iff, List.filter_eq_nil_iff, List.filter_eq_nil_iff]
  have one : ∀ {r s : List Nat}, (∀ i ∈ List.range r.length, ¬ lone d r s i = true) → ∀ i c, r[i]? = some c → ∃ j, s[j]? = some c ∧ Al d (r.take i) (s.take j) ∧ Al d (r.drop (i + 1)) (s.drop (j + 1)) := fun {r s} h i c e => by
    have hi := (List.getElem?_eq_some_iff.mp e).1
    have := h i (List.mem_range.mpr hi)
    unfold lone at this
    rw [List.isEmpty_iff] at this
    obtain ⟨j, hj⟩ := List.exists_mem_of_ne_nil _ this
    have a := ansB_iff.mp (List.mem_filter.mp hj).2
    exact ⟨j, by rw [← a.1, e], a.2.2.2.1, a.2.2.2.2⟩
  constructor
  · intro ⟨h1, h2⟩
    refine ⟨fun i c e => one h1 i c e, fun j c e => ?_⟩
    obtain ⟨i, e2, a1, a2⟩ := one h2 j c e
    exact ⟨i, e2, a1.symm, a2.symm⟩
  · intro a
    refine ⟨fun i hi hl => ?_, fun i hi hl => ?_⟩
    · exact al_good a (List.mem_range.mp hi) (List.isEmpty_iff.mp hl)
    · exact al_good a.symm (List.mem_range.mp hi) (List.isEmpty_iff.mp hl)
theorem mem_wins {d : Nat} {r s : List Nat} {p : Nat × Nat} (h : p ∈ winP d r s) : (p.1 = 0 ∧ p.2 < r.length ∧ good d r s p.2 = []) ∨ (p.1 = 1 ∧ p.2 < s.length ∧ good d s r p.2 = []) := by
  unfold winP side at h
  rcases List.mem_append.mp h with h | h
  · obtain ⟨i, hi, rfl⟩ := List.mem_map.mp h
    exact .inl ⟨rfl, List.mem_range.mp (List.mem_filter.mp hi).1, List.isEmpty_iff.mp (List.mem_filter.mp hi).2⟩
  · obtain ⟨i, hi, rfl⟩ := List.mem_map.mp h
    exact .inr ⟨rfl, List.mem_range.mp (List.mem_filter.mp hi).1, List.isEmpty_iff.mp (List.mem_filter.mp hi).2⟩
end M
namespace M
open PySem PySem.Spec L2 Evl
open PyProof.Rows hiding St
noncomputable def prog (d : Nat) (r s : List Nat) (i : Nat) : List (Nat × Nat) := if i = 0 then [] else if i = 1 then side 0 d r s else winP d r s
theorem range_filt (f : Nat → Bool) (j : Nat) : (List.range (j + 1)).filter f = (List.range j).filter f ++ (if f j = true then [j] else []) := by
  rw [List.range_succ, List.filter_append]
  congr 1
  show List.filter _ [j] = _
  rw [List.filter_cons]
  rfl
theorem lone_false {d i : Nat} {r s : List Nat} : (good d r s i).length = 0 ↔ lone d r s i = true := by
  unfold lone
  rw [List.isEmpty_iff, List.length_eq_zero_iff]
end M
namespace M
open PySem PySem.Spec L2 Evl
open PyProof.Rows hiding St
def seg (r : List Nat) (b e : Nat) : List Nat := (r.drop b).take (e - b)
theorem codes_seg {z : Str} {b e : Nat} (hb : b ≤ e) (h : e ≤ z.length) : codes (cutS z (some ((b : Nat) : Int)) (some ((e : Nat) : Int))) = seg (codes z) b e := by
  have e1 : HT.sIx z.length 0 (some ((b : Nat) : Int)) = b := by rw [HT.sIx_nat]; exact Nat.min_eq_left (by omega)
  have e2 : HT.sIx z.length z.length (some ((e : Nat) : Int)) = e := by rw [HT.sIx_nat]; exact Nat.min_eq_left h
  show ((z.cps.toList.drop (HT.sIx z.length 0 (some ((b : Nat) : Int)))).take (HT.sIx z.length z.length (some ((e : Nat) : Int)) - HT.sIx z.length 0 (some ((b : Nat) : Int)))).toArray.toList = _
  rw [e1, e2]
  rfl
theorem seg_len {r : List Nat} {b e : Nat} (h : e ≤ r.length) : (seg r b e).length = e - b := by
  unfold seg
  rw [List.length_take, List.length_drop]
  omega
theorem seg_take {r : List Nat} {b e i : Nat} (h : b + i ≤ e) : (seg r b e).take i = seg r b (b + i) := by
  unfold seg
  rw [List.take_take, Nat.min_eq_left (by omega), show b + i - b = i by omega]
theorem seg_drop {r : List Nat} {b e i : Nat} : (seg r b e).drop i = seg r (b + i) e := by
  unfold seg
  rw [List.drop_take, List.drop_drop, show e - (b + i) = e - b - i by omega]
theorem seg_all {r : List Nat} : seg r 0 r.length = r := by
  unfold seg
  rw [List.drop_zero, Nat.sub_zero, List.take_length]
/-- a span: two stretches alike -/
def Spn (y z : Str) (d : Nat) (H : Hp) (v : V) : Prop := ∃ (a : Addr) (b e c f : Nat), v = .ref a ∧ H a = some (.tup [.int (b : Nat), .int (e : Nat), .int (c : Nat), .int (f : Nat)]) ∧ b ≤ e ∧ e ≤ y.length ∧ c ≤ f ∧ f ≤ z.length ∧ Al d (seg (codes y) b e) (seg (codes z) c f)
theorem Spn.up {y z : Str} {d d' : Nat} {H H' : Hp} {v : V} (h : Spn y z d H v) (hd : d' ≤ d) (x : Tk H H') : Spn y z d' H' v := by
  obtain ⟨a, b, e, c, f, h1, h2, h3, h4, h5, h6, h7⟩ := h
  exact ⟨a, b, e, c, f, h1, x _ _ h2, h3, h4, h5, h6, h7.mono hd⟩
theorem mem_cutV {xs : List V} {lo hi : Option Int} {v : V} (h : v ∈ cutV xs lo hi) : v ∈ xs := by
  unfold cutV at h
  exact List.mem_of_mem_drop (List.mem_of_mem_take h)
theorem len_cutV {xs : List V} {lo hi : Option Int} : (cutV xs lo hi).length ≤ xs.length := by
  unfold cutV
  rw [List.length_take, List.length_drop]
  omega
theorem al_nil2 {d : Nat} {s : List Nat} (h : Al (d + 1) [] s) : s = [] := by
  cases s with
  | nil => rfl
  | cons c s =>
    obtain ⟨i, e, _⟩ := h.2 0 c rfl
    simp at e
def sp_played : Sp := fun vs H Q _ => ∃ (H0 : Hp) (p : Addr) (m : Nat) (y z : Str) (d : Nat), vs = [.ref p, .str y, .str z, .int (d : Nat)] ∧ Pl H0 H p m ∧ m + 100 ≤ 2 ^ 20 ∧ Abc y ∧ Abc z ∧ y.length ≤ 10 ∧ z.length ≤ 10 ∧ d ≤ 4 ∧ Al d (codes y) (codes z) ∧
  ∀ H', Pl H0 H' p (m + 100) → Q (.bl true) H'
end M
namespace M
open PySem PySem.Spec L2 Evl
open PyProof.Rows hiding St
def dP (ps : List (Nat × Nat)) : PyData := .list (ps.map fun p => .tuple [.int (p.1 : Nat), .int (p.2 : Nat)])
theorem dp_prs {K : PySem.W.Frag} {H : Hp} {l : Addr} {rs : List V} {ps : List (Nat × Nat)} (h : H l = some (.lst rs)) (t : Prs H rs ps) : Dp K H (.ref l) (dP ps) := by
  refine .lst (SqL.of h) ?_
  obtain ⟨L, rfl, rfl, h3⟩ := t
  clear h
  induction L with
  | nil => exact .nil
  | cons p L ih => exact .cons (.tup (SqT.of (h3 p List.mem_cons_self)) (.cons (.int _) (.cons (.int _) .nil))) (ih fun q hq => h3 q (List.mem_cons_of_mem _ hq))
theorem shaped_dP (ps : List (Nat × Nat)) : SeqAt.shaped (dP ps) = true := by
  have h : ∀ ps : List (Nat × Nat), PyData.canLayAll0 (ps.map fun p => PyData.tuple [.int (p.1 : Nat), .int (p.2 : Nat)]) = true ∧ PyData.depthAll (ps.map fun p => PyData.tuple [.int (p.1 : Nat), .int (p.2 : Nat)]) ≤ 1 := fun ps => by
    induction ps with
    | nil => exact ⟨rfl, Nat.zero_le _⟩
    | cons n L ih =>
      have e : (PyData.tuple [.int (n.1 : Nat), .int (n.2 : Nat)]).depth = 1 := rfl
      exact ⟨by rw [List.map_cons]; simp only [PyData.canLayAll0, PyData.canLay0, ih.1, Bool.and_true], by rw [List.map_cons]; simp only [PyData.depthAll, e]; omega⟩
  unfold SeqAt.shaped dP
  rw [Bool.and_eq_true, decide_eq_true_eq]
  have := (h ps).2
  exact ⟨by simp only [PyData.canLay0]; exact (h ps).1, by simp only [PyData.depth]; omega⟩
theorem eqv_dP_nil {ps : List (Nat × Nat)} (h : ps ≠ []) : PyData.eqv (dP ps) (dN []) = false := by
  cases ps with
  | nil => exact absurd rfl h
  | cons p ps => unfold dP dN; simp [PyData.eqv, PyData.eqvAll]
end M
end

section
set_option Elab.async false
set_option linter.all false
set_option maxRecDepth 100000
set_option maxHeartbeats 2000000
/-! k09: a row's members by a law's own kinds -/
namespace M
open PySem PySem.Spec L2 Evl
open PyProof.Rows hiding St
def LPl (u : LTab) (d : Nat) (ms : List Mark) (r : List Nat) : Prop := ms.length = r.length ∧ ∀ i a c b, ms[i]? = some (a, c, b) → r[i]? = some c ∧ LRep u d a (r.take i) ∧ LRep u d b (r.drop (i + 1))
theorem LPl.up {u u' : LTab} {d : Nat} {ms : List Mark} {r : List Nat} (h : LPl u d ms r) (g : ∀ x ∈ u, x ∈ u') : LPl u' d ms r := ⟨h.1, fun i a c b e => let ⟨h1, h2, h3⟩ := h.2 i a c b e; ⟨h1, h2.up g, h3.up g⟩⟩
def sp_lmem (P : Program) (w : World) : Sp := fun vs H Q _ => ∃ (S : List (List Nat)) (D : Nat) (e : List NEnt) (u : LTab) (k : Addr) (z : Str) (d : Nat), vs = [.str z, .int ((d + 1 : Nat) : Int), .ref k] ∧ LK P w S D H k e u ∧ d < 7 ∧ d ≤ D ∧ codes z ∈ S ∧ (∀ c ∈ codes z, c < 1114112) ∧
  ∀ (l : Addr) rs ms e' u' H', LK P w S D H' k e' u' → (∀ x ∈ u, x ∈ u') → (∀ b o, b ≠ k → H b = some o → H' b = some o) → H l = none → H' l = some (.lst rs) → Trs H' rs ms → LPl u' d ms (codes z) → Q (.ref l) H'
/-- a member is among the other row's members if it has an answer -/
theorem lone_mem {S : List (List Nat)} {D d i : Nat} {u : LTab} {ms ns : List Mark} {m : Mark} {r s : List Nat} (T : LOk S D u) (h1 : LPl u d ms r) (h2 : LPl u d ns s) (e : ms[i]? = some m) : (!decide (m ∈ ns)) = lone d r s i := by
  obtain ⟨a, c, b⟩ := m
  obtain ⟨e1, r1, r2⟩ := h1.2 _ _ _ _ e
  have hi := (List.getElem?_eq_some_iff.mp e1).1
  have key : (a, c, b) ∈ ns ↔ good d r s i ≠ [] := by
    constructor
    · intro hm
      obtain ⟨j, hj⟩ := List.getElem?_of_mem hm
      obtain ⟨f1, q1, q2⟩ := h2.2 _ _ _ _ hj
      have hjs := (List.getElem?_eq_some_iff.mp f1).1
      have : j ∈ good d r s i := List.mem_filter.mpr ⟨List.mem_range.mpr hjs, ansB_iff.mpr ⟨by rw [e1, f1], hi, hjs, (LRep.iff T r1 q1).mp rfl, (LRep.iff T r2 q2).mp rfl⟩⟩
      exact List.ne_nil_of_mem this
    · intro hn
      obtain ⟨j, hj⟩ := List.exists_mem_of_ne_nil _ hn
      have an := ansB_iff.mp (List.mem_filter.mp hj).2
      obtain ⟨⟨a', c', b'⟩, hm⟩ : ∃ m', ns[j]? = some m' := ⟨_, List.getElem?_eq_getElem (by rw [h2.1]; exact an.2.2.1)⟩
      obtain ⟨f1, q1, q2⟩ := h2.2 _ _ _ _ hm
      have ec := an.1
      rw [e1, f1] at ec
      cases ec
      rw [(LRep.iff T r1 q1).mpr an.2.2.2.1, (LRep.iff T r2 q2).mpr an.2.2.2.2]
      exact List.mem_of_getElem? hm
  unfold lone
  refine Bool.eq_iff_iff.mpr ?_
  rw [Bool.not_eq_true', decide_eq_false_iff_not, key, List.isEmpty_iff]
  exact ⟨fun h => Classical.byContradiction h, fun h q => q h⟩
end M
namespace M
open PySem PySem.Spec L2 Evl
open PyProof.Rows hiding St
def sp_llone : Sp := fun vs H Q _ => ∃ (f g d : Nat), vs = [.int (f : Nat), .int (g : Nat), .int ((d + 1 : Nat) : Int)] ∧ f ≤ 50 ∧ g ≤ 50 ∧ d ≤ 9 ∧
  ∀ (l : Addr) H', Ex H H' → H l = none → H' l = some (.lst (natsV ((List.range f).filter (lone d (List.replicate f 97) (List.replicate g 97))))) → Q (.ref l) H'
theorem one_good {d f g i : Nat} (hi : i < f) : ((List.range g).filter fun j => sameM i j d).filter (fun j => sameM (f - 1 - i) (g - 1 - j) d) = good d (List.replicate f 97) (List.replicate g 97) i := by
  unfold good
  rw [List.filter_filter, List.length_replicate]
  refine List.filter_congr fun j hj => ?_
  rw [one_ans hi (List.mem_range.mp hj), Bool.and_comm]
end M
namespace M
open PySem PySem.Spec L2 Evl
open PyProof.Rows hiding St
theorem eqv_dP (L N : List (Nat × Nat)) : PyData.eqv (dP L) (dP N) = decide (L = N) := by
  unfold dP
  simp only [PyData.eqv]
  induction L generalizing N with
  | nil => cases N <;> simp [PyData.eqvAll]
  | cons n L ih =>
    cases N with
    | nil => simp [PyData.eqvAll]
    | cons m N =>
      obtain ⟨n1, n2⟩ := n
      obtain ⟨m1, m2⟩ := m
      simp only [List.map_cons, PyData.eqvAll, ih, PyData.eqv, Bool.and_true]
      apply Bool.eq_iff_iff.mpr
      simp only [Bool.and_eq_true, beq_iff_eq, decide_eq_true_eq, List.cons.injEq, Int.natCast_inj, Prod.mk.injEq]
theorem Prs.app {H : Hp} {rs us : List V} {ps qs : List (Nat × Nat)} (h : Prs H rs ps) (g : Prs H us qs) : Prs H (rs ++ us) (ps ++ qs) := by
  obtain ⟨L, rfl, rfl, h3⟩ := h
  obtain ⟨N, rfl, rfl, g3⟩ := g
  refine ⟨L ++ N, by simp, by simp, fun p hp => ?_⟩
  rcases List.mem_append.mp hp with hp | hp
  · exact h3 p hp
  · exact g3 p hp
theorem side_one {sd d f g : Nat} : side sd d (List.replicate f 97) (List.replicate g 97) = ((List.range f).filter (lone d (List.replicate f 97) (List.replicate g 97))).map fun i => (sd, i) := by
  unfold side
  rw [List.length_replicate]
theorem map_take_succ {L : List Nat} {f : Nat → Nat × Nat} {j a : Nat} (h : L[j]? = some a) : (L.take (j + 1)).map f = (L.take j).map f ++ [f a] := by
  rw [List.take_succ, h, List.map_append]
  rfl
end M
namespace M
open PySem PySem.Spec L2 Evl
open PyProof.Rows hiding St
def keyP (H : Hp) : V → Int × Int
  | .ref t => match H t with
    | some (.tup [.int i, .int j]) => (i, j)
    | _ => (0, 0)
  | _ => (0, 0)
theorem keyP_at {H : Hp} {t : Addr} {i j : Int} (e : H t = some (.tup [.int i, .int j])) : keyP H (.ref t) = (i, j) := by
  simp only [keyP, e]
theorem Prs.keys {H : Hp} {rs : List V} {ps : List (Nat × Nat)} (h : Prs H rs ps) : rs.map (keyP H) = ps.map fun p => (((p.1 : Nat) : Int), ((p.2 : Nat) : Int)) := by
  obtain ⟨L, rfl, rfl, h3⟩ := h
  rw [List.map_map, List.map_map]
  refine List.map_congr_left fun p hp => ?_
  show keyP H (.ref p.1) = _
  rw [keyP_at (h3 p hp)]
  rfl
theorem Prs.all {H : Hp} {rs : List V} {ps : List (Nat × Nat)} (h : Prs H rs ps) : ∀ x ∈ rs, ∃ t, x = V.ref t ∧ H t = some (.tup [.int (keyP H x).1, .int (keyP H x).2]) := fun x hx => by
  obtain ⟨L, rfl, rfl, h3⟩ := h
  obtain ⟨p, hp, rfl⟩ := List.mem_map.mp hx
  have e := h3 p hp
  refine ⟨p.1, rfl, ?_⟩
  rw [keyP_at e]
  exact e
theorem Prs.split {H : Hp} {xs : List V} {A B : List (Nat × Nat)} (h : Prs H xs (A ++ B)) : ∃ rs us, xs = rs ++ us ∧ Prs H rs A ∧ Prs H us B := by
  obtain ⟨L, rfl, e, h3⟩ := h
  obtain ⟨L1, L2, rfl, e1, e2⟩ := List.map_eq_append_iff.mp e.symm
  exact ⟨_, _, List.map_append, ⟨L1, rfl, e1.symm, fun p hp => h3 p (List.mem_append.mpr (.inl hp))⟩, ⟨L2, rfl, e2.symm, fun p hp => h3 p (List.mem_append.mpr (.inr hp))⟩⟩
def lexN (p q : Nat × Nat) : Prop := p.1 < q.1 ∨ (p.1 = q.1 ∧ p.2 < q.2)
theorem side_rise {sd d : Nat} {r s : List Nat} : (side sd d r s).Pairwise lexN := by
  unfold side
  refine List.pairwise_map.mpr ?_
  refine List.Pairwise.filter _ ?_
  exact List.pairwise_lt_range.imp fun h => .inr ⟨rfl, h⟩
theorem side_fst {sd d : Nat} {r s : List Nat} : ∀ p ∈ side sd d r s, p.1 = sd := fun p hp => by
  unfold side at hp
  obtain ⟨i, _, rfl⟩ := List.mem_map.mp hp
  rfl
theorem sort_pairs {H : Hp} {xs ys : List V} {A B : List (Nat × Nat)} (h : Prs H xs (A ++ B)) (hA : A.Pairwise lexN) (hB : B.Pairwise lexN) (ab : ∀ a ∈ A, ∀ b ∈ B, b.1 < a.1) (h1 : SrtO.Srtd (ltP (keyP H)) ys) (h2 : SrtO.Stb (ltP (keyP H)) ys xs) : Prs H ys (B ++ A) := by
  obtain ⟨rs, us, rfl, pr, pu⟩ := h.split
  have key : ∀ {vs : List V} {ps : List (Nat × Nat)}, Prs H vs ps → ps.Pairwise lexN → vs.Pairwise fun x y => ltP (keyP H) y x = false := fun {vs ps} p hp => by
    have : (vs.map (keyP H)).Pairwise fun p q => SrtO.lexB q p = false := by
      rw [p.keys]
      refine List.pairwise_map.mpr (hp.imp fun {a b} h => ?_)
      refine SrtO.lexB_no.mpr ?_
      unfold lexN at h
      show ¬ (((b.1 : Nat) : Int) < ((a.1 : Nat) : Int) ∨ (((b.1 : Nat) : Int) = ((a.1 : Nat) : Int) ∧ ((b.2 : Nat) : Int) < ((a.2 : Nat) : Int)))
      omega
    exact List.pairwise_map.mp this
  have pall := Prs.app pu pr
  have hBA : (B ++ A).Pairwise lexN := List.pairwise_append.mpr ⟨hB, hA, fun b hb a ha => .inl (ab a ha b hb)⟩
  have s1 := key pall hBA
  have sw : SrtO.Stb (ltP (keyP H)) (us ++ rs) (rs ++ us) := SrtO.Stb.swap (ltP_swo _) fun a ha b hb => by
    have ka : keyP H a ∈ us.map (keyP H) := List.mem_map.mpr ⟨a, ha, rfl⟩
    have kb : keyP H b ∈ rs.map (keyP H) := List.mem_map.mpr ⟨b, hb, rfl⟩
    rw [pu.keys] at ka
    rw [pr.keys] at kb
    obtain ⟨p, hp, ep⟩ := List.mem_map.mp ka
    obtain ⟨q, hq, eq⟩ := List.mem_map.mp kb
    refine SrtO.lexB_iff.mpr (.inl ?_)
    rw [← ep, ← eq]
    have := ab q hq p hp
    show ((p.1 : Nat) : Int) < ((q.1 : Nat) : Int)
    omega
  have sym : SrtO.Stb (ltP (keyP H)) (rs ++ us) (us ++ rs) := ⟨sw.perm.symm, fun x => (sw.cls x).symm⟩
  rw [SrtO.stb_uniq (ltP_swo _) h1 s1 (h2.trans sym)]
  exact pall
end M
namespace M
open PySem PySem.Spec L2 Evl
open PyProof.Rows hiding St
theorem sml_dP {L : List (Nat × Nat)} {k : Nat} (h : ∀ p ∈ L, p.1 < 128 ∧ p.2 < 128) (hl : L.length ≤ k) : Sml (dP L) 2 (k * 17) := by
  refine Sml.up (sml_list (D := 1) (W := 16) fun d hd => ?_) (Nat.le_refl _) ?_
  · obtain ⟨p, hp, rfl⟩ := List.mem_map.mp hd
    have := h p hp
    exact sml_tup (ds := [.int (p.1 : Nat), .int (p.2 : Nat)]) fun d hd => by
      simp only [List.mem_cons, List.not_mem_nil, or_false] at hd
      rcases hd with rfl | rfl
      · exact sml_int this.1
      · exact sml_int this.2
  · rw [List.length_map]
    exact Nat.mul_le_mul_right _ hl
theorem sml_dPP {L : List (Nat × Nat)} {k : Nat} (h : ∀ p ∈ L, p.1 < 128 ∧ p.2 < 128) (hl : L.length ≤ k) : Sml (.list [dP L, dP L]) 3 (2 * (k * 17 + 1)) :=
  sml_list (ds := [dP L, dP L]) fun d hd => by
    simp only [List.mem_cons, List.not_mem_nil, or_false] at hd
    rcases hd with rfl | rfl <;> exact sml_dP h hl
theorem wins_small {d : Nat} {r s : List Nat} (hr : r.length ≤ 9) (hs : s.length ≤ 9) : (∀ p ∈ wins d r s, p.1 < 128 ∧ p.2 < 128) ∧ (wins d r s).length ≤ 18 := by
  cases d with
  | zero => exact ⟨fun p hp => (nomatch hp), Nat.zero_le _⟩
  | succ d =>
    show (∀ p ∈ winP d r s, _) ∧ (winP d r s).length ≤ 18
    refine ⟨fun p hp => ?_, ?_⟩
    · rcases mem_wins hp with ⟨h1, h2, _⟩ | ⟨h1, h2, _⟩ <;> omega
    · unfold winP
      rw [List.length_append]
      have h1 := side_len (sd := 0) (d := d) (r := r) (s := s)
      have h2 := side_len (sd := 1) (d := d) (r := s) (s := r)
      omega
theorem wins_al {d : Nat} {r s : List Nat} : wins d r s = [] ↔ Al d r s := by
  cases d with
  | zero => exact ⟨fun _ => trivial, fun _ => rfl⟩
  | succ d => exact wins_ne
/-- the picks told about -/
theorem turned_side {sd d : Nat} {r s : List Nat} : (side sd d r s).map (fun p => (1 - p.1, p.2)) = side (1 - sd) d r s := by
  unfold side
  rw [List.map_map]
  rfl
theorem turned_wins {H : Hp} {d : Nat} {r s : List Nat} {xs ys : List V} (h : Prs H xs ((wins d r s).map fun p => (1 - p.1, p.2))) (h1 : SrtO.Srtd (ltP (keyP H)) ys) (h2 : SrtO.Stb (ltP (keyP H)) ys xs) : Prs H ys (wins d s r) := by
  cases d with
  | zero =>
    have e := h.len
    have : xs = [] := List.length_eq_zero_iff.mp e
    subst this
    have : ys = [] := List.Perm.eq_nil h2.perm
    subst this
    exact .nil
  | succ d =>
    have h : Prs H xs ((winP d r s).map fun p => (1 - p.1, p.2)) := h
    unfold winP at h
    rw [List.map_append, turned_side, turned_side] at h
    refine sort_pairs (A := side 1 d r s) (B := side 0 d s r) h side_rise side_rise (fun a ha b hb => ?_) h1 h2
    rw [side_fst a ha, side_fst b hb]
    decide
theorem dN_nil : dN [] = dP [] := rfl
theorem mapP_take_succ {L : List (Nat × Nat)} {f : Nat × Nat → Nat × Nat} {j : Nat} {a : Nat × Nat} (h : L[j]? = some a) : (L.take (j + 1)).map f = (L.take j).map f ++ [f a] := by
  rw [List.take_succ, h, List.map_append]
  rfl
end M
namespace M
theorem mem_wins2 {d : Nat} {r s : List Nat} {p : Nat × Nat} (h : p ∈ wins d r s) : ∃ e, d = e + 1 ∧ ((p.1 = 0 ∧ p.2 < r.length ∧ good e r s p.2 = []) ∨ (p.1 = 1 ∧ p.2 < s.length ∧ good e s r p.2 = [])) := by
  cases d with
  | zero => exact nomatch h
  | succ d => exact ⟨d, rfl, mem_wins h⟩
end M
end

section
set_option Elab.async false
set_option linter.all false
set_option maxRecDepth 100000
set_option maxHeartbeats 4000000
/-! k19: rows turned about -/
namespace M
open PySem PySem.Spec L2 Evl
open PyProof.Rows hiding St
end M
end

section
set_option Elab.async false
set_option linter.all false
set_option maxRecDepth 100000
set_option maxHeartbeats 2000000
/-! the question that parts two rows -/
namespace M
open PySem L2 Evl
open PyProof.Rows hiding St
/-- alike rows let the same questions -/
theorem al_lt : ∀ (q : Qn) {d : Nat} {r s : List Nat}, q.deep ≤ d → Al d r s → lt q r = lt q s
  | .any, _, _, _, _, _ => rfl
  | .no q, d, r, s, h, a => by simp only [lt]; rw [al_lt q h a]
  | .both p q, d, r, s, h, a => by
    simp only [Qn.deep] at h
    simp only [lt]; rw [al_lt p (by omega) a, al_lt q (by omega) a]
  | .some p c q, d, r, s, h, a => by
    simp only [Qn.deep] at h
    obtain ⟨d, rfl⟩ : ∃ e, d = e + 1 := ⟨d - 1, by omega⟩
    have one : ∀ {r s : List Nat}, Al (d + 1) r s → lt (.some p c q) r = true → lt (.some p c q) s = true := fun {r s} a h1 => by
      simp only [lt, List.any_eq_true, List.mem_range, Bool.and_eq_true, decide_eq_true_eq] at h1 ⊢
      obtain ⟨i, hi, e, l1, l2⟩ := h1
      obtain ⟨j, e2, a1, a2⟩ := a.1 i c e
      exact ⟨j, (List.getElem?_eq_some_iff.mp e2).1, e2, by rw [← al_lt p (by omega) a1]; exact l1, by rw [← al_lt q (by omega) a2]; exact l2⟩
    exact Bool.eq_iff_iff.mpr ⟨one a, one a.symm⟩
/-! ### the least depth that parts -/
def IsPd (n : Nat) (r s : List Nat) : Prop := ¬ Al n r s ∧ ∀ e, e < n → Al e r s
theorem IsPd.one {n m : Nat} {r s : List Nat} (h : IsPd n r s) (g : IsPd m r s) : n = m := by
  rcases Nat.lt_trichotomy n m with z | z | z
  · exact absurd (g.2 n z) h.1
  · exact z
  · exact absurd (h.2 m z) g.1
theorem IsPd.le {n d : Nat} {r s : List Nat} (h : IsPd n r s) (g : ¬ Al d r s) : n ≤ d := Nat.le_of_not_lt fun z => g (h.2 d z)
theorem IsPd.symm {n : Nat} {r s : List Nat} (h : IsPd n r s) : IsPd n s r := ⟨fun a => h.1 a.symm, fun e he => (h.2 e he).symm⟩
theorem pdn_least : ∀ {d : Nat} {r s : List Nat}, ¬ Al d r s → ∃ n, IsPd n r s
  | 0, _, _, h => absurd trivial h
  | d + 1, r, s, h => by
    by_cases g : Al d r s
    · exact ⟨d + 1, h, fun e he => g.mono (by omega)⟩
    · exact pdn_least g
theorem pdn_ex {r s : List Nat} (h : r ≠ s) : ∃ n, IsPd n r s := pdn_least (d := r.length + 1) fun a => h (al_short (r.length + 1) (by
  have : r.length + 1 < 2 ^ (r.length + 1) := Nat.lt_two_pow_self
  omega) a)
open Classical in
noncomputable def pdn (r s : List Nat) : Nat := if h : ∃ n, IsPd n r s then Classical.choose h else 0
theorem pdn_is {r s : List Nat} (h : r ≠ s) : IsPd (pdn r s) r s := by
  unfold pdn
  rw [dif_pos (pdn_ex h)]
  exact Classical.choose_spec (pdn_ex h)
theorem pdn_eq {n : Nat} {r s : List Nat} (h : IsPd n r s) : pdn r s = n := IsPd.one (pdn_is fun e => h.1 (by rw [e]; exact Al.refl _ _)) h
theorem pdn_pos {r s : List Nat} (h : r ≠ s) : 0 < pdn r s := Nat.pos_of_ne_zero fun z => (pdn_is h).1 (by rw [z]; trivial)
theorem pdn_short {r s : List Nat} {d : Nat} (h : r ≠ s) (hl : r.length < 2 ^ d - 1) : pdn r s ≤ d := (pdn_is h).le fun a => h (al_short d hl a)
/-! ### the question, as it is put together -/
def joined (p q : Qn) : Qn := match p with
  | .any => q
  | _ => .both p q
theorem joined_lt (p q : Qn) (r : List Nat) : lt (joined p q) r = (lt p r && lt q r) := by
  cases p <;> simp [joined, lt]
theorem joined_deep (p q : Qn) : (joined p q).deep = max p.deep q.deep := by
  cases p <;> simp [joined, Qn.deep]
theorem joined_ok {p q : Qn} (h : p.Ok) (g : q.Ok) : (joined p q).Ok := by
  cases p
  · exact g
  all_goals exact ⟨h, g⟩
theorem joined_parts (p q : Qn) : (joined p q).parts ≤ p.parts + q.parts + 1 := by
  cases p <;> simp [joined, Qn.parts] <;> omega
theorem joined_hi (p q : Qn) : (joined p q).hi ≤ max p.hi q.hi + 1 := by
  cases p <;> simp [joined, Qn.hi] <;> omega
open Classical in
noncomputable def noLater (a a2 b b2 : List Nat) : Bool := if a = a2 then false else decide (b = b2 ∨ pdn a a2 ≤ pdn b b2)
section
variable (g : List Nat → List Nat → Qn) (r : List Nat) (i : Nat) (s : List Nat)
noncomputable def qstep (j : Nat) (p : Qn × Qn) : Qn × Qn :=
  if (s[j]? == r[i]?) = true ∧ (lt p.1 (s.take j) && lt p.2 (s.drop (j + 1))) = true then
    (if noLater (r.take i) (s.take j) (r.drop (i + 1)) (s.drop (j + 1)) = true then (joined p.1 (g (r.take i) (s.take j)), p.2) else (p.1, joined p.2 (g (r.drop (i + 1)) (s.drop (j + 1)))))
  else p
noncomputable def qfold : Nat → Qn × Qn
  | 0 => (.any, .any)
  | j + 1 => qstep g r i s j (qfold j)
noncomputable def qat : Qn := .some (qfold g r i s s.length).1 (r.getD i 0) (qfold g r i s s.length).2
end
noncomputable def qbet : Nat → List Nat → List Nat → Qn
  | 0, _, _ => .any
  | f + 1, r, s => match (winP (pdn r s - 1) r s)[0]? with
    | none => .any
    | some (sd, i) => if sd = 0 then qat (qbet f) r i s else .no (qat (qbet f) s i r)
/-- what is wanted of a question for two rows -/
structure Pts (q : Qn) (r s : List Nat) (bp bh : Nat) : Prop where
  yes : lt q r = true
  no : lt q s = false
  deep : q.deep ≤ pdn r s
  ok : (∀ c ∈ r, 97 ≤ c ∧ c ≤ 122) → (∀ c ∈ s, 97 ≤ c ∧ c ≤ 122) → q.Ok
  parts : q.parts ≤ bp
  hi : q.hi ≤ bh
/-- at a place without an answer to so many picks: each place of the other row parts ahead or behind, as the program looks -/
theorem no_later {m i j : Nat} {r s : List Nat} (h : good m r s i = []) (hi : i < r.length) (e : s[j]? = r[i]?) :
    (noLater (r.take i) (s.take j) (r.drop (i + 1)) (s.drop (j + 1)) = true → r.take i ≠ s.take j ∧ pdn (r.take i) (s.take j) ≤ m) ∧
    (noLater (r.take i) (s.take j) (r.drop (i + 1)) (s.drop (j + 1)) = false → r.drop (i + 1) ≠ s.drop (j + 1) ∧ pdn (r.drop (i + 1)) (s.drop (j + 1)) ≤ m) := by
  have hj : j < s.length := by
    rw [List.getElem?_eq_getElem hi] at e
    exact (List.getElem?_eq_some_iff.mp e).1
  have no : ¬ (Al m (r.take i) (s.take j) ∧ Al m (r.drop (i + 1)) (s.drop (j + 1))) := fun a => by
    have : j ∈ good m r s i := List.mem_filter.mpr ⟨List.mem_range.mpr hj, ansB_iff.mpr ⟨e.symm, hi, hj, a.1, a.2⟩⟩
    rw [h] at this
    exact nomatch this
  generalize r.take i = a at *
  generalize s.take j = a2 at *
  generalize r.drop (i + 1) = b at *
  generalize s.drop (j + 1) = b2 at *
  unfold noLater
  by_cases ea : a = a2
  · rw [if_pos ea]
    refine ⟨fun z => (nomatch z), fun _ => ?_⟩
    subst ea
    have nb : ¬ Al m b b2 := fun z => no ⟨Al.refl _ _, z⟩
    have ne : b ≠ b2 := fun z => nb (by rw [z]; exact Al.refl _ _)
    exact ⟨ne, (pdn_is ne).le nb⟩
  · rw [if_neg ea, decide_eq_true_eq, decide_eq_false_iff_not]
    refine ⟨fun z => ⟨ea, ?_⟩, fun z => ?_⟩
    · by_cases na : Al m a a2
      · have nb : ¬ Al m b b2 := fun q => no ⟨na, q⟩
        have ne : b ≠ b2 := fun z => nb (by rw [z]; exact Al.refl _ _)
        have := (pdn_is ne).le nb
        rcases z with z | z
        · exact absurd z ne
        · omega
      · exact (pdn_is ea).le na
    · have ne : b ≠ b2 := fun q => z (.inl q)
      refine ⟨ne, ?_⟩
      by_cases na : Al m a a2
      · exact (pdn_is ne).le fun q => no ⟨na, q⟩
      · have := (pdn_is ea).le na
        have : ¬ pdn a a2 ≤ pdn b b2 := fun q => z (.inr q)
        omega
/-- the questions for ahead and behind so far -/
structure QInv (r : List Nat) (i : Nat) (s : List Nat) (m bp bh : Nat) (j : Nat) (p : Qn × Qn) : Prop where
  yes1 : lt p.1 (r.take i) = true
  yes2 : lt p.2 (r.drop (i + 1)) = true
  d1 : p.1.deep ≤ m
  d2 : p.2.deep ≤ m
  ok : (∀ c ∈ r, 97 ≤ c ∧ c ≤ 122) → (∀ c ∈ s, 97 ≤ c ∧ c ≤ 122) → p.1.Ok ∧ p.2.Ok
  parts : p.1.parts + p.2.parts ≤ 2 + j * (bp + 1)
  h1 : p.1.hi ≤ bh + j
  h2 : p.2.hi ≤ bh + j
  no : ∀ k, k < j → s[k]? = r[i]? → (lt p.1 (s.take k) && lt p.2 (s.drop (k + 1))) = false
theorem mem_tak {c i : Nat} {r : List Nat} (h : c ∈ r.take i) : c ∈ r := List.mem_of_mem_take h
theorem qfold_inv {g : List Nat → List Nat → Qn} {m bp bh i : Nat} {r s : List Nat} (hg : ∀ a b, a.length ≤ r.length → b.length ≤ s.length → a ≠ b → pdn a b ≤ m → Pts (g a b) a b bp bh) (hb : 1 ≤ bh) (h : good m r s i = []) (hi : i < r.length) :
    ∀ j, QInv r i s m bp bh j (qfold g r i s j)
  | 0 => ⟨rfl, rfl, Nat.zero_le _, Nat.zero_le _, fun _ _ => ⟨trivial, trivial⟩, by show 1 + 1 ≤ _; omega, by show 1 ≤ _; omega, by show 1 ≤ _; omega, fun k hk => absurd hk (by omega)⟩
  | j + 1 => by
    have I := qfold_inv hg hb h hi j
    show QInv r i s m bp bh (j + 1) (qstep g r i s j (qfold g r i s j))
    generalize qfold g r i s j = p at *
    have e1 : (j + 1) * (bp + 1) = j * (bp + 1) + (bp + 1) := Nat.succ_mul _ _
    have lr1 : (r.take i).length ≤ r.length := List.length_take_le' _ _
    have lr2 : (r.drop (i + 1)).length ≤ r.length := by rw [List.length_drop]; omega
    have ls1 : (s.take j).length ≤ s.length := List.length_take_le' _ _
    have ls2 : (s.drop (j + 1)).length ≤ s.length := by rw [List.length_drop]; omega
    unfold qstep
    by_cases c1 : (s[j]? == r[i]?) = true ∧ (lt p.1 (s.take j) && lt p.2 (s.drop (j + 1))) = true
    · rw [if_pos c1]
      have e := beq_iff_eq.mp c1.1
      obtain ⟨n1, n2⟩ := no_later h hi e
      by_cases c2 : noLater (r.take i) (s.take j) (r.drop (i + 1)) (s.drop (j + 1)) = true
      · rw [if_pos c2]
        obtain ⟨ne, le⟩ := n1 c2
        have G := hg _ _ lr1 ls1 ne le
        have hp := joined_parts p.1 (g (r.take i) (s.take j))
        have hh := joined_hi p.1 (g (r.take i) (s.take j))
        have g1 := G.parts
        have g2 := G.hi
        have g3 := G.deep
        have i1 := I.parts
        have i2 := I.h1
        have i3 := I.h2
        have i4 := I.d1
        refine ⟨?_, I.yes2, ?_, I.d2, fun a b => ⟨joined_ok (I.ok a b).1 (G.ok (fun c hc => a c (mem_tak hc)) (fun c hc => b c (mem_tak hc))), (I.ok a b).2⟩, ?_, ?_, ?_, fun k hk ek => ?_⟩
        · show lt (joined _ _) _ = true
          rw [joined_lt, I.yes1, G.yes]; rfl
        · show (joined _ _).deep ≤ _
          rw [joined_deep]; omega
        · show (joined _ _).parts + p.2.parts ≤ _
          omega
        · show (joined _ _).hi ≤ _
          omega
        · show p.2.hi ≤ _
          omega
        · show (lt (joined _ _) _ && lt p.2 _) = false
          rw [joined_lt]
          by_cases q : k = j
          · subst q
            rw [G.no]
            simp
          · have := I.no k (by omega) ek
            cases u : lt p.1 (s.take k) with
            | false => rfl
            | true => rw [u, Bool.true_and] at this; rw [this]; simp
      · rw [if_neg c2]
        obtain ⟨ne, le⟩ := n2 (Bool.eq_false_iff.mpr c2)
        have G := hg _ _ lr2 ls2 ne le
        have hp := joined_parts p.2 (g (r.drop (i + 1)) (s.drop (j + 1)))
        have hh := joined_hi p.2 (g (r.drop (i + 1)) (s.drop (j + 1)))
        have g1 := G.parts
        have g2 := G.hi
        have g3 := G.deep
        have i1 := I.parts
        have i2 := I.h1
        have i3 := I.h2
        have i4 := I.d2
        refine ⟨I.yes1, ?_, I.d1, ?_, fun a b => ⟨(I.ok a b).1, joined_ok (I.ok a b).2 (G.ok (fun c hc => a c (List.mem_of_mem_drop hc)) (fun c hc => b c (List.mem_of_mem_drop hc)))⟩, ?_, ?_, ?_, fun k hk ek => ?_⟩
        · show lt (joined _ _) _ = true
          rw [joined_lt, I.yes2, G.yes]; rfl
        · show (joined _ _).deep ≤ _
          rw [joined_deep]; omega
        · show p.1.parts + (joined _ _).parts ≤ _
          omega
        · show p.1.hi ≤ _
          omega
        · show (joined _ _).hi ≤ _
          omega
        · show (lt p.1 _ && lt (joined _ _) _) = false
          rw [joined_lt]
          by_cases q : k = j
          · subst q
            rw [G.no]
            simp
          · have := I.no k (by omega) ek
            cases u : lt p.1 (s.take k) with
            | false => rfl
            | true => rw [u, Bool.true_and] at this; rw [this]; simp
    · rw [if_neg c1]
      have i1 := I.parts
      have i2 := I.h1
      have i3 := I.h2
      refine ⟨I.yes1, I.yes2, I.d1, I.d2, I.ok, by omega, by omega, by omega, fun k hk ek => ?_⟩
      by_cases q : k = j
      · subst q
        refine Bool.eq_false_iff.mpr fun z => c1 ⟨by rw [ek]; exact beq_self_eq_true _, z⟩
      · exact I.no k (by omega) ek
theorem qat_pts {g : List Nat → List Nat → Qn} {m bp bh i : Nat} {r s : List Nat} (hg : ∀ a b, a.length ≤ r.length → b.length ≤ s.length → a ≠ b → pdn a b ≤ m → Pts (g a b) a b bp bh) (hb : 1 ≤ bh) (h : good m r s i = []) (hi : i < r.length) (hp : pdn r s = m + 1) :
    Pts (qat g r i s) r s (3 + s.length * (bp + 1)) (bh + s.length + 1) := by
  have I := qfold_inv hg hb h hi s.length
  have er : r[i]? = some (r.getD i 0) := by rw [List.getD_eq_getElem?_getD, List.getElem?_eq_getElem hi]; rfl
  unfold qat
  generalize qfold g r i s s.length = p at *
  have i1 := I.parts
  have i2 := I.h1
  have i3 := I.h2
  have i4 := I.d1
  have i5 := I.d2
  refine ⟨?_, ?_, ?_, fun a b => ⟨(I.ok a b).1, a _ (List.mem_of_getElem? er), (I.ok a b).2⟩, ?_, ?_⟩
  · simp only [lt, List.any_eq_true, List.mem_range, Bool.and_eq_true, decide_eq_true_eq]
    exact ⟨i, hi, er, I.yes1, I.yes2⟩
  · refine Bool.eq_false_iff.mpr fun z => ?_
    simp only [lt, List.any_eq_true, List.mem_range, Bool.and_eq_true, decide_eq_true_eq] at z
    obtain ⟨j, hj, e, l1, l2⟩ := z
    have := I.no j hj (by rw [e, er])
    rw [l1, l2] at this
    exact nomatch this
  · rw [hp]
    show max _ _ + 1 ≤ _
    omega
  · show _ + _ + 1 ≤ _
    omega
  · show max _ _ + 1 ≤ _
    omega
def bpF (L : Nat) : Nat → Nat
  | 0 => 1
  | f + 1 => 4 + L * (bpF L f + 1)
def bhF (L : Nat) : Nat → Nat
  | 0 => 1
  | f + 1 => bhF L f + L + 2
theorem bhF_pos (L : Nat) : ∀ f, 1 ≤ bhF L f
  | 0 => Nat.le_refl _
  | f + 1 => by have := bhF_pos L f; show 1 ≤ bhF L f + L + 2; omega
theorem pdn_symm {r s : List Nat} (h : r ≠ s) : pdn s r = pdn r s := pdn_eq (pdn_is h).symm
theorem Pts.up {q : Qn} {r s : List Nat} {bp bh bp' bh' : Nat} (h : Pts q r s bp bh) (g1 : bp ≤ bp') (g2 : bh ≤ bh') : Pts q r s bp' bh' := ⟨h.yes, h.no, h.deep, h.ok, Nat.le_trans h.parts g1, Nat.le_trans h.hi g2⟩
theorem qbet_pts (L : Nat) : ∀ (f : Nat) (r s : List Nat), r.length ≤ L → s.length ≤ L → r ≠ s → pdn r s ≤ f → Pts (qbet f r s) r s (bpF L f) (bhF L f)
  | 0, r, s, _, _, ne, le => absurd (pdn_pos ne) (by omega)
  | f + 1, r, s, lr, ls, ne, le => by
    obtain ⟨m, hm⟩ : ∃ m, pdn r s = m + 1 := ⟨pdn r s - 1, by have := pdn_pos ne; omega⟩
    have nw : winP m r s ≠ [] := fun z => (pdn_is ne).1 (by rw [hm]; exact wins_ne.mp z)
    obtain ⟨x, xs, hx⟩ := List.exists_cons_of_ne_nil nw
    have hmem : x ∈ winP m r s := by rw [hx]; exact List.mem_cons_self
    have e0 : (winP (pdn r s - 1) r s)[0]? = some x := by rw [hm, Nat.add_sub_cancel, hx]; rfl
    obtain ⟨sd, i⟩ := x
    have ih : ∀ {r s : List Nat}, r.length ≤ L → s.length ≤ L → ∀ a b, a.length ≤ r.length → b.length ≤ s.length → a ≠ b → pdn a b ≤ m → Pts (qbet f a b) a b (bpF L f) (bhF L f) := by
      intro r s h1 h2 a b ha hb hne hle
      exact qbet_pts L f a b (by omega) (by omega) hne (by omega)
    have mono1 : ∀ n, n ≤ L → 3 + n * (bpF L f + 1) + 1 ≤ bpF L (f + 1) := fun n hn => by
      show _ ≤ 4 + L * (bpF L f + 1)
      have := Nat.mul_le_mul_right (bpF L f + 1) hn
      omega
    have mono2 : ∀ n, n ≤ L → bhF L f + n + 1 + 1 ≤ bhF L (f + 1) := fun n hn => by
      show _ ≤ bhF L f + L + 2
      omega
    rw [qbet, e0]
    show Pts (if sd = 0 then _ else _) r s _ _
    rcases mem_wins hmem with ⟨h0, hi, hg⟩ | ⟨h0, hi, hg⟩
    · have h0 : sd = 0 := h0
      rw [if_pos h0]
      exact (qat_pts (ih lr ls) (bhF_pos L f) hg hi hm).up (by have := mono1 _ ls; omega) (by have := mono2 _ ls; omega)
    · have h0 : sd = 1 := h0
      rw [if_neg (by omega)]
      have hi : i < s.length := hi
      have P : Pts (qat (qbet f) s i r) s r _ _ := qat_pts (ih ls lr) (bhF_pos L f) hg hi (by rw [pdn_symm ne]; exact hm)
      have p1 := P.parts
      have p2 := P.hi
      have p3 := P.deep
      rw [pdn_symm ne] at p3
      have q1 := mono1 _ lr
      have q2 := mono2 _ lr
      refine ⟨?_, ?_, p3, fun a b => P.ok b a, ?_, ?_⟩
      · simp only [lt]; rw [P.no]; rfl
      · simp only [lt]; rw [P.yes]; rfl
      · show _ + 1 ≤ _
        omega
      · show _ + 1 ≤ _
        omega
end M
end

section
set_option Elab.async false
set_option linter.all false
set_option maxRecDepth 100000
set_option maxHeartbeats 2000000
/-! what the functions that put a question together promise -/
namespace M
open PySem PySem.Spec L2 Evl
open PyProof.Rows hiding St
/-- the tuples of a heap alone -/
def tpo (H : Hp) : Hp := fun a => match H a with
  | some (.tup xs) => some (.tup xs)
  | _ => none
theorem tpo_at {H : Hp} {a : Addr} {xs : List V} (h : H a = some (.tup xs)) : tpo H a = some (.tup xs) := by unfold tpo; rw [h]
theorem tpo_ex (H : Hp) : Ex (tpo H) H := fun b o e => by
  unfold tpo at e
  split at e
  · rename_i h
    rw [h]; exact e
  · exact nomatch e
theorem tpo_up {H H' : Hp} (h : Tk H H') : Ex (tpo H) (tpo H') := fun b o e => by
  unfold tpo at e
  split at e
  · rename_i xs h1
    cases e
    exact tpo_at (h _ _ h1)
  · exact nomatch e
/-- a question as data, of tuples alone -/
def QD (K : PySem.W.Frag) (H : Hp) (v : V) (q : Qn) : Prop := Dp K (tpo H) v q.d
theorem QD.up {K : PySem.W.Frag} {H H' : Hp} {v : V} {q : Qn} (h : QD K H v q) (x : Tk H H') : QD K H' v q := Dp.up h (tpo_up x)
theorem QD.dp {K : PySem.W.Frag} {H : Hp} {v : V} {q : Qn} (h : QD K H v q) : Dp K H v q.d := Dp.up h (tpo_ex H)
theorem QD.any {K : PySem.W.Frag} {H : Hp} {a : Addr} (h : H a = some (.tup [.str "any"])) : QD K H (.ref a) .any := .tup (SqT.of (tpo_at h)) (.cons (.str _) .nil)
theorem QD.no {K : PySem.W.Frag} {H : Hp} {a : Addr} {v : V} {q : Qn} (h : H a = some (.tup [.str "not", v])) (g : QD K H v q) : QD K H (.ref a) (.no q) := .tup (SqT.of (tpo_at h)) (.cons (.str _) (.cons g .nil))
theorem QD.both {K : PySem.W.Frag} {H : Hp} {a : Addr} {u v : V} {p q : Qn} (h : H a = some (.tup [.str "both", u, v])) (f : QD K H u p) (g : QD K H v q) : QD K H (.ref a) (.both p q) := .tup (SqT.of (tpo_at h)) (.cons (.str _) (.cons f (.cons g .nil)))
theorem QD.some {K : PySem.W.Frag} {H : Hp} {a : Addr} {u v : V} {p q : Qn} {c : Nat} (h : H a = some (.tup [.str "some", u, .str ⟨#[c]⟩, v])) (f : QD K H u p) (g : QD K H v q) : QD K H (.ref a) (.some p c q) := .tup (SqT.of (tpo_at h)) (.cons (.str _) (.cons f (.cons (.str _) (.cons g .nil))))
def isAny : Qn → Bool
  | .any => true
  | _ => false
theorem eqv_any (q : Qn) : PyData.eqv q.d Qn.any.d = isAny q := by
  cases q
  · decide +kernel
  all_goals rfl
def sp_joined (K : PySem.W.Frag) : Sp := fun vs H Q _ => ∃ (u v : V) (p q : Qn), vs = [u, v] ∧ QD K H u p ∧ QD K H v q ∧ p.Ok ∧ p.hi ≤ 64 ∧ ∀ x H', Ex H H' → QD K H' x (joined p q) → Q x H'
def sp_no_later (P : Program) (w : World) (C : Addr) : Sp := fun vs H Q _ => ∃ (k : KC) (Ls : List Addr) (t : KTab) (y1 y2 z1 z2 : Str), vs = [.ref k.x, .str y1, .str y2, .str z1, .str z2] ∧ KS P w C k Ls H t ∧ 7 ≤ k.D ∧ codes y1 ∈ k.S ∧ codes y2 ∈ k.S ∧ codes z1 ∈ k.S ∧ codes z2 ∈ k.S ∧
  ∀ b t' Ls' H', KS P w C k Ls' H' t' → Stp k Ls H t Ls' H' t' → b = noLater (codes y1) (codes y2) (codes z1) (codes z2) → Q (.bl b) H'
/-- f: the fuel of the questions within -/
def sp_qat (P : Program) (w : World) (K : PySem.W.Frag) (C : Addr) (f : Nat) : Sp := fun vs H Q _ => ∃ (k : KC) (Ls : List Addr) (t : KTab) (y z : Str) (i : Nat), vs = [.ref k.x, .str y, .int (i : Nat), .str z] ∧ KS P w C k Ls H t ∧ 7 ≤ k.D ∧ codes y ∈ k.S ∧ codes z ∈ k.S ∧ Abc y ∧ Abc z ∧ y.length ≤ 6 ∧ z.length ≤ 6 ∧
  i < y.length ∧ good f (codes y) (codes z) i = [] ∧ f ≤ 2 ∧
  ∀ v t' Ls' H', KS P w C k Ls' H' t' → Stp k Ls H t Ls' H' t' → QD K H' v (qat (qbet f) (codes y) i (codes z)) → Q v H'
def sp_qbet (P : Program) (w : World) (K : PySem.W.Frag) (C : Addr) (f : Nat) : Sp := fun vs H Q _ => ∃ (k : KC) (Ls : List Addr) (t : KTab) (y z : Str), vs = [.ref k.x, .str y, .str z] ∧ KS P w C k Ls H t ∧ 7 ≤ k.D ∧ codes y ∈ k.S ∧ codes z ∈ k.S ∧ Abc y ∧ Abc z ∧ y.length ≤ 6 ∧ z.length ≤ 6 ∧
  y ≠ z ∧ pdn (codes y) (codes z) ≤ f ∧ f ≤ 3 ∧
  ∀ v t' Ls' H', KS P w C k Ls' H' t' → Stp k Ls H t Ls' H' t' → QD K H' v (qbet f (codes y) (codes z)) → Q v H'
def sp_pq (K : PySem.W.Frag) : Sp := fun vs H Q _ => ∃ (y z : Str) (_ : Unit), vs = [.str y, .str z] ∧ Abc y ∧ Abc z ∧ y.length ≤ 6 ∧ z.length ≤ 6 ∧ (y = z → ∀ H', Ex H H' → Q .non H') ∧
  (y ≠ z → ∀ v H', Ex H H' → QD K H' v (qbet 3 (codes y) (codes z)) → Q v H')
/-- the questions for rows of at most six letters -/
theorem qbet_ok {f : Nat} (hf : f ≤ 3) {y z : Str} (hy : Abc y) (hz : Abc z) (ly : y.length ≤ 6) (lz : z.length ≤ 6) (ne : y ≠ z) (hp : pdn (codes y) (codes z) ≤ f) :
    Pts (qbet f (codes y) (codes z)) (codes y) (codes z) 646 25 ∧ (qbet f (codes y) (codes z)).Ok := by
  have P := qbet_pts 6 f (codes y) (codes z) (by rw [codes_len]; exact ly) (by rw [codes_len]; exact lz) (codes_ne ne) hp
  have Q : Pts (qbet f (codes y) (codes z)) (codes y) (codes z) 646 25 := by
    rcases (by omega : f = 0 ∨ f = 1 ∨ f = 2 ∨ f = 3) with rfl | rfl | rfl | rfl
    · exact P.up (by decide) (by decide)
    · exact P.up (by decide) (by decide)
    · exact P.up (by decide) (by decide)
    · exact P.up (by decide) (by decide)
  exact ⟨Q, Q.ok hy hz⟩
end M
namespace M
open PySem PySem.Spec L2 Evl
open PyProof.Rows hiding St
theorem QD.ref {K : PySem.W.Frag} {H : Hp} {v : V} {q : Qn} (h : QD K H v q) : ∃ a, v = .ref a := by
  have : ∃ ds, q.d = .tuple ds := by cases q <;> exact ⟨_, rfl⟩
  obtain ⟨ds, e⟩ := this
  unfold QD at h
  rw [e] at h
  obtain ⟨a, xs, rfl, _⟩ := dp_tup h
  exact ⟨a, rfl⟩
theorem Pts.is {q : Qn} {r s : List Nat} {bp bh : Nat} (h : Pts q r s bp bh) (ne : r ≠ s) : q.deep = pdn r s := by
  have h1 := h.deep
  have h2 : pdn r s ≤ q.deep := (pdn_is ne).le fun a => by
    have e := al_lt q (Nat.le_refl _) a
    rw [h.yes, h.no] at e
    exact nomatch e
  omega
/-- the second half of a test that is True or False -/
theorem bl_not {b : Bool} {A B : Prop} (h : b = false) (x : B) : if b = true then A else B := by subst h; exact x
end M
namespace M
theorem op_isnot_bl {X : L2.Cx} : L2.OpR X (PySem.compareOp .IsNot) (fun x y H Q => ∃ a b, x = .bl a ∧ y = .bl b ∧ Q (.bl (!decide (a = b))) H) := L2.op_isnot_bl
end M
end

section
set_option Elab.async false
set_option linter.all false
set_option maxRecDepth 100000
namespace Lw
open PySem L2 Evl M
open PyProof.Rows hiding St
def top (i : Nat) : Stmt := PySem.Challenge.pw_pickdepths_k17_questions_that_part.main.body.getD i (.Pass ⟨0, 0, 0, 0⟩)
abbrev s_is_letter : Stmt := top 5
theorem sc_is_letter : FnScope ["sign"] ["sign"] (defScope s_is_letter) := ⟨rfl, rfl, rfl, by decide +kernel, rfl, by decide +kernel, by decide +kernel⟩
abbrev s_check_row : Stmt := top 6
theorem sc_check_row : FnScope ["row", "index", "sign"] ["row"] (defScope s_check_row) := ⟨rfl, rfl, rfl, by decide +kernel, rfl, by decide +kernel, by decide +kernel⟩
abbrev s_check_rows : Stmt := top 7
theorem sc_check_rows : FnScope ["row", "other_row"] ["row", "other_row"] (defScope s_check_rows) := ⟨rfl, rfl, rfl, by decide +kernel, rfl, by decide +kernel, by decide +kernel⟩
abbrev s_Kinds___init__ : Stmt := inClass (top 9) 0
theorem sc_Kinds___init__ : FnScope ["self"] ["self"] (defScope s_Kinds___init__) := ⟨rfl, rfl, rfl, by decide +kernel, rfl, by decide +kernel, by decide +kernel⟩
abbrev s_Kinds_alike : Stmt := inClass (top 9) 1
theorem sc_Kinds_alike : FnScope ["self", "row", "other_row", "depth", "lesser_depth"] ["self", "row", "other_row", "depth"] (defScope s_Kinds_alike) := ⟨rfl, rfl, rfl, by decide +kernel, rfl, by decide +kernel, by decide +kernel⟩
abbrev s_Kinds_of_row : Stmt := inClass (top 9) 2
theorem sc_Kinds_of_row : FnScope ["self", "row", "depth", "key", "marks"] ["self", "row", "depth"] (defScope s_Kinds_of_row) := ⟨rfl, rfl, rfl, by decide +kernel, rfl, by decide +kernel, by decide +kernel⟩
abbrev s_Kinds_places : Stmt := inClass (top 9) 3
theorem sc_Kinds_places : FnScope ["self", "row", "depth", "key"] ["self", "row", "depth"] (defScope s_Kinds_places) := ⟨rfl, rfl, rfl, by decide +kernel, rfl, by decide +kernel, by decide +kernel⟩
abbrev s_Kinds_marks_of_places : Stmt := inClass (top 9) 4
theorem sc_Kinds_marks_of_places : FnScope ["self", "row", "depth", "behind", "kinds_behind", "letter", "ahead", "marks"] ["self", "row", "depth"] (defScope s_Kinds_marks_of_places) := ⟨rfl, rfl, rfl, by decide +kernel, rfl, by decide +kernel, by decide +kernel⟩
abbrev s_Kinds_empty : Stmt := inClass (top 9) 5
theorem sc_Kinds_empty : FnScope ["self", "depth"] ["self", "depth"] (defScope s_Kinds_empty) := ⟨rfl, rfl, rfl, by decide +kernel, rfl, by decide +kernel, by decide +kernel⟩
abbrev s_Kinds_numbered : Stmt := inClass (top 9) 6
theorem sc_Kinds_numbered : FnScope ["self", "depth", "marks", "key"] ["self", "depth", "marks"] (defScope s_Kinds_numbered) := ⟨rfl, rfl, rfl, by decide +kernel, rfl, by decide +kernel, by decide +kernel⟩
abbrev s_Kinds_lesser : Stmt := inClass (top 9) 7
theorem sc_Kinds_lesser : FnScope ["self", "kind", "depth", "marks", "found", "ahead", "letter", "behind"] ["self", "kind"] (defScope s_Kinds_lesser) := ⟨rfl, rfl, rfl, by decide +kernel, rfl, by decide +kernel, by decide +kernel⟩
abbrev s_Kinds_added_behind : Stmt := inClass (top 9) 8
theorem sc_Kinds_added_behind : FnScope ["self", "kind", "letter", "key", "depth", "marks", "found", "ahead", "sign", "behind"] ["self", "kind", "letter"] (defScope s_Kinds_added_behind) := ⟨rfl, rfl, rfl, by decide +kernel, rfl, by decide +kernel, by decide +kernel⟩
abbrev s_Kinds_added_ahead : Stmt := inClass (top 9) 9
theorem sc_Kinds_added_ahead : FnScope ["self", "letter", "kind", "key", "depth", "marks", "found", "ahead", "sign", "behind"] ["self", "letter", "kind"] (defScope s_Kinds_added_ahead) := ⟨rfl, rfl, rfl, by decide +kernel, rfl, by decide +kernel, by decide +kernel⟩
abbrev s_parting_depth : Stmt := top 11
theorem sc_parting_depth : FnScope ["row", "other_row"] ["row", "other_row"] (defScope s_parting_depth) := ⟨rfl, rfl, rfl, by decide +kernel, rfl, by decide +kernel, by decide +kernel⟩
abbrev s_depth_between : Stmt := top 12
theorem sc_depth_between : FnScope ["kinds", "row", "other_row", "depth"] ["kinds", "row", "other_row"] (defScope s_depth_between) := ⟨rfl, rfl, rfl, by decide +kernel, rfl, by decide +kernel, by decide +kernel⟩
abbrev s_good_answers_to : Stmt := top 13
theorem sc_good_answers_to : FnScope ["kinds", "row", "place", "other_row", "depth", "left", "lesser_depth", "wanted", "marks", "good", "other_place", "at"] ["kinds", "row", "place", "other_row", "depth"] (defScope s_good_answers_to) := ⟨rfl, rfl, rfl, by decide +kernel, rfl, by decide +kernel, by decide +kernel⟩
abbrev s_is_good_answer : Stmt := top 14
theorem sc_is_good_answer : FnScope ["kinds", "row", "place", "other_row", "other_place", "depth"] ["kinds", "row", "place", "other_row", "other_place", "depth"] (defScope s_is_good_answer) := ⟨rfl, rfl, rfl, by decide +kernel, rfl, by decide +kernel, by decide +kernel⟩
abbrev s_picks_without_answer : Stmt := top 15
theorem sc_picks_without_answer : FnScope ["kinds", "row", "other_row", "depth", "picks", "side", "own", "other", "place"] ["kinds", "row", "other_row", "depth"] (defScope s_picks_without_answer) := ⟨rfl, rfl, rfl, by decide +kernel, rfl, by decide +kernel, by decide +kernel⟩
abbrev s_is_question : Stmt := top 18
theorem sc_is_question : FnScope ["value", "waiting", "part"] ["value"] (defScope s_is_question) := ⟨rfl, rfl, rfl, by decide +kernel, rfl, by decide +kernel, by decide +kernel⟩
abbrev s_depth_of : Stmt := top 19
theorem sc_depth_of : FnScope ["question", "deepest", "waiting", "part", "depth", "inner"] ["question"] (defScope s_depth_of) := ⟨rfl, rfl, rfl, by decide +kernel, rfl, by decide +kernel, by decide +kernel⟩
abbrev s_parts_of : Stmt := top 20
theorem sc_parts_of : FnScope ["question", "parts", "waiting", "part"] ["question"] (defScope s_parts_of) := ⟨rfl, rfl, rfl, by decide +kernel, rfl, by decide +kernel, by decide +kernel⟩
abbrev s_inner_questions : Stmt := top 21
theorem sc_inner_questions : FnScope ["part"] ["part"] (defScope s_inner_questions) := ⟨rfl, rfl, rfl, by decide +kernel, rfl, by decide +kernel, by decide +kernel⟩
abbrev s_has_form : Stmt := top 22
theorem sc_has_form : FnScope ["value", "word"] ["value"] (defScope s_has_form) := ⟨rfl, rfl, rfl, by decide +kernel, rfl, by decide +kernel, by decide +kernel⟩
abbrev s_is_one_letter : Stmt := top 23
theorem sc_is_one_letter : FnScope ["value"] ["value"] (defScope s_is_one_letter) := ⟨rfl, rfl, rfl, by decide +kernel, rfl, by decide +kernel, by decide +kernel⟩
abbrev s_check_question : Stmt := top 24
theorem sc_check_question : FnScope ["question"] ["question"] (defScope s_check_question) := ⟨rfl, rfl, rfl, by decide +kernel, rfl, by decide +kernel, by decide +kernel⟩
abbrev s_table_of : Stmt := top 26
theorem sc_table_of : FnScope ["question", "asked", "tables", "part"] ["question", "asked"] (defScope s_table_of) := ⟨rfl, rfl, rfl, by decide +kernel, rfl, by decide +kernel, by decide +kernel⟩
abbrev s_table_of_part : Stmt := top 27
theorem sc_table_of_part : FnScope ["part", "tables", "asked", "word", "first", "second", "whole", "told", "other"] ["part", "tables", "asked"] (defScope s_table_of_part) := ⟨rfl, rfl, rfl, by decide +kernel, rfl, by decide +kernel, by decide +kernel⟩
abbrev s_Stretches___init__ : Stmt := inClass (top 28) 0
theorem sc_Stretches___init__ : FnScope ["self", "row", "most", "start"] ["self", "row"] (defScope s_Stretches___init__) := ⟨rfl, rfl, rfl, by decide +kernel, rfl, by decide +kernel, by decide +kernel⟩
abbrev s_Stretches_met : Stmt := inClass (top 28) 1
theorem sc_Stretches_met : FnScope ["self", "ahead", "letter", "behind", "table", "place", "sign", "ends", "start"] ["self", "ahead", "letter", "behind"] (defScope s_Stretches_met) := ⟨rfl, rfl, rfl, by decide +kernel, rfl, by decide +kernel, by decide +kernel⟩
abbrev s_holds : Stmt := top 29
theorem sc_holds : FnScope ["table", "start", "end"] ["table", "start", "end"] (defScope s_holds) := ⟨rfl, rfl, rfl, by decide +kernel, rfl, by decide +kernel, by decide +kernel⟩
abbrev s_lets : Stmt := top 31
theorem sc_lets : FnScope ["row", "question"] ["row", "question"] (defScope s_lets) := ⟨rfl, rfl, rfl, by decide +kernel, rfl, by decide +kernel, by decide +kernel⟩
abbrev s_parting_question : Stmt := top 32
theorem sc_parting_question : FnScope ["row", "other_row"] ["row", "other_row"] (defScope s_parting_question) := ⟨rfl, rfl, rfl, by decide +kernel, rfl, by decide +kernel, by decide +kernel⟩
abbrev s_row_lets : Stmt := top 33
theorem sc_row_lets : FnScope ["row", "question"] ["row", "question"] (defScope s_row_lets) := ⟨rfl, rfl, rfl, by decide +kernel, rfl, by decide +kernel, by decide +kernel⟩
abbrev s_question_between : Stmt := top 34
theorem sc_question_between : FnScope ["kinds", "row", "other_row", "depth", "side", "place"] ["kinds", "row", "other_row"] (defScope s_question_between) := ⟨rfl, rfl, rfl, by decide +kernel, rfl, by decide +kernel, by decide +kernel⟩
abbrev s_question_at : Stmt := top 35
theorem sc_question_at : FnScope ["kinds", "row", "place", "other_row", "ahead", "behind", "asked_ahead", "asked_behind", "other_place", "letter", "other_ahead", "other_behind", "met"] ["kinds", "row", "place", "other_row"] (defScope s_question_at) := ⟨rfl, rfl, rfl, by decide +kernel, rfl, by decide +kernel, by decide +kernel⟩
abbrev s_parts_no_later : Stmt := top 36
theorem sc_parts_no_later : FnScope ["kinds", "ahead", "other_ahead", "behind", "other_behind", "depth_ahead", "depth_behind"] ["kinds", "ahead", "other_ahead", "behind", "other_behind"] (defScope s_parts_no_later) := ⟨rfl, rfl, rfl, by decide +kernel, rfl, by decide +kernel, by decide +kernel⟩
abbrev s_joined : Stmt := top 37
theorem sc_joined : FnScope ["question", "other_question"] ["question", "other_question"] (defScope s_joined) := ⟨rfl, rfl, rfl, by decide +kernel, rfl, by decide +kernel, by decide +kernel⟩
abbrev s__law_pool : Stmt := top 39
theorem sc__law_pool : FnScope ["script", "spot", "cell"] ["script", "spot"] (defScope s__law_pool) := ⟨rfl, rfl, rfl, by decide +kernel, rfl, by decide +kernel, by decide +kernel⟩
abbrev s__law_draw : Stmt := top 40
theorem sc__law_draw : FnScope ["pool", "span", "drawn", "mixed"] ["pool", "span"] (defScope s__law_draw) := ⟨rfl, rfl, rfl, by decide +kernel, rfl, by decide +kernel, by decide +kernel⟩
abbrev s__law_line : Stmt := top 41
theorem sc__law_line : FnScope ["pool", "names", "longest", "turn"] ["pool", "names", "longest"] (defScope s__law_line) := ⟨rfl, rfl, rfl, by decide +kernel, rfl, by decide +kernel, by decide +kernel⟩
abbrev s__law_bent : Stmt := top 42
theorem sc__law_bent : FnScope ["pool", "line", "names", "at", "way", "letter", "span"] ["pool", "line", "names"] (defScope s__law_bent) := ⟨rfl, rfl, rfl, by decide +kernel, rfl, by decide +kernel, by decide +kernel⟩
abbrev s__law_lets : Stmt := top 43
theorem sc__law_lets : FnScope ["line", "query", "spot", "letter"] ["line", "query"] (defScope s__law_lets) := ⟨rfl, rfl, rfl, by decide +kernel, rfl, by decide +kernel, by decide +kernel⟩
abbrev s__law_deep : Stmt := top 44
theorem sc__law_deep : FnScope ["query", "inner_here"] ["query"] (defScope s__law_deep) := ⟨rfl, rfl, rfl, by decide +kernel, rfl, by decide +kernel, by decide +kernel⟩
abbrev s__law_pair_of_lines : Stmt := top 45
theorem sc__law_pair_of_lines : FnScope ["pool", "longest", "names", "line", "way", "other", "turn"] ["pool", "longest"] (defScope s__law_pair_of_lines) := ⟨rfl, rfl, rfl, by decide +kernel, rfl, by decide +kernel, by decide +kernel⟩
abbrev s__law_fits : Stmt := top 46
theorem sc__law_fits : FnScope ["pool", "line", "other", "here", "there", "query"] ["pool"] (defScope s__law_fits) := ⟨rfl, rfl, rfl, by decide +kernel, rfl, by decide +kernel, by decide +kernel⟩
abbrev s_law : Stmt := top 47
theorem sc_law : FnScope ["script", "spot", "pool", "turn"] ["script"] (defScope s_law) := ⟨rfl, rfl, rfl, by decide +kernel, rfl, by decide +kernel, by decide +kernel⟩
theorem kbl_parting_question__other_row_row {K : PySem.W.Frag} {fd : FuncData} (hb : ∀ (s : Shared) (w0 w1 : Value), BindsTo s fd ⟨[], [("other_row", w0), ("row", w1)]⟩ [("row", w1), ("other_row", w0)]) : KBinds K fd ["row", "other_row"] ["other_row", "row"] (fun us ws => match us, ws with | [], [w0, w1] => [w1, w0] | _, _ => []) (fun us ws => match us, ws with | [], [w0, w1] => [w1, w0] | _, _ => []) := by
  refine ⟨fun s us ws _ hl => ?_, fun {vs us zs ws} r1 r2 => ?_⟩
  · rcases us with _ | ⟨u0, us⟩
    · rcases ws with _ | ⟨w0, ws⟩
      · exact nomatch hl
      · rcases ws with _ | ⟨w1, ws⟩
        · exact nomatch hl
        · rcases ws with _ | ⟨w2, ws⟩
          · exact hb s w0 w1
          · exact nomatch hl
    · exact nomatch hl
  · cases r1 with
    | nil =>
      · cases r2 with
        | nil =>
          exact .nil
        | cons q0 r2 =>
          · cases r2 with
            | nil =>
              exact .nil
            | cons q1 r2 =>
              · cases r2 with
                | nil =>
                  exact (.cons q1 (.cons q0 .nil))
                | cons q2 r2 =>
                  exact .nil
    | cons p0 r1 =>
      exact .nil
set_option maxHeartbeats 4000000 in
structure Tx (w : World) (K : PySem.W.Frag) (mg : Str → Option Value) where
  a_is_letter : Addr
  d_is_letter : FuncData
  g_is_letter : mg "is_letter" = some (.ref a_is_letter)
  F_is_letter : Fun K "is_letter" "is_letter" s_is_letter a_is_letter d_is_letter
  b_is_letter : Binds K d_is_letter ["sign"] []
  a_check_row : Addr
  d_check_row : FuncData
  g_check_row : mg "check_row" = some (.ref a_check_row)
  F_check_row : Fun K "check_row" "check_row" s_check_row a_check_row d_check_row
  b_check_row : Binds K d_check_row ["row"] []
  a_check_rows : Addr
  d_check_rows : FuncData
  g_check_rows : mg "check_rows" = some (.ref a_check_rows)
  F_check_rows : Fun K "check_rows" "check_rows" s_check_rows a_check_rows d_check_rows
  b_check_rows : Binds K d_check_rows ["row", "other_row"] []
  a_Kinds___init__ : Addr
  d_Kinds___init__ : FuncData
  F_Kinds___init__ : Fun K "__init__" "Kinds.__init__" s_Kinds___init__ a_Kinds___init__ d_Kinds___init__
  b_Kinds___init__ : Binds K d_Kinds___init__ ["self"] []
  a_Kinds_alike : Addr
  d_Kinds_alike : FuncData
  F_Kinds_alike : Fun K "alike" "Kinds.alike" s_Kinds_alike a_Kinds_alike d_Kinds_alike
  b_Kinds_alike : Binds K d_Kinds_alike ["self", "row", "other_row", "depth"] []
  a_Kinds_of_row : Addr
  d_Kinds_of_row : FuncData
  F_Kinds_of_row : Fun K "of_row" "Kinds.of_row" s_Kinds_of_row a_Kinds_of_row d_Kinds_of_row
  b_Kinds_of_row : Binds K d_Kinds_of_row ["self", "row", "depth"] []
  a_Kinds_places : Addr
  d_Kinds_places : FuncData
  F_Kinds_places : Fun K "places" "Kinds.places" s_Kinds_places a_Kinds_places d_Kinds_places
  b_Kinds_places : Binds K d_Kinds_places ["self", "row", "depth"] []
  a_Kinds_marks_of_places : Addr
  d_Kinds_marks_of_places : FuncData
  F_Kinds_marks_of_places : Fun K "marks_of_places" "Kinds.marks_of_places" s_Kinds_marks_of_places a_Kinds_marks_of_places d_Kinds_marks_of_places
  b_Kinds_marks_of_places : Binds K d_Kinds_marks_of_places ["self", "row", "depth"] []
  a_Kinds_empty : Addr
  d_Kinds_empty : FuncData
  F_Kinds_empty : Fun K "empty" "Kinds.empty" s_Kinds_empty a_Kinds_empty d_Kinds_empty
  b_Kinds_empty : Binds K d_Kinds_empty ["self", "depth"] []
  a_Kinds_numbered : Addr
  d_Kinds_numbered : FuncData
  F_Kinds_numbered : Fun K "numbered" "Kinds.numbered" s_Kinds_numbered a_Kinds_numbered d_Kinds_numbered
  b_Kinds_numbered : Binds K d_Kinds_numbered ["self", "depth", "marks"] []
  a_Kinds_lesser : Addr
  d_Kinds_lesser : FuncData
  F_Kinds_lesser : Fun K "lesser" "Kinds.lesser" s_Kinds_lesser a_Kinds_lesser d_Kinds_lesser
  b_Kinds_lesser : Binds K d_Kinds_lesser ["self", "kind"] []
  a_Kinds_added_behind : Addr
  d_Kinds_added_behind : FuncData
  F_Kinds_added_behind : Fun K "added_behind" "Kinds.added_behind" s_Kinds_added_behind a_Kinds_added_behind d_Kinds_added_behind
  b_Kinds_added_behind : Binds K d_Kinds_added_behind ["self", "kind", "letter"] []
  a_Kinds_added_ahead : Addr
  d_Kinds_added_ahead : FuncData
  F_Kinds_added_ahead : Fun K "added_ahead" "Kinds.added_ahead" s_Kinds_added_ahead a_Kinds_added_ahead d_Kinds_added_ahead
  b_Kinds_added_ahead : Binds K d_Kinds_added_ahead ["self", "letter", "kind"] []
  a_parting_depth : Addr
  d_parting_depth : FuncData
  g_parting_depth : mg "parting_depth" = some (.ref a_parting_depth)
  F_parting_depth : Fun K "parting_depth" "parting_depth" s_parting_depth a_parting_depth d_parting_depth
  b_parting_depth : Binds K d_parting_depth ["row", "other_row"] []
  a_depth_between : Addr
  d_depth_between : FuncData
  g_depth_between : mg "depth_between" = some (.ref a_depth_between)
  F_depth_between : Fun K "depth_between" "depth_between" s_depth_between a_depth_between d_depth_between
  b_depth_between : Binds K d_depth_between ["kinds", "row", "other_row"] []
  a_good_answers_to : Addr
  d_good_answers_to : FuncData
  g_good_answers_to : mg "good_answers_to" = some (.ref a_good_answers_to)
  F_good_answers_to : Fun K "good_answers_to" "good_answers_to" s_good_answers_to a_good_answers_to d_good_answers_to
  b_good_answers_to : Binds K d_good_answers_to ["kinds", "row", "place", "other_row", "depth"] []
  a_is_good_answer : Addr
  d_is_good_answer : FuncData
  g_is_good_answer : mg "is_good_answer" = some (.ref a_is_good_answer)
  F_is_good_answer : Fun K "is_good_answer" "is_good_answer" s_is_good_answer a_is_good_answer d_is_good_answer
  b_is_good_answer : Binds K d_is_good_answer ["kinds", "row", "place", "other_row", "other_place", "depth"] []
  a_picks_without_answer : Addr
  d_picks_without_answer : FuncData
  g_picks_without_answer : mg "picks_without_answer" = some (.ref a_picks_without_answer)
  F_picks_without_answer : Fun K "picks_without_answer" "picks_without_answer" s_picks_without_answer a_picks_without_answer d_picks_without_answer
  b_picks_without_answer : Binds K d_picks_without_answer ["kinds", "row", "other_row", "depth"] []
  a_is_question : Addr
  d_is_question : FuncData
  g_is_question : mg "is_question" = some (.ref a_is_question)
  F_is_question : Fun K "is_question" "is_question" s_is_question a_is_question d_is_question
  b_is_question : Binds K d_is_question ["value"] []
  a_depth_of : Addr
  d_depth_of : FuncData
  g_depth_of : mg "depth_of" = some (.ref a_depth_of)
  F_depth_of : Fun K "depth_of" "depth_of" s_depth_of a_depth_of d_depth_of
  b_depth_of : Binds K d_depth_of ["question"] []
  a_parts_of : Addr
  d_parts_of : FuncData
  g_parts_of : mg "parts_of" = some (.ref a_parts_of)
  F_parts_of : Fun K "parts_of" "parts_of" s_parts_of a_parts_of d_parts_of
  b_parts_of : Binds K d_parts_of ["question"] []
  a_inner_questions : Addr
  d_inner_questions : FuncData
  g_inner_questions : mg "inner_questions" = some (.ref a_inner_questions)
  F_inner_questions : Fun K "inner_questions" "inner_questions" s_inner_questions a_inner_questions d_inner_questions
  b_inner_questions : Binds K d_inner_questions ["part"] []
  a_has_form : Addr
  d_has_form : FuncData
  g_has_form : mg "has_form" = some (.ref a_has_form)
  F_has_form : Fun K "has_form" "has_form" s_has_form a_has_form d_has_form
  b_has_form : Binds K d_has_form ["value"] []
  a_is_one_letter : Addr
  d_is_one_letter : FuncData
  g_is_one_letter : mg "is_one_letter" = some (.ref a_is_one_letter)
  F_is_one_letter : Fun K "is_one_letter" "is_one_letter" s_is_one_letter a_is_one_letter d_is_one_letter
  b_is_one_letter : Binds K d_is_one_letter ["value"] []
  a_check_question : Addr
  d_check_question : FuncData
  g_check_question : mg "check_question" = some (.ref a_check_question)
  F_check_question : Fun K "check_question" "check_question" s_check_question a_check_question d_check_question
  b_check_question : Binds K d_check_question ["question"] []
  a_table_of : Addr
  d_table_of : FuncData
  g_table_of : mg "table_of" = some (.ref a_table_of)
  F_table_of : Fun K "table_of" "table_of" s_table_of a_table_of d_table_of
  b_table_of : Binds K d_table_of ["question", "asked"] []
  a_table_of_part : Addr
  d_table_of_part : FuncData
  g_table_of_part : mg "table_of_part" = some (.ref a_table_of_part)
  F_table_of_part : Fun K "table_of_part" "table_of_part" s_table_of_part a_table_of_part d_table_of_part
  b_table_of_part : Binds K d_table_of_part ["part", "tables", "asked"] []
  a_Stretches___init__ : Addr
  d_Stretches___init__ : FuncData
  F_Stretches___init__ : Fun K "__init__" "Stretches.__init__" s_Stretches___init__ a_Stretches___init__ d_Stretches___init__
  b_Stretches___init__ : Binds K d_Stretches___init__ ["self", "row"] []
  a_Stretches_met : Addr
  d_Stretches_met : FuncData
  F_Stretches_met : Fun K "met" "Stretches.met" s_Stretches_met a_Stretches_met d_Stretches_met
  b_Stretches_met : Binds K d_Stretches_met ["self", "ahead", "letter", "behind"] []
  a_holds : Addr
  d_holds : FuncData
  g_holds : mg "holds" = some (.ref a_holds)
  F_holds : Fun K "holds" "holds" s_holds a_holds d_holds
  b_holds : Binds K d_holds ["table", "start", "end"] []
  a_lets : Addr
  d_lets : FuncData
  g_lets : mg "lets" = some (.ref a_lets)
  F_lets : Fun K "lets" "lets" s_lets a_lets d_lets
  b_lets : Binds K d_lets ["row", "question"] []
  a_parting_question : Addr
  d_parting_question : FuncData
  g_parting_question : mg "parting_question" = some (.ref a_parting_question)
  F_parting_question : Fun K "parting_question" "parting_question" s_parting_question a_parting_question d_parting_question
  b_parting_question : Binds K d_parting_question ["row", "other_row"] []
  a_row_lets : Addr
  d_row_lets : FuncData
  g_row_lets : mg "row_lets" = some (.ref a_row_lets)
  F_row_lets : Fun K "row_lets" "row_lets" s_row_lets a_row_lets d_row_lets
  b_row_lets : Binds K d_row_lets ["row", "question"] []
  a_question_between : Addr
  d_question_between : FuncData
  g_question_between : mg "question_between" = some (.ref a_question_between)
  F_question_between : Fun K "question_between" "question_between" s_question_between a_question_between d_question_between
  b_question_between : Binds K d_question_between ["kinds", "row", "other_row"] []
  a_question_at : Addr
  d_question_at : FuncData
  g_question_at : mg "question_at" = some (.ref a_question_at)
  F_question_at : Fun K "question_at" "question_at" s_question_at a_question_at d_question_at
  b_question_at : Binds K d_question_at ["kinds", "row", "place", "other_row"] []
  a_parts_no_later : Addr
  d_parts_no_later : FuncData
  g_parts_no_later : mg "parts_no_later" = some (.ref a_parts_no_later)
  F_parts_no_later : Fun K "parts_no_later" "parts_no_later" s_parts_no_later a_parts_no_later d_parts_no_later
  b_parts_no_later : Binds K d_parts_no_later ["kinds", "ahead", "other_ahead", "behind", "other_behind"] []
  a_joined : Addr
  d_joined : FuncData
  g_joined : mg "joined" = some (.ref a_joined)
  F_joined : Fun K "joined" "joined" s_joined a_joined d_joined
  b_joined : Binds K d_joined ["question", "other_question"] []
  a__law_pool : Addr
  d__law_pool : FuncData
  g__law_pool : mg "_law_pool" = some (.ref a__law_pool)
  F__law_pool : Fun K "_law_pool" "_law_pool" s__law_pool a__law_pool d__law_pool
  b__law_pool : Binds K d__law_pool ["script", "spot"] []
  a__law_draw : Addr
  d__law_draw : FuncData
  g__law_draw : mg "_law_draw" = some (.ref a__law_draw)
  F__law_draw : Fun K "_law_draw" "_law_draw" s__law_draw a__law_draw d__law_draw
  b__law_draw : Binds K d__law_draw ["pool", "span"] []
  a__law_line : Addr
  d__law_line : FuncData
  g__law_line : mg "_law_line" = some (.ref a__law_line)
  F__law_line : Fun K "_law_line" "_law_line" s__law_line a__law_line d__law_line
  b__law_line : Binds K d__law_line ["pool", "names", "longest"] []
  a__law_bent : Addr
  d__law_bent : FuncData
  g__law_bent : mg "_law_bent" = some (.ref a__law_bent)
  F__law_bent : Fun K "_law_bent" "_law_bent" s__law_bent a__law_bent d__law_bent
  b__law_bent : Binds K d__law_bent ["pool", "line", "names"] []
  a__law_lets : Addr
  d__law_lets : FuncData
  g__law_lets : mg "_law_lets" = some (.ref a__law_lets)
  F__law_lets : Fun K "_law_lets" "_law_lets" s__law_lets a__law_lets d__law_lets
  b__law_lets : Binds K d__law_lets ["line", "query"] []
  a__law_deep : Addr
  d__law_deep : FuncData
  g__law_deep : mg "_law_deep" = some (.ref a__law_deep)
  F__law_deep : Fun K "_law_deep" "_law_deep" s__law_deep a__law_deep d__law_deep
  b__law_deep : Binds K d__law_deep ["query"] []
  a__law_pair_of_lines : Addr
  d__law_pair_of_lines : FuncData
  g__law_pair_of_lines : mg "_law_pair_of_lines" = some (.ref a__law_pair_of_lines)
  F__law_pair_of_lines : Fun K "_law_pair_of_lines" "_law_pair_of_lines" s__law_pair_of_lines a__law_pair_of_lines d__law_pair_of_lines
  b__law_pair_of_lines : Binds K d__law_pair_of_lines ["pool", "longest"] []
  a__law_fits : Addr
  d__law_fits : FuncData
  g__law_fits : mg "_law_fits" = some (.ref a__law_fits)
  F__law_fits : Fun K "_law_fits" "_law_fits" s__law_fits a__law_fits d__law_fits
  b__law_fits : Binds K d__law_fits ["pool"] []
  a_law : Addr
  d_law : FuncData
  g_law : mg "law" = some (.ref a_law)
  F_law : Fun K "law" "law" s_law a_law d_law
  b_law : Binds K d_law ["script"] []
  kb_parting_question__other_row_row : KBinds K d_parting_question ["row", "other_row"] ["other_row", "row"] (fun us ws => match us, ws with | [], [w0, w1] => [w1, w0] | _, _ => []) (fun us ws => match us, ws with | [], [w0, w1] => [w1, w0] | _, _ => [])
  a_Kinds : Addr
  g_Kinds : mg "Kinds" = some (.ref a_Kinds)
  C_Kinds : Cls K a_Kinds
  M_Kinds : Mk K a_Kinds a_Kinds___init__
  m_Kinds_alike : Meth K a_Kinds "alike" a_Kinds_alike
  m_Kinds_of_row : Meth K a_Kinds "of_row" a_Kinds_of_row
  m_Kinds_places : Meth K a_Kinds "places" a_Kinds_places
  m_Kinds_marks_of_places : Meth K a_Kinds "marks_of_places" a_Kinds_marks_of_places
  m_Kinds_empty : Meth K a_Kinds "empty" a_Kinds_empty
  m_Kinds_numbered : Meth K a_Kinds "numbered" a_Kinds_numbered
  m_Kinds_lesser : Meth K a_Kinds "lesser" a_Kinds_lesser
  m_Kinds_added_behind : Meth K a_Kinds "added_behind" a_Kinds_added_behind
  m_Kinds_added_ahead : Meth K a_Kinds "added_ahead" a_Kinds_added_ahead
  n_Kinds_known_kinds : NoAttr K a_Kinds "known_kinds"
  n_Kinds_known_places : NoAttr K a_Kinds "known_places"
  n_Kinds_numbers : NoAttr K a_Kinds "numbers"
  n_Kinds_marks : NoAttr K a_Kinds "marks"
  n_Kinds_depths : NoAttr K a_Kinds "depths"
  n_Kinds_lesser_kinds : NoAttr K a_Kinds "lesser_kinds"
  n_Kinds_longer_behind : NoAttr K a_Kinds "longer_behind"
  n_Kinds_longer_ahead : NoAttr K a_Kinds "longer_ahead"
  a_Stretches : Addr
  g_Stretches : mg "Stretches" = some (.ref a_Stretches)
  C_Stretches : Cls K a_Stretches
  M_Stretches : Mk K a_Stretches a_Stretches___init__
  m_Stretches_met : Meth K a_Stretches "met" a_Stretches_met
  n_Stretches_row : NoAttr K a_Stretches "row"
  n_Stretches_whole : NoAttr K a_Stretches "whole"
  b_abs : mg "abs" = none
  b_enumerate : mg "enumerate" = none
  b_int : mg "int" = none
  b_isinstance : mg "isinstance" = none
  b_len : mg "len" = none
  b_list : mg "list" = none
  b_max : mg "max" = none
  b_min : mg "min" = none
  b_range : mg "range" = none
  b_reversed : mg "reversed" = none
  b_set : mg "set" = none
  b_sorted : mg "sorted" = none
  b_str : mg "str" = none
  b_tuple : mg "tuple" = none
  b_zip : mg "zip" = none
  a_SIZES : Addr
  g_SIZES : mg "SIZES" = some (.ref a_SIZES)
  ki_SIZES : KInts K w a_SIZES (fun z => List.lookup z [(("any" : Str), 1), (("not" : Str), 2), (("both" : Str), 3), (("some" : Str), 4)])
  bl : ∀ (s : Shared) (u : Value), BindsTo s d_law ⟨[u], []⟩ [("script", u)]
section
variable {P : Program} {w : World} {K : PySem.W.Frag} {mg : Str → Option Value} {base : Heap}
end
end Lw
end

section
set_option Elab.async false
set_option linter.all false
set_option maxRecDepth 100000
set_option maxHeartbeats 4000000
set_option pp.maxSteps 300
set_option pp.deepTerms false
namespace Lw
open PySem L2 Evl M
open PyProof.Rows hiding St
local macro_rules | `(tactic| walk_at "at") => `(tactic| first | assumption | exact upd_same)
local macro_rules | `(tactic| walk_at "sq") => `(tactic| first | assumption | exact SqL.of (by walk_at "at") | exact SqT.of (by walk_at "at"))
local macro_rules | `(tactic| walk_at "sd") => `(tactic| first | assumption | exact Names.size (by assumption) | omega | decide | exact Nat.le_of_ble_eq_true rfl | exact Or.inl ⟨by decide, by decide⟩ | exact wide_div (b := 200) (by first | assumption | decide) (by first | assumption | decide) (by decide) (by decide) | exact pow_w 10 (by decide) (by decide) (by decide) (by decide))
local macro_rules | `(tactic| walk_at "r1") => `(tactic| first
  | refine ⟨_, rfl, ?_⟩
  | refine ⟨_, _, rfl, rfl, ?_⟩
  | refine And.intro rfl ?_
  | refine ⟨_, _, _, _, rfl, rfl, (by walk_at "sq"), rfl, ?_⟩
  | refine ⟨_, _, _, _, rfl, rfl, (by walk_at "at"), rfl, ?_⟩
  | refine ⟨_, _, rfl, Or.inl (by walk_at "sq"), ?_⟩
  | refine ⟨_, _, rfl, Or.inr (by walk_at "sq"), ?_⟩
  | refine ⟨_, _, rfl, ?_⟩
  | refine Or.inl ⟨_, rfl, ?_⟩
  | refine And.intro (by walk_at "sd") ?_)
local macro_rules | `(tactic| walk_at "rd") => `(tactic| try (walk_at "r1"; walk_at "rd"))
section
variable {P : Program} {w : World} {K : PySem.W.Frag} {mg : Str → Option Value} {base : Heap}
theorem ok__law_draw (T : Tx w K mg) : FnOk P w K mg base CX0 1 T.a__law_draw T.d__law_draw ["pool", "span"] sp_draw := by
  refine T.F__law_draw.ok sc__law_draw (fun vs H Q E h => ?_) (fun cdv A outer s H vs Q E hr h => ?_)
  · obtain ⟨_, _, _, _, rfl, _⟩ := h
    rfl
  obtain ⟨H0, p, m, n, rfl, hP, hm, n0, nb, k⟩ := h
  obtain ⟨a, b, c, hp, a0, b0, b1, c0, c1⟩ := hP.at_
  refine ⟨_, (pss_cons (ps_if (pt_cmpR op_gt (pe_ix ix_list (pv 0) pe_int (fun _ _ => rfl)) pe_int (nomark _)) (pss_cons (ps_set (i := 2) sc__law_draw.nd rfl (Or.inl rfl) (pe_op op_mod (pe_callTy call_int1 (by rfl) T.b_int (by decide +kernel) (pa_cons (pe_ix ix_list (pv 0) pe_int (fun _ _ => rfl)) pa_nil)) (pv 1)))
   (pss_cons (ps_asg (pe_op op_fdivW (pe_ix ix_list (pv 0) pe_int (fun _ _ => rfl)) (pv 1)) (pg_sub (pv 0) pe_int set_list))
   (pss_one (ps_ret (pv 2))))) pss_nil)
   (pss_cons (ps_asg (pe_op op_add (pe_ix ix_list (pv 0) pe_int (fun _ _ => rfl)) pe_int) (pg_sub (pv 0) pe_int set_list))
   (pss_cons (ps_set (i := 3) sc__law_draw.nd rfl (Or.inl rfl) (pe_op op_mod (pe_callTy call_int1 (by rfl) T.b_int (by decide +kernel) (pa_cons (pe_op M.op_powW (pe_op op_add (pe_ix ix_list (pv 0) pe_int (fun _ _ => rfl)) (pe_op op_mul pe_int (pe_ix ix_list (pv 0) pe_int (fun _ _ => rfl)))) pe_int) pa_nil)) pe_int))
   (pss_cons (ps_set (i := 3) sc__law_draw.nd rfl (Or.inl rfl) (pe_op op_mod (pe_callTy call_int1 (by rfl) T.b_int (by decide +kernel) (pa_cons (pe_op M.op_powW (pe_op op_add (pv 3) (pe_op op_mul pe_int (pe_ix ix_list (pv 0) pe_int (fun _ _ => rfl)))) pe_int) pa_nil)) pe_int))
   (pss_one (ps_ret (pe_op op_mod (pe_callTy call_int1 (by rfl) T.b_int (by decide +kernel) (pa_cons (pe_op op_fdivW (pv 3) pe_int) pa_nil)) (pv 1)))))))), ?_⟩
  walk_at "rd"
  refine ite2 (fun q => ?_) (fun q => ?_)
  · walk_at "rd"
    have q1 : 0 < a := of_decide_eq_true q
    refine k _ _ (Int.emod_nonneg _ (by omega)) (Int.emod_lt_of_pos _ n0) ⟨hP.ex.mut hP.out, hP.out, a / n, b, c, ?_, Int.ediv_nonneg a0 (by omega), b0, b1, c0, by omega⟩ (fun b' h => upd_ne h)
    rw [upd_same]; rfl
  · walk_at "rd"
    refine ⟨pow_w 64 (by omega) (by decide) (by decide) (by decide), ?_⟩
    walk_at "rd"
    refine ⟨pow_w 128 ?_ (by decide) (by decide) (by decide), ?_⟩
    · have e := Int.emod_lt_of_pos ((b + 15485863 * (c + 1)) ^ Int.toNat 3) (show (0 : Int) < 162259276829213363391578010288127 by decide)
      have e0 := Int.emod_nonneg ((b + 15485863 * (c + 1)) ^ Int.toNat 3) (show (162259276829213363391578010288127 : Int) ≠ 0 by decide)
      generalize (b + 15485863 * (c + 1)) ^ Int.toNat 3 % 162259276829213363391578010288127 = x at e e0
      show (x + 32452843 * (c + 1)).natAbs < 2 ^ 128
      have : (2 : Nat) ^ 128 = 340282366920938463463374607431768211456 := by decide
      omega
    walk_at "rd"
    refine k _ _ (Int.emod_nonneg _ (by omega)) (Int.emod_lt_of_pos _ n0) ⟨hP.ex.mut hP.out, hP.out, a, b, c + 1, ?_, a0, b0, b1, by omega, by omega⟩ (fun b' h => upd_ne h)
    rw [upd_same]; rfl

end
end Lw
end

section
set_option Elab.async false
set_option linter.all false
set_option maxRecDepth 100000
set_option maxHeartbeats 4000000
set_option pp.maxSteps 300
set_option pp.deepTerms false
namespace Lw
open PySem L2 Evl M
open PyProof.Rows hiding St
local macro_rules | `(tactic| walk_at "at") => `(tactic| first | assumption | exact upd_same)
local macro_rules | `(tactic| walk_at "sq") => `(tactic| first | assumption | exact SqL.of (by walk_at "at") | exact SqT.of (by walk_at "at"))
local macro_rules | `(tactic| walk_at "sd") => `(tactic| first | assumption | exact Names.size (by assumption) | omega | decide | exact Nat.le_of_ble_eq_true rfl | exact Or.inl ⟨by decide, by decide⟩ | exact wide_div (b := 200) (by first | assumption | decide) (by first | assumption | decide) (by decide) (by decide) | exact pow_w 10 (by decide) (by decide) (by decide) (by decide))
local macro_rules | `(tactic| walk_at "r1") => `(tactic| first
  | refine ⟨_, rfl, ?_⟩
  | refine ⟨_, _, rfl, rfl, ?_⟩
  | refine And.intro rfl ?_
  | refine ⟨_, _, _, _, rfl, rfl, (by walk_at "sq"), rfl, ?_⟩
  | refine ⟨_, _, _, _, rfl, rfl, (by walk_at "at"), rfl, ?_⟩
  | refine ⟨_, _, rfl, Or.inl (by walk_at "sq"), ?_⟩
  | refine ⟨_, _, rfl, Or.inr (by walk_at "sq"), ?_⟩
  | refine ⟨_, _, rfl, ?_⟩
  | refine Or.inl ⟨_, rfl, ?_⟩
  | refine And.intro (by walk_at "sd") ?_)
local macro_rules | `(tactic| walk_at "rd") => `(tactic| try (walk_at "r1"; walk_at "rd"))
section
variable {P : Program} {w : World} {K : PySem.W.Frag} {mg : Str → Option Value} {base : Heap}
theorem ok__law_pool (T : Tx w K mg) : FnOk P w K mg base CX0 1 T.a__law_pool T.d__law_pool ["script", "spot"] (sp_pool K) := by
  refine T.F__law_pool.ok sc__law_pool (fun vs H Q E h => ?_) (fun cdv A outer s H vs Q E hr h => ?_)
  · obtain ⟨_, _, _, rfl, _⟩ := h
    rfl
  obtain ⟨a, ns, i, rfl, hS, i0, i1, k⟩ := h
  have fin : ∀ (c : Int) (p : Addr), H p = none → Pl H (upd H p (.lst [.int (if c.natAbs - 10 ^ 18 > (0 : Int) then c.natAbs - 10 ^ 18 else 0), .int (c % 2305843009213693951 + 7368787 * (i + 1)), .int 0])) p 0 := by
    intro c p hp
    have e := Int.emod_lt_of_pos c (show (0 : Int) < 2305843009213693951 by decide)
    have e0 := Int.emod_nonneg c (show (2305843009213693951 : Int) ≠ 0 by decide)
    refine ⟨Ex.new hp, hp, _, _, _, upd_same, ?_, by omega, ?_, by omega, by omega⟩
    · split <;> omega
    · have : (2 : Int) ^ 62 = 4611686018427387904 := by decide
      omega
  refine ⟨_, (pss_cons (ps_set (i := 2) sc__law_pool.nd rfl (Or.inl rfl) pe_int)
   (pss_cons (ps_if (pt_cmpR op_lt (pv 1) (pe_callB call_len_seq (by rfl) T.b_len (by decide +kernel) (pa_cons (pv 0) pa_nil)) (nomark _)) (pss_one (ps_set (i := 2) sc__law_pool.nd rfl (Or.inl rfl) (pe_ix ix_list (pv 0) (pv 1) (fun _ _ => rfl)))) pss_nil)
   (pss_one (ps_ret (pe_lst (pa_cons (pe_callB (call_max2 (by rfl)) (by rfl) T.b_max (by decide +kernel) (pa_cons pe_int (pa_cons (pe_op op_sub (pe_callB call_abs (by rfl) T.b_abs (by decide +kernel) (pa_cons (pv 2) pa_nil)) (pe_op M.op_powW pe_int pe_int)) pa_nil))) (pa_cons (pe_op op_add (pe_op op_mod (pe_callTy call_int1 (by rfl) T.b_int (by decide +kernel) (pa_cons (pv 2) pa_nil)) pe_int) (pe_op op_mul pe_int (pe_op op_add (pv 1) pe_int))) (pa_cons pe_int pa_nil)))))))), ?_⟩
  walk_at "rd"
  refine ite2 (fun q => ?_) (fun q => ?_)
  · have q1 : i < ns.length := by
      have q0 := of_decide_eq_true q
      rw [List.length_map] at q0
      exact q0
    obtain ⟨j, rfl⟩ : ∃ j : Nat, i = j := ⟨i.toNat, by omega⟩
    have q2 : j < ns.length := by omega
    walk_at "rd"
    refine ⟨_, _, _, V.int ns[j], rfl, rfl, hS, atI_nat (by simp [q2]), ?_⟩
    walk_at "rd"
    intro p hp
    refine k p _ ?_
    have e := fin ns[j] p hp
    have e2 : (if ns[j] < 0 then -ns[j] else ns[j]) = (ns[j].natAbs : Int) := by split <;> omega
    rw [← e2] at e
    exact e
  · walk_at "rd"
    exact fun p hp => k p _ (fin 0 p hp)

end
end Lw
end

section
set_option Elab.async false
set_option linter.all false
set_option maxRecDepth 100000
set_option maxHeartbeats 4000000
set_option pp.maxSteps 300
set_option pp.deepTerms false
namespace Lw
open PySem L2 Evl M
open PyProof.Rows hiding St
local macro_rules | `(tactic| walk_at "at") => `(tactic| first | assumption | exact upd_same)
local macro_rules | `(tactic| walk_at "sq") => `(tactic| first | assumption | exact SqL.of (by walk_at "at") | exact SqT.of (by walk_at "at"))
local macro_rules | `(tactic| walk_at "sd") => `(tactic| first | assumption | exact Names.size (by assumption) | omega | decide | exact Nat.le_of_ble_eq_true rfl | exact Or.inl ⟨by decide, by decide⟩ | exact wide_div (b := 200) (by first | assumption | decide) (by first | assumption | decide) (by decide) (by decide) | exact pow_w 10 (by decide) (by decide) (by decide) (by decide))
local macro_rules | `(tactic| walk_at "r1") => `(tactic| first
  | refine ⟨_, rfl, ?_⟩
  | refine ⟨_, _, rfl, rfl, ?_⟩
  | refine And.intro rfl ?_
  | refine ⟨_, _, _, _, rfl, rfl, (by walk_at "sq"), rfl, ?_⟩
  | refine ⟨_, _, _, _, rfl, rfl, (by walk_at "at"), rfl, ?_⟩
  | refine ⟨_, _, rfl, Or.inl (by walk_at "sq"), ?_⟩
  | refine ⟨_, _, rfl, Or.inr (by walk_at "sq"), ?_⟩
  | refine ⟨_, _, rfl, ?_⟩
  | refine Or.inl ⟨_, rfl, ?_⟩
  | refine And.intro (by walk_at "sd") ?_)
local macro_rules | `(tactic| walk_at "rd") => `(tactic| try (walk_at "r1"; walk_at "rd"))
section
variable {P : Program} {w : World} {K : PySem.W.Frag} {mg : Str → Option Value} {base : Heap}
theorem ok_is_letter (T : Tx w K mg) : FnOk P w K mg base CX0 1 T.a_is_letter T.d_is_letter ["sign"] sp_is_letter := by
  refine T.F_is_letter.ok sc_is_letter (fun vs H Q E h => ?_) (fun cdv A outer s H vs Q E hr h => ?_)
  · obtain ⟨_, rfl, _⟩ := h
    rfl
  obtain ⟨c, rfl, k⟩ := h
  have lt : ∀ a b : Nat, (([a] : List Nat) < [b]) ↔ a < b := fun a b => by
    rw [List.cons_lt_cons_iff]
    exact ⟨fun h => h.elim id fun z => absurd z.2 (List.lt_irrefl _), Or.inl⟩
  have la : (Str.ofString "a").cps.toList = [97] := by decide +kernel
  have lz : (Str.ofString "z").cps.toList = [122] := by decide +kernel
  refine ⟨_, (pss_one (ps_ret (pe_chain op_le_str op_le_str pe_str (pv 0) pe_str))), ?_⟩
  walk_at "rd"
  rw [la]
  refine iteND (fun e1 => ?_) (fun e1 => ?_)
  · have e1 : ¬ c < 97 := fun z => e1 ((lt _ _).mpr z)
    walk_at "rd"
    show Q (V.bl (!decide ((Str.ofString "z").cps.toList < [c]))) H
    rw [lz]
    have e : (!decide (([122] : List Nat) < [c])) = decide (97 ≤ c ∧ c ≤ 122) := by
      by_cases h : 122 < c
      · rw [decide_eq_true ((lt _ _).mpr h), decide_eq_false (by omega)]; rfl
      · rw [decide_eq_false (fun z => h ((lt _ _).mp z)), decide_eq_true (by omega)]; rfl
    rw [e]
    exact k
  · have e1 : c < 97 := (lt _ _).mp e1
    show Q (V.bl false) H
    rw [← (decide_eq_false (by omega) : decide (97 ≤ c ∧ c ≤ 122) = false)]
    exact k

end
end Lw
end

section
set_option Elab.async false
set_option linter.all false
set_option maxRecDepth 100000
set_option maxHeartbeats 4000000
set_option pp.maxSteps 300
set_option pp.deepTerms false
namespace Lw
open PySem L2 Evl M
open PyProof.Rows hiding St
local macro_rules | `(tactic| walk_at "at") => `(tactic| first | assumption | exact upd_same)
local macro_rules | `(tactic| walk_at "sq") => `(tactic| first | assumption | exact SqL.of (by walk_at "at") | exact SqT.of (by walk_at "at"))
local macro_rules | `(tactic| walk_at "sd") => `(tactic| first | assumption | exact Names.size (by assumption) | omega | decide | exact Nat.le_of_ble_eq_true rfl | exact Or.inl ⟨by decide, by decide⟩ | exact wide_div (b := 200) (by first | assumption | decide) (by first | assumption | decide) (by decide) (by decide) | exact pow_w 10 (by decide) (by decide) (by decide) (by decide))
local macro_rules | `(tactic| walk_at "r1") => `(tactic| first
  | refine ⟨_, rfl, ?_⟩
  | refine ⟨_, _, rfl, rfl, ?_⟩
  | refine And.intro rfl ?_
  | refine ⟨_, _, _, _, rfl, rfl, (by walk_at "sq"), rfl, ?_⟩
  | refine ⟨_, _, _, _, rfl, rfl, (by walk_at "at"), rfl, ?_⟩
  | refine ⟨_, _, rfl, Or.inl (by walk_at "sq"), ?_⟩
  | refine ⟨_, _, rfl, Or.inr (by walk_at "sq"), ?_⟩
  | refine ⟨_, _, rfl, ?_⟩
  | refine Or.inl ⟨_, rfl, ?_⟩
  | refine And.intro (by walk_at "sd") ?_)
local macro_rules | `(tactic| walk_at "rd") => `(tactic| try (walk_at "r1"; walk_at "rd"))
section
variable {P : Program} {w : World} {K : PySem.W.Frag} {mg : Str → Option Value} {base : Heap}
theorem ok_is_one_letter (T : Tx w K mg) (G_is_letter : FnOk P w K mg base CX0 1 T.a_is_letter T.d_is_letter ["sign"] sp_is_letter) :
    FnOk P w K mg base CX0 2 T.a_is_one_letter T.d_is_one_letter ["value"] (sp_is_one_letter K) := by
  refine T.F_is_one_letter.ok sc_is_one_letter (fun vs H Q E h => ?_) (fun cdv A outer s H vs Q E hr h => ?_)
  · obtain ⟨_, _, rfl, _⟩ := h
    rfl
  obtain ⟨v, d, rfl, hd, hs, k⟩ := h
  refine ⟨_, (pss_one (ps_ret (pe_and (pe_callB M.call_isT (by rfl) T.b_isinstance (by decide +kernel) (pa_cons (pv 0) (pa_cons (pe_bltn (v := .ty "str") (by rfl) T.b_str (by decide +kernel) rfl) pa_nil))) (pe_and (pe_cmpR op_eq (pe_callB call_len_str (by rfl) T.b_len (by decide +kernel) (pa_cons (pv 0) pa_nil)) pe_int (nomark _)) (pe_one (pe_call G_is_letter (hr.mono (by omega)) (by rfl) T.g_is_letter T.F_is_letter.kp T.b_is_letter .nil pass0 (pa_cons (pv 0) pa_nil))))))), ?_⟩
  walk_at "rd"
  refine ⟨_, _, _, _, rfl, hd.ty, isStr d, ?_⟩
  walk_at "rd"
  refine iteB (fun e1 => ?_) (fun e1 => ?_)
  · cases hd with
    | str z =>
      have hz : z.length ≤ 1000 := of_decide_eq_true hs
      walk_at "rd"
      refine And.intro (Nat.le_trans hz (by decide)) ?_
      walk_at "rd"
      refine iteI (fun e2 => ?_) (fun e2 => ?_)
      · obtain ⟨c, rfl⟩ := one_cases z (by omega)
        walk_at "rd"
        refine k _ ⟨fun h => ⟨_, rfl, c, rfl, of_decide_eq_true h⟩, ?_⟩
        rintro ⟨_, e3, c', e4, h⟩
        cases e3
        cases e4
        exact decide_eq_true h
      · refine k _ ⟨(fun h => nomatch h), ?_⟩
        rintro ⟨_, e3, c', rfl, _⟩
        cases e3
        exact absurd rfl e2
    | _ => cases e1
  · refine k _ ⟨(fun h => nomatch h), ?_⟩
    rintro ⟨z, rfl, _⟩
    cases e1

end
end Lw
end

section
set_option Elab.async false
set_option linter.all false
set_option maxRecDepth 100000
set_option maxHeartbeats 4000000
set_option pp.maxSteps 300
set_option pp.deepTerms false
namespace Lw
open PySem L2 Evl M
open PyProof.Rows hiding St
local macro_rules | `(tactic| walk_at "at") => `(tactic| first | assumption | exact upd_same)
local macro_rules | `(tactic| walk_at "sq") => `(tactic| first | assumption | exact SqL.of (by walk_at "at") | exact SqT.of (by walk_at "at"))
local macro_rules | `(tactic| walk_at "sd") => `(tactic| first | assumption | exact Names.size (by assumption) | omega | decide | exact Nat.le_of_ble_eq_true rfl | exact Or.inl ⟨by decide, by decide⟩ | exact wide_div (b := 200) (by first | assumption | decide) (by first | assumption | decide) (by decide) (by decide) | exact pow_w 10 (by decide) (by decide) (by decide) (by decide))
local macro_rules | `(tactic| walk_at "r1") => `(tactic| first
  | refine ⟨_, rfl, ?_⟩
  | refine ⟨_, _, rfl, rfl, ?_⟩
  | refine And.intro rfl ?_
  | refine ⟨_, _, _, _, rfl, rfl, (by walk_at "sq"), rfl, ?_⟩
  | refine ⟨_, _, _, _, rfl, rfl, (by walk_at "at"), rfl, ?_⟩
  | refine ⟨_, _, rfl, Or.inl (by walk_at "sq"), ?_⟩
  | refine ⟨_, _, rfl, Or.inr (by walk_at "sq"), ?_⟩
  | refine ⟨_, _, rfl, ?_⟩
  | refine Or.inl ⟨_, rfl, ?_⟩
  | refine And.intro (by walk_at "sd") ?_)
local macro_rules | `(tactic| walk_at "rd") => `(tactic| try (walk_at "r1"; walk_at "rd"))
section
variable {P : Program} {w : World} {K : PySem.W.Frag} {mg : Str → Option Value} {base : Heap}
theorem ok_has_form (T : Tx w K mg) (G_is_one_letter : FnOk P w K mg base CX0 2 T.a_is_one_letter T.d_is_one_letter ["value"] (sp_is_one_letter K)) :
    FnOk P w K mg base CX0 3 T.a_has_form T.d_has_form ["value"] (sp_has_form K) := by
  refine T.F_has_form.ok sc_has_form (fun vs H Q E h => ?_) (fun cdv A outer s H vs Q E hr h => ?_)
  · obtain ⟨_, _, rfl, _⟩ := h
    rfl
  obtain ⟨v, d, rfl, hd, hs, k⟩ := h
  refine ⟨_, (pss_cons (ps_if (pw_or (pt_not (pt_val (pe_callB M.call_isT (by rfl) T.b_isinstance (by decide +kernel) (pa_cons (pv 0) (pa_cons (pe_bltn (v := .ty "tuple") (by rfl) T.b_tuple (by decide +kernel) rfl) pa_nil))))) (pw_or1 (pt_cmpR op_eq (pe_callB call_len_seq (by rfl) T.b_len (by decide +kernel) (pa_cons (pv 0) pa_nil)) pe_int (nomark _)))).pt (pss_one (ps_ret pe_bl)) pss_nil)
   (pss_cons (ps_set (i := 1) sc_has_form.nd rfl (Or.inl rfl) (pe_ix ix_tup (pv 0) pe_int (fun _ _ => rfl)))
   (pss_cons (ps_if (pw_or (pt_not (pt_val (pe_callB M.call_isT (by rfl) T.b_isinstance (by decide +kernel) (pa_cons (pv 1) (pa_cons (pe_bltn (v := .ty "str") (by rfl) T.b_str (by decide +kernel) rfl) pa_nil))))) (pw_or1 (pt_cmpR op_ne (M.pe_kget (pe_glob (v := .ref T.a_SIZES) (by rfl) T.g_SIZES rfl) (pv 1) pe_int ⟨by rfl, by rfl, by rfl, by rfl⟩) (pe_callB call_len_seq (by rfl) T.b_len (by decide +kernel) (pa_cons (pv 0) pa_nil)) (nomark _)))).pt (pss_one (ps_ret pe_bl)) pss_nil)
   (pss_one (ps_ret (pe_or (pe_cmpR op_ne (pv 1) pe_str (nomark _)) (pe_one (pe_call G_is_one_letter (hr.mono (by omega)) (by rfl) T.g_is_one_letter T.F_is_one_letter.kp T.b_is_one_letter .nil pass0 (pa_cons (pe_ix ix_tup (pv 0) pe_int (fun _ _ => rfl)) pa_nil))))))))), ?_⟩
  have no : ¬ HasForm d → Q (.bl false) H := fun h => k false ⟨(fun z => nomatch z), fun z => absurd z h⟩
  walk_at "rd"
  refine ⟨_, _, _, _, rfl, hd.ty, isTup d, ?_⟩
  walk_at "rd"
  refine iteB (fun e1 => ?_) (fun e1 => ?_)
  · walk_at "rd"
    exact no fun h => by
      obtain ⟨z, ds, rfl⟩ := form_tup h
      cases e1
  have e1 : tupB d = true := by simpa using e1
  cases hd with
  | @tup a xs ds hx hds =>
    have hl := hds.len
    walk_at "rd"
    refine iteI (fun e2 => ?_) (fun e2 => ?_)
    · walk_at "rd"
      exact no fun h => by
        obtain ⟨z, es, e⟩ := form_tup h
        cases e
        simp only [List.length_cons] at hl
        omega
    cases hds with
    | nil => exact absurd rfl e2
    | @cons x xs d0 ds hd0 hds =>
      walk_at "rd"
      refine ⟨_, _, _, x, rfl, rfl, hx, at0 _ _, ?_⟩
      walk_at "rd"
      refine ⟨_, _, _, _, rfl, hd0.ty, isStr d0, ?_⟩
      walk_at "rd"
      refine iteB (fun e3 => ?_) (fun e3 => ?_)
      · walk_at "rd"
        exact no fun h => by
          obtain ⟨z, es, e⟩ := form_tup h
          cases e
          cases e3
      have e3 : strB d0 = true := by simpa using e3
      cases hd0 with
      | str wd =>
        walk_at "rd"
        refine ⟨_, _, rfl, T.ki_SIZES, ?_⟩
        walk_at "rd"
        refine iteNI (fun e4 => ?_) (fun e4 => ?_)
        · walk_at "rd"
          refine no fun h => e4 ?_
          show (List.lookup wd _).getD 0 = _
          rw [form_size h, hl]
          rfl
        have e4 := sz_cases e4 e2
        have hl2 : xs.length = ds.length := hds.len
        simp only [List.length_cons] at e4
        walk_at "rd"
        refine iteNS (fun e5 => ?_) (fun e5 => ?_)
        · refine k true ⟨fun _ => ?_, fun _ => rfl⟩
          rcases e4 with ⟨rfl, e6⟩ | ⟨rfl, e6⟩ | ⟨rfl, e6⟩ | ⟨rfl, e6⟩
          · cases ds with
            | nil => rfl
            | cons _ _ => simp only [List.length_cons] at hl2; omega
          · match ds, hl2 with
            | [_], _ => rfl
            | [], h | _ :: _ :: _, h => simp only [List.length_cons, List.length_nil] at h; omega
          · match ds, hl2 with
            | [_, _], _ => rfl
            | [], h | [_], h | _ :: _ :: _ :: _, h => simp only [List.length_cons, List.length_nil] at h; omega
          · exact absurd rfl e5
        · subst e5
          have e6 : ((xs.length + 1 : Nat) : Int) = 4 := by
            rcases e4 with ⟨z, _⟩ | ⟨z, _⟩ | ⟨z, _⟩ | ⟨_, z⟩
            · exact absurd z (by decide +kernel)
            · exact absurd z (by decide +kernel)
            · exact absurd z (by decide +kernel)
            · exact z
          match xs, ds, hds, hl2, e6 with
          | _, _, .cons ha (.cons hc (.cons hb .nil)), _, _ =>
            walk_at "rd"
            have hs' : sm _ = true := sms_mem (ds := [_, _, _, _]) hs _ (List.mem_cons_of_mem _ (List.mem_cons_of_mem _ List.mem_cons_self))
            refine ⟨_, _, rfl, hc, hs', fun b hb' => ?_⟩
            refine k b (hb'.trans ⟨?_, ?_⟩)
            · rintro ⟨z, rfl, h⟩
              exact ⟨rfl, h⟩
            · intro h
              unfold HasForm at h
              split at h
              all_goals first
                | (rename_i e; cases e; exact ⟨_, rfl, h.2⟩)
                | (rename_i e; cases e)
                | exact h.elim
          | _, _, .nil, _, h | _, _, .cons _ .nil, _, h | _, _, .cons _ (.cons _ .nil), _, h | _, _, .cons _ (.cons _ (.cons _ (.cons _ _))), _, h => simp only [List.length_cons, List.length_nil] at h; omega
      | _ => cases e3
  | _ => cases e1

end
end Lw
end

section
set_option Elab.async false
set_option linter.all false
set_option maxRecDepth 100000
set_option maxHeartbeats 4000000
set_option pp.maxSteps 300
set_option pp.deepTerms false
namespace Lw
open PySem L2 Evl M
open PyProof.Rows hiding St
local macro_rules | `(tactic| walk_at "at") => `(tactic| first | assumption | exact upd_same)
local macro_rules | `(tactic| walk_at "sq") => `(tactic| first | assumption | exact SqL.of (by walk_at "at") | exact SqT.of (by walk_at "at"))
local macro_rules | `(tactic| walk_at "sd") => `(tactic| first | assumption | exact Names.size (by assumption) | omega | decide | exact Nat.le_of_ble_eq_true rfl | exact Or.inl ⟨by decide, by decide⟩ | exact wide_div (b := 200) (by first | assumption | decide) (by first | assumption | decide) (by decide) (by decide) | exact pow_w 10 (by decide) (by decide) (by decide) (by decide))
local macro_rules | `(tactic| walk_at "r1") => `(tactic| first
  | refine ⟨_, rfl, ?_⟩
  | refine ⟨_, _, rfl, rfl, ?_⟩
  | refine And.intro rfl ?_
  | refine ⟨_, _, _, _, rfl, rfl, (by walk_at "sq"), rfl, ?_⟩
  | refine ⟨_, _, _, _, rfl, rfl, (by walk_at "at"), rfl, ?_⟩
  | refine ⟨_, _, rfl, Or.inl (by walk_at "sq"), ?_⟩
  | refine ⟨_, _, rfl, Or.inr (by walk_at "sq"), ?_⟩
  | refine ⟨_, _, rfl, ?_⟩
  | refine Or.inl ⟨_, rfl, ?_⟩
  | refine And.intro (by walk_at "sd") ?_)
local macro_rules | `(tactic| walk_at "rd") => `(tactic| try (walk_at "r1"; walk_at "rd"))
section
variable {P : Program} {w : World} {K : PySem.W.Frag} {mg : Str → Option Value} {base : Heap}
theorem ok_inner_questions (T : Tx w K mg) : FnOk P w K mg base CX0 1 T.a_inner_questions T.d_inner_questions ["part"] (sp_inner K) := by
  refine T.F_inner_questions.ok sc_inner_questions (fun vs H Q E h => ?_) (fun cdv A outer s H vs Q E hr h => ?_)
  · obtain ⟨_, _, _, rfl, _⟩ := h
    rfl
  obtain ⟨H0, v, d, rfl, x0, hd, hf, k⟩ := h
  refine ⟨_, (pss_cons (ps_if (pt_cmpR op_eq (pe_ix ix_tup (pv 0) pe_int (fun _ _ => rfl)) pe_str (nomark _)) (pss_one (ps_ret (pe_lst (pa_cons (pe_ix ix_tup (pv 0) pe_int (fun _ _ => rfl)) (pa_cons (pe_ix ix_tup (pv 0) pe_int (fun _ _ => rfl)) pa_nil))))) pss_nil)
   (pss_one (ps_ret (pe_callTy call_list_of (by rfl) T.b_list (by decide +kernel) (pa_cons (pe_slice sl_tup (pv 0) (po_some pe_int) po_none) pa_nil))))), ?_⟩
  have tail : ∀ (x : V) (xs : List V) (ds : List PyData), inner d = ds → Das K H0 xs ds → ∀ t, H t = none → ∀ l, upd H t (.tup (cutV (x :: xs) (some 1) none)) l = none → Q (.ref l) (upd (upd H t (.tup (cutV (x :: xs) (some 1) none))) l (.lst (cutV (x :: xs) (some 1) none))) := by
    intro x xs ds e h t ht l hl
    rw [cut1] at hl ⊢
    exact k l xs _ ((Ex.new ht).trans (Ex.new hl)) (fresh_back (Ex.new ht) hl) upd_same (by rw [e]; exact h)
  obtain ⟨a, xs, rfl, hx, hc⟩ := form_cases hd hf
  have hx := ex_t x0 hx
  rcases hc with ⟨rfl, e⟩ | ⟨x, r, rfl, h1, e⟩ | ⟨x, y, r, t, rfl, h1, h2, e⟩ | ⟨x, y, r, t, c, rfl, h1, h2, e, _⟩
  · walk_at "rd"
    refine ⟨_, _, rfl, hx, cut1_not _ _, fun t ht => ?_⟩
    walk_at "rd"
    exact tail _ _ _ e .nil t ht
  · walk_at "rd"
    refine ⟨_, _, rfl, hx, cut1_not _ _, fun t ht => ?_⟩
    walk_at "rd"
    exact tail _ _ _ e (.cons h1 .nil) t ht
  · walk_at "rd"
    refine ⟨_, _, rfl, hx, cut1_not _ _, fun t ht => ?_⟩
    walk_at "rd"
    exact tail _ _ _ e (.cons h1 (.cons h2 .nil)) t ht
  · walk_at "rd"
    exact fun l hl => k l _ _ (Ex.new hl) hl upd_same (by rw [e]; exact .cons h1 (.cons h2 .nil))

end
end Lw
end

section
set_option Elab.async false
set_option linter.all false
set_option maxRecDepth 100000
set_option maxHeartbeats 4000000
set_option pp.maxSteps 300
set_option pp.deepTerms false
namespace Lw
open PySem L2 Evl M
open PyProof.Rows hiding St
local macro_rules | `(tactic| walk_at "at") => `(tactic| first | assumption | exact upd_same)
local macro_rules | `(tactic| walk_at "sq") => `(tactic| first | assumption | exact SqL.of (by walk_at "at") | exact SqT.of (by walk_at "at"))
local macro_rules | `(tactic| walk_at "sd") => `(tactic| first | assumption | exact Names.size (by assumption) | omega | decide | exact Nat.le_of_ble_eq_true rfl | exact Or.inl ⟨by decide, by decide⟩ | exact wide_div (b := 200) (by first | assumption | decide) (by first | assumption | decide) (by decide) (by decide) | exact pow_w 10 (by decide) (by decide) (by decide) (by decide))
local macro_rules | `(tactic| walk_at "r1") => `(tactic| first
  | refine ⟨_, rfl, ?_⟩
  | refine ⟨_, _, rfl, rfl, ?_⟩
  | refine And.intro rfl ?_
  | refine ⟨_, _, _, _, rfl, rfl, (by walk_at "sq"), rfl, ?_⟩
  | refine ⟨_, _, _, _, rfl, rfl, (by walk_at "at"), rfl, ?_⟩
  | refine ⟨_, _, rfl, Or.inl (by walk_at "sq"), ?_⟩
  | refine ⟨_, _, rfl, Or.inr (by walk_at "sq"), ?_⟩
  | refine ⟨_, _, rfl, ?_⟩
  | refine Or.inl ⟨_, rfl, ?_⟩
  | refine And.intro (by walk_at "sd") ?_)
local macro_rules | `(tactic| walk_at "rd") => `(tactic| try (walk_at "r1"; walk_at "rd"))
section
variable {P : Program} {w : World} {K : PySem.W.Frag} {mg : Str → Option Value} {base : Heap}
theorem ok_is_question (T : Tx w K mg) (G_has_form : FnOk P w K mg base CX0 3 T.a_has_form T.d_has_form ["value"] (sp_has_form K))
    (G_inner_questions : FnOk P w K mg base CX0 1 T.a_inner_questions T.d_inner_questions ["part"] (sp_inner K)) :
    FnOk P w K mg base CX0 4 T.a_is_question T.d_is_question ["value"] (sp_is_question K) := by
  refine T.F_is_question.ok sc_is_question (fun vs H Q E h => ?_) (fun cdv A outer s H vs Q E hr h => ?_)
  · obtain ⟨_, _, _, rfl, _⟩ := h
    rfl
  obtain ⟨H0, v, d, rfl, x0, hd, hs, hz, k⟩ := h
  refine ⟨_, (pss_cons (ps_set (i := 1) sc_is_question.nd rfl (Or.inl rfl) (pe_lst (pa_cons (pv 0) pa_nil)))
   (pss_cons (ps_while PassesOwn.never (pt_truth (pv 1) (by intro _; rfl)) (pss_cons (ps_set (i := 2) sc_is_question.nd rfl (Or.inl rfl) (pe_bm0 PySem.F.plainAttrs_list PySem.F.slot_list_pop PySem.F.type_list_pop mt_pop (pv 1)))
   (pss_cons (ps_if (pt_not (pt_val (pe_call G_has_form (hr.mono (by omega)) (by rfl) T.g_has_form T.F_has_form.kp T.b_has_form .nil pass0 (pa_cons (pv 2) pa_nil)))) (pss_one (ps_ret pe_bl)) pss_nil)
   (pss_one (ps_expr (pe_bm PySem.F.plainAttrs_list PySem.F.slot_list_extend PySem.F.type_list_extend mt_extend (pv 1) (pa_cons (pe_call G_inner_questions (hr.mono (by omega)) (by rfl) T.g_inner_questions T.F_inner_questions.kp T.b_inner_questions .nil pass0 (pa_cons (pv 2) pa_nil)) pa_nil)))))))
   (pss_one (ps_ret pe_bl)))), ?_⟩
  walk_at "rd"
  intro l hl
  refine ⟨fun m σ H' => ∃ (xs : List V) (ds : List PyData) (o : Option V), σ = [some v, some (.ref l), o] ∧ m = ndss ds ∧ Ex H H' ∧ H' l = some (.lst xs) ∧ Das K H0 xs ds ∧ sms ds = true ∧ ndss ds ≤ 10000 ∧ (IsQ d ↔ ∀ x ∈ ds, IsQ x),
    ⟨_, [v], [d], _, rfl, rfl, Ex.new hl, upd_same, .cons hd .nil, by rw [sms, hs]; rfl, by simp only [ndss]; omega, by simp⟩, ?_⟩
  rintro m σ H' ⟨xs, ds, o, rfl, rfl, x1, hL, hds, hsm, hn, hq⟩
  refine ⟨_, rfl, _, .inl ⟨xs, SqL.of hL, rfl⟩, ?_⟩
  rw [hds.ne]
  cases ds with
  | nil =>
    refine iteF ?_
    walk_at "rd"
    exact k true H' x1 ⟨fun _ => hq.mpr (by simp), fun _ => rfl⟩
  | cons d1 ds1 =>
  refine iteT ?_
  obtain ⟨x, dl, e1, hx, hdl, e2⟩ := hds.last (by simp)
  generalize d1 :: ds1 = ds at *
  have hlen := hds.len
  have hl0 : H0 l = none := fresh_back x0 hl
  have n0 : ndss ds.dropLast + nds dl = ndss ds := by
    conv => rhs; rw [e2, ndss_app]
    simp [ndss]
  have mem : ∀ y, y ∈ ds ↔ y ∈ ds.dropLast ∨ y = dl := fun y => by
    conv => lhs; rw [e2]
    simp
  have sm1 : sm dl = true := sms_mem hsm _ ((mem dl).mpr (.inr rfl))
  refine ⟨fun σ' G => ∃ m', m' < ndss ds ∧ ∃ (xs : List V) (ds : List PyData) (o : Option V), σ' = [some v, some (.ref l), o] ∧ m' = ndss ds ∧ Ex H G ∧ G l = some (.lst xs) ∧ Das K H0 xs ds ∧ sms ds = true ∧ ndss ds ≤ 10000 ∧ (IsQ d ↔ ∀ x ∈ ds, IsQ x), fun _ _ h => h, ?_⟩
  refine ⟨_, rfl, .inl ⟨rfl, _, SqL.of hL⟩, l, xs, x, rfl, rfl, hL, e1, ?_⟩
  have ex1 : Ex H (upd H' l (.lst xs.dropLast)) := x1.mut hl
  have hx1 : Da K (upd H' l (.lst xs.dropLast)) x dl := hx.up (x0.trans ex1)
  walk_at "rd"
  refine ⟨x, dl, rfl, hx1, sm1, fun b hb => ?_⟩
  walk_at "rd"
  cases b with
  | false =>
    refine iteT ?_
    walk_at "rd"
    refine k false _ ex1 ⟨(fun h => nomatch h), fun h => ?_⟩
    exact hb.mpr (isQ_form.mp (hq.mp h dl ((mem dl).mpr (.inr rfl)))).1
  | true =>
    refine iteF ?_
    have hf : HasForm dl := hb.mp rfl
    walk_at "rd"
    refine ⟨.inl ⟨rfl, _, SqL.of upd_same⟩, ?_⟩
    refine ⟨_, rfl, ?_⟩
    refine ⟨H0, x, dl, rfl, x0.trans ex1, hx, hf, fun l2 ys G xg f2 g2 hys => ?_⟩
    have ln : l2 ≠ l := fun z => by rw [z, upd_same] at f2; cases f2
    have b1 := ndss_len ds.dropLast
    have b2 := ndss_len (inner dl)
    have b3 := inner_nds dl
    have b4 := hdl.len
    have b5 := hys.len
    refine ⟨l, l2, xs.dropLast, ys, rfl, rfl, xg _ _ upd_same, g2, Nat.le_trans (by omega : _ ≤ 20000) (by decide), ?_⟩
    refine ⟨ndss (ds.dropLast ++ inner dl), by rw [ndss_app]; omega, _, _, _, rfl, rfl, ?_, upd_same, hdl.app hys, sms_app ?_ (sms_of (sm_inner sm1)), by rw [ndss_app]; omega, hq.trans ⟨fun h y hy => ?_, fun h y hy => ?_⟩⟩
    · exact (ex1.trans xg).mut hl
    · exact sms_of fun y hy => sms_mem hsm y ((mem y).mpr (.inl hy))
    · rcases List.mem_append.mp hy with z | z
      · exact h y ((mem y).mpr (.inl z))
      · exact (isQ_form.mp (h dl ((mem dl).mpr (.inr rfl)))).2 y z
    · rcases (mem y).mp hy with z | rfl
      · exact h y (List.mem_append.mpr (.inl z))
      · exact isQ_form.mpr ⟨hf, fun y' hy' => h y' (List.mem_append.mpr (.inr hy'))⟩

end
end Lw
end

section
set_option Elab.async false
set_option linter.all false
set_option maxRecDepth 100000
set_option maxHeartbeats 4000000
set_option pp.maxSteps 300
set_option pp.deepTerms false
namespace Lw
open PySem L2 Evl M
open PyProof.Rows hiding St
local macro_rules | `(tactic| walk_at "at") => `(tactic| first | assumption | exact upd_same)
local macro_rules | `(tactic| walk_at "sq") => `(tactic| first | assumption | exact SqL.of (by walk_at "at") | exact SqT.of (by walk_at "at"))
local macro_rules | `(tactic| walk_at "sd") => `(tactic| first | assumption | exact Names.size (by assumption) | omega | decide | exact Nat.le_of_ble_eq_true rfl | exact Or.inl ⟨by decide, by decide⟩ | exact wide_div (b := 200) (by first | assumption | decide) (by first | assumption | decide) (by decide) (by decide) | exact pow_w 10 (by decide) (by decide) (by decide) (by decide))
local macro_rules | `(tactic| walk_at "r1") => `(tactic| first
  | refine ⟨_, rfl, ?_⟩
  | refine ⟨_, _, rfl, rfl, ?_⟩
  | refine And.intro rfl ?_
  | refine ⟨_, _, _, _, rfl, rfl, (by walk_at "sq"), rfl, ?_⟩
  | refine ⟨_, _, _, _, rfl, rfl, (by walk_at "at"), rfl, ?_⟩
  | refine ⟨_, _, rfl, Or.inl (by walk_at "sq"), ?_⟩
  | refine ⟨_, _, rfl, Or.inr (by walk_at "sq"), ?_⟩
  | refine ⟨_, _, rfl, ?_⟩
  | refine Or.inl ⟨_, rfl, ?_⟩
  | refine And.intro (by walk_at "sd") ?_)
local macro_rules | `(tactic| walk_at "rd") => `(tactic| try (walk_at "r1"; walk_at "rd"))
section
variable {P : Program} {w : World} {K : PySem.W.Frag} {mg : Str → Option Value} {base : Heap}
theorem ok_check_question (T : Tx w K mg) (G_is_question : FnOk P w K mg base CX0 4 T.a_is_question T.d_is_question ["value"] (sp_is_question K)) :
    FnOk P w K mg base CX0 5 T.a_check_question T.d_check_question ["question"] (sp_check_question K) := by
  refine T.F_check_question.ok sc_check_question (fun vs H Q E h => ?_) (fun cdv A outer s H vs Q E hr h => ?_)
  · obtain ⟨_, _, _, rfl, _⟩ := h
    rfl
  obtain ⟨H0, v, q, rfl, x0, hd, hq, hp, k⟩ := h
  refine ⟨_, (pss_one (ps_if (pt_not (pt_val (pe_call G_is_question (hr.mono (by omega)) (by rfl) T.g_is_question T.F_is_question.kp T.b_is_question .nil pass0 (pa_cons (pv 0) pa_nil)))) (pss_one ps_never) pss_nil)), ?_⟩
  refine ⟨_, rfl, H0, v, q.d, rfl, x0, da_of _ _ hd, sm_q q, by have := nds_q q; omega, fun b H' x1 hb => ?_⟩
  obtain rfl : b = true := hb.mpr ⟨q, hq, rfl⟩
  refine ⟨_, rfl, ?_⟩
  exact k H' x1

end
end Lw
end

section
set_option Elab.async false
set_option linter.all false
set_option maxRecDepth 100000
set_option maxHeartbeats 4000000
set_option pp.maxSteps 300
set_option pp.deepTerms false
namespace Lw
open PySem L2 Evl M
open PyProof.Rows hiding St
local macro_rules | `(tactic| walk_at "at") => `(tactic| first | assumption | exact upd_same)
local macro_rules | `(tactic| walk_at "sq") => `(tactic| first | assumption | exact SqL.of (by walk_at "at") | exact SqT.of (by walk_at "at"))
local macro_rules | `(tactic| walk_at "sd") => `(tactic| first | assumption | exact Names.size (by assumption) | omega | decide | exact Nat.le_of_ble_eq_true rfl | exact Or.inl ⟨by decide, by decide⟩ | exact wide_div (b := 200) (by first | assumption | decide) (by first | assumption | decide) (by decide) (by decide) | exact pow_w 10 (by decide) (by decide) (by decide) (by decide))
local macro_rules | `(tactic| walk_at "r1") => `(tactic| first
  | refine ⟨_, rfl, ?_⟩
  | refine ⟨_, _, rfl, rfl, ?_⟩
  | refine And.intro rfl ?_
  | refine ⟨_, _, _, _, rfl, rfl, (by walk_at "sq"), rfl, ?_⟩
  | refine ⟨_, _, _, _, rfl, rfl, (by walk_at "at"), rfl, ?_⟩
  | refine ⟨_, _, rfl, Or.inl (by walk_at "sq"), ?_⟩
  | refine ⟨_, _, rfl, Or.inr (by walk_at "sq"), ?_⟩
  | refine ⟨_, _, rfl, ?_⟩
  | refine Or.inl ⟨_, rfl, ?_⟩
  | refine And.intro (by walk_at "sd") ?_)
local macro_rules | `(tactic| walk_at "rd") => `(tactic| try (walk_at "r1"; walk_at "rd"))
section
variable {P : Program} {w : World} {K : PySem.W.Frag} {mg : Str → Option Value} {base : Heap}
theorem ok_parts_of (T : Tx w K mg) (G_inner_questions : FnOk P w K mg base CX0 1 T.a_inner_questions T.d_inner_questions ["part"] (sp_inner K)) :
    FnOk P w K mg base CX0 2 T.a_parts_of T.d_parts_of ["question"] (sp_parts_of K) := by
  refine T.F_parts_of.ok sc_parts_of (fun vs H Q E h => ?_) (fun cdv A outer s H vs Q E hr h => ?_)
  · obtain ⟨_, _, _, rfl, _⟩ := h
    rfl
  obtain ⟨H0, v, q, rfl, x0, hd, hq, hp, k⟩ := h
  refine ⟨_, (pss_cons (ps_set (i := 1) sc_parts_of.nd rfl (Or.inl rfl) (pe_lst pa_nil))
   (pss_cons (ps_set (i := 2) sc_parts_of.nd rfl (Or.inl rfl) (pe_lst (pa_cons (pv 0) pa_nil)))
   (pss_cons (ps_while PassesOwn.never (pt_truth (pv 2) (by intro _; rfl)) (pss_cons (ps_set (i := 3) sc_parts_of.nd rfl (Or.inl rfl) (pe_bm0 PySem.F.plainAttrs_list PySem.F.slot_list_pop PySem.F.type_list_pop mt_pop (pv 2)))
   (pss_cons (ps_expr (pe_bm PySem.F.plainAttrs_list PySem.F.slot_list_append PySem.F.type_list_append mt_append (pv 1) (pa_cons (pv 3) pa_nil)))
   (pss_one (ps_expr (pe_bm PySem.F.plainAttrs_list PySem.F.slot_list_extend PySem.F.type_list_extend mt_extend (pv 2) (pa_cons (pe_revL (pe_call G_inner_questions (hr.mono (by omega)) (by rfl) T.g_inner_questions T.F_inner_questions.kp T.b_inner_questions .nil pass0 (pa_cons (pv 3) pa_nil))) pa_nil)))))))
   (pss_one (ps_ret (pv 1)))))), ?_⟩
  walk_at "rd"
  intro lp hlp
  walk_at "rd"
  intro l hl
  have nl : l ≠ lp := fun z => by rw [z, upd_same] at hl; cases hl
  have hl' : H l = none := by rw [upd_ne nl] at hl; exact hl
  refine ⟨fun m σ H' => ∃ (ps xs : List V) (done todo : List Qn) (o : Option V), σ = [some v, some (.ref lp), some (.ref l), o] ∧ m = ptss todo ∧ Ex H H' ∧ H' lp = some (.lst ps) ∧ H' l = some (.lst xs) ∧ Qs K H0 ps done ∧ Qs K H0 xs todo ∧
    (∀ r ∈ todo, r.Ok) ∧ q.all = done ++ todo.reverse.flatMap Qn.all,
    ⟨_, [], [v], [], [q], _, rfl, rfl, (Ex.new hlp).trans (Ex.new hl), by rw [upd_ne (Ne.symm nl), upd_same], upd_same, .nil, .cons (da_of _ _ hd) .nil, by simpa using hq, by simp⟩, ?_⟩
  rintro m σ H' ⟨ps, xs, done, todo, o, rfl, rfl, x1, hLp, hL, hps, hxs, hok, hall⟩
  refine ⟨_, rfl, _, .inl ⟨xs, SqL.of hL, rfl⟩, ?_⟩
  have tot : done.length + ptss todo = q.parts := by
    rw [← Qn.all_len, hall, List.length_append, all_flat, ptss_rev]
  have emp : xs.isEmpty = todo.isEmpty := by
    have := hxs.len
    cases xs <;> cases todo <;> simp at this ⊢
  rw [emp]
  rcases List.eq_nil_or_concat todo with rfl | ⟨rest, dl, rfl⟩
  · refine iteF ?_
    walk_at "rd"
    refine k lp ps H' x1 hlp hLp (by rw [hall]; simpa using hps)
  have ne : (rest.concat dl).isEmpty = false := by cases rest <;> rfl
  rw [ne]
  rw [List.concat_eq_append] at *
  refine iteT ?_
  obtain ⟨x, e1, hx, hrest⟩ := hxs.last
  have hLL : l ≠ lp := nl
  have hlen := hps.len
  have hlen2 := hxs.len
  have tl := ptss_len (rest ++ [dl])
  rw [ptss_app] at tl tot
  have dl1 : ptss [dl] = dl.parts := by simp [ptss]
  have kk := ptss_kids dl
  have hdl : dl.Ok := hok dl (by simp)
  refine ⟨fun σ' G => ∃ m', m' < ptss (rest ++ [dl]) ∧ ∃ (ps xs : List V) (done todo : List Qn) (o : Option V), σ' = [some v, some (.ref lp), some (.ref l), o] ∧ m' = ptss todo ∧ Ex H G ∧ G lp = some (.lst ps) ∧ G l = some (.lst xs) ∧ Qs K H0 ps done ∧ Qs K H0 xs todo ∧
    (∀ r ∈ todo, r.Ok) ∧ q.all = done ++ todo.reverse.flatMap Qn.all, fun _ _ h => h, ?_⟩
  refine ⟨_, rfl, .inl ⟨rfl, _, SqL.of hL⟩, l, xs, x, rfl, rfl, hL, e1, ?_⟩
  refine ⟨_, rfl, .inl ⟨rfl, _, SqL.of (by rw [upd_ne (Ne.symm nl)]; exact hLp)⟩, _, rfl, lp, ps, x, rfl, rfl, by rw [upd_ne (Ne.symm nl)]; exact hLp, Nat.lt_of_le_of_lt (by omega : ps.length ≤ 1000) (by decide), ?_⟩
  have ex1 : Ex H (upd (upd H' l (.lst xs.dropLast)) lp (.lst (ps ++ [x]))) := (x1.mut hl').mut hlp
  have gl : upd (upd H' l (.lst xs.dropLast)) lp (.lst (ps ++ [x])) l = some (.lst xs.dropLast) := by rw [upd_ne nl, upd_same]
  have gp : upd (upd H' l (.lst xs.dropLast)) lp (.lst (ps ++ [x])) lp = some (.lst (ps ++ [x])) := upd_same
  generalize upd (upd H' l (.lst xs.dropLast)) lp (.lst (ps ++ [x])) = G at *
  refine ⟨_, rfl, .inl ⟨rfl, _, SqL.of gl⟩, _, rfl, ?_⟩
  refine ⟨H0, x, dl.d, rfl, x0.trans ex1, hx, dl.form hdl, fun l2 ys G2 xg f2 g2 hys => ?_⟩
  rw [Qn.inner] at hys
  have hys : Qs K H0 ys dl.kids := hys
  refine ⟨_, _, rfl, SqL.of g2, fun l3 f3 => ?_⟩
  have l3l : l3 ≠ l := fun z => by rw [z, xg _ _ gl] at f3; cases f3
  have l3p : l3 ≠ lp := fun z => by rw [z, xg _ _ gp] at f3; cases f3
  have hyl := hys.len
  have kl := ptss_len dl.kids
  refine ⟨l, l3, xs.dropLast, ys.reverse, rfl, rfl, by rw [upd_ne (Ne.symm l3l)]; exact xg _ _ gl, upd_same, Nat.le_trans (by simp only [List.length_dropLast, List.length_reverse]; omega : _ ≤ 3000) (by decide), ?_⟩
  refine ⟨ptss (rest ++ dl.kids.reverse), by rw [ptss_app, ptss_app, ptss_rev]; omega, ps ++ [x], _, done ++ [dl], rest ++ dl.kids.reverse, _, rfl, rfl, ?_, ?_, upd_same, hps.app (.cons hx .nil), hrest.app hys.rev, ?_, ?_⟩
  · exact ((ex1.trans xg).trans (Ex.new f3)).mut hl'
  · rw [upd_ne (Ne.symm nl), upd_ne (Ne.symm l3p)]
    exact xg _ _ gp
  · intro r hr
    rcases List.mem_append.mp hr with z | z
    · exact hok r (List.mem_append.mpr (.inl z))
    · exact Qn.kids_ok hdl r (List.mem_reverse.mp z)
  · rw [hall]
    simp [List.flatMap_append, Qn.all_kids dl]

end
end Lw
end

section
set_option Elab.async false
set_option linter.all false
set_option maxRecDepth 100000
set_option maxHeartbeats 4000000
set_option pp.maxSteps 300
set_option pp.deepTerms false
namespace Lw
open PySem L2 Evl M
open PyProof.Rows hiding St
local macro_rules | `(tactic| walk_at "at") => `(tactic| first | assumption | exact upd_same)
local macro_rules | `(tactic| walk_at "sq") => `(tactic| first | assumption | exact SqL.of (by walk_at "at") | exact SqT.of (by walk_at "at"))
local macro_rules | `(tactic| walk_at "sd") => `(tactic| first | assumption | exact Names.size (by assumption) | omega | decide | exact Nat.le_of_ble_eq_true rfl | exact Or.inl ⟨by decide, by decide⟩ | exact wide_div (b := 200) (by first | assumption | decide) (by first | assumption | decide) (by decide) (by decide) | exact pow_w 10 (by decide) (by decide) (by decide) (by decide))
local macro_rules | `(tactic| walk_at "r1") => `(tactic| first
  | refine ⟨_, rfl, ?_⟩
  | refine ⟨_, _, rfl, rfl, ?_⟩
  | refine And.intro rfl ?_
  | refine ⟨_, _, _, _, rfl, rfl, (by walk_at "sq"), rfl, ?_⟩
  | refine ⟨_, _, _, _, rfl, rfl, (by walk_at "at"), rfl, ?_⟩
  | refine ⟨_, _, rfl, Or.inl (by walk_at "sq"), ?_⟩
  | refine ⟨_, _, rfl, Or.inr (by walk_at "sq"), ?_⟩
  | refine ⟨_, _, rfl, ?_⟩
  | refine Or.inl ⟨_, rfl, ?_⟩
  | refine And.intro (by walk_at "sd") ?_)
local macro_rules | `(tactic| walk_at "rd") => `(tactic| try (walk_at "r1"; walk_at "rd"))
section
variable {P : Program} {w : World} {K : PySem.W.Frag} {mg : Str → Option Value} {base : Heap}
theorem ok_check_row (T : Tx w K mg) (G_is_letter : FnOk P w K mg base CX0 1 T.a_is_letter T.d_is_letter ["sign"] sp_is_letter) : FnOk P w K mg base CX0 2 T.a_check_row T.d_check_row ["row"] sp_check_row := by
  refine T.F_check_row.ok sc_check_row (fun vs H Q E h => ?_) (fun cdv A outer s H vs Q E hr h => ?_)
  · obtain ⟨_, rfl, _⟩ := h
    rfl
  obtain ⟨z, rfl, hz, hl, k⟩ := h
  refine ⟨_, (pss_one (ps_for PassesOwn.never (by rfl) (M.pi_enumS (by rfl) T.b_enumerate (pa_cons (pv 0) pa_nil)) (pg_tup (by rfl) (pgs_cons (pg_name (i := 1) sc_check_row.nd rfl (Or.inl rfl)) (pgs_cons (pg_name (i := 2) sc_check_row.nd rfl (Or.inl rfl)) pgs_nil))) (pss_one (ps_if (pt_not (pt_val (pe_call G_is_letter (hr.mono (by omega)) (by rfl) T.g_is_letter T.F_is_letter.kp T.b_is_letter .nil pass0 (pa_cons (pv 2) pa_nil)))) (pss_one ps_never) pss_nil)))), ?_⟩
  walk_at "rd"
  obtain ⟨Pv, hPv⟩ : ∃ Pv : Nat → L2.St → Hp → Prop, ∀ i σ G, Pv i σ G ↔ ∃ o1 o2 : Option V, σ = [some (.str z), o1, o2] ∧ Ex H G := ⟨_, fun _ _ _ => Iff.rfl⟩
  refine for_enumS Pv ((hPv _ _ _).mpr ⟨_, _, rfl, Ex.refl _⟩) (fun i c t σ G hc hT h => ?_) (fun σ G h => ?_)
  · obtain ⟨o1, o2, rfl, xg⟩ := (hPv _ _ _).mp h
    have hc2 := hz c (List.mem_of_getElem? (by rw [Array.getElem?_toList]; exact hc))
    walk_at "rd"
    refine ⟨_, _, rfl, SqT.of upd_same, rfl, ?_⟩
    walk_at "rd"
    refine iteND (fun h => absurd hc2 h) (fun _ => ?_)
    exact (hPv _ _ _).mpr ⟨_, _, rfl, xg.trans (Ex.new hT)⟩
  · obtain ⟨o1, o2, rfl, xg⟩ := (hPv _ _ _).mp h
    walk_at "rd"
    exact k G xg

end
end Lw
end

section
set_option Elab.async false
set_option linter.all false
set_option maxRecDepth 100000
set_option maxHeartbeats 4000000
set_option pp.maxSteps 300
set_option pp.deepTerms false
namespace Lw
open PySem L2 Evl M
open PyProof.Rows hiding St
local macro_rules | `(tactic| walk_at "at") => `(tactic| first | assumption | exact upd_same)
local macro_rules | `(tactic| walk_at "sq") => `(tactic| first | assumption | exact SqL.of (by walk_at "at") | exact SqT.of (by walk_at "at"))
local macro_rules | `(tactic| walk_at "sd") => `(tactic| first | assumption | exact Names.size (by assumption) | omega | decide | exact Nat.le_of_ble_eq_true rfl | exact Or.inl ⟨by decide, by decide⟩ | exact wide_div (b := 200) (by first | assumption | decide) (by first | assumption | decide) (by decide) (by decide) | exact pow_w 10 (by decide) (by decide) (by decide) (by decide))
local macro_rules | `(tactic| walk_at "r1") => `(tactic| first
  | refine ⟨_, rfl, ?_⟩
  | refine ⟨_, _, rfl, rfl, ?_⟩
  | refine And.intro rfl ?_
  | refine ⟨_, _, _, _, rfl, rfl, (by walk_at "sq"), rfl, ?_⟩
  | refine ⟨_, _, _, _, rfl, rfl, (by walk_at "at"), rfl, ?_⟩
  | refine ⟨_, _, rfl, Or.inl (by walk_at "sq"), ?_⟩
  | refine ⟨_, _, rfl, Or.inr (by walk_at "sq"), ?_⟩
  | refine ⟨_, _, rfl, ?_⟩
  | refine Or.inl ⟨_, rfl, ?_⟩
  | refine And.intro (by walk_at "sd") ?_)
local macro_rules | `(tactic| walk_at "rd") => `(tactic| try (walk_at "r1"; walk_at "rd"))
section
variable {P : Program} {w : World} {K : PySem.W.Frag} {mg : Str → Option Value} {base : Heap}
theorem ok_check_rows (T : Tx w K mg) (G_check_row : FnOk P w K mg base CX0 2 T.a_check_row T.d_check_row ["row"] sp_check_row) : FnOk P w K mg base CX0 3 T.a_check_rows T.d_check_rows ["row", "other_row"] sp_check_rows := by
  refine T.F_check_rows.ok sc_check_rows (fun vs H Q E h => ?_) (fun cdv A outer s H vs Q E hr h => ?_)
  · obtain ⟨_, _, rfl, _⟩ := h
    rfl
  obtain ⟨y, z, rfl, hy, hz, ly, lz, k⟩ := h
  refine ⟨_, (pss_cons (ps_expr (pe_call G_check_row (hr.mono (by omega)) (by rfl) T.g_check_row T.F_check_row.kp T.b_check_row .nil pass0 (pa_cons (pv 0) pa_nil)))
   (pss_one (ps_expr (pe_call G_check_row (hr.mono (by omega)) (by rfl) T.g_check_row T.F_check_row.kp T.b_check_row .nil pass0 (pa_cons (pv 1) pa_nil))))), ?_⟩
  walk_at "rd"
  intro H1 x1
  walk_at "rd"
  intro H2 x2
  exact k H2 (x1.trans x2)

end
end Lw
end

section
set_option Elab.async false
set_option linter.all false
set_option maxRecDepth 100000
set_option maxHeartbeats 4000000
set_option pp.maxSteps 300
set_option pp.deepTerms false
namespace Lw
open PySem L2 Evl M
open PyProof.Rows hiding St
local macro_rules | `(tactic| walk_at "at") => `(tactic| first | assumption | exact upd_same)
local macro_rules | `(tactic| walk_at "sq") => `(tactic| first | assumption | exact SqL.of (by walk_at "at") | exact SqT.of (by walk_at "at"))
local macro_rules | `(tactic| walk_at "sd") => `(tactic| first | assumption | exact Names.size (by assumption) | omega | decide | exact Nat.le_of_ble_eq_true rfl | exact Or.inl ⟨by decide, by decide⟩ | exact wide_div (b := 200) (by first | assumption | decide) (by first | assumption | decide) (by decide) (by decide) | exact pow_w 10 (by decide) (by decide) (by decide) (by decide))
local macro_rules | `(tactic| walk_at "r1") => `(tactic| first
  | refine ⟨_, rfl, ?_⟩
  | refine ⟨_, _, rfl, rfl, ?_⟩
  | refine And.intro rfl ?_
  | refine ⟨_, _, _, _, rfl, rfl, (by walk_at "sq"), rfl, ?_⟩
  | refine ⟨_, _, _, _, rfl, rfl, (by walk_at "at"), rfl, ?_⟩
  | refine ⟨_, _, rfl, Or.inl (by walk_at "sq"), ?_⟩
  | refine ⟨_, _, rfl, Or.inr (by walk_at "sq"), ?_⟩
  | refine ⟨_, _, rfl, ?_⟩
  | refine Or.inl ⟨_, rfl, ?_⟩
  | refine And.intro (by walk_at "sd") ?_)
local macro_rules | `(tactic| walk_at "rd") => `(tactic| try (walk_at "r1"; walk_at "rd"))
section
variable {P : Program} {w : World} {K : PySem.W.Frag} {mg : Str → Option Value} {base : Heap}
theorem ok_Kinds___init__ (T : Tx w K mg) : FnOk P w K mg base CX0 1 T.a_Kinds___init__ T.d_Kinds___init__ ["self"] (sp_kinit P w T.a_Kinds) := by
  refine T.F_Kinds___init__.ok sc_Kinds___init__ (fun vs H Q E h => ?_) (fun cdv A outer s H vs Q E hr h => ?_)
  · obtain ⟨_, _, _, _, rfl, _⟩ := h
    rfl
  obtain ⟨x, dx, S, D, rfl, hx, hS, q⟩ := h
  refine ⟨_, (pss_cons (ps_fld (pv 0) M.pe_dnewH rfl)
   (pss_cons (ps_fld (pv 0) M.pe_dnewH rfl)
   (pss_cons (ps_fld (pv 0) M.pe_dnewH rfl)
   (pss_cons (ps_fld (pv 0) (pe_lst (pa_cons (pe_tup pa_nil) pa_nil)) rfl)
   (pss_cons (ps_fld (pv 0) (pe_lst (pa_cons pe_int pa_nil)) rfl)
   (pss_cons (ps_fld (pv 0) (pe_disp (pps_cons pe_int pe_int pps_nil) (by rfl) (by rfl) (fun z => by cases z) (by decide)) rfl)
   (pss_cons (ps_fld (pv 0) M.pe_dnewH rfl)
   (pss_one (ps_fld (pv 0) M.pe_dnewH rfl))))))))), ?_⟩
  have all0 : ∀ b o, b ≠ x → H b = some o → H b = some o := fun _ _ _ e => e
  intro a1 G1 n1 e1
  have e1 : G1 = upd H a1 (NdO P w a1 []) := e1
  have z1 : Ex H G1 := by rw [e1]; exact Ex.new n1
  have c1 : G1 a1 = some (NdO P w a1 []) := by rw [e1, upd_same]
  have nx1 : x ≠ a1 := ne_of_none hx n1
  have f1 : H a1 = none := by
    cases q : H a1 with
    | none => rfl
    | some o => exact nomatch (all0 _ _ (Ne.symm nx1) q).symm.trans n1
  have hy1 := z1 _ _ hx
  have all1 : ∀ b o, b ≠ x → H b = some o → _ := fun b o hb e => z1 _ _ (all0 b o hb e)
  walk_at "rd"
  refine ⟨x, T.a_Kinds, dx, [], rfl, hy1, T.C_Kinds, T.n_Kinds_known_kinds, by simp, ?_⟩
  have hw1 : upd G1 x (.ins T.a_Kinds dx (putF "known_kinds" (.ref a1) [])) x = some (.ins T.a_Kinds dx [("known_kinds", .ref a1)]) := upd_same
  have old1 : ∀ b o, b ≠ x → G1 b = some o → upd G1 x (.ins T.a_Kinds dx (putF "known_kinds" (.ref a1) [])) b = some o := fun b o hb e => by rw [upd_ne hb]; exact e
  generalize upd G1 x (.ins T.a_Kinds dx (putF "known_kinds" (.ref a1) [])) = G2 at *
  have c1 := old1 _ _ (Ne.symm nx1) c1
  have alw1 : ∀ b o, b ≠ x → H b = some o → G2 b = some o := fun b o hb e => old1 b o hb (all1 b o hb e)
  walk_at "rd"
  intro a2 G3 n2 e2
  have e2 : G3 = upd G2 a2 (NdO P w a2 []) := e2
  have z2 : Ex G2 G3 := by rw [e2]; exact Ex.new n2
  have c2 : G3 a2 = some (NdO P w a2 []) := by rw [e2, upd_same]
  have nx2 : x ≠ a2 := ne_of_none hw1 n2
  have m1_2 : a1 ≠ a2 := ne_of_none c1 n2
  have f2 : H a2 = none := by
    cases q : H a2 with
    | none => rfl
    | some o => exact nomatch (alw1 _ _ (Ne.symm nx2) q).symm.trans n2
  have c1 := z2 _ _ c1
  have hy2 := z2 _ _ hw1
  have all2 : ∀ b o, b ≠ x → H b = some o → _ := fun b o hb e => z2 _ _ (alw1 b o hb e)
  walk_at "rd"
  refine ⟨x, T.a_Kinds, dx, [("known_kinds", .ref a1)], rfl, hy2, T.C_Kinds, T.n_Kinds_known_places, by simp, ?_⟩
  have hw2 : upd G3 x (.ins T.a_Kinds dx (putF "known_places" (.ref a2) [("known_kinds", .ref a1)])) x = some (.ins T.a_Kinds dx [("known_kinds", .ref a1), ("known_places", .ref a2)]) := upd_same
  have old2 : ∀ b o, b ≠ x → G3 b = some o → upd G3 x (.ins T.a_Kinds dx (putF "known_places" (.ref a2) [("known_kinds", .ref a1)])) b = some o := fun b o hb e => by rw [upd_ne hb]; exact e
  generalize upd G3 x (.ins T.a_Kinds dx (putF "known_places" (.ref a2) [("known_kinds", .ref a1)])) = G4 at *
  have c1 := old2 _ _ (Ne.symm nx1) c1
  have c2 := old2 _ _ (Ne.symm nx2) c2
  have alw2 : ∀ b o, b ≠ x → H b = some o → G4 b = some o := fun b o hb e => old2 b o hb (all2 b o hb e)
  walk_at "rd"
  intro a3 G5 n3 e3
  have e3 : G5 = upd G4 a3 (NdO P w a3 []) := e3
  have z3 : Ex G4 G5 := by rw [e3]; exact Ex.new n3
  have c3 : G5 a3 = some (NdO P w a3 []) := by rw [e3, upd_same]
  have nx3 : x ≠ a3 := ne_of_none hw2 n3
  have m1_3 : a1 ≠ a3 := ne_of_none c1 n3
  have m2_3 : a2 ≠ a3 := ne_of_none c2 n3
  have f3 : H a3 = none := by
    cases q : H a3 with
    | none => rfl
    | some o => exact nomatch (alw2 _ _ (Ne.symm nx3) q).symm.trans n3
  have c1 := z3 _ _ c1
  have c2 := z3 _ _ c2
  have hy3 := z3 _ _ hw2
  have all3 : ∀ b o, b ≠ x → H b = some o → _ := fun b o hb e => z3 _ _ (alw2 b o hb e)
  walk_at "rd"
  refine ⟨x, T.a_Kinds, dx, [("known_kinds", .ref a1), ("known_places", .ref a2)], rfl, hy3, T.C_Kinds, T.n_Kinds_numbers, by simp, ?_⟩
  have hw3 : upd G5 x (.ins T.a_Kinds dx (putF "numbers" (.ref a3) [("known_kinds", .ref a1), ("known_places", .ref a2)])) x = some (.ins T.a_Kinds dx [("known_kinds", .ref a1), ("known_places", .ref a2), ("numbers", .ref a3)]) := upd_same
  have old3 : ∀ b o, b ≠ x → G5 b = some o → upd G5 x (.ins T.a_Kinds dx (putF "numbers" (.ref a3) [("known_kinds", .ref a1), ("known_places", .ref a2)])) b = some o := fun b o hb e => by rw [upd_ne hb]; exact e
  generalize upd G5 x (.ins T.a_Kinds dx (putF "numbers" (.ref a3) [("known_kinds", .ref a1), ("known_places", .ref a2)])) = G6 at *
  have c1 := old3 _ _ (Ne.symm nx1) c1
  have c2 := old3 _ _ (Ne.symm nx2) c2
  have c3 := old3 _ _ (Ne.symm nx3) c3
  have alw3 : ∀ b o, b ≠ x → H b = some o → G6 b = some o := fun b o hb e => old3 b o hb (all3 b o hb e)
  walk_at "rd"
  intro tt ntt
  have xt := Ex.new (o := .tup []) ntt
  have ct : upd G6 tt (.tup []) tt = some (.tup []) := upd_same
  have nxt : x ≠ tt := ne_of_none hw3 ntt
  have hxt := xt _ _ hw3
  have c1 := xt _ _ c1
  have c2 := xt _ _ c2
  have c3 := xt _ _ c3
  have allt : ∀ b o, b ≠ x → H b = some o → upd G6 tt (.tup []) b = some o := fun b o hb e => xt _ _ (alw3 b o hb e)
  generalize upd G6 tt (.tup []) = G7 at *
  walk_at "rd"
  intro a4 n4
  have z4 := Ex.new (o := .lst [.ref tt]) n4
  have c4 : upd G7 a4 (.lst [.ref tt]) a4 = some (.lst [.ref tt]) := upd_same
  have ct := z4 _ _ ct
  have nx4 : x ≠ a4 := ne_of_none hxt n4
  have m1_4 : a1 ≠ a4 := ne_of_none c1 n4
  have m2_4 : a2 ≠ a4 := ne_of_none c2 n4
  have m3_4 : a3 ≠ a4 := ne_of_none c3 n4
  have f4 : H a4 = none := by
    cases q : H a4 with
    | none => rfl
    | some o => exact nomatch (allt _ _ (Ne.symm nx4) q).symm.trans n4
  have c1 := z4 _ _ c1
  have c2 := z4 _ _ c2
  have c3 := z4 _ _ c3
  have hy4 := z4 _ _ hxt
  have all4 : ∀ b o, b ≠ x → H b = some o → _ := fun b o hb e => z4 _ _ (allt b o hb e)
  generalize upd G7 a4 (.lst [.ref tt]) = G8 at *
  walk_at "rd"
  refine ⟨x, T.a_Kinds, dx, [("known_kinds", .ref a1), ("known_places", .ref a2), ("numbers", .ref a3)], rfl, hy4, T.C_Kinds, T.n_Kinds_marks, by simp, ?_⟩
  have hw4 : upd G8 x (.ins T.a_Kinds dx (putF "marks" (.ref a4) [("known_kinds", .ref a1), ("known_places", .ref a2), ("numbers", .ref a3)])) x = some (.ins T.a_Kinds dx [("known_kinds", .ref a1), ("known_places", .ref a2), ("numbers", .ref a3), ("marks", .ref a4)]) := upd_same
  have old4 : ∀ b o, b ≠ x → G8 b = some o → upd G8 x (.ins T.a_Kinds dx (putF "marks" (.ref a4) [("known_kinds", .ref a1), ("known_places", .ref a2), ("numbers", .ref a3)])) b = some o := fun b o hb e => by rw [upd_ne hb]; exact e
  generalize upd G8 x (.ins T.a_Kinds dx (putF "marks" (.ref a4) [("known_kinds", .ref a1), ("known_places", .ref a2), ("numbers", .ref a3)])) = G9 at *
  have c1 := old4 _ _ (Ne.symm nx1) c1
  have c2 := old4 _ _ (Ne.symm nx2) c2
  have c3 := old4 _ _ (Ne.symm nx3) c3
  have c4 := old4 _ _ (Ne.symm nx4) c4
  have ct := old4 _ _ (Ne.symm nxt) ct
  have alw4 : ∀ b o, b ≠ x → H b = some o → G9 b = some o := fun b o hb e => old4 b o hb (all4 b o hb e)
  walk_at "rd"
  intro a5 n5
  have z5 := Ex.new (o := .lst [.int 0]) n5
  have c5 : upd G9 a5 (.lst [.int 0]) a5 = some (.lst [.int 0]) := upd_same
  have nx5 : x ≠ a5 := ne_of_none hw4 n5
  have m1_5 : a1 ≠ a5 := ne_of_none c1 n5
  have m2_5 : a2 ≠ a5 := ne_of_none c2 n5
  have m3_5 : a3 ≠ a5 := ne_of_none c3 n5
  have m4_5 : a4 ≠ a5 := ne_of_none c4 n5
  have f5 : H a5 = none := by
    cases q : H a5 with
    | none => rfl
    | some o => exact nomatch (alw4 _ _ (Ne.symm nx5) q).symm.trans n5
  have c1 := z5 _ _ c1
  have c2 := z5 _ _ c2
  have c3 := z5 _ _ c3
  have c4 := z5 _ _ c4
  have ct := z5 _ _ ct
  have hy5 := z5 _ _ hw4
  have all5 : ∀ b o, b ≠ x → H b = some o → _ := fun b o hb e => z5 _ _ (alw4 b o hb e)
  generalize upd G9 a5 (.lst [.int 0]) = G10 at *
  walk_at "rd"
  refine ⟨x, T.a_Kinds, dx, [("known_kinds", .ref a1), ("known_places", .ref a2), ("numbers", .ref a3), ("marks", .ref a4)], rfl, hy5, T.C_Kinds, T.n_Kinds_depths, by simp, ?_⟩
  have hw5 : upd G10 x (.ins T.a_Kinds dx (putF "depths" (.ref a5) [("known_kinds", .ref a1), ("known_places", .ref a2), ("numbers", .ref a3), ("marks", .ref a4)])) x = some (.ins T.a_Kinds dx [("known_kinds", .ref a1), ("known_places", .ref a2), ("numbers", .ref a3), ("marks", .ref a4), ("depths", .ref a5)]) := upd_same
  have old5 : ∀ b o, b ≠ x → G10 b = some o → upd G10 x (.ins T.a_Kinds dx (putF "depths" (.ref a5) [("known_kinds", .ref a1), ("known_places", .ref a2), ("numbers", .ref a3), ("marks", .ref a4)])) b = some o := fun b o hb e => by rw [upd_ne hb]; exact e
  generalize upd G10 x (.ins T.a_Kinds dx (putF "depths" (.ref a5) [("known_kinds", .ref a1), ("known_places", .ref a2), ("numbers", .ref a3), ("marks", .ref a4)])) = G11 at *
  have c1 := old5 _ _ (Ne.symm nx1) c1
  have c2 := old5 _ _ (Ne.symm nx2) c2
  have c3 := old5 _ _ (Ne.symm nx3) c3
  have c4 := old5 _ _ (Ne.symm nx4) c4
  have c5 := old5 _ _ (Ne.symm nx5) c5
  have ct := old5 _ _ (Ne.symm nxt) ct
  have alw5 : ∀ b o, b ≠ x → H b = some o → G11 b = some o := fun b o hb e => old5 b o hb (all5 b o hb e)
  walk_at "rd"
  intro a6 n6
  refine ⟨upd_same, [(Sum.inl 0, .int 0)], rfl, by decide, ?_⟩
  rw [upd_upd]
  have z6 := Ex.new (o := .dK (mergeK [] [(Sum.inl 0, .int 0)])) n6
  have c6 : upd G11 a6 (.dK (mergeK [] [(Sum.inl 0, .int 0)])) a6 = some (.dK [(Sum.inl 0, .int 0)]) := upd_same
  have nx6 : x ≠ a6 := ne_of_none hw5 n6
  have m1_6 : a1 ≠ a6 := ne_of_none c1 n6
  have m2_6 : a2 ≠ a6 := ne_of_none c2 n6
  have m3_6 : a3 ≠ a6 := ne_of_none c3 n6
  have m4_6 : a4 ≠ a6 := ne_of_none c4 n6
  have m5_6 : a5 ≠ a6 := ne_of_none c5 n6
  have f6 : H a6 = none := by
    cases q : H a6 with
    | none => rfl
    | some o => exact nomatch (alw5 _ _ (Ne.symm nx6) q).symm.trans n6
  have c1 := z6 _ _ c1
  have c2 := z6 _ _ c2
  have c3 := z6 _ _ c3
  have c4 := z6 _ _ c4
  have c5 := z6 _ _ c5
  have ct := z6 _ _ ct
  have hy6 := z6 _ _ hw5
  have all6 : ∀ b o, b ≠ x → H b = some o → _ := fun b o hb e => z6 _ _ (alw5 b o hb e)
  generalize upd G11 a6 (.dK (mergeK [] [(Sum.inl 0, .int 0)])) = G12 at *
  walk_at "rd"
  refine ⟨x, T.a_Kinds, dx, [("known_kinds", .ref a1), ("known_places", .ref a2), ("numbers", .ref a3), ("marks", .ref a4), ("depths", .ref a5)], rfl, hy6, T.C_Kinds, T.n_Kinds_lesser_kinds, by simp, ?_⟩
  have hw6 : upd G12 x (.ins T.a_Kinds dx (putF "lesser_kinds" (.ref a6) [("known_kinds", .ref a1), ("known_places", .ref a2), ("numbers", .ref a3), ("marks", .ref a4), ("depths", .ref a5)])) x = some (.ins T.a_Kinds dx [("known_kinds", .ref a1), ("known_places", .ref a2), ("numbers", .ref a3), ("marks", .ref a4), ("depths", .ref a5), ("lesser_kinds", .ref a6)]) := upd_same
  have old6 : ∀ b o, b ≠ x → G12 b = some o → upd G12 x (.ins T.a_Kinds dx (putF "lesser_kinds" (.ref a6) [("known_kinds", .ref a1), ("known_places", .ref a2), ("numbers", .ref a3), ("marks", .ref a4), ("depths", .ref a5)])) b = some o := fun b o hb e => by rw [upd_ne hb]; exact e
  generalize upd G12 x (.ins T.a_Kinds dx (putF "lesser_kinds" (.ref a6) [("known_kinds", .ref a1), ("known_places", .ref a2), ("numbers", .ref a3), ("marks", .ref a4), ("depths", .ref a5)])) = G13 at *
  have c1 := old6 _ _ (Ne.symm nx1) c1
  have c2 := old6 _ _ (Ne.symm nx2) c2
  have c3 := old6 _ _ (Ne.symm nx3) c3
  have c4 := old6 _ _ (Ne.symm nx4) c4
  have c5 := old6 _ _ (Ne.symm nx5) c5
  have c6 := old6 _ _ (Ne.symm nx6) c6
  have ct := old6 _ _ (Ne.symm nxt) ct
  have alw6 : ∀ b o, b ≠ x → H b = some o → G13 b = some o := fun b o hb e => old6 b o hb (all6 b o hb e)
  walk_at "rd"
  intro a7 G14 n7 e7
  have e7 : G14 = upd G13 a7 (NdO P w a7 []) := e7
  have z7 : Ex G13 G14 := by rw [e7]; exact Ex.new n7
  have c7 : G14 a7 = some (NdO P w a7 []) := by rw [e7, upd_same]
  have nx7 : x ≠ a7 := ne_of_none hw6 n7
  have m1_7 : a1 ≠ a7 := ne_of_none c1 n7
  have m2_7 : a2 ≠ a7 := ne_of_none c2 n7
  have m3_7 : a3 ≠ a7 := ne_of_none c3 n7
  have m4_7 : a4 ≠ a7 := ne_of_none c4 n7
  have m5_7 : a5 ≠ a7 := ne_of_none c5 n7
  have m6_7 : a6 ≠ a7 := ne_of_none c6 n7
  have f7 : H a7 = none := by
    cases q : H a7 with
    | none => rfl
    | some o => exact nomatch (alw6 _ _ (Ne.symm nx7) q).symm.trans n7
  have c1 := z7 _ _ c1
  have c2 := z7 _ _ c2
  have c3 := z7 _ _ c3
  have c4 := z7 _ _ c4
  have c5 := z7 _ _ c5
  have c6 := z7 _ _ c6
  have ct := z7 _ _ ct
  have hy7 := z7 _ _ hw6
  have all7 : ∀ b o, b ≠ x → H b = some o → _ := fun b o hb e => z7 _ _ (alw6 b o hb e)
  walk_at "rd"
  refine ⟨x, T.a_Kinds, dx, [("known_kinds", .ref a1), ("known_places", .ref a2), ("numbers", .ref a3), ("marks", .ref a4), ("depths", .ref a5), ("lesser_kinds", .ref a6)], rfl, hy7, T.C_Kinds, T.n_Kinds_longer_behind, by simp, ?_⟩
  have hw7 : upd G14 x (.ins T.a_Kinds dx (putF "longer_behind" (.ref a7) [("known_kinds", .ref a1), ("known_places", .ref a2), ("numbers", .ref a3), ("marks", .ref a4), ("depths", .ref a5), ("lesser_kinds", .ref a6)])) x = some (.ins T.a_Kinds dx [("known_kinds", .ref a1), ("known_places", .ref a2), ("numbers", .ref a3), ("marks", .ref a4), ("depths", .ref a5), ("lesser_kinds", .ref a6), ("longer_behind", .ref a7)]) := upd_same
  have old7 : ∀ b o, b ≠ x → G14 b = some o → upd G14 x (.ins T.a_Kinds dx (putF "longer_behind" (.ref a7) [("known_kinds", .ref a1), ("known_places", .ref a2), ("numbers", .ref a3), ("marks", .ref a4), ("depths", .ref a5), ("lesser_kinds", .ref a6)])) b = some o := fun b o hb e => by rw [upd_ne hb]; exact e
  generalize upd G14 x (.ins T.a_Kinds dx (putF "longer_behind" (.ref a7) [("known_kinds", .ref a1), ("known_places", .ref a2), ("numbers", .ref a3), ("marks", .ref a4), ("depths", .ref a5), ("lesser_kinds", .ref a6)])) = G15 at *
  have c1 := old7 _ _ (Ne.symm nx1) c1
  have c2 := old7 _ _ (Ne.symm nx2) c2
  have c3 := old7 _ _ (Ne.symm nx3) c3
  have c4 := old7 _ _ (Ne.symm nx4) c4
  have c5 := old7 _ _ (Ne.symm nx5) c5
  have c6 := old7 _ _ (Ne.symm nx6) c6
  have c7 := old7 _ _ (Ne.symm nx7) c7
  have ct := old7 _ _ (Ne.symm nxt) ct
  have alw7 : ∀ b o, b ≠ x → H b = some o → G15 b = some o := fun b o hb e => old7 b o hb (all7 b o hb e)
  walk_at "rd"
  intro a8 G16 n8 e8
  have e8 : G16 = upd G15 a8 (NdO P w a8 []) := e8
  have z8 : Ex G15 G16 := by rw [e8]; exact Ex.new n8
  have c8 : G16 a8 = some (NdO P w a8 []) := by rw [e8, upd_same]
  have nx8 : x ≠ a8 := ne_of_none hw7 n8
  have m1_8 : a1 ≠ a8 := ne_of_none c1 n8
  have m2_8 : a2 ≠ a8 := ne_of_none c2 n8
  have m3_8 : a3 ≠ a8 := ne_of_none c3 n8
  have m4_8 : a4 ≠ a8 := ne_of_none c4 n8
  have m5_8 : a5 ≠ a8 := ne_of_none c5 n8
  have m6_8 : a6 ≠ a8 := ne_of_none c6 n8
  have m7_8 : a7 ≠ a8 := ne_of_none c7 n8
  have f8 : H a8 = none := by
    cases q : H a8 with
    | none => rfl
    | some o => exact nomatch (alw7 _ _ (Ne.symm nx8) q).symm.trans n8
  have c1 := z8 _ _ c1
  have c2 := z8 _ _ c2
  have c3 := z8 _ _ c3
  have c4 := z8 _ _ c4
  have c5 := z8 _ _ c5
  have c6 := z8 _ _ c6
  have c7 := z8 _ _ c7
  have ct := z8 _ _ ct
  have hy8 := z8 _ _ hw7
  have all8 : ∀ b o, b ≠ x → H b = some o → _ := fun b o hb e => z8 _ _ (alw7 b o hb e)
  walk_at "rd"
  refine ⟨x, T.a_Kinds, dx, [("known_kinds", .ref a1), ("known_places", .ref a2), ("numbers", .ref a3), ("marks", .ref a4), ("depths", .ref a5), ("lesser_kinds", .ref a6), ("longer_behind", .ref a7)], rfl, hy8, T.C_Kinds, T.n_Kinds_longer_ahead, by simp, ?_⟩
  have hw8 : upd G16 x (.ins T.a_Kinds dx (putF "longer_ahead" (.ref a8) [("known_kinds", .ref a1), ("known_places", .ref a2), ("numbers", .ref a3), ("marks", .ref a4), ("depths", .ref a5), ("lesser_kinds", .ref a6), ("longer_behind", .ref a7)])) x = some (.ins T.a_Kinds dx [("known_kinds", .ref a1), ("known_places", .ref a2), ("numbers", .ref a3), ("marks", .ref a4), ("depths", .ref a5), ("lesser_kinds", .ref a6), ("longer_behind", .ref a7), ("longer_ahead", .ref a8)]) := upd_same
  have old8 : ∀ b o, b ≠ x → G16 b = some o → upd G16 x (.ins T.a_Kinds dx (putF "longer_ahead" (.ref a8) [("known_kinds", .ref a1), ("known_places", .ref a2), ("numbers", .ref a3), ("marks", .ref a4), ("depths", .ref a5), ("lesser_kinds", .ref a6), ("longer_behind", .ref a7)])) b = some o := fun b o hb e => by rw [upd_ne hb]; exact e
  generalize upd G16 x (.ins T.a_Kinds dx (putF "longer_ahead" (.ref a8) [("known_kinds", .ref a1), ("known_places", .ref a2), ("numbers", .ref a3), ("marks", .ref a4), ("depths", .ref a5), ("lesser_kinds", .ref a6), ("longer_behind", .ref a7)])) = G17 at *
  have c1 := old8 _ _ (Ne.symm nx1) c1
  have c2 := old8 _ _ (Ne.symm nx2) c2
  have c3 := old8 _ _ (Ne.symm nx3) c3
  have c4 := old8 _ _ (Ne.symm nx4) c4
  have c5 := old8 _ _ (Ne.symm nx5) c5
  have c6 := old8 _ _ (Ne.symm nx6) c6
  have c7 := old8 _ _ (Ne.symm nx7) c7
  have c8 := old8 _ _ (Ne.symm nx8) c8
  have ct := old8 _ _ (Ne.symm nxt) ct
  have alw8 : ∀ b o, b ≠ x → H b = some o → G17 b = some o := fun b o hb e => old8 b o hb (all8 b o hb e)
  refine q ⟨a1, a2, a3, a4, a5, a6, a7, a8⟩ G17 ⟨hS, tok0, ⟨dx, hw8⟩, ?_, (fun l hl => nomatch hl), ⟨[], ⟨c1, (fun x hx => nomatch hx)⟩, List.nodup_nil, (fun p hp => nomatch hp)⟩, ⟨[], ⟨c2, (fun x hx => nomatch hx)⟩, List.nodup_nil, (fun p hp => nomatch hp)⟩,
    ⟨[], ⟨c3, (fun x hx => nomatch hx)⟩, List.nodup_nil, (fun p hp => nomatch hp), fun n d ms e n0 => absurd e (by cases n with | zero => exact absurd rfl n0 | succ n => simp)⟩, ⟨[tt], c4, rfl, fun n m d xs e1 e2 => ?_⟩, c5, ⟨[(Sum.inl 0, .int 0)], c6, by simp, by simp, fun p hp => ?_⟩,
    ⟨[], ⟨c7, (fun x hx => nomatch hx)⟩, List.nodup_nil, (fun p hp => nomatch hp)⟩, ⟨[], ⟨c8, (fun x hx => nomatch hx)⟩, List.nodup_nil, (fun p hp => nomatch hp)⟩⟩ alw8 fun b hb => ?_
  · simp only [KA.all, List.nodup_cons, List.mem_cons, List.not_mem_nil, or_false, not_or, not_false_eq_true, List.nodup_nil, and_true]
    exact ⟨⟨m1_2, m1_3, m1_4, m1_5, m1_6, m1_7, m1_8⟩, ⟨m2_3, m2_4, m2_5, m2_6, m2_7, m2_8⟩, ⟨m3_4, m3_5, m3_6, m3_7, m3_8⟩, ⟨m4_5, m4_6, m4_7, m4_8⟩, ⟨m5_6, m5_7, m5_8⟩, ⟨m6_7, m6_8⟩, m7_8⟩
  · cases n with
    | zero =>
      cases e1
      cases e2
      exact .tup ct .nil
    | succ n => simp at e2
  · rw [List.mem_singleton.mp hp]
    exact ⟨0, 0, 0, rfl, rfl, [], rfl, rfl⟩
  · simp only [KA.all, List.mem_cons, List.not_mem_nil, or_false] at hb
    rcases hb with rfl | rfl | rfl | rfl | rfl | rfl | rfl | rfl
    · exact f1
    · exact f2
    · exact f3
    · exact f4
    · exact f5
    · exact f6
    · exact f7
    · exact f8

end
end Lw
end

section
set_option Elab.async false
set_option linter.all false
set_option maxRecDepth 100000
set_option maxHeartbeats 4000000
set_option pp.maxSteps 300
set_option pp.deepTerms false
namespace Lw
open PySem L2 Evl M
open PyProof.Rows hiding St
local macro_rules | `(tactic| walk_at "at") => `(tactic| first | assumption | exact upd_same)
local macro_rules | `(tactic| walk_at "sq") => `(tactic| first | assumption | exact SqL.of (by walk_at "at") | exact SqT.of (by walk_at "at"))
local macro_rules | `(tactic| walk_at "sd") => `(tactic| first | assumption | exact Names.size (by assumption) | omega | decide | exact Nat.le_of_ble_eq_true rfl | exact Or.inl ⟨by decide, by decide⟩ | exact wide_div (b := 200) (by first | assumption | decide) (by first | assumption | decide) (by decide) (by decide) | exact pow_w 10 (by decide) (by decide) (by decide) (by decide))
local macro_rules | `(tactic| walk_at "r1") => `(tactic| first
  | refine ⟨_, rfl, ?_⟩
  | refine ⟨_, _, rfl, rfl, ?_⟩
  | refine And.intro rfl ?_
  | refine ⟨_, _, _, _, rfl, rfl, (by walk_at "sq"), rfl, ?_⟩
  | refine ⟨_, _, _, _, rfl, rfl, (by walk_at "at"), rfl, ?_⟩
  | refine ⟨_, _, rfl, Or.inl (by walk_at "sq"), ?_⟩
  | refine ⟨_, _, rfl, Or.inr (by walk_at "sq"), ?_⟩
  | refine ⟨_, _, rfl, ?_⟩
  | refine Or.inl ⟨_, rfl, ?_⟩
  | refine And.intro (by walk_at "sd") ?_)
local macro_rules | `(tactic| walk_at "rd") => `(tactic| try (walk_at "r1"; walk_at "rd"))
section
variable {P : Program} {w : World} {K : PySem.W.Frag} {mg : Str → Option Value} {base : Heap}
theorem ok_Kinds_numbered (T : Tx w K mg) : FnOk P w K mg base CX0 1 T.a_Kinds_numbered T.d_Kinds_numbered ["self", "depth", "marks"] (sp_numbered P w T.a_Kinds) := by
  refine T.F_Kinds_numbered.ok sc_Kinds_numbered (fun vs H Q E h => ?_) (fun cdv A outer s H vs Q E hr h => ?_)
  · obtain ⟨_, _, _, _, _, _, rfl, _⟩ := h
    rfl
  obtain ⟨k, Ls, t, d, m, ms, rfl, hK, hm, hc, hd, q⟩ := h
  refine ⟨_, (pss_cons (ps_if (pt_cmpR op_eq (pv 1) pe_int (nomark _)) (pss_one (ps_ret pe_int)) pss_nil)
   (pss_cons (ps_set (i := 3) sc_Kinds_numbered.nd rfl (Or.inl rfl) (pe_tup (pa_cons (pv 1) (pa_cons (pv 2) pa_nil))))
   (pss_cons (ps_if (pt_cmpR (M.op_notInN hr.units) (pv 3) (pe_fld (pv 0) rfl) (by rfl)) (pss_cons (M.ps_nputH hr.units (pe_fld (pv 0) rfl) (pv 3) (pe_callB call_len_seq (by rfl) T.b_len (by decide +kernel) (pa_cons (pe_fld (pv 0) rfl) pa_nil)) rfl)
   (pss_cons (ps_expr (pe_bm PySem.F.plainAttrs_list PySem.F.slot_list_append PySem.F.type_list_append mt_append (pe_fld (pv 0) rfl) (pa_cons (pv 2) pa_nil)))
   (pss_one (ps_expr (pe_bm PySem.F.plainAttrs_list PySem.F.slot_list_append PySem.F.type_list_append mt_append (pe_fld (pv 0) rfl) (pa_cons (pv 1) pa_nil)))))) pss_nil)
   (pss_one (ps_ret (pe_ix (M.ix_dictN hr.units) (pe_fld (pv 0) rfl) (pv 3) (fun _ _ => rfl))))))), ?_⟩
  walk_at "rd"
  refine iteI (fun e0 => ?_) (fun e0 => ?_)
  · exact q 0 t Ls H hK .refl ⟨fun _ => rfl, fun e he => by omega⟩
  walk_at "rd"
  intro tk ntk
  have x1 := Ex.new (o := .tup [.int (d : Nat), .ref m]) ntk
  have hK1 := hK.ex x1
  have hm1 := hm.up (Tk.of x1)
  have hkey : NK (upd H tk (.tup [.int (d : Nat), .ref m])) (.ref tk) (keyN d ms) := .tup upd_same (.cons (.int _) (.cons hm1 .nil))
  generalize upd H tk (.tup [.int (d : Nat), .ref m]) = H1 at *
  obtain ⟨dx, hins⟩ := hK1.ins
  obtain ⟨e3, g1, g2, g3, g4, g5, g6⟩ := hK1.get3
  obtain ⟨d, rfl⟩ : ∃ e, d = e + 1 := ⟨d - 1, by omega⟩
  walk_at "rd"
  refine ⟨k.x, T.a_Kinds, dx, _, _, rfl, hins, T.C_Kinds, T.n_Kinds_numbers, rfl, ?_⟩
  refine ⟨tk, k.A.a3, keyN (d + 1) ms, e3, rfl, rfl, hkey, keyN_depth _ _, g1, ?_⟩
  walk_at "rd"
  cases hkat : kat e3 (keyN (d + 1) ms) with
  | some v =>
    refine iteF ?_
    walk_at "rd"
    refine ⟨k.x, T.a_Kinds, dx, _, _, rfl, hins, T.C_Kinds, T.n_Kinds_numbers, rfl, ?_⟩
    walk_at "rd"
    refine ⟨tk, k.A.a3, keyN (d + 1) ms, e3, v, rfl, rfl, hkey, keyN_depth _ _, g1, hkat, ?_⟩
    obtain ⟨n, rfl, hn⟩ := g6 _ _ _ hkat
    exact q n t Ls _ hK1 (Stp.ex x1) ⟨fun z => by omega, fun e he => by rw [hn]⟩
  | none =>
    refine iteT ?_
    obtain ⟨mm, f1, f2, f3⟩ := hK1.k4
    have f5 := hK1.k5
    have nd := hK1.nd
    have hsz := hK1.size
    have n34 : k.A.a3 ≠ k.A.a4 := KA.ap nd 2 3
    have n35 : k.A.a3 ≠ k.A.a5 := KA.ap nd 2 4
    have n45 : k.A.a4 ≠ k.A.a5 := KA.ap nd 3 4
    have o3 : k.x ≠ k.A.a3 := fun z => hK1.out (by rw [z]; simp [KA.all])
    have o4 : k.x ≠ k.A.a4 := fun z => hK1.out (by rw [z]; simp [KA.all])
    have o5 : k.x ≠ k.A.a5 := fun z => hK1.out (by rw [z]; simp [KA.all])
    have hlen : (mm.map V.ref).length = t.length := by rw [List.length_map, f2]
    walk_at "rd"
    refine ⟨k.x, T.a_Kinds, dx, _, _, rfl, hins, T.C_Kinds, T.n_Kinds_marks, rfl, ?_⟩
    refine ⟨k.A.a4, _, rfl, .inl (SqL.of f1), ?_⟩
    walk_at "rd"
    refine ⟨k.x, T.a_Kinds, dx, _, _, rfl, hins, T.C_Kinds, T.n_Kinds_numbers, rfl, ?_⟩
    walk_at "rd"
    rw [hlen]
    refine ⟨tk, k.A.a3, keyN (d + 1) ms, e3, rfl, rfl, hkey, keyN_depth _ _, g1, g4, fun H2 eH2 => ?_⟩
    have eH2 : H2 = upd H1 k.A.a3 (NdO P w k.A.a3 (putE e3 (keyN (d + 1) ms) tk (.int (t.length : Nat)))) := eH2
    have hnd := g1.putG (v := .int (t.length : Nat)) hkey (keyN_depth _ _)
    rw [← eH2] at hnd
    have at2 : ∀ b o, b ≠ k.A.a3 → H1 b = some o → H2 b = some o := fun b o hb e => by rw [eH2, upd_ne hb]; exact e
    have tk2 : Tk H1 H2 := by rw [eH2]; exact (hK1.keeps (by simp [KA.all])).1
    have hkey2 := hkey.up tk2
    have hm2 := hm1.up tk2
    walk_at "rd"
    refine ⟨k.x, T.a_Kinds, dx, _, _, rfl, at2 _ _ o3 hins, T.C_Kinds, T.n_Kinds_marks, rfl, ?_⟩
    refine ⟨.inl ⟨rfl, _, SqL.of (at2 _ _ (Ne.symm n34) f1)⟩, _, rfl, k.A.a4, _, _, rfl, rfl, at2 _ _ (Ne.symm n34) f1, by rw [hlen, sizeLine_eq]; omega, ?_⟩
    have at3 : ∀ b o, b ≠ k.A.a4 → H2 b = some o → upd H2 k.A.a4 (.lst (mm.map V.ref ++ [.ref m])) b = some o := fun b o hb e => by rw [upd_ne hb]; exact e
    have s3 : upd H2 k.A.a4 (.lst (mm.map V.ref ++ [.ref m])) k.A.a4 = some (.lst (mm.map V.ref ++ [.ref m])) := upd_same
    have tk3 : Tk H2 (upd H2 k.A.a4 (.lst (mm.map V.ref ++ [.ref m]))) := fun b ys e => at3 _ _ (fun z => by rw [z, at2 _ _ (Ne.symm n34) f1] at e; exact nomatch e) e
    generalize upd H2 k.A.a4 (.lst (mm.map V.ref ++ [.ref m])) = H3 at *
    have e5 : H3 k.A.a5 = some (.lst (depsV t)) := at3 _ _ (Ne.symm n45) (at2 _ _ (Ne.symm n35) f5)
    walk_at "rd"
    refine ⟨k.x, T.a_Kinds, dx, _, _, rfl, at3 _ _ o4 (at2 _ _ o3 hins), T.C_Kinds, T.n_Kinds_depths, rfl, ?_⟩
    refine ⟨.inl ⟨rfl, _, SqL.of e5⟩, _, rfl, k.A.a5, _, _, rfl, rfl, e5, by unfold depsV; rw [List.length_map, sizeLine_eq]; omega, ?_⟩
    have at4 : ∀ b o, b ≠ k.A.a5 → H3 b = some o → upd H3 k.A.a5 (.lst (depsV t ++ [.int ((d + 1 : Nat) : Int)])) b = some o := fun b o hb e => by rw [upd_ne hb]; exact e
    have s4 : upd H3 k.A.a5 (.lst (depsV t ++ [.int ((d + 1 : Nat) : Int)])) k.A.a5 = some (.lst (depsV t ++ [.int ((d + 1 : Nat) : Int)])) := upd_same
    have tk4 : Tk H3 (upd H3 k.A.a5 (.lst (depsV t ++ [.int ((d + 1 : Nat) : Int)]))) := fun b ys e => at4 _ _ (fun z => by rw [z, e5] at e; exact nomatch e) e
    generalize upd H3 k.A.a5 (.lst (depsV t ++ [.int ((d + 1 : Nat) : Int)])) = H4 at *
    have all : ∀ b o, b ≠ k.A.a3 → b ≠ k.A.a4 → b ≠ k.A.a5 → H1 b = some o → H4 b = some o := fun b o h3 h4 h5 e => at4 _ _ h5 (at3 _ _ h4 (at2 _ _ h3 e))
    have g := Grows.app t [(d + 1, ms)]
    have tnew : (t ++ [(d + 1, ms)])[t.length]? = some (d + 1, ms) := by simp
    obtain ⟨hdD, r, hr, hfit⟩ := hd d rfl
    have new : ∀ n : Nat, t[n]? ≠ some (d + 1, ms) := fun n e => by
      have n0 : n ≠ 0 := fun z => by
        rw [z, hK.tok.zero] at e
        cases e
      exact kat_none hkat (g5 _ _ _ e n0)
    have t0 : t.length ≠ 0 := fun z => by
      have := hK.tok.zero
      rw [List.length_eq_zero_iff.mp z] at this
      cases this
    have split : ∀ {n : Nat} {y : Nat × List Mark}, (t ++ [(d + 1, ms)])[n]? = some y → t[n]? = some y ∨ (n = t.length ∧ y = (d + 1, ms)) := fun {n y} e => by
      by_cases hn : n < t.length
      · rw [List.getElem?_append_left hn] at e; exact .inl e
      · rw [List.getElem?_append_right (by omega)] at e
        have q2 : n - t.length < 1 := by simpa using (List.getElem?_eq_some_iff.mp e).1
        obtain rfl : n = t.length := by omega
        rw [Nat.sub_self] at e
        exact .inr ⟨rfl, (Option.some.inj e).symm⟩
    have hnd4 : ND P w H4 k.A.a3 (putE e3 (keyN (d + 1) ms) tk (.int (t.length : Nat))) := hnd.keep (tk3.trans tk4) (at4 _ _ n35 (at3 _ _ n34 hnd.at_))
    have hK4 : KS P w T.a_Kinds k Ls H4 (t ++ [(d + 1, ms)]) := by
      refine hK1.grow all g (hK.tok.add hc new hdD hr hfit) ⟨_, hnd4, g2.putG, fun p hp => ?_, fun n d' ms' e n0 => ?_⟩ ⟨mm ++ [m], ?_, by simp [f2], fun n m' d' xs e1 e2 => ?_⟩ ?_
      · rcases mem_putE hp with ⟨hp, _⟩ | ⟨q1, q2, _⟩
        · obtain ⟨d', ms', n, h1, h2, h3, h4⟩ := g3 p hp
          exact ⟨d', ms', n, h1, h2, g _ _ h3, h4⟩
        · exact ⟨d + 1, ms, t.length, q1, q2, tnew, t0⟩
      · rw [putE_keys]
        rcases split e with e | ⟨rfl, e'⟩
        · split
          · exact g5 _ _ _ e n0
          · exact List.mem_append.mpr (.inl (g5 _ _ _ e n0))
        · injection e' with h1 h2
          subst h1; subst h2
          split
          · rename_i hh; exact kat_isSome.mp hh
          · simp
      · rw [List.map_append]; exact at4 _ _ n45 s3
      · rcases split e2 with e | ⟨rfl, e'⟩
        · have hn : n < mm.length := by rw [f2]; exact (List.getElem?_eq_some_iff.mp e).1
          rw [List.getElem?_append_left hn] at e1
          exact (((f3 n m' d' xs e1 e).up tk2).up tk3).up tk4
        · injection e' with h1 h2
          subst h1; subst h2
          rw [List.getElem?_append_right (by omega), f2, Nat.sub_self] at e1
          obtain rfl : m = m' := Option.some.inj e1
          exact (hm2.up tk3).up tk4
      · unfold K5
        rw [s4]
        unfold depsV
        rw [List.map_append]
        rfl
    walk_at "rd"
    refine ⟨k.x, T.a_Kinds, dx, _, _, rfl, all _ _ o3 o4 o5 hins, T.C_Kinds, T.n_Kinds_numbers, rfl, ?_⟩
    walk_at "rd"
    refine ⟨tk, k.A.a3, keyN (d + 1) ms, _, _, rfl, rfl, (hkey2.up tk3).up tk4, keyN_depth _ _, hnd4, kat_putE, ?_⟩
    refine q t.length _ Ls H4 hK4 ⟨g, fun b o hb e => all _ _ (fun z => hb (by rw [z]; simp [KA.all])) (fun z => hb (by rw [z]; simp [KA.all])) (fun z => hb (by rw [z]; simp [KA.all])) (x1 _ _ e), fun l hl => .inl hl⟩ ⟨fun z => by omega, fun e he => tnew⟩

end
end Lw
end

section
set_option Elab.async false
set_option linter.all false
set_option maxRecDepth 100000
set_option maxHeartbeats 4000000
set_option pp.maxSteps 300
set_option pp.deepTerms false
namespace Lw
open PySem L2 Evl M
open PyProof.Rows hiding St
local macro_rules | `(tactic| walk_at "at") => `(tactic| first | assumption | exact upd_same)
local macro_rules | `(tactic| walk_at "sq") => `(tactic| first | assumption | exact SqL.of (by walk_at "at") | exact SqT.of (by walk_at "at"))
local macro_rules | `(tactic| walk_at "sd") => `(tactic| first | assumption | exact Names.size (by assumption) | omega | decide | exact Nat.le_of_ble_eq_true rfl | exact Or.inl ⟨by decide, by decide⟩ | exact wide_div (b := 200) (by first | assumption | decide) (by first | assumption | decide) (by decide) (by decide) | exact pow_w 10 (by decide) (by decide) (by decide) (by decide))
local macro_rules | `(tactic| walk_at "r1") => `(tactic| first
  | refine ⟨_, rfl, ?_⟩
  | refine ⟨_, _, rfl, rfl, ?_⟩
  | refine And.intro rfl ?_
  | refine ⟨_, _, _, _, rfl, rfl, (by walk_at "sq"), rfl, ?_⟩
  | refine ⟨_, _, _, _, rfl, rfl, (by walk_at "at"), rfl, ?_⟩
  | refine ⟨_, _, rfl, Or.inl (by walk_at "sq"), ?_⟩
  | refine ⟨_, _, rfl, Or.inr (by walk_at "sq"), ?_⟩
  | refine ⟨_, _, rfl, ?_⟩
  | refine Or.inl ⟨_, rfl, ?_⟩
  | refine And.intro (by walk_at "sd") ?_)
local macro_rules | `(tactic| walk_at "rd") => `(tactic| try (walk_at "r1"; walk_at "rd"))
section
variable {P : Program} {w : World} {K : PySem.W.Frag} {mg : Str → Option Value} {base : Heap}
theorem ok_Kinds_empty (T : Tx w K mg) (G_Kinds_numbered : FnOk P w K mg base CX0 1 T.a_Kinds_numbered T.d_Kinds_numbered ["self", "depth", "marks"] (sp_numbered P w T.a_Kinds)) :
    FnOk P w K mg base CX0 2 T.a_Kinds_empty T.d_Kinds_empty ["self", "depth"] (sp_empty P w T.a_Kinds) := by
  refine T.F_Kinds_empty.ok sc_Kinds_empty (fun vs H Q E h => ?_) (fun cdv A outer s H vs Q E hr h => ?_)
  · obtain ⟨_, _, _, _, rfl, _⟩ := h
    rfl
  obtain ⟨k, Ls, t, d, rfl, hK, hd, q⟩ := h
  refine ⟨_, (pss_one (ps_ret (pe_meth (pv 0) T.C_Kinds T.m_Kinds_numbered G_Kinds_numbered (hr.mono (by omega)) T.b_Kinds_numbered .nil pass0 (pa_cons (pv 1) (pa_cons (pe_tup pa_nil) pa_nil))))), ?_⟩
  walk_at "rd"
  obtain ⟨dx, hins⟩ := hK.ins
  refine ⟨k.x, dx, _, rfl, hins, rfl, ?_⟩
  walk_at "rd"
  intro m hm
  have x1 := Ex.new (o := .tup []) hm
  refine ⟨k, Ls, t, d, m, [], rfl, hK.ex x1, .tup upd_same .nil, ⟨(fun m h => nomatch h), .nil⟩, fun e he => ⟨hd, [], hK.sub.emp, fun i c e => by simp at e, fun a c b h => nomatch h⟩, fun n t' Ls' H' hK' st r => ?_⟩
  refine q n t' Ls' H' hK' (Stp.trans (hK.ex x1) (Stp.ex x1) st) ?_
  cases d with
  | zero => exact r.1 rfl
  | succ d => exact rep_empty (r.2 d rfl)

end
end Lw
end

section
set_option Elab.async false
set_option linter.all false
set_option maxRecDepth 100000
set_option maxHeartbeats 4000000
set_option pp.maxSteps 300
set_option pp.deepTerms false
namespace Lw
open PySem L2 Evl M
open PyProof.Rows hiding St
local macro_rules | `(tactic| walk_at "at") => `(tactic| first | assumption | exact upd_same)
local macro_rules | `(tactic| walk_at "sq") => `(tactic| first | assumption | exact SqL.of (by walk_at "at") | exact SqT.of (by walk_at "at"))
local macro_rules | `(tactic| walk_at "sd") => `(tactic| first | assumption | exact Names.size (by assumption) | omega | decide | exact Nat.le_of_ble_eq_true rfl | exact Or.inl ⟨by decide, by decide⟩ | exact wide_div (b := 200) (by first | assumption | decide) (by first | assumption | decide) (by decide) (by decide) | exact pow_w 10 (by decide) (by decide) (by decide) (by decide))
local macro_rules | `(tactic| walk_at "r1") => `(tactic| first
  | refine ⟨_, rfl, ?_⟩
  | refine ⟨_, _, rfl, rfl, ?_⟩
  | refine And.intro rfl ?_
  | refine ⟨_, _, _, _, rfl, rfl, (by walk_at "sq"), rfl, ?_⟩
  | refine ⟨_, _, _, _, rfl, rfl, (by walk_at "at"), rfl, ?_⟩
  | refine ⟨_, _, rfl, Or.inl (by walk_at "sq"), ?_⟩
  | refine ⟨_, _, rfl, Or.inr (by walk_at "sq"), ?_⟩
  | refine ⟨_, _, rfl, ?_⟩
  | refine Or.inl ⟨_, rfl, ?_⟩
  | refine And.intro (by walk_at "sd") ?_)
local macro_rules | `(tactic| walk_at "rd") => `(tactic| try (walk_at "r1"; walk_at "rd"))
section
variable {P : Program} {w : World} {K : PySem.W.Frag} {mg : Str → Option Value} {base : Heap}
theorem ok_Kinds_lesser (T : Tx w K mg) (G_Kinds_numbered : FnOk P w K mg base CX0 1 T.a_Kinds_numbered T.d_Kinds_numbered ["self", "depth", "marks"] (sp_numbered P w T.a_Kinds)) : ∀ f : Nat,
    FnOk P w K mg base CX0 (f + 2) T.a_Kinds_lesser T.d_Kinds_lesser ["self", "kind"] (sp_lesser P w T.a_Kinds f) := by
  intro f
  induction f with
  | zero => exact fn_void fun vs H Q E ⟨_, _, _, _, _, _, _, _, h, _⟩ => by omega
  | succ f ih =>
  have G_Kinds_lesser := ih
  refine T.F_Kinds_lesser.ok sc_Kinds_lesser (fun vs H Q E h => ?_) (fun cdv A outer s H vs Q E hr h => ?_)
  · obtain ⟨_, _, _, _, _, _, rfl, _⟩ := h
    rfl
  obtain ⟨k, Ls, t, n, d, r, rfl, hK, hf, hr0, hrS, q⟩ := h
  have hu := hu_of hr
  refine ⟨_, (pss_cons (ps_if (pt_cmp (pc_dnotin hu (pv 1) (pe_fld (pv 0) rfl))) (pss_cons (ps_set (i := 2) sc_Kinds_lesser.nd rfl (Or.inl rfl) (pe_op op_sub (pe_ix ix_list (pe_fld (pv 0) rfl) (pv 1) (fun _ _ => rfl)) pe_int))
   (pss_cons (ps_set (i := 3) sc_Kinds_lesser.nd rfl (Or.inl rfl) (pe_ix ix_list (pe_fld (pv 0) rfl) (pv 1) (fun _ _ => rfl)))
   (pss_cons (ps_set (i := 4) sc_Kinds_lesser.nd rfl (Or.inl rfl) (pe_callTy0 M.cr_snew (by rfl) T.b_set (by decide +kernel)))
   (pss_cons (ps_for PassesOwn.never (by rfl) (pi_tup (pv 3)) (pg_tup (by rfl) (pgs_cons (pg_name (i := 5) sc_Kinds_lesser.nd rfl (Or.inl rfl)) (pgs_cons (pg_name (i := 6) sc_Kinds_lesser.nd rfl (Or.inl rfl)) (pgs_cons (pg_name (i := 7) sc_Kinds_lesser.nd rfl (Or.inl rfl)) pgs_nil)))) (pss_one (ps_expr (M.pe_sadd hr.units (pv 4) (pa_cons (pe_tup (pa_cons (pe_meth (pv 0) T.C_Kinds T.m_Kinds_lesser G_Kinds_lesser (hr.mono (by omega)) T.b_Kinds_lesser .nil pass0 (pa_cons (pv 5) pa_nil)) (pa_cons (pv 6) (pa_cons (pe_meth (pv 0) T.C_Kinds T.m_Kinds_lesser G_Kinds_lesser (hr.mono (by omega)) T.b_Kinds_lesser .nil pass0 (pa_cons (pv 7) pa_nil)) pa_nil)))) pa_nil)))))
   (pss_one (ps_dput hu (pe_fld (pv 0) rfl) (pv 1) (pe_meth (pv 0) T.C_Kinds T.m_Kinds_numbered G_Kinds_numbered (hr.mono (by omega)) T.b_Kinds_numbered .nil pass0 (pa_cons (pv 2) (pa_cons (pe_callTy call_tuple_of (by rfl) T.b_tuple (by decide +kernel) (pa_cons (pe_callB (M.cr_ssort (by rfl)) (by rfl) T.b_sorted (by decide +kernel) (pa_cons (pv 4) pa_nil)) pa_nil)) pa_nil))) rfl)))))) pss_nil)
   (pss_one (ps_ret (pe_dget hu (pe_fld (pv 0) rfl) (pv 1) (fun _ _ => rfl))))), ?_⟩
  obtain ⟨dx, hins⟩ := hK.ins
  obtain ⟨kv, g1, g2, g3, g4, g5, g6⟩ := hK.get6
  walk_at "rd"
  refine ⟨k.x, T.a_Kinds, dx, _, _, rfl, hins, T.C_Kinds, T.n_Kinds_lesser_kinds, rfl, ?_⟩
  refine ⟨k.A.a6, _, rfl, DGet.k (k := Sum.inl (n : Nat)) g1, _, rfl, ?_⟩
  cases hv : valV kv (Sum.inl ((n : Nat) : Int)) with
  | some v =>
    refine iteF ?_
    walk_at "rd"
    refine ⟨k.x, T.a_Kinds, dx, _, _, rfl, hins, T.C_Kinds, T.n_Kinds_lesser_kinds, rfl, ?_⟩
    have hg := DGet.k (k := Sum.inl ((n : Nat) : Int)) g1
    rw [hv] at hg
    walk_at "rd"
    refine ⟨k.A.a6, _, rfl, hg, ?_⟩
    obtain ⟨m, d', rfl, s', h1, h2⟩ := g6 n v hv
    obtain rfl := hK.tok.deep h1 hr0
    exact q m t Ls H hK .refl (LW.all ⟨s', h1, h2⟩ hr0)
  | none =>
    refine iteT ?_
    have n0 : n ≠ 0 := fun z => by
      obtain ⟨v, hv2⟩ := valV_there g3
      rw [z] at hv
      exact nomatch hv.symm.trans hv2
    obtain ⟨e, rfl⟩ : ∃ e, d = e + 1 := ⟨d - 1, by
      cases d with
      | zero => exact absurd hr0 n0
      | succ d => rfl⟩
    obtain ⟨ms, hms, hfit⟩ := rep_fits.mp hr0
    obtain ⟨mm, m, e4, em, hnk⟩ := hK.get4 hms
    have hcnt := hK.tok.marks canon_one (fun xs h => canon_nodup h) hms hr0
    have hlen := hK.sub.len r hrS
    walk_at "rd"
    refine ⟨k.x, T.a_Kinds, dx, _, _, rfl, hins, T.C_Kinds, T.n_Kinds_depths, rfl, ?_⟩
    walk_at "rd"
    refine ⟨k.A.a5, _, _, _, rfl, rfl, SqL.of hK.k5, atI_nat (depsV_at hms), ?_⟩
    walk_at "rd"
    refine ⟨k.x, T.a_Kinds, dx, _, _, rfl, hins, T.C_Kinds, T.n_Kinds_marks, rfl, ?_⟩
    walk_at "rd"
    refine ⟨k.A.a4, _, _, _, rfl, rfl, SqL.of e4, atI_nat em, ?_⟩
    walk_at "rd"
    intro a H1 ha x1 hT1 keep1
    have hT1 : SetT w H1 a [] := hT1
    obtain ⟨xs, hxs, htr⟩ := nk_trs hnk
    have hxl := htr.len
    have hK1 := hK.ex x1
    have hout := hK.new_out ha
    have hxs1 := x1 _ _ hxs
    walk_at "rd"
    obtain ⟨Pv, hPv⟩ : ∃ Pv : Nat → L2.St → Hp → Prop, ∀ j σ G, Pv j σ G ↔ ∃ (o5 o6 o7 : Option V) (Tl : List Mark) (t' : KTab) (Ls' : List Addr), σ = [some (.ref k.x), some (.int (n : Nat)), some (.int (((e + 1 : Nat) : Int) - 1)), some (.ref m), some (.ref a), o5, o6, o7] ∧
      KS P w T.a_Kinds k Ls' G t' ∧ Stp k Ls H t Ls' G t' ∧ a ∉ Ls' ∧ SetT w G a Tl ∧ Tl.length ≤ j ∧ (∀ i x c y, i < j → ms[i]? = some (x, c, y) → ∃ x' y', (x', c, y') ∈ Tl ∧ LW t' e x x' ∧ LW t' e y y') ∧
      (∀ x' c y', (x', c, y') ∈ Tl → ∃ x y, (x, c, y) ∈ ms ∧ LW t' e x x' ∧ LW t' e y y') := ⟨_, fun _ _ _ => Iff.rfl⟩
    refine ⟨⟨_, SqT.of hxs1⟩, for_tup (xs := xs) Pv ((hPv _ _ _).mpr ⟨_, _, _, [], t, Ls, rfl, hK1, Stp.ex x1, hout.2.2, hT1, Nat.le_refl _, fun i x c y hi => by omega, fun x' c y' h => nomatch h⟩) (fun j σ G hj h => ?_) (fun j x σ G hx h => ?_) (fun σ G h => ?_)⟩
    · obtain ⟨_, _, _, _, _, _, _, hKj, st, _⟩ := (hPv _ _ _).mp h
      exact SqT.of (st.tk hK _ _ hxs)
    · obtain ⟨o5, o6, o7, Tl, t', Ls', rfl, hKj, st, haj, hTj, hTl, inv1, inv2⟩ := (hPv _ _ _).mp h
      have hj : j < ms.length := by rw [← hxl]; exact (List.getElem?_eq_some_iff.mp hx).1
      obtain ⟨⟨y1, c, y2⟩, hmj⟩ : ∃ y, ms[j]? = some y := ⟨_, List.getElem?_eq_getElem hj⟩
      obtain ⟨b, hb1, hb2⟩ := htr.at hmj
      obtain rfl : x = .ref b := Option.some.inj (hx.symm.trans hb1)
      have hmem := List.mem_of_getElem? hmj
      obtain ⟨i, hic, r1, r2⟩ := hfit.2 _ _ _ hmem
      have hb3 := st.tk hK _ _ hb2
      obtain ⟨dx', hins'⟩ := hKj.ins
      walk_at "rd"
      refine ⟨_, _, rfl, SqT.of hb3, rfl, ?_⟩
      walk_at "rd"
      refine ⟨⟨a, Tl, rfl, hTj⟩, ?_⟩
      walk_at "rd"
      refine ⟨k.x, dx', _, rfl, hins', rfl, ?_⟩
      walk_at "rd"
      refine ⟨k, Ls', t', y1, e, r.take i, rfl, hKj, by omega, r1.up st.grows, hK.sub.tak r hrS i, fun n1 t1 Ls1 G1 hK1' st1 rp1 => ?_⟩
      obtain ⟨dx1, hins1⟩ := hK1'.ins
      walk_at "rd"
      refine ⟨k.x, dx1, _, rfl, hins1, rfl, ?_⟩
      walk_at "rd"
      refine ⟨k, Ls1, t1, y2, e, r.drop (i + 1), rfl, hK1', by omega, (r2.up st.grows).up st1.grows, hK.sub.drp r hrS (i + 1), fun n2 t2 Ls2 G2 hK2 st2 rp2 => ?_⟩
      walk_at "rd"
      intro tt ntt
      have st12 := Stp.trans hK1' st1 st2
      have hTt := hTj.keep (st12.tk hKj) (fun o => st12.old _ o hout.1)
      have xt := Ex.new (o := .tup [.int (n1 : Nat), .str ⟨#[c]⟩, .int (n2 : Nat)]) ntt
      have hkt : NK (upd G2 tt (.tup [.int (n1 : Nat), .str ⟨#[c]⟩, .int (n2 : Nat)])) (.ref tt) (trip (n1, c, n2)) := trip_nk upd_same
      have hK3 := hK2.ex xt
      have hTu := hTt.keep (Tk.of xt) (fun o => xt _ o)
      generalize upd G2 tt (.tup [.int (n1 : Nat), .str ⟨#[c]⟩, .int (n2 : Nat)]) = G3 at *
      refine ⟨a, tt, (n1, c, n2), Tl, rfl, rfl, hTu, hkt, by omega, fun G4 T' hT4 hm4 hl4 keep4 tk4 => ?_⟩
      have stAll := Stp.trans hKj st st12
      have ha2 : a ∉ Ls2 := fun z => by
        rcases st12.ls a z with q1 | q1
        · exact haj q1
        · exact hTj.ne_none q1
      refine (hPv _ _ _).mpr ⟨_, _, _, T', t2, Ls2, rfl, ?_, ⟨stAll.grows, fun b' o hb' e' => ?_, stAll.ls⟩, ha2, hT4, by omega, ?_, ?_⟩
      · refine hK3.move tk4 (fun o e => by rw [keep4 _ (Ne.symm hout.2.1)]; exact e) (fun b' hb' o e => by rw [keep4 _ fun z => hout.1 (by rw [← z]; exact hb')]; exact e) (fun l hl o e => by rw [keep4 _ fun z => ha2 (by rw [← z]; exact hl)]; exact e)
      · rw [keep4 _ fun z => by rw [z, ha] at e'; exact nomatch e']
        exact xt _ _ (stAll.old _ _ hb' e')
      · intro i' x c' y hi' hm'
        by_cases hij : i' < j
        · obtain ⟨x', y', h1, h2, h3⟩ := inv1 i' x c' y hij hm'
          exact ⟨x', y', (hm4 _).mpr (.inr h1), h2.up st12.grows, h3.up st12.grows⟩
        · obtain rfl : i' = j := by omega
          rw [hmj] at hm'
          cases hm'
          exact ⟨n1, n2, (hm4 _).mpr (.inl rfl), ⟨_, (r1.up st.grows).up st12.grows, rp1.up st2.grows⟩, ⟨_, (r2.up st.grows).up st12.grows, rp2⟩⟩
      · intro x' c' y' hm'
        rcases (hm4 _).mp hm' with hm' | hm'
        · cases hm'
          exact ⟨y1, y2, hmem, ⟨_, (r1.up st.grows).up st12.grows, rp1.up st2.grows⟩, ⟨_, (r2.up st.grows).up st12.grows, rp2⟩⟩
        · obtain ⟨x, y, h1, h2, h3⟩ := inv2 x' c' y' hm'
          exact ⟨x, y, h1, h2.up st12.grows, h3.up st12.grows⟩
    · obtain ⟨o5, o6, o7, Tl, t', Ls', rfl, hKj, st, haj, hTj, hTl, inv1, inv2⟩ := (hPv _ _ _).mp h
      rw [hxl] at inv1
      obtain ⟨dx', hins'⟩ := hKj.ins
      have hsz := hKj.size
      have hfit2 := hfit.up st.grows
      have lowT : ∀ m ∈ Tl, Low m := fun ⟨x', c, y'⟩ hm => by
        obtain ⟨x, y, h1, ⟨s1, _, h2⟩, ⟨s2, _, h3⟩⟩ := inv2 x' c y' hm
        obtain ⟨i, hic, _, _⟩ := hfit.2 _ _ _ h1
        have l1 := hKj.tok.lt h2
        have l2 := hKj.tok.lt h3
        exact ⟨by show x' < _; omega, hK.sub.low r hrS c (List.mem_of_getElem? hic), by show y' < _; omega⟩
      walk_at "rd"
      refine ⟨k.x, dx', _, rfl, hins', rfl, ?_⟩
      walk_at "rd"
      refine ⟨a, Tl, rfl, hTj, lowT, fun p rs ms' G1 hp xp ep keepp hcan hmm htrs => ?_⟩
      refine ⟨p, rs, rfl, .inl ⟨SqL.of ep, fun tp htp => ?_⟩⟩
      have xt := Ex.new (o := .tup rs) htp
      have xpt := xp.trans xt
      have hKt := hKj.ex xpt
      have htt : NK (upd G1 tp (.tup rs)) (.ref tp) (.tup (ms'.map trip)) := trs_nk upd_same (htrs.up (Tk.of xpt))
      generalize upd G1 tp (.tup rs) = G2 at *
      rw [show (((e + 1 : Nat) : Int) - 1) = ((e : Nat) : Int) by omega]
      have mfit : ∀ e', e = e' + 1 → Fits t' e' ms' r := fun e' he => by
        subst he
        refine fits_less hfit2 (fun x c y h1 => ?_) (fun x' c y' h1 => ?_)
        · obtain ⟨i, hi⟩ := List.getElem?_of_mem h1
          obtain ⟨x', y', h2, h3, h4⟩ := inv1 i x c y (List.getElem?_eq_some_iff.mp hi).1 hi
          exact ⟨x', y', (hmm _).mpr h2, h3, h4⟩
        · exact inv2 x' c y' ((hmm _).mp h1)
      have hdD : e + 1 ≤ k.D := by
        obtain ⟨_, q1, _⟩ := hK.tok.rep hms
        exact (q1 n0).2
      refine ⟨k, Ls', t', e, tp, ms', rfl, hKt, htt, hcan, fun e' he => ⟨by omega, r, hrS, mfit e' he⟩, fun n' t2 Ls2 G3 hK3 st3 rn => ?_⟩
      have rep' : Rep t2 e n' r := by
        cases e with
        | zero => exact rn.1 rfl
        | succ e' => exact ⟨ms', rn.2 e' rfl, (mfit e' rfl).up st3.grows⟩
      have hr2 := (hr0.up st.grows).up st3.grows
      obtain ⟨dx2, hins2⟩ := hK3.ins
      obtain ⟨kv2, f1, f2, f3, f4, f5, _⟩ := hK3.get6
      refine ⟨_, rfl, k.x, T.a_Kinds, dx2, _, _, rfl, hins2, T.C_Kinds, T.n_Kinds_lesser_kinds, rfl, ?_⟩
      walk_at "rd"
      refine ⟨k.A.a6, _, rfl, DPut.k (k := Sum.inl ((n : Nat) : Int)) f1 f5, ?_⟩
      have hK4 := hK3.put6 f1 f2 f3 f4 (n := n) (m := n') (d := e + 1) ⟨r, hr2, rep'⟩
      have st4 := hK3.stp (a := k.A.a6) (o := .dK (putK kv2 (Sum.inl ((n : Nat) : Int)) (.int (n' : Nat)))) (by simp [KA.all])
      have at4 : upd G3 k.A.a6 (.dK (putK kv2 (Sum.inl ((n : Nat) : Int)) (.int (n' : Nat)))) k.A.a6 = some (.dK (putK kv2 (Sum.inl ((n : Nat) : Int)) (.int (n' : Nat)))) := upd_same
      generalize upd G3 k.A.a6 (.dK (putK kv2 (Sum.inl ((n : Nat) : Int)) (.int (n' : Nat)))) = G4 at *
      obtain ⟨dx4, hins4⟩ := hK4.ins
      have hg := DGet.k (k := Sum.inl ((n : Nat) : Int)) at4
      rw [valV_put, if_pos rfl] at hg
      walk_at "rd"
      refine ⟨k.x, T.a_Kinds, dx4, _, _, rfl, hins4, T.C_Kinds, T.n_Kinds_lesser_kinds, rfl, ?_⟩
      walk_at "rd"
      refine ⟨k.A.a6, _, rfl, hg, ?_⟩
      exact q n' t2 Ls2 G4 hK4 (Stp.trans hKj st (Stp.trans hKt (Stp.ex xpt) (Stp.trans hK3 st3 st4))) rep'

end
end Lw
end

section
set_option Elab.async false
set_option linter.all false
set_option maxRecDepth 100000
set_option maxHeartbeats 4000000
set_option pp.maxSteps 300
set_option pp.deepTerms false
namespace Lw
open PySem L2 Evl M
open PyProof.Rows hiding St
local macro_rules | `(tactic| walk_at "at") => `(tactic| first | assumption | exact upd_same)
local macro_rules | `(tactic| walk_at "sq") => `(tactic| first | assumption | exact SqL.of (by walk_at "at") | exact SqT.of (by walk_at "at"))
local macro_rules | `(tactic| walk_at "sd") => `(tactic| first | assumption | exact Names.size (by assumption) | omega | decide | exact Nat.le_of_ble_eq_true rfl | exact Or.inl ⟨by decide, by decide⟩ | exact wide_div (b := 200) (by first | assumption | decide) (by first | assumption | decide) (by decide) (by decide) | exact pow_w 10 (by decide) (by decide) (by decide) (by decide))
local macro_rules | `(tactic| walk_at "r1") => `(tactic| first
  | refine ⟨_, rfl, ?_⟩
  | refine ⟨_, _, rfl, rfl, ?_⟩
  | refine And.intro rfl ?_
  | refine ⟨_, _, _, _, rfl, rfl, (by walk_at "sq"), rfl, ?_⟩
  | refine ⟨_, _, _, _, rfl, rfl, (by walk_at "at"), rfl, ?_⟩
  | refine ⟨_, _, rfl, Or.inl (by walk_at "sq"), ?_⟩
  | refine ⟨_, _, rfl, Or.inr (by walk_at "sq"), ?_⟩
  | refine ⟨_, _, rfl, ?_⟩
  | refine Or.inl ⟨_, rfl, ?_⟩
  | refine And.intro (by walk_at "sd") ?_)
local macro_rules | `(tactic| walk_at "rd") => `(tactic| try (walk_at "r1"; walk_at "rd"))
section
variable {P : Program} {w : World} {K : PySem.W.Frag} {mg : Str → Option Value} {base : Heap}
theorem ok_Kinds_added_behind (T : Tx w K mg) (G_Kinds_numbered : FnOk P w K mg base CX0 1 T.a_Kinds_numbered T.d_Kinds_numbered ["self", "depth", "marks"] (sp_numbered P w T.a_Kinds))
    (G_Kinds_empty : FnOk P w K mg base CX0 2 T.a_Kinds_empty T.d_Kinds_empty ["self", "depth"] (sp_empty P w T.a_Kinds))
    (GL : ∀ f : Nat, FnOk P w K mg base CX0 (f + 2) T.a_Kinds_lesser T.d_Kinds_lesser ["self", "kind"] (sp_lesser P w T.a_Kinds f)) : ∀ f : Nat,
    FnOk P w K mg base CX0 (f + 3) T.a_Kinds_added_behind T.d_Kinds_added_behind ["self", "kind", "letter"] (sp_behind P w T.a_Kinds f) := by
  intro f
  induction f with
  | zero => exact fn_void fun vs H Q E ⟨_, _, _, _, _, _, _, _, _, h, _⟩ => by omega
  | succ f ih =>
  have G_Kinds_added_behind := ih
  have G_Kinds_lesser := GL (f + 1)
  refine T.F_Kinds_added_behind.ok sc_Kinds_added_behind (fun vs H Q E h => ?_) (fun cdv A outer s H vs Q E hr h => ?_)
  · obtain ⟨_, _, _, _, _, _, _, rfl, _⟩ := h
    rfl
  obtain ⟨k, Ls, t, n, d, c, r, rfl, hK, hf, hdD, hr0, hrS, q⟩ := h
  have hu := hu_of hr
  refine ⟨_, (pss_cons (ps_if (pt_cmpR op_eq (pv 1) pe_int (nomark _)) (pss_one (ps_ret pe_int)) pss_nil)
   (pss_cons (ps_set (i := 3) sc_Kinds_added_behind.nd rfl (Or.inl rfl) (pe_tup (pa_cons (pv 1) (pa_cons (pv 2) pa_nil))))
   (pss_cons (ps_if (pt_cmpR (M.op_notInN hr.units) (pv 3) (pe_fld (pv 0) rfl) (by rfl)) (pss_cons (ps_set (i := 4) sc_Kinds_added_behind.nd rfl (Or.inl rfl) (pe_ix ix_list (pe_fld (pv 0) rfl) (pv 1) (fun _ _ => rfl)))
   (pss_cons (ps_set (i := 5) sc_Kinds_added_behind.nd rfl (Or.inl rfl) (pe_ix ix_list (pe_fld (pv 0) rfl) (pv 1) (fun _ _ => rfl)))
   (pss_cons (ps_set (i := 6) sc_Kinds_added_behind.nd rfl (Or.inl rfl) (pe_callTy0 M.cr_snew (by rfl) T.b_set (by decide +kernel)))
   (pss_cons (ps_for PassesOwn.never (by rfl) (pi_tup (pv 5)) (pg_tup (by rfl) (pgs_cons (pg_name (i := 7) sc_Kinds_added_behind.nd rfl (Or.inl rfl)) (pgs_cons (pg_name (i := 8) sc_Kinds_added_behind.nd rfl (Or.inl rfl)) (pgs_cons (pg_name (i := 9) sc_Kinds_added_behind.nd rfl (Or.inl rfl)) pgs_nil)))) (pss_one (ps_expr (M.pe_sadd hr.units (pv 6) (pa_cons (pe_tup (pa_cons (pv 7) (pa_cons (pv 8) (pa_cons (pe_meth (pv 0) T.C_Kinds T.m_Kinds_added_behind G_Kinds_added_behind (hr.mono (by omega)) T.b_Kinds_added_behind .nil pass0 (pa_cons (pv 9) (pa_cons (pv 2) pa_nil))) pa_nil)))) pa_nil)))))
   (pss_cons (ps_expr (M.pe_sadd hr.units (pv 6) (pa_cons (pe_tup (pa_cons (pe_meth (pv 0) T.C_Kinds T.m_Kinds_lesser G_Kinds_lesser (hr.mono (by omega)) T.b_Kinds_lesser .nil pass0 (pa_cons (pv 1) pa_nil)) (pa_cons (pv 2) (pa_cons (pe_meth (pv 0) T.C_Kinds T.m_Kinds_empty G_Kinds_empty (hr.mono (by omega)) T.b_Kinds_empty .nil pass0 (pa_cons (pe_op op_sub (pv 4) pe_int) pa_nil)) pa_nil)))) pa_nil)))
   (pss_one (M.ps_nputH hr.units (pe_fld (pv 0) rfl) (pv 3) (pe_meth (pv 0) T.C_Kinds T.m_Kinds_numbered G_Kinds_numbered (hr.mono (by omega)) T.b_Kinds_numbered .nil pass0 (pa_cons (pv 4) (pa_cons (pe_callTy call_tuple_of (by rfl) T.b_tuple (by decide +kernel) (pa_cons (pe_callB (M.cr_ssort (by rfl)) (by rfl) T.b_sorted (by decide +kernel) (pa_cons (pv 6) pa_nil)) pa_nil)) pa_nil))) rfl))))))) pss_nil)
   (pss_one (ps_ret (pe_ix (M.ix_dictN hr.units) (pe_fld (pv 0) rfl) (pv 3) (fun _ _ => rfl))))))), ?_⟩
  obtain ⟨dx, hins⟩ := hK.ins
  walk_at "rd"
  refine iteI (fun e0 => ?_) (fun e0 => ?_)
  · obtain rfl : n = 0 := by omega
    refine q 0 t Ls H hK .refl ?_
    cases d with
    | zero => exact (rfl : 0 = 0)
    | succ d => exact absurd rfl (hK.tok.ne hr0)
  have n0 : n ≠ 0 := by omega
  obtain ⟨e, rfl⟩ : ∃ e, d = e + 1 := ⟨d - 1, by
    cases d with
    | zero => exact absurd hr0 n0
    | succ d => rfl⟩
  have hrS0 : r ∈ k.S := by
    have := hK.sub.tak _ hrS r.length
    rwa [List.take_left] at this
  walk_at "rd"
  intro tk ntk
  have x0 := Ex.new (o := .tup [.int (n : Nat), .str ⟨#[c]⟩]) ntk
  have hK0 := hK.ex x0
  have hkey : NK (upd H tk (.tup [.int (n : Nat), .str ⟨#[c]⟩])) (.ref tk) (keyB n c) := .tup upd_same (.cons (.int _) (.cons (.str _) .nil))
  generalize upd H tk (.tup [.int (n : Nat), .str ⟨#[c]⟩]) = H0 at *
  have hins0 := x0 _ _ hins
  obtain ⟨e7, g1, g2, g3, g4, g6⟩ := hK0.get7
  walk_at "rd"
  refine ⟨k.x, T.a_Kinds, dx, _, _, rfl, hins0, T.C_Kinds, T.n_Kinds_longer_behind, rfl, ?_⟩
  refine ⟨tk, k.A.a7, keyB n c, e7, rfl, rfl, hkey, keyB_depth _ _, g1, ?_⟩
  walk_at "rd"
  cases hkat : kat e7 (keyB n c) with
  | some v =>
    refine iteF ?_
    walk_at "rd"
    refine ⟨k.x, T.a_Kinds, dx, _, _, rfl, hins0, T.C_Kinds, T.n_Kinds_longer_behind, rfl, ?_⟩
    walk_at "rd"
    refine ⟨tk, k.A.a7, keyB n c, e7, v, rfl, rfl, hkey, keyB_depth _ _, g1, hkat, ?_⟩
    obtain ⟨m, d', rfl, s', h1, h2⟩ := g6 _ _ _ hkat
    obtain rfl := hK.tok.deep h1 hr0
    exact q m t Ls _ hK0 (Stp.ex x0) (BW.all ⟨s', h1, h2⟩ hr0)
  | none =>
    refine iteT ?_
    obtain ⟨ms, hms, hfit⟩ := rep_fits.mp hr0
    obtain ⟨mm, m, e4, em, hnk⟩ := hK0.get4 hms
    have hcnt := hK.tok.marks canon_one (fun xs h => canon_nodup h) hms hr0
    have hlen := hK.sub.len r hrS0
    walk_at "rd"
    refine ⟨k.x, T.a_Kinds, dx, _, _, rfl, hins0, T.C_Kinds, T.n_Kinds_depths, rfl, ?_⟩
    walk_at "rd"
    refine ⟨k.A.a5, _, _, _, rfl, rfl, SqL.of hK0.k5, atI_nat (depsV_at hms), ?_⟩
    walk_at "rd"
    refine ⟨k.x, T.a_Kinds, dx, _, _, rfl, hins0, T.C_Kinds, T.n_Kinds_marks, rfl, ?_⟩
    walk_at "rd"
    refine ⟨k.A.a4, _, _, _, rfl, rfl, SqL.of e4, atI_nat em, ?_⟩
    walk_at "rd"
    intro a H1 ha x1 hT1 keep1
    have hT1 : SetT w H1 a [] := hT1
    obtain ⟨xs, hxs, htr⟩ := nk_trs hnk
    have hxl := htr.len
    have hK1 := hK0.ex x1
    have hout := hK0.new_out ha
    have hxs1 := x1 _ _ hxs
    walk_at "rd"
    obtain ⟨Pv, hPv⟩ : ∃ Pv : Nat → L2.St → Hp → Prop, ∀ j σ G, Pv j σ G ↔ ∃ (o7 o8 o9 : Option V) (Tl : List Mark) (t' : KTab) (Ls' : List Addr), σ = [some (.ref k.x), some (.int (n : Nat)), some (.str ⟨#[c]⟩), some (.ref tk), some (.int ((e + 1 : Nat) : Int)), some (.ref m), some (.ref a), o7, o8, o9] ∧
      KS P w T.a_Kinds k Ls' G t' ∧ Stp k Ls H0 t Ls' G t' ∧ a ∉ Ls' ∧ SetT w G a Tl ∧ Tl.length ≤ j ∧ (∀ i x c' y, i < j → ms[i]? = some (x, c', y) → ∃ y', (x, c', y') ∈ Tl ∧ BW t' e y y' c) ∧
      (∀ x c' y', (x, c', y') ∈ Tl → ∃ y, (x, c', y) ∈ ms ∧ BW t' e y y' c) := ⟨_, fun _ _ _ => Iff.rfl⟩
    refine ⟨⟨_, SqT.of hxs1⟩, for_tup (xs := xs) Pv ((hPv _ _ _).mpr ⟨_, _, _, [], t, Ls, rfl, hK1, Stp.ex x1, hout.2.2, hT1, Nat.le_refl _, fun i x c y hi => by omega, fun x' c y' h => nomatch h⟩) (fun j σ G hj h => ?_) (fun j x σ G hx h => ?_) (fun σ G h => ?_)⟩
    · obtain ⟨_, _, _, _, _, _, _, hKj, st, _⟩ := (hPv _ _ _).mp h
      exact SqT.of (st.tk hK0 _ _ hxs)
    · obtain ⟨o7, o8, o9, Tl, t', Ls', rfl, hKj, st, haj, hTj, hTl, inv1, inv2⟩ := (hPv _ _ _).mp h
      have hj : j < ms.length := by rw [← hxl]; exact (List.getElem?_eq_some_iff.mp hx).1
      obtain ⟨⟨y1, c1, y2⟩, hmj⟩ : ∃ y, ms[j]? = some y := ⟨_, List.getElem?_eq_getElem hj⟩
      obtain ⟨b, hb1, hb2⟩ := htr.at hmj
      obtain rfl : x = .ref b := Option.some.inj (hx.symm.trans hb1)
      have hmem := List.mem_of_getElem? hmj
      obtain ⟨i, hic, r1, r2⟩ := hfit.2 _ _ _ hmem
      have hi := (List.getElem?_eq_some_iff.mp hic).1
      have hb3 := st.tk hK0 _ _ hb2
      obtain ⟨dx', hins'⟩ := hKj.ins
      have hS2 := hK.sub.drp _ hrS (i + 1)
      rw [drop_l hi] at hS2
      walk_at "rd"
      refine ⟨_, _, rfl, SqT.of hb3, rfl, ?_⟩
      walk_at "rd"
      refine ⟨⟨a, Tl, rfl, hTj⟩, ?_⟩
      walk_at "rd"
      refine ⟨k.x, dx', _, rfl, hins', rfl, ?_⟩
      walk_at "rd"
      refine ⟨k, Ls', t', y2, e, c, r.drop (i + 1), rfl, hKj, by omega, by omega, r2.up st.grows, hS2, fun n2 t2 Ls2 G2 hK2 st12 rp2 => ?_⟩
      walk_at "rd"
      intro tt ntt
      have hTt := hTj.keep (st12.tk hKj) (fun o => st12.old _ o hout.1)
      have xt := Ex.new (o := .tup [.int (y1 : Nat), .str ⟨#[c1]⟩, .int (n2 : Nat)]) ntt
      have hkt : NK (upd G2 tt (.tup [.int (y1 : Nat), .str ⟨#[c1]⟩, .int (n2 : Nat)])) (.ref tt) (trip (y1, c1, n2)) := trip_nk upd_same
      have hK3 := hK2.ex xt
      have hTu := hTt.keep (Tk.of xt) (fun o => xt _ o)
      generalize upd G2 tt (.tup [.int (y1 : Nat), .str ⟨#[c1]⟩, .int (n2 : Nat)]) = G3 at *
      refine ⟨a, tt, (y1, c1, n2), Tl, rfl, rfl, hTu, hkt, by omega, fun G4 T' hT4 hm4 hl4 keep4 tk4 => ?_⟩
      have stAll := Stp.trans hKj st st12
      have ha2 : a ∉ Ls2 := fun z => by
        rcases st12.ls a z with q1 | q1
        · exact haj q1
        · exact hTj.ne_none q1
      have bw : BW t2 e y2 n2 c := ⟨_, (r2.up st.grows).up st12.grows, rp2⟩
      refine (hPv _ _ _).mpr ⟨_, _, _, T', t2, Ls2, rfl, ?_, ⟨stAll.grows, fun b' o hb' e' => ?_, stAll.ls⟩, ha2, hT4, by omega, ?_, ?_⟩
      · refine hK3.move tk4 (fun o e => by rw [keep4 _ (Ne.symm hout.2.1)]; exact e) (fun b' hb' o e => by rw [keep4 _ fun z => hout.1 (by rw [← z]; exact hb')]; exact e) (fun l hl o e => by rw [keep4 _ fun z => ha2 (by rw [← z]; exact hl)]; exact e)
      · rw [keep4 _ fun z => by rw [z, ha] at e'; exact nomatch e']
        exact xt _ _ (stAll.old _ _ hb' e')
      · intro i' x c' y hi' hm'
        by_cases hij : i' < j
        · obtain ⟨y', h1, h2⟩ := inv1 i' x c' y hij hm'
          exact ⟨y', (hm4 _).mpr (.inr h1), h2.up st12.grows⟩
        · obtain rfl : i' = j := by omega
          rw [hmj] at hm'
          cases hm'
          exact ⟨n2, (hm4 _).mpr (.inl rfl), bw⟩
      · intro x' c' y' hm'
        rcases (hm4 _).mp hm' with hm' | hm'
        · cases hm'
          exact ⟨y2, hmem, bw⟩
        · obtain ⟨y, h1, h2⟩ := inv2 x' c' y' hm'
          exact ⟨y, h1, h2.up st12.grows⟩
    · obtain ⟨o7, o8, o9, Tl, t', Ls', rfl, hKj, st, haj, hTj, hTl, inv1, inv2⟩ := (hPv _ _ _).mp h
      rw [hxl] at inv1 hTl
      obtain ⟨dx', hins'⟩ := hKj.ins
      walk_at "rd"
      refine ⟨⟨a, Tl, rfl, hTj⟩, ?_⟩
      walk_at "rd"
      refine ⟨k.x, dx', _, rfl, hins', rfl, ?_⟩
      walk_at "rd"
      refine ⟨k, Ls', t', n, e + 1, r, rfl, hKj, by omega, hr0.up st.grows, hrS0, fun l t1 Ls1 G1 hK1' st1 rpl => ?_⟩
      obtain ⟨dx1, hins1⟩ := hK1'.ins
      walk_at "rd"
      refine ⟨k.x, dx1, _, rfl, hins1, rfl, ?_⟩
      walk_at "rd"
      refine ⟨k, Ls1, t1, e, (by show [V.ref k.x, V.int (((e + 1 : Nat) : Int) - 1)] = _; rw [show (((e + 1 : Nat) : Int) - 1) = ((e : Nat) : Int) by omega]), hK1', by omega, fun em2 t2 Ls2 G2 hK2 st2 rpe => ?_⟩
      walk_at "rd"
      intro tt ntt
      have st12 := Stp.trans hK1' st1 st2
      have hTt := hTj.keep (st12.tk hKj) (fun o => st12.old _ o hout.1)
      have xt := Ex.new (o := .tup [.int (l : Nat), .str ⟨#[c]⟩, .int (em2 : Nat)]) ntt
      have hkt : NK (upd G2 tt (.tup [.int (l : Nat), .str ⟨#[c]⟩, .int (em2 : Nat)])) (.ref tt) (trip (l, c, em2)) := trip_nk upd_same
      have hK3 := hK2.ex xt
      have hTu := hTt.keep (Tk.of xt) (fun o => xt _ o)
      generalize upd G2 tt (.tup [.int (l : Nat), .str ⟨#[c]⟩, .int (em2 : Nat)]) = G3 at *
      refine ⟨a, tt, (l, c, em2), Tl, rfl, rfl, hTu, hkt, by omega, fun G4 T4 hT4 hm4 hl4 keep4 tk4 => ?_⟩
      have stAll := Stp.trans hKj st st12
      have ha2 : a ∉ Ls2 := fun z => by
        rcases st12.ls a z with q1 | q1
        · exact haj q1
        · exact hTj.ne_none q1
      have hK4 : KS P w T.a_Kinds k Ls2 G4 t2 := hK3.move tk4 (fun o e => by rw [keep4 _ (Ne.symm hout.2.1)]; exact e) (fun b' hb' o e => by rw [keep4 _ fun z => hout.1 (by rw [← z]; exact hb')]; exact e) (fun l hl o e => by rw [keep4 _ fun z => ha2 (by rw [← z]; exact hl)]; exact e)
      have st4 : Stp k Ls H0 t Ls2 G4 t2 := ⟨stAll.grows, fun b' o hb' e' => by
        rw [keep4 _ fun z => by rw [z, ha] at e'; exact nomatch e']
        exact xt _ _ (stAll.old _ _ hb' e'), stAll.ls⟩
      have hl2 : Rep t2 e l r := rpl.up st2.grows
      have hsz := hK4.size
      have hfit2 := hfit.up st4.grows
      have hcS : c < 2 ^ 32 := hK.sub.low _ hrS c (by simp)
      have lowT : ∀ m ∈ T4, Low m := fun ⟨x', c', y'⟩ hm => by
        rcases (hm4 _).mp hm with hm | hm
        · cases hm
          have l1 := hK4.tok.lt hl2
          have l2 := hK4.tok.lt rpe
          exact ⟨by show l < _; omega, hcS, by show em2 < _; omega⟩
        · obtain ⟨y, h1, s2, _, h3⟩ := inv2 x' c' y' hm
          obtain ⟨i, hic, h4, _⟩ := hfit2.2 _ _ _ h1
          have l1 := hK4.tok.lt h4
          have l2 := hKj.tok.lt h3
          have l3 := hKj.size
          exact ⟨by show x' < _; omega, hK.sub.low r hrS0 c' (List.mem_of_getElem? hic), by show y' < _; omega⟩
      obtain ⟨dx4, hins4⟩ := hK4.ins
      walk_at "rd"
      refine ⟨k.x, dx4, _, rfl, hins4, rfl, ?_⟩
      walk_at "rd"
      refine ⟨a, T4, rfl, hT4, lowT, fun p rs ms' G5 hp xp ep keepp hcan hmm htrs => ?_⟩
      refine ⟨p, rs, rfl, .inl ⟨SqL.of ep, fun tp htp => ?_⟩⟩
      have xtp := Ex.new (o := .tup rs) htp
      have xpt := xp.trans xtp
      have hKt := hK4.ex xpt
      have htt : NK (upd G5 tp (.tup rs)) (.ref tp) (.tup (ms'.map trip)) := trs_nk upd_same (htrs.up (Tk.of xpt))
      generalize upd G5 tp (.tup rs) = G6 at *
      have mfit : Fits t2 e ms' (r ++ [c]) := by
        refine fits_behind hfit2 hl2 rpe (fun x c' y h1 => ?_) (fun x c' y' h1 => ?_) ((hmm _).mpr ((hm4 _).mpr (.inl rfl)))
        · obtain ⟨i, hi⟩ := List.getElem?_of_mem h1
          obtain ⟨y', h2, h3⟩ := inv1 i x c' y (List.getElem?_eq_some_iff.mp hi).1 hi
          exact ⟨y', (hmm _).mpr ((hm4 _).mpr (.inr h2)), h3.up st12.grows⟩
        · rcases (hm4 _).mp ((hmm _).mp h1) with h2 | h2
          · exact .inl h2
          · obtain ⟨y, h3, h4⟩ := inv2 x c' y' h2
            exact .inr ⟨y, h3, h4.up st12.grows⟩
      refine ⟨k, Ls2, t2, e + 1, tp, ms', rfl, hKt, htt, hcan, fun e' he => ⟨hdD, r ++ [c], hrS, by cases he; exact mfit⟩, fun n' t3 Ls3 G7 hK7 st7 rn => ?_⟩
      have rep' : Rep t3 (e + 1) n' (r ++ [c]) := ⟨ms', rn.2 e rfl, mfit.up st7.grows⟩
      have hr3 := (hr0.up st4.grows).up st7.grows
      obtain ⟨dx7, hins7⟩ := hK7.ins
      obtain ⟨e9, f1, f2, f3, f4, _⟩ := hK7.get7
      have stf := Stp.trans hKt (Stp.ex xpt) st7
      have hkey7 := hkey.up ((st4.tk hK0).trans (stf.tk hK4))
      refine ⟨_, rfl, k.x, T.a_Kinds, dx7, _, _, rfl, hins7, T.C_Kinds, T.n_Kinds_longer_behind, rfl, ?_⟩
      walk_at "rd"
      refine ⟨tk, k.A.a7, keyB n c, e9, rfl, rfl, hkey7, keyB_depth _ _, f1, f4, fun G8 eG8 => ?_⟩
      have eG8 : G8 = upd G7 k.A.a7 (NdO P w k.A.a7 (putE e9 (keyB n c) tk (.int (n' : Nat)))) := eG8
      have hK8 := hK7.put7 f1 f2 f3 hkey7 hdD hr3 hrS rep'
      have st8 := hK7.stp (a := k.A.a7) (o := NdO P w k.A.a7 (putE e9 (keyB n c) tk (.int (n' : Nat)))) (by simp [KA.all])
      have hnd8 := f1.putG (v := .int (n' : Nat)) hkey7 (keyB_depth _ _)
      have hkey8 := hkey7.up (st8.tk hK7)
      rw [← eG8] at hK8 st8 hnd8 hkey8
      obtain ⟨dx8, hins8⟩ := hK8.ins
      walk_at "rd"
      refine ⟨k.x, T.a_Kinds, dx8, _, _, rfl, hins8, T.C_Kinds, T.n_Kinds_longer_behind, rfl, ?_⟩
      walk_at "rd"
      refine ⟨tk, k.A.a7, keyB n c, _, _, rfl, rfl, hkey8, keyB_depth _ _, hnd8, kat_putE, ?_⟩
      exact q n' t3 Ls3 G8 hK8 (Stp.trans hK0 (Stp.ex x0) (Stp.trans hK4 st4 (Stp.trans hK7 stf st8))) rep'

end
end Lw
end

section
set_option Elab.async false
set_option linter.all false
set_option maxRecDepth 100000
set_option maxHeartbeats 4000000
set_option pp.maxSteps 300
set_option pp.deepTerms false
namespace Lw
open PySem L2 Evl M
open PyProof.Rows hiding St
local macro_rules | `(tactic| walk_at "at") => `(tactic| first | assumption | exact upd_same)
local macro_rules | `(tactic| walk_at "sq") => `(tactic| first | assumption | exact SqL.of (by walk_at "at") | exact SqT.of (by walk_at "at"))
local macro_rules | `(tactic| walk_at "sd") => `(tactic| first | assumption | exact Names.size (by assumption) | omega | decide | exact Nat.le_of_ble_eq_true rfl | exact Or.inl ⟨by decide, by decide⟩ | exact wide_div (b := 200) (by first | assumption | decide) (by first | assumption | decide) (by decide) (by decide) | exact pow_w 10 (by decide) (by decide) (by decide) (by decide))
local macro_rules | `(tactic| walk_at "r1") => `(tactic| first
  | refine ⟨_, rfl, ?_⟩
  | refine ⟨_, _, rfl, rfl, ?_⟩
  | refine And.intro rfl ?_
  | refine ⟨_, _, _, _, rfl, rfl, (by walk_at "sq"), rfl, ?_⟩
  | refine ⟨_, _, _, _, rfl, rfl, (by walk_at "at"), rfl, ?_⟩
  | refine ⟨_, _, rfl, Or.inl (by walk_at "sq"), ?_⟩
  | refine ⟨_, _, rfl, Or.inr (by walk_at "sq"), ?_⟩
  | refine ⟨_, _, rfl, ?_⟩
  | refine Or.inl ⟨_, rfl, ?_⟩
  | refine And.intro (by walk_at "sd") ?_)
local macro_rules | `(tactic| walk_at "rd") => `(tactic| try (walk_at "r1"; walk_at "rd"))
section
variable {P : Program} {w : World} {K : PySem.W.Frag} {mg : Str → Option Value} {base : Heap}
theorem ok_Kinds_added_ahead (T : Tx w K mg) (G_Kinds_numbered : FnOk P w K mg base CX0 1 T.a_Kinds_numbered T.d_Kinds_numbered ["self", "depth", "marks"] (sp_numbered P w T.a_Kinds))
    (G_Kinds_empty : FnOk P w K mg base CX0 2 T.a_Kinds_empty T.d_Kinds_empty ["self", "depth"] (sp_empty P w T.a_Kinds))
    (GL : ∀ f : Nat, FnOk P w K mg base CX0 (f + 2) T.a_Kinds_lesser T.d_Kinds_lesser ["self", "kind"] (sp_lesser P w T.a_Kinds f)) : ∀ f : Nat,
    FnOk P w K mg base CX0 (f + 3) T.a_Kinds_added_ahead T.d_Kinds_added_ahead ["self", "letter", "kind"] (sp_ahead P w T.a_Kinds f) := by
  intro f
  induction f with
  | zero => exact fn_void fun vs H Q E ⟨_, _, _, _, _, _, _, _, _, h, _⟩ => by omega
  | succ f ih =>
  have G_Kinds_added_ahead := ih
  have G_Kinds_lesser := GL (f + 1)
  refine T.F_Kinds_added_ahead.ok sc_Kinds_added_ahead (fun vs H Q E h => ?_) (fun cdv A outer s H vs Q E hr h => ?_)
  · obtain ⟨_, _, _, _, _, _, _, rfl, _⟩ := h
    rfl
  obtain ⟨k, Ls, t, n, d, c, r, rfl, hK, hf, hdD, hr0, hrS, q⟩ := h
  have hu := hu_of hr
  refine ⟨_, (pss_cons (ps_if (pt_cmpR op_eq (pv 2) pe_int (nomark _)) (pss_one (ps_ret pe_int)) pss_nil)
   (pss_cons (ps_set (i := 3) sc_Kinds_added_ahead.nd rfl (Or.inl rfl) (pe_tup (pa_cons (pv 1) (pa_cons (pv 2) pa_nil))))
   (pss_cons (ps_if (pt_cmpR (M.op_notInN hr.units) (pv 3) (pe_fld (pv 0) rfl) (by rfl)) (pss_cons (ps_set (i := 4) sc_Kinds_added_ahead.nd rfl (Or.inl rfl) (pe_ix ix_list (pe_fld (pv 0) rfl) (pv 2) (fun _ _ => rfl)))
   (pss_cons (ps_set (i := 5) sc_Kinds_added_ahead.nd rfl (Or.inl rfl) (pe_ix ix_list (pe_fld (pv 0) rfl) (pv 2) (fun _ _ => rfl)))
   (pss_cons (ps_set (i := 6) sc_Kinds_added_ahead.nd rfl (Or.inl rfl) (pe_callTy0 M.cr_snew (by rfl) T.b_set (by decide +kernel)))
   (pss_cons (ps_for PassesOwn.never (by rfl) (pi_tup (pv 5)) (pg_tup (by rfl) (pgs_cons (pg_name (i := 7) sc_Kinds_added_ahead.nd rfl (Or.inl rfl)) (pgs_cons (pg_name (i := 8) sc_Kinds_added_ahead.nd rfl (Or.inl rfl)) (pgs_cons (pg_name (i := 9) sc_Kinds_added_ahead.nd rfl (Or.inl rfl)) pgs_nil)))) (pss_one (ps_expr (M.pe_sadd hr.units (pv 6) (pa_cons (pe_tup (pa_cons (pe_meth (pv 0) T.C_Kinds T.m_Kinds_added_ahead G_Kinds_added_ahead (hr.mono (by omega)) T.b_Kinds_added_ahead .nil pass0 (pa_cons (pv 1) (pa_cons (pv 7) pa_nil))) (pa_cons (pv 8) (pa_cons (pv 9) pa_nil)))) pa_nil)))))
   (pss_cons (ps_expr (M.pe_sadd hr.units (pv 6) (pa_cons (pe_tup (pa_cons (pe_meth (pv 0) T.C_Kinds T.m_Kinds_empty G_Kinds_empty (hr.mono (by omega)) T.b_Kinds_empty .nil pass0 (pa_cons (pe_op op_sub (pv 4) pe_int) pa_nil)) (pa_cons (pv 1) (pa_cons (pe_meth (pv 0) T.C_Kinds T.m_Kinds_lesser G_Kinds_lesser (hr.mono (by omega)) T.b_Kinds_lesser .nil pass0 (pa_cons (pv 2) pa_nil)) pa_nil)))) pa_nil)))
   (pss_one (M.ps_nputH hr.units (pe_fld (pv 0) rfl) (pv 3) (pe_meth (pv 0) T.C_Kinds T.m_Kinds_numbered G_Kinds_numbered (hr.mono (by omega)) T.b_Kinds_numbered .nil pass0 (pa_cons (pv 4) (pa_cons (pe_callTy call_tuple_of (by rfl) T.b_tuple (by decide +kernel) (pa_cons (pe_callB (M.cr_ssort (by rfl)) (by rfl) T.b_sorted (by decide +kernel) (pa_cons (pv 6) pa_nil)) pa_nil)) pa_nil))) rfl))))))) pss_nil)
   (pss_one (ps_ret (pe_ix (M.ix_dictN hr.units) (pe_fld (pv 0) rfl) (pv 3) (fun _ _ => rfl))))))), ?_⟩
  obtain ⟨dx, hins⟩ := hK.ins
  walk_at "rd"
  refine iteI (fun e0 => ?_) (fun e0 => ?_)
  · obtain rfl : n = 0 := by omega
    refine q 0 t Ls H hK .refl ?_
    cases d with
    | zero => exact (rfl : 0 = 0)
    | succ d => exact absurd rfl (hK.tok.ne hr0)
  have n0 : n ≠ 0 := by omega
  obtain ⟨e, rfl⟩ : ∃ e, d = e + 1 := ⟨d - 1, by
    cases d with
    | zero => exact absurd hr0 n0
    | succ d => rfl⟩
  have hrS0 : r ∈ k.S := hK.sub.drp _ hrS 1
  walk_at "rd"
  intro tk ntk
  have x0 := Ex.new (o := .tup [.str ⟨#[c]⟩, .int (n : Nat)]) ntk
  have hK0 := hK.ex x0
  have hkey : NK (upd H tk (.tup [.str ⟨#[c]⟩, .int (n : Nat)])) (.ref tk) (keyA c n) := .tup upd_same (.cons (.str _) (.cons (.int _) .nil))
  generalize upd H tk (.tup [.str ⟨#[c]⟩, .int (n : Nat)]) = H0 at *
  have hins0 := x0 _ _ hins
  obtain ⟨e7, g1, g2, g3, g4, g6⟩ := hK0.get8
  walk_at "rd"
  refine ⟨k.x, T.a_Kinds, dx, _, _, rfl, hins0, T.C_Kinds, T.n_Kinds_longer_ahead, rfl, ?_⟩
  refine ⟨tk, k.A.a8, keyA c n, e7, rfl, rfl, hkey, keyA_depth _ _, g1, ?_⟩
  walk_at "rd"
  cases hkat : kat e7 (keyA c n) with
  | some v =>
    refine iteF ?_
    walk_at "rd"
    refine ⟨k.x, T.a_Kinds, dx, _, _, rfl, hins0, T.C_Kinds, T.n_Kinds_longer_ahead, rfl, ?_⟩
    walk_at "rd"
    refine ⟨tk, k.A.a8, keyA c n, e7, v, rfl, rfl, hkey, keyA_depth _ _, g1, hkat, ?_⟩
    obtain ⟨m, d', rfl, s', h1, h2⟩ := g6 _ _ _ hkat
    obtain rfl := hK.tok.deep h1 hr0
    exact q m t Ls _ hK0 (Stp.ex x0) (AW.all ⟨s', h1, h2⟩ hr0)
  | none =>
    refine iteT ?_
    obtain ⟨ms, hms, hfit⟩ := rep_fits.mp hr0
    obtain ⟨mm, m, e4, em, hnk⟩ := hK0.get4 hms
    have hcnt := hK.tok.marks canon_one (fun xs h => canon_nodup h) hms hr0
    have hlen := hK.sub.len r hrS0
    walk_at "rd"
    refine ⟨k.x, T.a_Kinds, dx, _, _, rfl, hins0, T.C_Kinds, T.n_Kinds_depths, rfl, ?_⟩
    walk_at "rd"
    refine ⟨k.A.a5, _, _, _, rfl, rfl, SqL.of hK0.k5, atI_nat (depsV_at hms), ?_⟩
    walk_at "rd"
    refine ⟨k.x, T.a_Kinds, dx, _, _, rfl, hins0, T.C_Kinds, T.n_Kinds_marks, rfl, ?_⟩
    walk_at "rd"
    refine ⟨k.A.a4, _, _, _, rfl, rfl, SqL.of e4, atI_nat em, ?_⟩
    walk_at "rd"
    intro a H1 ha x1 hT1 keep1
    have hT1 : SetT w H1 a [] := hT1
    obtain ⟨xs, hxs, htr⟩ := nk_trs hnk
    have hxl := htr.len
    have hK1 := hK0.ex x1
    have hout := hK0.new_out ha
    have hxs1 := x1 _ _ hxs
    walk_at "rd"
    obtain ⟨Pv, hPv⟩ : ∃ Pv : Nat → L2.St → Hp → Prop, ∀ j σ G, Pv j σ G ↔ ∃ (o7 o8 o9 : Option V) (Tl : List Mark) (t' : KTab) (Ls' : List Addr), σ = [some (.ref k.x), some (.str ⟨#[c]⟩), some (.int (n : Nat)), some (.ref tk), some (.int ((e + 1 : Nat) : Int)), some (.ref m), some (.ref a), o7, o8, o9] ∧
      KS P w T.a_Kinds k Ls' G t' ∧ Stp k Ls H0 t Ls' G t' ∧ a ∉ Ls' ∧ SetT w G a Tl ∧ Tl.length ≤ j ∧ (∀ i x c' y, i < j → ms[i]? = some (x, c', y) → ∃ x', (x', c', y) ∈ Tl ∧ AW t' e x x' c) ∧
      (∀ x' c' y, (x', c', y) ∈ Tl → ∃ x, (x, c', y) ∈ ms ∧ AW t' e x x' c) := ⟨_, fun _ _ _ => Iff.rfl⟩
    refine ⟨⟨_, SqT.of hxs1⟩, for_tup (xs := xs) Pv ((hPv _ _ _).mpr ⟨_, _, _, [], t, Ls, rfl, hK1, Stp.ex x1, hout.2.2, hT1, Nat.le_refl _, fun i x c y hi => by omega, fun x' c y' h => nomatch h⟩) (fun j σ G hj h => ?_) (fun j x σ G hx h => ?_) (fun σ G h => ?_)⟩
    · obtain ⟨_, _, _, _, _, _, _, hKj, st, _⟩ := (hPv _ _ _).mp h
      exact SqT.of (st.tk hK0 _ _ hxs)
    · obtain ⟨o7, o8, o9, Tl, t', Ls', rfl, hKj, st, haj, hTj, hTl, inv1, inv2⟩ := (hPv _ _ _).mp h
      have hj : j < ms.length := by rw [← hxl]; exact (List.getElem?_eq_some_iff.mp hx).1
      obtain ⟨⟨y1, c1, y2⟩, hmj⟩ : ∃ y, ms[j]? = some y := ⟨_, List.getElem?_eq_getElem hj⟩
      obtain ⟨b, hb1, hb2⟩ := htr.at hmj
      obtain rfl : x = .ref b := Option.some.inj (hx.symm.trans hb1)
      have hmem := List.mem_of_getElem? hmj
      obtain ⟨i, hic, r1, r2⟩ := hfit.2 _ _ _ hmem
      have hi := (List.getElem?_eq_some_iff.mp hic).1
      have hb3 := st.tk hK0 _ _ hb2
      obtain ⟨dx', hins'⟩ := hKj.ins
      have hS2 := hK.sub.tak _ hrS (i + 1)
      rw [List.take_succ_cons] at hS2
      walk_at "rd"
      refine ⟨_, _, rfl, SqT.of hb3, rfl, ?_⟩
      walk_at "rd"
      refine ⟨⟨a, Tl, rfl, hTj⟩, ?_⟩
      walk_at "rd"
      refine ⟨k.x, dx', _, rfl, hins', rfl, ?_⟩
      walk_at "rd"
      refine ⟨k, Ls', t', y1, e, c, r.take i, rfl, hKj, by omega, by omega, r1.up st.grows, hS2, fun n2 t2 Ls2 G2 hK2 st12 rp2 => ?_⟩
      walk_at "rd"
      intro tt ntt
      have hTt := hTj.keep (st12.tk hKj) (fun o => st12.old _ o hout.1)
      have xt := Ex.new (o := .tup [.int (n2 : Nat), .str ⟨#[c1]⟩, .int (y2 : Nat)]) ntt
      have hkt : NK (upd G2 tt (.tup [.int (n2 : Nat), .str ⟨#[c1]⟩, .int (y2 : Nat)])) (.ref tt) (trip (n2, c1, y2)) := trip_nk upd_same
      have hK3 := hK2.ex xt
      have hTu := hTt.keep (Tk.of xt) (fun o => xt _ o)
      generalize upd G2 tt (.tup [.int (n2 : Nat), .str ⟨#[c1]⟩, .int (y2 : Nat)]) = G3 at *
      refine ⟨a, tt, (n2, c1, y2), Tl, rfl, rfl, hTu, hkt, by omega, fun G4 T' hT4 hm4 hl4 keep4 tk4 => ?_⟩
      have stAll := Stp.trans hKj st st12
      have ha2 : a ∉ Ls2 := fun z => by
        rcases st12.ls a z with q1 | q1
        · exact haj q1
        · exact hTj.ne_none q1
      have bw : AW t2 e y1 n2 c := ⟨_, (r1.up st.grows).up st12.grows, rp2⟩
      refine (hPv _ _ _).mpr ⟨_, _, _, T', t2, Ls2, rfl, ?_, ⟨stAll.grows, fun b' o hb' e' => ?_, stAll.ls⟩, ha2, hT4, by omega, ?_, ?_⟩
      · refine hK3.move tk4 (fun o e => by rw [keep4 _ (Ne.symm hout.2.1)]; exact e) (fun b' hb' o e => by rw [keep4 _ fun z => hout.1 (by rw [← z]; exact hb')]; exact e) (fun l hl o e => by rw [keep4 _ fun z => ha2 (by rw [← z]; exact hl)]; exact e)
      · rw [keep4 _ fun z => by rw [z, ha] at e'; exact nomatch e']
        exact xt _ _ (stAll.old _ _ hb' e')
      · intro i' x c' y hi' hm'
        by_cases hij : i' < j
        · obtain ⟨y', h1, h2⟩ := inv1 i' x c' y hij hm'
          exact ⟨y', (hm4 _).mpr (.inr h1), h2.up st12.grows⟩
        · obtain rfl : i' = j := by omega
          rw [hmj] at hm'
          cases hm'
          exact ⟨n2, (hm4 _).mpr (.inl rfl), bw⟩
      · intro x' c' y' hm'
        rcases (hm4 _).mp hm' with hm' | hm'
        · cases hm'
          exact ⟨y1, hmem, bw⟩
        · obtain ⟨y, h1, h2⟩ := inv2 x' c' y' hm'
          exact ⟨y, h1, h2.up st12.grows⟩
    · obtain ⟨o7, o8, o9, Tl, t', Ls', rfl, hKj, st, haj, hTj, hTl, inv1, inv2⟩ := (hPv _ _ _).mp h
      rw [hxl] at inv1 hTl
      obtain ⟨dx', hins'⟩ := hKj.ins
      walk_at "rd"
      refine ⟨⟨a, Tl, rfl, hTj⟩, ?_⟩
      walk_at "rd"
      refine ⟨k.x, dx', _, rfl, hins', rfl, ?_⟩
      walk_at "rd"
      refine ⟨k, Ls', t', e, (by show [V.ref k.x, V.int (((e + 1 : Nat) : Int) - 1)] = _; rw [show (((e + 1 : Nat) : Int) - 1) = ((e : Nat) : Int) by omega]), hKj, by omega, fun em2 t1 Ls1 G1 hK1' st1 rpe1 => ?_⟩
      obtain ⟨dx1, hins1⟩ := hK1'.ins
      walk_at "rd"
      refine ⟨k.x, dx1, _, rfl, hins1, rfl, ?_⟩
      walk_at "rd"
      refine ⟨k, Ls1, t1, n, e + 1, r, rfl, hK1', by omega, (hr0.up st.grows).up st1.grows, hrS0, fun l t2 Ls2 G2 hK2 st2 rpl => ?_⟩
      have rpe : Rep t2 e em2 [] := rpe1.up st2.grows
      walk_at "rd"
      intro tt ntt
      have st12 := Stp.trans hK1' st1 st2
      have hTt := hTj.keep (st12.tk hKj) (fun o => st12.old _ o hout.1)
      have xt := Ex.new (o := .tup [.int (em2 : Nat), .str ⟨#[c]⟩, .int (l : Nat)]) ntt
      have hkt : NK (upd G2 tt (.tup [.int (em2 : Nat), .str ⟨#[c]⟩, .int (l : Nat)])) (.ref tt) (trip (em2, c, l)) := trip_nk upd_same
      have hK3 := hK2.ex xt
      have hTu := hTt.keep (Tk.of xt) (fun o => xt _ o)
      generalize upd G2 tt (.tup [.int (em2 : Nat), .str ⟨#[c]⟩, .int (l : Nat)]) = G3 at *
      refine ⟨a, tt, (em2, c, l), Tl, rfl, rfl, hTu, hkt, by omega, fun G4 T4 hT4 hm4 hl4 keep4 tk4 => ?_⟩
      have stAll := Stp.trans hKj st st12
      have ha2 : a ∉ Ls2 := fun z => by
        rcases st12.ls a z with q1 | q1
        · exact haj q1
        · exact hTj.ne_none q1
      have hK4 : KS P w T.a_Kinds k Ls2 G4 t2 := hK3.move tk4 (fun o e => by rw [keep4 _ (Ne.symm hout.2.1)]; exact e) (fun b' hb' o e => by rw [keep4 _ fun z => hout.1 (by rw [← z]; exact hb')]; exact e) (fun l hl o e => by rw [keep4 _ fun z => ha2 (by rw [← z]; exact hl)]; exact e)
      have st4 : Stp k Ls H0 t Ls2 G4 t2 := ⟨stAll.grows, fun b' o hb' e' => by
        rw [keep4 _ fun z => by rw [z, ha] at e'; exact nomatch e']
        exact xt _ _ (stAll.old _ _ hb' e'), stAll.ls⟩
      have hl2 : Rep t2 e l r := rpl
      have hsz := hK4.size
      have hfit2 := hfit.up st4.grows
      have hcS : c < 2 ^ 32 := hK.sub.low _ hrS c (by simp)
      have lowT : ∀ m ∈ T4, Low m := fun ⟨x', c', y'⟩ hm => by
        rcases (hm4 _).mp hm with hm | hm
        · cases hm
          have l1 := hK4.tok.lt hl2
          have l2 := hK4.tok.lt rpe
          exact ⟨by show em2 < _; omega, hcS, by show l < _; omega⟩
        · obtain ⟨y, h1, s2, _, h3⟩ := inv2 x' c' y' hm
          obtain ⟨i, hic, _, h4⟩ := hfit2.2 _ _ _ h1
          have l1 := hK4.tok.lt h4
          have l2 := hKj.tok.lt h3
          have l3 := hKj.size
          exact ⟨by show x' < _; omega, hK.sub.low r hrS0 c' (List.mem_of_getElem? hic), by show y' < _; omega⟩
      obtain ⟨dx4, hins4⟩ := hK4.ins
      walk_at "rd"
      refine ⟨k.x, dx4, _, rfl, hins4, rfl, ?_⟩
      walk_at "rd"
      refine ⟨a, T4, rfl, hT4, lowT, fun p rs ms' G5 hp xp ep keepp hcan hmm htrs => ?_⟩
      refine ⟨p, rs, rfl, .inl ⟨SqL.of ep, fun tp htp => ?_⟩⟩
      have xtp := Ex.new (o := .tup rs) htp
      have xpt := xp.trans xtp
      have hKt := hK4.ex xpt
      have htt : NK (upd G5 tp (.tup rs)) (.ref tp) (.tup (ms'.map trip)) := trs_nk upd_same (htrs.up (Tk.of xpt))
      generalize upd G5 tp (.tup rs) = G6 at *
      have mfit : Fits t2 e ms' (c :: r) := by
        refine fits_ahead hfit2 hl2 rpe (fun x c' y h1 => ?_) (fun x c' y' h1 => ?_) ((hmm _).mpr ((hm4 _).mpr (.inl rfl)))
        · obtain ⟨i, hi⟩ := List.getElem?_of_mem h1
          obtain ⟨y', h2, h3⟩ := inv1 i x c' y (List.getElem?_eq_some_iff.mp hi).1 hi
          exact ⟨y', (hmm _).mpr ((hm4 _).mpr (.inr h2)), h3.up st12.grows⟩
        · rcases (hm4 _).mp ((hmm _).mp h1) with h2 | h2
          · exact .inl h2
          · obtain ⟨y, h3, h4⟩ := inv2 x c' y' h2
            exact .inr ⟨y, h3, h4.up st12.grows⟩
      refine ⟨k, Ls2, t2, e + 1, tp, ms', rfl, hKt, htt, hcan, fun e' he => ⟨hdD, c :: r, hrS, by cases he; exact mfit⟩, fun n' t3 Ls3 G7 hK7 st7 rn => ?_⟩
      have rep' : Rep t3 (e + 1) n' (c :: r) := ⟨ms', rn.2 e rfl, mfit.up st7.grows⟩
      have hr3 := (hr0.up st4.grows).up st7.grows
      obtain ⟨dx7, hins7⟩ := hK7.ins
      obtain ⟨e9, f1, f2, f3, f4, _⟩ := hK7.get8
      have stf := Stp.trans hKt (Stp.ex xpt) st7
      have hkey7 := hkey.up ((st4.tk hK0).trans (stf.tk hK4))
      refine ⟨_, rfl, k.x, T.a_Kinds, dx7, _, _, rfl, hins7, T.C_Kinds, T.n_Kinds_longer_ahead, rfl, ?_⟩
      walk_at "rd"
      refine ⟨tk, k.A.a8, keyA c n, e9, rfl, rfl, hkey7, keyA_depth _ _, f1, f4, fun G8 eG8 => ?_⟩
      have eG8 : G8 = upd G7 k.A.a8 (NdO P w k.A.a8 (putE e9 (keyA c n) tk (.int (n' : Nat)))) := eG8
      have hK8 := hK7.put8 f1 f2 f3 hkey7 hdD hr3 hrS rep'
      have st8 := hK7.stp (a := k.A.a8) (o := NdO P w k.A.a8 (putE e9 (keyA c n) tk (.int (n' : Nat)))) (by simp [KA.all])
      have hnd8 := f1.putG (v := .int (n' : Nat)) hkey7 (keyA_depth _ _)
      have hkey8 := hkey7.up (st8.tk hK7)
      rw [← eG8] at hK8 st8 hnd8 hkey8
      obtain ⟨dx8, hins8⟩ := hK8.ins
      walk_at "rd"
      refine ⟨k.x, T.a_Kinds, dx8, _, _, rfl, hins8, T.C_Kinds, T.n_Kinds_longer_ahead, rfl, ?_⟩
      walk_at "rd"
      refine ⟨tk, k.A.a8, keyA c n, _, _, rfl, rfl, hkey8, keyA_depth _ _, hnd8, kat_putE, ?_⟩
      exact q n' t3 Ls3 G8 hK8 (Stp.trans hK0 (Stp.ex x0) (Stp.trans hK4 st4 (Stp.trans hK7 stf st8))) rep'

end
end Lw
end

section
set_option Elab.async false
set_option linter.all false
set_option maxRecDepth 100000
set_option maxHeartbeats 4000000
set_option pp.maxSteps 300
set_option pp.deepTerms false
namespace Lw
open PySem L2 Evl M
open PyProof.Rows hiding St
local macro_rules | `(tactic| walk_at "at") => `(tactic| first | assumption | exact upd_same)
local macro_rules | `(tactic| walk_at "sq") => `(tactic| first | assumption | exact SqL.of (by walk_at "at") | exact SqT.of (by walk_at "at"))
local macro_rules | `(tactic| walk_at "sd") => `(tactic| first | assumption | exact Names.size (by assumption) | omega | decide | exact Nat.le_of_ble_eq_true rfl | exact Or.inl ⟨by decide, by decide⟩ | exact wide_div (b := 200) (by first | assumption | decide) (by first | assumption | decide) (by decide) (by decide) | exact pow_w 10 (by decide) (by decide) (by decide) (by decide))
local macro_rules | `(tactic| walk_at "r1") => `(tactic| first
  | refine ⟨_, rfl, ?_⟩
  | refine ⟨_, _, rfl, rfl, ?_⟩
  | refine And.intro rfl ?_
  | refine ⟨_, _, _, _, rfl, rfl, (by walk_at "sq"), rfl, ?_⟩
  | refine ⟨_, _, _, _, rfl, rfl, (by walk_at "at"), rfl, ?_⟩
  | refine ⟨_, _, rfl, Or.inl (by walk_at "sq"), ?_⟩
  | refine ⟨_, _, rfl, Or.inr (by walk_at "sq"), ?_⟩
  | refine ⟨_, _, rfl, ?_⟩
  | refine Or.inl ⟨_, rfl, ?_⟩
  | refine And.intro (by walk_at "sd") ?_)
local macro_rules | `(tactic| walk_at "rd") => `(tactic| try (walk_at "r1"; walk_at "rd"))
section
variable {P : Program} {w : World} {K : PySem.W.Frag} {mg : Str → Option Value} {base : Heap}
theorem ok_Kinds_marks_of_places (T : Tx w K mg) (G_Kinds_empty : FnOk P w K mg base CX0 2 T.a_Kinds_empty T.d_Kinds_empty ["self", "depth"] (sp_empty P w T.a_Kinds))
    (GB : ∀ f : Nat, FnOk P w K mg base CX0 (f + 3) T.a_Kinds_added_behind T.d_Kinds_added_behind ["self", "kind", "letter"] (sp_behind P w T.a_Kinds f))
    (GA : ∀ f : Nat, FnOk P w K mg base CX0 (f + 3) T.a_Kinds_added_ahead T.d_Kinds_added_ahead ["self", "letter", "kind"] (sp_ahead P w T.a_Kinds f)) :
    FnOk P w K mg base CX0 13 T.a_Kinds_marks_of_places T.d_Kinds_marks_of_places ["self", "row", "depth"] (sp_marks P w T.a_Kinds) := by
  have G_Kinds_added_behind := GB 9
  have G_Kinds_added_ahead := GA 9
  refine T.F_Kinds_marks_of_places.ok sc_Kinds_marks_of_places (fun vs H Q E h => ?_) (fun cdv A outer s H vs Q E hr h => ?_)
  · obtain ⟨_, _, _, _, _, rfl, _⟩ := h
    rfl
  obtain ⟨k, Ls, t, d, z, rfl, hK, hdD, hd8, hzS, q⟩ := h
  refine ⟨_, (pss_cons (ps_if (pt_cmpR op_eq (pv 2) pe_int (nomark _)) (pss_one (ps_ret (pe_lc (own := [("letter", 5)]) (g := gName 5) (tt := tYes) (by rfl) sc_Kinds_marks_of_places.nd (pi_str (pv 1)) (blkOk_by (own := [("letter", 5)]) (N := ["self", "row", "depth", "behind", "kinds_behind", "letter", "ahead", "marks"]) (sc := defScope s_Kinds_marks_of_places) (by decide +kernel)) (fun _ _ _ _ _ => (pg_name (i := 5) sc_Kinds_marks_of_places.nd rfl (Or.inl rfl))) (fun _ _ _ _ _ => pts_nil) (fun _ _ _ _ _ => (pe_tup (pa_cons pe_int (pa_cons (pv 5) (pa_cons pe_int pa_nil)))))))) pss_nil)
   (pss_cons (ps_set (i := 3) sc_Kinds_marks_of_places.nd rfl (Or.inl rfl) (pe_meth (pv 0) T.C_Kinds T.m_Kinds_empty G_Kinds_empty (hr.mono (by omega)) T.b_Kinds_empty .nil pass0 (pa_cons (pv 2) pa_nil)))
   (pss_cons (ps_set (i := 4) sc_Kinds_marks_of_places.nd rfl (Or.inl rfl) (pe_lst pa_nil))
   (pss_cons (ps_for PassesOwn.never (by rfl) (pi_str (M.pe_revS (pv 1))) (pg_name (i := 5) sc_Kinds_marks_of_places.nd rfl (Or.inl rfl)) (pss_cons (ps_expr (pe_bm PySem.F.plainAttrs_list PySem.F.slot_list_append PySem.F.type_list_append mt_append (pv 4) (pa_cons (pv 3) pa_nil)))
   (pss_one (ps_set (i := 3) sc_Kinds_marks_of_places.nd rfl (Or.inl rfl) (pe_meth (pv 0) T.C_Kinds T.m_Kinds_added_ahead G_Kinds_added_ahead (hr.mono (by omega)) T.b_Kinds_added_ahead .nil pass0 (pa_cons (pv 5) (pa_cons (pv 3) pa_nil)))))))
   (pss_cons (ps_set (i := 6) sc_Kinds_marks_of_places.nd rfl (Or.inl rfl) (pe_meth (pv 0) T.C_Kinds T.m_Kinds_empty G_Kinds_empty (hr.mono (by omega)) T.b_Kinds_empty .nil pass0 (pa_cons (pv 2) pa_nil)))
   (pss_cons (ps_set (i := 7) sc_Kinds_marks_of_places.nd rfl (Or.inl rfl) (pe_lst pa_nil))
   (pss_cons (ps_for PassesOwn.never (by rfl) (pi_str (pv 1)) (pg_name (i := 5) sc_Kinds_marks_of_places.nd rfl (Or.inl rfl)) (pss_cons (ps_expr (pe_bm PySem.F.plainAttrs_list PySem.F.slot_list_append PySem.F.type_list_append mt_append (pv 7) (pa_cons (pe_tup (pa_cons (pv 6) (pa_cons (pv 5) (pa_cons (pe_bm0 PySem.F.plainAttrs_list PySem.F.slot_list_pop PySem.F.type_list_pop mt_pop (pv 4)) pa_nil)))) pa_nil)))
   (pss_one (ps_set (i := 6) sc_Kinds_marks_of_places.nd rfl (Or.inl rfl) (pe_meth (pv 0) T.C_Kinds T.m_Kinds_added_behind G_Kinds_added_behind (hr.mono (by omega)) T.b_Kinds_added_behind .nil pass0 (pa_cons (pv 6) (pa_cons (pv 5) pa_nil)))))))
   (pss_one (ps_ret (pv 7)))))))))), ?_⟩
  have hlen := hK.sub.len _ hzS
  have hzl := codes_len z
  walk_at "rd"
  refine iteI (fun e0 => ?_) (fun e0 => ?_)
  · obtain rfl : d = 0 := by omega
    walk_at "rd"
    intro D nD
    have hout := hK.new_out nD
    obtain ⟨Pv, hPv⟩ : ∃ Pv : Nat → Hp → Prop, ∀ j J, Pv j J ↔ ∃ rs, Ex H J ∧ J D = some (.lst rs) ∧ Trs J rs (((codes z).take j).map fun c => (0, c, 0)) := ⟨_, fun _ _ => Iff.rfl⟩
    refine lc_it (walk_str (z := z)) Pv ((hPv _ _).mpr ⟨[], Ex.new nD, upd_same, .nil⟩) (fun _ _ _ _ => trivial) (fun j x J J' hj h hy => ?_) (fun J h => ?_)
    · obtain ⟨rfl, c, hc, rfl⟩ := hy
      obtain ⟨rs, xj, ej, tj⟩ := (hPv _ _).mp h
      have hcc := codes_at hc
      have htl := tj.len
      walk_at "rd"
      intro tt ntt
      have xt := Ex.new (o := .tup [.int 0, .str ⟨#[c]⟩, .int 0]) ntt
      have hkt : NK (upd J' tt (.tup [.int 0, .str ⟨#[c]⟩, .int 0])) (.ref tt) (trip (0, c, 0)) := trip_nk upd_same
      have eD := xt _ _ ej
      have tt2 := tj.up (Tk.of xt)
      have xj2 := xj.trans xt
      generalize upd J' tt (.tup [.int 0, .str ⟨#[c]⟩, .int 0]) = J2 at *
      have tkD : Tk J2 (upd J2 D (.lst (rs ++ [.ref tt]))) := fun b ys e => by rw [upd_ne fun z => by rw [z, eD] at e; exact nomatch e]; exact e
      refine ⟨rs, eD, ?_, (hPv _ _).mpr ⟨_, xj2.mut nD, upd_same, ?_⟩⟩
      · rw [htl, sizeLine_eq]
        simp only [List.length_map, List.length_take]
        omega
      · have := (tt2.snoc hkt).up tkD
        have e : ((codes z).take (j + 1)).map (fun c => (0, c, 0)) = ((codes z).take j).map (fun c => (0, c, 0)) ++ [((0, c, 0) : Mark)] := by
          rw [List.take_succ, hcc]
          simp
        rw [e]
        exact this
    · obtain ⟨rs, xj, ej, tj⟩ := (hPv _ _).mp h
      rw [size_codes, List.take_length] at tj
      walk_at "rd"
      refine q D rs _ t Ls J (hK.ex xj) (Stp.ex xj) nD hout.1 hout.2.2 ej tj ⟨by simp, fun i a c b e => ?_⟩
      rw [List.getElem?_map] at e
      obtain ⟨c', h1, h2⟩ := Option.map_eq_some_iff.mp e
      cases h2
      exact ⟨h1, rfl, rfl⟩
  obtain ⟨dx, hins⟩ := hK.ins
  walk_at "rd"
  refine ⟨k.x, dx, _, rfl, hins, rfl, ?_⟩
  walk_at "rd"
  refine ⟨k, Ls, t, d, rfl, hK, hdD, fun n0 t1 Ls1 H1 hK1 st1 rp0 => ?_⟩
  walk_at "rd"
  intro kb nkb
  have nkbH : H kb = none := st1.back hK1 nkb
  have okb := hK1.new_out nkb
  have xkb := Ex.new (o := .lst []) nkb
  have hK2 := hK1.ex xkb
  have ekb : upd H1 kb (.lst []) kb = some (.lst []) := upd_same
  have st2 := st1.exx xkb
  generalize upd H1 kb (.lst []) = H2 at *
  walk_at "rd"
  refine ⟨by rw [← hzl, sizeLine_eq]; omega, ?_⟩
  obtain ⟨Pv, hPv⟩ : ∃ Pv : Nat → L2.St → Hp → Prop, ∀ j σ G, Pv j σ G ↔ ∃ (nb : Nat) (o5 o6 o7 : Option V) (kbs : List Nat) (t' : KTab) (Ls' : List Addr), σ = [some (.ref k.x), some (.str z), some (.int (d : Nat)), some (.int (nb : Nat)), some (.ref kb), o5, o6, o7] ∧
    KS P w T.a_Kinds k Ls' G t' ∧ Stp k Ls H t Ls' G t' ∧ kb ∉ Ls' ∧ G kb = some (.lst (natV kbs)) ∧ kbs.length = j ∧ Rep t' d nb ((codes z).drop ((codes z).length - j)) ∧
    (∀ i m, kbs[i]? = some m → Rep t' d m ((codes z).drop ((codes z).length - i))) := ⟨_, fun _ _ _ => Iff.rfl⟩
  refine ⟨_, rfl, ?_⟩
  refine for_str Pv ((hPv _ _ _).mpr ⟨n0, _, _, _, [], t1, Ls1, rfl, hK2, st2, okb.2.2, ekb, rfl, by simpa using rp0, fun i m h => by simp at h⟩) (fun j c σ G hc h => ?_) (fun σ G h => ?_)
  · obtain ⟨nb, o5, o6, o7, kbs, t', Ls', rfl, hKj, st, hkl, ek, hkn, hnb, hkk⟩ := (hPv _ _ _).mp h
    have hcc := codes_at hc
    rw [codes_rev] at hcc
    have hj : j < (codes z).length := by simpa using (List.getElem?_eq_some_iff.mp hcc).1
    rw [List.getElem?_reverse hj] at hcc
    have hS : (codes z).drop ((codes z).length - (j + 1)) ∈ k.S := hK.sub.drp _ hzS _
    have hcons : (codes z).drop ((codes z).length - (j + 1)) = c :: (codes z).drop ((codes z).length - j) := by
      have hi : (codes z).length - (j + 1) < (codes z).length := by omega
      rw [List.drop_eq_getElem_cons hi, show (codes z).length - (j + 1) + 1 = (codes z).length - j by omega]
      congr 1
      rw [List.getElem?_eq_getElem (by omega)] at hcc
      have := Option.some.inj hcc
      rw [← this]
      congr 1
      omega
    walk_at "rd"
    refine ⟨.inl ⟨rfl, _, SqL.of ek⟩, _, rfl, kb, _, _, rfl, rfl, ek, by rw [natV_len, hkn, sizeLine_eq]; omega, ?_⟩
    have hKm := hKj.mut (o := .lst (natV kbs ++ [.int (nb : Nat)])) okb.1 okb.2.1 hkl (fun ys e => by rw [ek] at e; exact nomatch e)
    have stm := st.mut (o := .lst (natV kbs ++ [.int (nb : Nat)])) nkbH
    have em : upd G kb (.lst (natV kbs ++ [.int (nb : Nat)])) kb = some (.lst (natV kbs ++ [.int (nb : Nat)])) := upd_same
    generalize upd G kb (.lst (natV kbs ++ [.int (nb : Nat)])) = G1 at *
    obtain ⟨dx1, hins1⟩ := hKm.ins
    walk_at "rd"
    refine ⟨k.x, dx1, _, rfl, hins1, rfl, ?_⟩
    walk_at "rd"
    rw [hcons] at hS
    refine ⟨k, Ls', t', nb, d, c, _, rfl, hKm, by omega, hdD, hnb, hS, fun n2 t2 Ls2 G2 hK2' st12 rp2 => ?_⟩
    rw [← hcons] at rp2
    refine (hPv _ _ _).mpr ⟨n2, _, _, _, kbs ++ [nb], t2, Ls2, rfl, hK2', Stp.trans hKm stm st12, st12.fresh hkl (by rw [em]; exact fun z => nomatch z), ?_, by simp [hkn], rp2, fun i m h9 => ?_⟩
    · have := st12.old kb _ okb.1 em
      rw [this]
      simp [natV]
    · by_cases hi : i < kbs.length
      · rw [List.getElem?_append_left hi] at h9
        exact (hkk i m h9).up st12.grows
      · rw [List.getElem?_append_right (by omega)] at h9
        have hi2 : i - kbs.length < 1 := by simpa using (List.getElem?_eq_some_iff.mp h9).1
        obtain rfl : i = j := by omega
        rw [hkn, Nat.sub_self] at h9
        obtain rfl : nb = m := Option.some.inj h9
        exact hnb.up st12.grows
  · obtain ⟨nb, o5, o6, o7, kbs, t', Ls', rfl, hKj, st, hkl, ek, hkn, hnb, hkk⟩ := (hPv _ _ _).mp h
    have hkn2 : kbs.length = (codes z).length := by rw [hkn, size_codes, codes_rev, List.length_reverse]
    obtain ⟨dx1, hins1⟩ := hKj.ins
    walk_at "rd"
    refine ⟨k.x, dx1, _, rfl, hins1, rfl, ?_⟩
    walk_at "rd"
    refine ⟨k, Ls', t', d, rfl, hKj, hdD, fun na t2 Ls2 G2 hK2' st2' rpa => ?_⟩
    have st3 := Stp.trans hKj st st2'
    have hkl2 := st2'.fresh hkl (by rw [ek]; exact fun z => nomatch z)
    have ek2 := st2'.old kb _ okb.1 ek
    walk_at "rd"
    intro mk nmk
    have nmkH : H mk = none := st3.back hK2' nmk
    have omk := hK2'.new_out nmk
    have nkm : kb ≠ mk := ne_of_none ek2 nmk
    have xmk := Ex.new (o := .lst []) nmk
    have hK3 := hK2'.ex xmk
    have emk : upd G2 mk (.lst []) mk = some (.lst []) := upd_same
    have ek3 := xmk _ _ ek2
    have st4 := st3.exx xmk
    generalize upd G2 mk (.lst []) = G3 at *
    walk_at "rd"
    obtain ⟨Pw, hPw⟩ : ∃ Pw : Nat → L2.St → Hp → Prop, ∀ j σ G, Pw j σ G ↔ ∃ (na : Nat) (o5 : Option V) (rs : List V) (ms : List Mark) (t' : KTab) (Ls' : List Addr), σ = [some (.ref k.x), some (.str z), some (.int (d : Nat)), some (.int (nb : Nat)), some (.ref kb), o5, some (.int (na : Nat)), some (.ref mk)] ∧
      KS P w T.a_Kinds k Ls' G t' ∧ Stp k Ls H t Ls' G t' ∧ Grows t2 t' ∧ kb ∉ Ls' ∧ mk ∉ Ls' ∧ G kb = some (.lst (natV (kbs.take ((codes z).length - j)))) ∧ G mk = some (.lst rs) ∧ Trs G rs ms ∧ ms.length = j ∧ j ≤ (codes z).length ∧ Rep t' d na ((codes z).take j) ∧
      (∀ i a c b, ms[i]? = some (a, c, b) → (codes z)[i]? = some c ∧ Rep t' d a ((codes z).take i) ∧ Rep t' d b ((codes z).drop (i + 1))) := ⟨_, fun _ _ _ => Iff.rfl⟩
    refine for_str Pw ((hPw _ _ _).mpr ⟨na, _, [], [], t2, Ls2, rfl, hK3, st4, .refl _, hkl2, omk.2.2, (by rw [Nat.sub_zero, ← hkn2, List.take_length]; exact ek3), emk, .nil, rfl, Nat.zero_le _, rpa, fun i a c b h => by simp at h⟩) (fun j c σ G hc h => ?_) (fun σ G h => ?_)
    · obtain ⟨na, o5, rs, ms, t', Ls', rfl, hKj2, st, gr, hkl, hml, ek, emk, htr, hmn, hjn, hna, hmm⟩ := (hPw _ _ _).mp h
      have hcc := codes_at hc
      have hj : j < (codes z).length := (List.getElem?_eq_some_iff.mp hcc).1
      have hidx : (codes z).length - j - 1 < kbs.length := by rw [hkn2]; omega
      obtain ⟨bk, hbk⟩ : ∃ bk, kbs[(codes z).length - j - 1]? = some bk := ⟨_, List.getElem?_eq_getElem hidx⟩
      have hlast : (kbs.take ((codes z).length - j))[(codes z).length - j - 1]? = some bk := by
        rw [List.getElem?_take_of_lt (by omega)]; exact hbk
      have hkl0 : ((natV (kbs.take ((codes z).length - j))).length) = (codes z).length - j := by rw [natV_len, List.length_take]; omega
      have hb := hkk _ _ hbk
      rw [show (codes z).length - ((codes z).length - j - 1) = j + 1 by omega] at hb
      have hpop := natV_at hlast
      walk_at "rd"
      refine ⟨.inl ⟨rfl, _, SqL.of emk⟩, ?_⟩
      walk_at "rd"
      refine ⟨.inl ⟨rfl, _, SqL.of ek⟩, kb, _, _, rfl, rfl, ek, by rw [hkl0]; exact hpop, ?_⟩
      have edrop : (natV (kbs.take ((codes z).length - j))).dropLast = natV (kbs.take ((codes z).length - (j + 1))) := by
        unfold natV
        rw [← List.map_dropLast, List.dropLast_eq_take, List.length_take, List.take_take, hkn2, show min (min ((codes z).length - j) (codes z).length - 1) ((codes z).length - j) = (codes z).length - (j + 1) by omega]
      rw [edrop]
      have tkk : Tk G (upd G kb (.lst (natV (kbs.take ((codes z).length - (j + 1)))))) := fun b ys e => by rw [upd_ne fun z => by rw [z, ek] at e; exact nomatch e]; exact e
      have hKm := hKj2.mut (o := .lst (natV (kbs.take ((codes z).length - (j + 1))))) okb.1 okb.2.1 hkl (fun ys e => by rw [ek] at e; exact nomatch e)
      have stm := st.mut (o := .lst (natV (kbs.take ((codes z).length - (j + 1))))) nkbH
      have ekm : upd G kb (.lst (natV (kbs.take ((codes z).length - (j + 1))))) kb = some (.lst (natV (kbs.take ((codes z).length - (j + 1))))) := upd_same
      have emm : upd G kb (.lst (natV (kbs.take ((codes z).length - (j + 1))))) mk = some (.lst rs) := by rw [upd_ne (Ne.symm nkm)]; exact emk
      have htm := htr.up tkk
      generalize upd G kb (.lst (natV (kbs.take ((codes z).length - (j + 1))))) = G4 at *
      walk_at "rd"
      intro tt ntt
      have xt := Ex.new (o := .tup [.int (na : Nat), .str ⟨#[c]⟩, .int (bk : Nat)]) ntt
      have hkt : NK (upd G4 tt (.tup [.int (na : Nat), .str ⟨#[c]⟩, .int (bk : Nat)])) (.ref tt) (trip (na, c, bk)) := trip_nk upd_same
      have hK5 := hKm.ex xt
      have st5 := stm.exx xt
      have ek5 := xt _ _ ekm
      have em5 := xt _ _ emm
      have ht5 := htm.up (Tk.of xt)
      generalize upd G4 tt (.tup [.int (na : Nat), .str ⟨#[c]⟩, .int (bk : Nat)]) = G5 at *
      have hrl := ht5.len
      refine ⟨mk, _, _, rfl, rfl, em5, by rw [hrl, hmn, sizeLine_eq]; omega, ?_⟩
      have tk6 : Tk G5 (upd G5 mk (.lst (rs ++ [.ref tt]))) := fun b ys e => by rw [upd_ne fun z => by rw [z, em5] at e; exact nomatch e]; exact e
      have hK6 := hK5.mut (o := .lst (rs ++ [.ref tt])) omk.1 omk.2.1 hml (fun ys e => by rw [em5] at e; exact nomatch e)
      have st6 := st5.mut (o := .lst (rs ++ [.ref tt])) nmkH
      have em6 : upd G5 mk (.lst (rs ++ [.ref tt])) mk = some (.lst (rs ++ [.ref tt])) := upd_same
      have ek6 : upd G5 mk (.lst (rs ++ [.ref tt])) kb = some (.lst (natV (kbs.take ((codes z).length - (j + 1))))) := by rw [upd_ne nkm]; exact ek5
      have ht6 := (ht5.snoc hkt).up tk6
      generalize upd G5 mk (.lst (rs ++ [.ref tt])) = G6 at *
      obtain ⟨dx6, hins6⟩ := hK6.ins
      walk_at "rd"
      refine ⟨k.x, dx6, _, rfl, hins6, rfl, ?_⟩
      walk_at "rd"
      have htake : (codes z).take (j + 1) = (codes z).take j ++ [c] := by rw [List.take_succ, hcc]; rfl
      have hS := hK.sub.tak _ hzS (j + 1)
      rw [htake] at hS
      refine ⟨k, Ls', t', na, d, c, _, rfl, hK6, by omega, hdD, hna, hS, fun n7 t7 Ls7 G7 hK7 st67 rp7 => ?_⟩
      rw [← htake] at rp7
      refine (hPw _ _ _).mpr ⟨n7, _, _, ms ++ [(na, c, bk)], t7, Ls7, rfl, hK7, Stp.trans hK6 st6 st67, gr.trans st67.grows, st67.fresh hkl (by rw [ek6]; exact fun z => nomatch z), st67.fresh hml (by rw [em6]; exact fun z => nomatch z), st67.old kb _ okb.1 ek6, st67.old mk _ omk.1 em6, ht6.up (st67.tk hK6), by simp [hmn], hj, rp7, fun i a c' b h9 => ?_⟩
      by_cases hi : i < ms.length
      · rw [List.getElem?_append_left hi] at h9
        obtain ⟨h1, h2, h3⟩ := hmm i a c' b h9
        exact ⟨h1, h2.up st67.grows, h3.up st67.grows⟩
      · rw [List.getElem?_append_right (by omega)] at h9
        have hi2 : i - ms.length < 1 := by simpa using (List.getElem?_eq_some_iff.mp h9).1
        obtain rfl : i = j := by omega
        rw [hmn, Nat.sub_self] at h9
        cases h9
        exact ⟨hcc, hna.up st67.grows, ((hb.up st2'.grows).up gr).up st67.grows⟩
    · obtain ⟨na, o5, rs, ms, t', Ls', rfl, hKj2, st, gr, hkl, hml, ek, emk, htr, hmn, hjn, hna, hmm⟩ := (hPw _ _ _).mp h
      walk_at "rd"
      exact q mk rs ms t' Ls' G hKj2 st nmkH omk.1 hml emk htr ⟨by rw [hmn, size_codes], hmm⟩

end
end Lw
end

section
set_option Elab.async false
set_option linter.all false
set_option maxRecDepth 100000
set_option maxHeartbeats 4000000
set_option pp.maxSteps 300
set_option pp.deepTerms false
namespace Lw
open PySem L2 Evl M
open PyProof.Rows hiding St
local macro_rules | `(tactic| walk_at "at") => `(tactic| first | assumption | exact upd_same)
local macro_rules | `(tactic| walk_at "sq") => `(tactic| first | assumption | exact SqL.of (by walk_at "at") | exact SqT.of (by walk_at "at"))
local macro_rules | `(tactic| walk_at "sd") => `(tactic| first | assumption | exact Names.size (by assumption) | omega | decide | exact Nat.le_of_ble_eq_true rfl | exact Or.inl ⟨by decide, by decide⟩ | exact wide_div (b := 200) (by first | assumption | decide) (by first | assumption | decide) (by decide) (by decide) | exact pow_w 10 (by decide) (by decide) (by decide) (by decide))
local macro_rules | `(tactic| walk_at "r1") => `(tactic| first
  | refine ⟨_, rfl, ?_⟩
  | refine ⟨_, _, rfl, rfl, ?_⟩
  | refine And.intro rfl ?_
  | refine ⟨_, _, _, _, rfl, rfl, (by walk_at "sq"), rfl, ?_⟩
  | refine ⟨_, _, _, _, rfl, rfl, (by walk_at "at"), rfl, ?_⟩
  | refine ⟨_, _, rfl, Or.inl (by walk_at "sq"), ?_⟩
  | refine ⟨_, _, rfl, Or.inr (by walk_at "sq"), ?_⟩
  | refine ⟨_, _, rfl, ?_⟩
  | refine Or.inl ⟨_, rfl, ?_⟩
  | refine And.intro (by walk_at "sd") ?_)
local macro_rules | `(tactic| walk_at "rd") => `(tactic| try (walk_at "r1"; walk_at "rd"))
section
variable {P : Program} {w : World} {K : PySem.W.Frag} {mg : Str → Option Value} {base : Heap}
theorem ok_Kinds_places (T : Tx w K mg) (G_Kinds_marks_of_places : FnOk P w K mg base CX0 13 T.a_Kinds_marks_of_places T.d_Kinds_marks_of_places ["self", "row", "depth"] (sp_marks P w T.a_Kinds)) :
    FnOk P w K mg base CX0 14 T.a_Kinds_places T.d_Kinds_places ["self", "row", "depth"] (sp_places P w T.a_Kinds) := by
  refine T.F_Kinds_places.ok sc_Kinds_places (fun vs H Q E h => ?_) (fun cdv A outer s H vs Q E hr h => ?_)
  · obtain ⟨_, _, _, _, _, rfl, _⟩ := h
    rfl
  obtain ⟨k, Ls, t, d, z, rfl, hK, hdD, hd8, hzS, q⟩ := h
  refine ⟨_, (pss_cons (ps_set (i := 3) sc_Kinds_places.nd rfl (Or.inl rfl) (pe_tup (pa_cons (pv 1) (pa_cons (pv 2) pa_nil))))
   (pss_cons (ps_if (pt_cmpR (M.op_notInN hr.units) (pv 3) (pe_fld (pv 0) rfl) (by rfl)) (pss_one (M.ps_nputH hr.units (pe_fld (pv 0) rfl) (pv 3) (pe_meth (pv 0) T.C_Kinds T.m_Kinds_marks_of_places G_Kinds_marks_of_places (hr.mono (by omega)) T.b_Kinds_marks_of_places .nil pass0 (pa_cons (pv 1) (pa_cons (pv 2) pa_nil))) rfl)) pss_nil)
   (pss_one (ps_ret (pe_ix (M.ix_dictN hr.units) (pe_fld (pv 0) rfl) (pv 3) (fun _ _ => rfl)))))), ?_⟩
  obtain ⟨dx, hins⟩ := hK.ins
  walk_at "rd"
  intro tk ntk
  have x0 := Ex.new (o := .tup [.str z, .int (d : Nat)]) ntk
  have hK0 := hK.ex x0
  have hkey : NK (upd H tk (.tup [.str z, .int (d : Nat)])) (.ref tk) (keyR z d) := .tup upd_same (.cons (.str _) (.cons (.int _) .nil))
  generalize upd H tk (.tup [.str z, .int (d : Nat)]) = H0 at *
  have hins0 := x0 _ _ hins
  obtain ⟨e2, g1, g2, g3, g4, g6⟩ := hK0.get2
  walk_at "rd"
  refine ⟨k.x, T.a_Kinds, dx, _, _, rfl, hins0, T.C_Kinds, T.n_Kinds_known_places, rfl, ?_⟩
  refine ⟨tk, k.A.a2, keyR z d, e2, rfl, rfl, hkey, keyR_depth _ _, g1, ?_⟩
  walk_at "rd"
  cases hkat : kat e2 (keyR z d) with
  | some v =>
    refine iteF ?_
    walk_at "rd"
    refine ⟨k.x, T.a_Kinds, dx, _, _, rfl, hins0, T.C_Kinds, T.n_Kinds_known_places, rfl, ?_⟩
    walk_at "rd"
    refine ⟨tk, k.A.a2, keyR z d, e2, v, rfl, rfl, hkey, keyR_depth _ _, g1, hkat, ?_⟩
    obtain ⟨l, rs, ms, rfl, h1, h2, h3, h4⟩ := g6 _ _ _ hkat
    exact q l rs ms t Ls _ hK0 (Stp.ex x0) h1 h2 h3 h4
  | none =>
    refine iteT ?_
    walk_at "rd"
    refine ⟨k.x, dx, _, rfl, hins0, rfl, ?_⟩
    walk_at "rd"
    refine ⟨k, Ls, t, d, z, rfl, hK0, hdD, hd8, hzS, fun l rs ms t1 Ls1 H1 hK1 st1 hl1 hl2 hl3 hl4 htr hpl => ?_⟩
    obtain ⟨dx1, hins1⟩ := hK1.ins
    obtain ⟨e9, f1, f2, f3, f4, _⟩ := hK1.get2
    have hkey1 := hkey.up (st1.tk hK0)
    refine ⟨_, rfl, k.x, T.a_Kinds, dx1, _, _, rfl, hins1, T.C_Kinds, T.n_Kinds_known_places, rfl, ?_⟩
    walk_at "rd"
    refine ⟨tk, k.A.a2, keyR z d, e9, rfl, rfl, hkey1, keyR_depth _ _, f1, f4, fun H2 eH2 => ?_⟩
    have eH2 : H2 = upd H1 k.A.a2 (NdO P w k.A.a2 (putE e9 (keyR z d) tk (.ref l))) := eH2
    have hK2 := hK1.put2 f1 f2 f3 hkey1 hzS hdD hl2 hl4 htr hpl
    have st2 := hK1.stp (a := k.A.a2) (o := NdO P w k.A.a2 (putE e9 (keyR z d) tk (.ref l))) (by simp [KA.all])
    have hnd2 := f1.putG (v := .ref l) hkey1 (keyR_depth _ _)
    have hkey2 := hkey1.up (st2.tk hK1)
    have htr2 := htr.up (st2.tk hK1)
    have hl5 := st2.old l _ hl2 hl4
    rw [← eH2] at hK2 st2 hnd2 hkey2 htr2 hl5
    obtain ⟨dx2, hins2⟩ := hK2.ins
    walk_at "rd"
    refine ⟨k.x, T.a_Kinds, dx2, _, _, rfl, hins2, T.C_Kinds, T.n_Kinds_known_places, rfl, ?_⟩
    walk_at "rd"
    refine ⟨tk, k.A.a2, keyR z d, _, _, rfl, rfl, hkey2, keyR_depth _ _, hnd2, kat_putE, ?_⟩
    refine q l rs ms t1 (l :: Ls1) H2 hK2 ⟨st1.grows, fun b o hb e => st2.old b o hb (st1.old b o hb (x0 _ _ e)), fun l' hl' => ?_⟩ List.mem_cons_self hl5 htr2 hpl
    rcases List.mem_cons.mp hl' with rfl | hl'
    · exact .inr (fresh_back x0 hl1)
    · rcases st1.ls l' hl' with h | h
      · exact .inl h
      · exact .inr (fresh_back x0 h)

end
end Lw
end

section
set_option Elab.async false
set_option linter.all false
set_option maxRecDepth 100000
set_option maxHeartbeats 4000000
set_option pp.maxSteps 300
set_option pp.deepTerms false
namespace Lw
open PySem L2 Evl M
open PyProof.Rows hiding St
local macro_rules | `(tactic| walk_at "at") => `(tactic| first | assumption | exact upd_same)
local macro_rules | `(tactic| walk_at "sq") => `(tactic| first | assumption | exact SqL.of (by walk_at "at") | exact SqT.of (by walk_at "at"))
local macro_rules | `(tactic| walk_at "sd") => `(tactic| first | assumption | exact Names.size (by assumption) | omega | decide | exact Nat.le_of_ble_eq_true rfl | exact Or.inl ⟨by decide, by decide⟩ | exact wide_div (b := 200) (by first | assumption | decide) (by first | assumption | decide) (by decide) (by decide) | exact pow_w 10 (by decide) (by decide) (by decide) (by decide))
local macro_rules | `(tactic| walk_at "r1") => `(tactic| first
  | refine ⟨_, rfl, ?_⟩
  | refine ⟨_, _, rfl, rfl, ?_⟩
  | refine And.intro rfl ?_
  | refine ⟨_, _, _, _, rfl, rfl, (by walk_at "sq"), rfl, ?_⟩
  | refine ⟨_, _, _, _, rfl, rfl, (by walk_at "at"), rfl, ?_⟩
  | refine ⟨_, _, rfl, Or.inl (by walk_at "sq"), ?_⟩
  | refine ⟨_, _, rfl, Or.inr (by walk_at "sq"), ?_⟩
  | refine ⟨_, _, rfl, ?_⟩
  | refine Or.inl ⟨_, rfl, ?_⟩
  | refine And.intro (by walk_at "sd") ?_)
local macro_rules | `(tactic| walk_at "rd") => `(tactic| try (walk_at "r1"; walk_at "rd"))
section
variable {P : Program} {w : World} {K : PySem.W.Frag} {mg : Str → Option Value} {base : Heap}
theorem ok_Kinds_of_row (T : Tx w K mg) (G_Kinds_places : FnOk P w K mg base CX0 14 T.a_Kinds_places T.d_Kinds_places ["self", "row", "depth"] (sp_places P w T.a_Kinds))
    (G_Kinds_numbered : FnOk P w K mg base CX0 1 T.a_Kinds_numbered T.d_Kinds_numbered ["self", "depth", "marks"] (sp_numbered P w T.a_Kinds)) :
    FnOk P w K mg base CX0 15 T.a_Kinds_of_row T.d_Kinds_of_row ["self", "row", "depth"] (sp_of_row P w T.a_Kinds) := by
  refine T.F_Kinds_of_row.ok sc_Kinds_of_row (fun vs H Q E h => ?_) (fun cdv A outer s H vs Q E hr h => ?_)
  · obtain ⟨_, _, _, _, _, rfl, _⟩ := h
    rfl
  obtain ⟨k, Ls, t, d, z, rfl, hK, hdD, hd8, hzS, q⟩ := h
  refine ⟨_, (pss_cons (ps_if (pt_cmpR op_eq (pv 2) pe_int (nomark _)) (pss_one (ps_ret pe_int)) pss_nil)
   (pss_cons (ps_set (i := 3) sc_Kinds_of_row.nd rfl (Or.inl rfl) (pe_tup (pa_cons (pv 1) (pa_cons (pv 2) pa_nil))))
   (pss_cons (ps_if (pt_cmpR (M.op_notInN hr.units) (pv 3) (pe_fld (pv 0) rfl) (by rfl)) (pss_cons (ps_set (i := 4) sc_Kinds_of_row.nd rfl (Or.inl rfl) (pe_meth (pv 0) T.C_Kinds T.m_Kinds_places G_Kinds_places (hr.mono (by omega)) T.b_Kinds_places .nil pass0 (pa_cons (pv 1) (pa_cons (pe_op op_sub (pv 2) pe_int) pa_nil))))
   (pss_one (M.ps_nputH hr.units (pe_fld (pv 0) rfl) (pv 3) (pe_meth (pv 0) T.C_Kinds T.m_Kinds_numbered G_Kinds_numbered (hr.mono (by omega)) T.b_Kinds_numbered .nil pass0 (pa_cons (pv 2) (pa_cons (pe_callTy call_tuple_of (by rfl) T.b_tuple (by decide +kernel) (pa_cons (pe_callB (M.cr_ssort (by rfl)) (by rfl) T.b_sorted (by decide +kernel) (pa_cons (pe_callTy (M.cr_slist (by rfl) hr.units) (by rfl) T.b_set (by decide +kernel) (pa_cons (pv 4) pa_nil)) pa_nil)) pa_nil)) pa_nil))) rfl))) pss_nil)
   (pss_one (ps_ret (pe_ix (M.ix_dictN hr.units) (pe_fld (pv 0) rfl) (pv 3) (fun _ _ => rfl))))))), ?_⟩
  obtain ⟨dx, hins⟩ := hK.ins
  have hlen := hK.sub.len _ hzS
  walk_at "rd"
  refine iteI (fun e0 => ?_) (fun e0 => ?_)
  · obtain rfl : d = 0 := by omega
    exact q 0 t Ls H hK .refl rfl
  obtain ⟨e, rfl⟩ : ∃ e, d = e + 1 := ⟨d - 1, by omega⟩
  walk_at "rd"
  intro tk ntk
  have x0 := Ex.new (o := .tup [.str z, .int ((e + 1 : Nat) : Int)]) ntk
  have hK0 := hK.ex x0
  have hkey : NK (upd H tk (.tup [.str z, .int ((e + 1 : Nat) : Int)])) (.ref tk) (keyR z (e + 1)) := .tup upd_same (.cons (.str _) (.cons (.int _) .nil))
  generalize upd H tk (.tup [.str z, .int ((e + 1 : Nat) : Int)]) = H0 at *
  have hins0 := x0 _ _ hins
  obtain ⟨e2, g1, g2, g3, g4, g6⟩ := hK0.get1
  walk_at "rd"
  refine ⟨k.x, T.a_Kinds, dx, _, _, rfl, hins0, T.C_Kinds, T.n_Kinds_known_kinds, rfl, ?_⟩
  refine ⟨tk, k.A.a1, keyR z (e + 1), e2, rfl, rfl, hkey, keyR_depth _ _, g1, ?_⟩
  walk_at "rd"
  cases hkat : kat e2 (keyR z (e + 1)) with
  | some v =>
    refine iteF ?_
    walk_at "rd"
    refine ⟨k.x, T.a_Kinds, dx, _, _, rfl, hins0, T.C_Kinds, T.n_Kinds_known_kinds, rfl, ?_⟩
    walk_at "rd"
    refine ⟨tk, k.A.a1, keyR z (e + 1), e2, v, rfl, rfl, hkey, keyR_depth _ _, g1, hkat, ?_⟩
    obtain ⟨n, rfl, h4⟩ := g6 _ _ _ hkat
    exact q n t Ls _ hK0 (Stp.ex x0) h4
  | none =>
    refine iteT ?_
    walk_at "rd"
    refine ⟨k.x, dx, _, rfl, hins0, rfl, ?_⟩
    walk_at "rd"
    refine ⟨k, Ls, t, e, z, (by show [V.ref k.x, V.str z, V.int (((e + 1 : Nat) : Int) - 1)] = _; rw [show (((e + 1 : Nat) : Int) - 1) = ((e : Nat) : Int) by omega]), hK0, by omega, by omega, hzS, fun l rs ms t1 Ls1 H1 hK1 st1 hl1 hl4 htr hpl => ?_⟩
    obtain ⟨dx1, hins1⟩ := hK1.ins
    have hml : ms.length ≤ 60 := by rw [hpl.1]; exact hlen
    have hsz := hK1.size
    have lowT : ∀ m ∈ ms, Low m := fun ⟨x', c', y'⟩ hm => by
      obtain ⟨i, hi⟩ := List.getElem?_of_mem hm
      obtain ⟨h1, h2, h3⟩ := hpl.2 i x' c' y' hi
      have l1 := hK1.tok.lt h2
      have l2 := hK1.tok.lt h3
      exact ⟨by show x' < _; omega, hK.sub.low _ hzS c' (List.mem_of_getElem? h1), by show y' < _; omega⟩
    walk_at "rd"
    refine ⟨k.x, dx1, _, rfl, hins1, rfl, ?_⟩
    walk_at "rd"
    refine ⟨l, rs, ms, rfl, SqL.of hl4, htr, by omega, fun a Tl H2 ha xa hT hTm hTl keepa => ?_⟩
    refine ⟨a, Tl, rfl, hT, fun m hm => lowT m ((hTm m).mp hm), fun p rs' ms' H3 hp xp ep keepp hcan hmm htrs => ?_⟩
    refine ⟨p, rs', rfl, .inl ⟨SqL.of ep, fun tp htp => ?_⟩⟩
    have xtp := Ex.new (o := .tup rs') htp
    have xap := xa.trans (xp.trans xtp)
    have hKt := hK1.ex xap
    have htt : NK (upd H3 tp (.tup rs')) (.ref tp) (.tup (ms'.map trip)) := trs_nk upd_same (htrs.up (Tk.of (xp.trans xtp)))
    generalize upd H3 tp (.tup rs') = H4 at *
    have mfit : Fits t1 e ms' (codes z) := hpl.fits fun m => (hmm m).trans (hTm m)
    refine ⟨k, Ls1, t1, e + 1, tp, ms', rfl, hKt, htt, hcan, fun e' he => ⟨hdD, codes z, hzS, by cases he; exact mfit⟩, fun n' t3 Ls3 G7 hK7 st7 rn => ?_⟩
    have rep' : Rep t3 (e + 1) n' (codes z) := ⟨ms', rn.2 e rfl, mfit.up st7.grows⟩
    obtain ⟨dx7, hins7⟩ := hK7.ins
    obtain ⟨e9, f1, f2, f3, f4, _⟩ := hK7.get1
    have stf := Stp.trans hKt (st1.exx xap) st7
    have hkey7 := hkey.up (stf.tk hK0)
    refine ⟨_, rfl, k.x, T.a_Kinds, dx7, _, _, rfl, hins7, T.C_Kinds, T.n_Kinds_known_kinds, rfl, ?_⟩
    walk_at "rd"
    refine ⟨tk, k.A.a1, keyR z (e + 1), e9, rfl, rfl, hkey7, keyR_depth _ _, f1, f4, fun G8 eG8 => ?_⟩
    have eG8 : G8 = upd G7 k.A.a1 (NdO P w k.A.a1 (putE e9 (keyR z (e + 1)) tk (.int (n' : Nat)))) := eG8
    have hK8 := hK7.put1 f1 f2 f3 hkey7 hzS hdD rep'
    have st8 := hK7.stp (a := k.A.a1) (o := NdO P w k.A.a1 (putE e9 (keyR z (e + 1)) tk (.int (n' : Nat)))) (by simp [KA.all])
    have hnd8 := f1.putG (v := .int (n' : Nat)) hkey7 (keyR_depth _ _)
    have hkey8 := hkey7.up (st8.tk hK7)
    rw [← eG8] at hK8 st8 hnd8 hkey8
    obtain ⟨dx8, hins8⟩ := hK8.ins
    walk_at "rd"
    refine ⟨k.x, T.a_Kinds, dx8, _, _, rfl, hins8, T.C_Kinds, T.n_Kinds_known_kinds, rfl, ?_⟩
    walk_at "rd"
    refine ⟨tk, k.A.a1, keyR z (e + 1), _, _, rfl, rfl, hkey8, keyR_depth _ _, hnd8, kat_putE, ?_⟩
    exact q n' t3 Ls3 G8 hK8 (Stp.trans hK0 (Stp.ex x0) (Stp.trans hK7 stf st8)) rep'

end
end Lw
end

section
set_option Elab.async false
set_option linter.all false
set_option maxRecDepth 100000
set_option maxHeartbeats 4000000
set_option pp.maxSteps 300
set_option pp.deepTerms false
namespace Lw
open PySem L2 Evl M
open PyProof.Rows hiding St
local macro_rules | `(tactic| walk_at "at") => `(tactic| first | assumption | exact upd_same)
local macro_rules | `(tactic| walk_at "sq") => `(tactic| first | assumption | exact SqL.of (by walk_at "at") | exact SqT.of (by walk_at "at"))
local macro_rules | `(tactic| walk_at "sd") => `(tactic| first | assumption | exact Names.size (by assumption) | omega | decide | exact Nat.le_of_ble_eq_true rfl | exact Or.inl ⟨by decide, by decide⟩ | exact wide_div (b := 200) (by first | assumption | decide) (by first | assumption | decide) (by decide) (by decide) | exact pow_w 10 (by decide) (by decide) (by decide) (by decide))
local macro_rules | `(tactic| walk_at "r1") => `(tactic| first
  | refine ⟨_, rfl, ?_⟩
  | refine ⟨_, _, rfl, rfl, ?_⟩
  | refine And.intro rfl ?_
  | refine ⟨_, _, _, _, rfl, rfl, (by walk_at "sq"), rfl, ?_⟩
  | refine ⟨_, _, _, _, rfl, rfl, (by walk_at "at"), rfl, ?_⟩
  | refine ⟨_, _, rfl, Or.inl (by walk_at "sq"), ?_⟩
  | refine ⟨_, _, rfl, Or.inr (by walk_at "sq"), ?_⟩
  | refine ⟨_, _, rfl, ?_⟩
  | refine Or.inl ⟨_, rfl, ?_⟩
  | refine And.intro (by walk_at "sd") ?_)
local macro_rules | `(tactic| walk_at "rd") => `(tactic| try (walk_at "r1"; walk_at "rd"))
section
variable {P : Program} {w : World} {K : PySem.W.Frag} {mg : Str → Option Value} {base : Heap}
theorem ok_Kinds_alike (T : Tx w K mg) (G_Kinds_of_row : FnOk P w K mg base CX0 15 T.a_Kinds_of_row T.d_Kinds_of_row ["self", "row", "depth"] (sp_of_row P w T.a_Kinds)) :
    FnOk P w K mg base CX0 16 T.a_Kinds_alike T.d_Kinds_alike ["self", "row", "other_row", "depth"] (sp_kalike P w T.a_Kinds) := by
  refine T.F_Kinds_alike.ok sc_Kinds_alike (fun vs H Q E h => ?_) (fun cdv A outer s H vs Q E hr h => ?_)
  · obtain ⟨_, _, _, _, _, _, rfl, _⟩ := h
    rfl
  obtain ⟨k, Ls, t, d, y, z, rfl, hK, hdD, hd8, hyS, hzS, q⟩ := h
  refine ⟨_, (pss_cons (ps_if (pt_cmpR op_eq (pv 1) (pv 2) (nomark _)) (pss_one (ps_ret pe_bl)) pss_nil)
   (pss_cons (ps_for PassesOwn.never (by rfl) (pi_range2 (by rfl) T.b_range (pa_cons pe_int (pa_cons (pe_op op_add (pv 3) pe_int) pa_nil))) (pg_name (i := 4) sc_Kinds_alike.nd rfl (Or.inl rfl)) (pss_one (ps_if (pt_cmpR op_ne (pe_meth (pv 0) T.C_Kinds T.m_Kinds_of_row G_Kinds_of_row (hr.mono (by omega)) T.b_Kinds_of_row .nil pass0 (pa_cons (pv 1) (pa_cons (pv 4) pa_nil))) (pe_meth (pv 0) T.C_Kinds T.m_Kinds_of_row G_Kinds_of_row (hr.mono (by omega)) T.b_Kinds_of_row .nil pass0 (pa_cons (pv 2) (pa_cons (pv 4) pa_nil))) (nomark _)) (pss_one (ps_ret pe_bl)) pss_nil)))
   (pss_one (ps_ret pe_bl)))), ?_⟩
  walk_at "rd"
  refine iteS (fun e0 => ?_) (fun e0 => ?_)
  · subst e0
    exact q true t Ls H hK .refl ⟨fun _ => Al.refl _ _, fun _ => rfl⟩
  walk_at "rd"
  have etop : (((d : Nat) : Int) + 1 - 1).toNat = d := by omega
  obtain ⟨Pv, hPv⟩ : ∃ Pv : Nat → L2.St → Hp → Prop, ∀ j σ G, Pv j σ G ↔ ∃ (o4 : Option V) (t' : KTab) (Ls' : List Addr), σ = [some (.ref k.x), some (.str y), some (.str z), some (.int (d : Nat)), o4] ∧
    KS P w T.a_Kinds k Ls' G t' ∧ Stp k Ls H t Ls' G t' ∧ Al j (codes y) (codes z) := ⟨_, fun _ _ _ => Iff.rfl⟩
  refine for_range (lo := 1) (n := (((d : Nat) : Int) + 1 - 1).toNat) Pv ((hPv _ _ _).mpr ⟨_, t, Ls, rfl, hK, .refl, trivial⟩) (fun j σ G hj h => ?_) (fun σ G h => ?_)
  · obtain ⟨o4, t', Ls', rfl, hKj, st, hal⟩ := (hPv _ _ _).mp h
    rw [etop] at hj
    obtain ⟨dx, hins⟩ := hKj.ins
    walk_at "rd"
    refine ⟨k.x, dx, _, rfl, hins, rfl, ?_⟩
    walk_at "rd"
    refine ⟨k, Ls', t', j + 1, y, (by show [V.ref k.x, V.str y, V.int (1 + (j : Int))] = _; rw [show (1 + (j : Int)) = ((j + 1 : Nat) : Int) by omega]), hKj, by omega, by omega, hyS, fun n t1 Ls1 G1 hK1 st1 r1 => ?_⟩
    obtain ⟨dx1, hins1⟩ := hK1.ins
    walk_at "rd"
    refine ⟨k.x, dx1, _, rfl, hins1, rfl, ?_⟩
    walk_at "rd"
    refine ⟨k, Ls1, t1, j + 1, z, (by show [V.ref k.x, V.str z, V.int (1 + (j : Int))] = _; rw [show (1 + (j : Int)) = ((j + 1 : Nat) : Int) by omega]), hK1, by omega, by omega, hzS, fun m t2 Ls2 G2 hK2 st2 r2 => ?_⟩
    have stAll := Stp.trans hK1 (Stp.trans hKj st st1) st2
    have hiff := Rep.iff canon_one hK2.tok.ok (r1.up st2.grows) r2
    walk_at "rd"
    refine iteNI (fun e1 => ?_) (fun e1 => ?_)
    · have ne : n ≠ m := fun z => e1 (by rw [z])
      exact q false t2 Ls2 G2 hK2 stAll ⟨fun z => (nomatch z), fun z => absurd (hiff.mpr (z.mono (by omega))) ne⟩
    · have eq : n = m := by omega
      walk_at "rd"
      exact (hPv _ _ _).mpr ⟨_, t2, Ls2, rfl, hK2, stAll, hiff.mp eq⟩
  · obtain ⟨o4, t', Ls', rfl, hKj, st, hal⟩ := (hPv _ _ _).mp h
    rw [etop] at hal
    exact q true t' Ls' G hKj st ⟨fun _ => hal, fun _ => rfl⟩

end
end Lw
end

section
set_option Elab.async false
set_option linter.all false
set_option maxRecDepth 100000
set_option maxHeartbeats 4000000
set_option pp.maxSteps 300
set_option pp.deepTerms false
namespace Lw
open PySem L2 Evl M
open PyProof.Rows hiding St
local macro_rules | `(tactic| walk_at "at") => `(tactic| first | assumption | exact upd_same)
local macro_rules | `(tactic| walk_at "sq") => `(tactic| first | assumption | exact SqL.of (by walk_at "at") | exact SqT.of (by walk_at "at"))
local macro_rules | `(tactic| walk_at "sd") => `(tactic| first | assumption | exact Names.size (by assumption) | omega | decide | exact Nat.le_of_ble_eq_true rfl | exact Or.inl ⟨by decide, by decide⟩ | exact wide_div (b := 200) (by first | assumption | decide) (by first | assumption | decide) (by decide) (by decide) | exact pow_w 10 (by decide) (by decide) (by decide) (by decide))
local macro_rules | `(tactic| walk_at "r1") => `(tactic| first
  | refine ⟨_, rfl, ?_⟩
  | refine ⟨_, _, rfl, rfl, ?_⟩
  | refine And.intro rfl ?_
  | refine ⟨_, _, _, _, rfl, rfl, (by walk_at "sq"), rfl, ?_⟩
  | refine ⟨_, _, _, _, rfl, rfl, (by walk_at "at"), rfl, ?_⟩
  | refine ⟨_, _, rfl, Or.inl (by walk_at "sq"), ?_⟩
  | refine ⟨_, _, rfl, Or.inr (by walk_at "sq"), ?_⟩
  | refine ⟨_, _, rfl, ?_⟩
  | refine Or.inl ⟨_, rfl, ?_⟩
  | refine And.intro (by walk_at "sd") ?_)
local macro_rules | `(tactic| walk_at "rd") => `(tactic| try (walk_at "r1"; walk_at "rd"))
section
variable {P : Program} {w : World} {K : PySem.W.Frag} {mg : Str → Option Value} {base : Heap}
theorem ok_depth_between (T : Tx w K mg) (G_Kinds_of_row : FnOk P w K mg base CX0 15 T.a_Kinds_of_row T.d_Kinds_of_row ["self", "row", "depth"] (sp_of_row P w T.a_Kinds)) :
    FnOk P w K mg base CX0 16 T.a_depth_between T.d_depth_between ["kinds", "row", "other_row"] (sp_depth_between P w T.a_Kinds) := by
  refine T.F_depth_between.ok sc_depth_between (fun vs H Q E h => ?_) (fun cdv A outer s H vs Q E hr h => ?_)
  · obtain ⟨_, _, _, _, _, rfl, _⟩ := h
    rfl
  obtain ⟨k, Ls, t, y, z, rfl, hK, hD, hyS, hzS, q1, q2⟩ := h
  refine ⟨_, (pss_cons (ps_if (pt_cmpR op_eq (pv 1) (pv 2) (nomark _)) (pss_one (ps_ret pe_non)) pss_nil)
   (pss_cons (ps_set (i := 3) sc_depth_between.nd rfl (Or.inl rfl) pe_int)
   (pss_cons (ps_while PassesOwn.never (pt_cmpR op_eq (pe_meth (pv 0) T.C_Kinds T.m_Kinds_of_row G_Kinds_of_row (hr.mono (by omega)) T.b_Kinds_of_row .nil pass0 (pa_cons (pv 1) (pa_cons (pv 3) pa_nil))) (pe_meth (pv 0) T.C_Kinds T.m_Kinds_of_row G_Kinds_of_row (hr.mono (by omega)) T.b_Kinds_of_row .nil pass0 (pa_cons (pv 2) (pa_cons (pv 3) pa_nil))) (nomark _)) (pss_one (ps_aug (i := 3) sc_depth_between.nd rfl (Or.inl rfl) pe_int ip_add)))
   (pss_one (ps_ret (pv 3)))))), ?_⟩
  walk_at "rd"
  refine iteS (fun e0 => ?_) (fun e0 => ?_)
  · exact q1 e0 t Ls H hK .refl
  have hp := parts_by (codes_ne e0) (hK.sub.len _ hyS)
  walk_at "rd"
  obtain ⟨Pv, hPv⟩ : ∃ Pv : Nat → L2.St → Hp → Prop, ∀ m σ G, Pv m σ G ↔ ∃ (n : Nat) (t' : KTab) (Ls' : List Addr), m = 7 - n ∧ n ≤ 6 ∧ σ = [some (.ref k.x), some (.str y), some (.str z), some (.int (n : Nat))] ∧ KS P w T.a_Kinds k Ls' G t' ∧ Stp k Ls H t Ls' G t' ∧ (∀ e, e < n → Al e (codes y) (codes z)) := ⟨_, fun _ _ _ => Iff.rfl⟩
  refine ⟨Pv, ⟨_, (hPv _ _ _).mpr ⟨0, t, Ls, rfl, by decide, rfl, hK, .refl, fun e he => by omega⟩⟩, ?_⟩
  rintro m σ G h
  obtain ⟨n, t', Ls', rfl, hn, rfl, hKj, st, hal⟩ := (hPv _ _ _).mp h
  obtain ⟨dx, hins⟩ := hKj.ins
  walk_at "rd"
  refine ⟨k.x, dx, _, rfl, hins, rfl, ?_⟩
  walk_at "rd"
  refine ⟨k, Ls', t', n, y, rfl, hKj, by omega, by omega, hyS, fun a t1 Ls1 G1 hK1 st1 r1 => ?_⟩
  obtain ⟨dx1, hins1⟩ := hK1.ins
  walk_at "rd"
  refine ⟨k.x, dx1, _, rfl, hins1, rfl, ?_⟩
  walk_at "rd"
  refine ⟨k, Ls1, t1, n, z, rfl, hK1, by omega, by omega, hzS, fun b t2 Ls2 G2 hK2 st2 r2 => ?_⟩
  have stAll := Stp.trans hK1 (Stp.trans hKj st st1) st2
  have hiff := Rep.iff canon_one hK2.tok.ok (r1.up st2.grows) r2
  walk_at "rd"
  refine iteI (fun e1 => ?_) (fun e1 => ?_)
  · have an : Al n (codes y) (codes z) := hiff.mp (by omega)
    have n6 : n ≠ 6 := fun z => hp (by rw [← z]; exact an)
    refine ⟨fun σ' G' => ∃ m', m' < 7 - n ∧ Pv m' σ' G', fun _ _ h => h, ?_⟩
    walk_at "rd"
    refine ⟨7 - (n + 1), by omega, (hPv _ _ _).mpr ⟨n + 1, t2, Ls2, rfl, by omega, rfl, hK2, stAll, fun e he => ?_⟩⟩
    by_cases q : e = n
    · rw [q]; exact an
    · exact hal e (by omega)
  · walk_at "rd"
    exact q2 e0 n t2 Ls2 G2 hK2 stAll (fun z => e1 (by rw [hiff.mpr z])) hal

end
end Lw
end

section
set_option Elab.async false
set_option linter.all false
set_option maxRecDepth 100000
set_option maxHeartbeats 4000000
set_option pp.maxSteps 300
set_option pp.deepTerms false
namespace Lw
open PySem L2 Evl M
open PyProof.Rows hiding St
local macro_rules | `(tactic| walk_at "at") => `(tactic| first | assumption | exact upd_same)
local macro_rules | `(tactic| walk_at "sq") => `(tactic| first | assumption | exact SqL.of (by walk_at "at") | exact SqT.of (by walk_at "at"))
local macro_rules | `(tactic| walk_at "sd") => `(tactic| first | assumption | exact Names.size (by assumption) | omega | decide | exact Nat.le_of_ble_eq_true rfl | exact Or.inl ⟨by decide, by decide⟩ | exact wide_div (b := 200) (by first | assumption | decide) (by first | assumption | decide) (by decide) (by decide) | exact pow_w 10 (by decide) (by decide) (by decide) (by decide))
local macro_rules | `(tactic| walk_at "r1") => `(tactic| first
  | refine ⟨_, rfl, ?_⟩
  | refine ⟨_, _, rfl, rfl, ?_⟩
  | refine And.intro rfl ?_
  | refine ⟨_, _, _, _, rfl, rfl, (by walk_at "sq"), rfl, ?_⟩
  | refine ⟨_, _, _, _, rfl, rfl, (by walk_at "at"), rfl, ?_⟩
  | refine ⟨_, _, rfl, Or.inl (by walk_at "sq"), ?_⟩
  | refine ⟨_, _, rfl, Or.inr (by walk_at "sq"), ?_⟩
  | refine ⟨_, _, rfl, ?_⟩
  | refine Or.inl ⟨_, rfl, ?_⟩
  | refine And.intro (by walk_at "sd") ?_)
local macro_rules | `(tactic| walk_at "rd") => `(tactic| try (walk_at "r1"; walk_at "rd"))
section
variable {P : Program} {w : World} {K : PySem.W.Frag} {mg : Str → Option Value} {base : Heap}
theorem ok_parting_depth (T : Tx w K mg) (G_check_rows : FnOk P w K mg base CX0 3 T.a_check_rows T.d_check_rows ["row", "other_row"] sp_check_rows)
    (G_Kinds___init__ : FnOk P w K mg base CX0 1 T.a_Kinds___init__ T.d_Kinds___init__ ["self"] (sp_kinit P w T.a_Kinds))
    (G_depth_between : FnOk P w K mg base CX0 16 T.a_depth_between T.d_depth_between ["kinds", "row", "other_row"] (sp_depth_between P w T.a_Kinds)) :
    FnOk P w K mg base CX0 17 T.a_parting_depth T.d_parting_depth ["row", "other_row"] sp_parting_depth := by
  refine T.F_parting_depth.ok sc_parting_depth (fun vs H Q E h => ?_) (fun cdv A outer s H vs Q E hr h => ?_)
  · obtain ⟨_, _, _, rfl, _⟩ := h
    rfl
  obtain ⟨y, z, _, rfl, hy, hz, ly, lz, q1, q2⟩ := h
  have ly2 : y.length ≤ 1000 := by omega
  have lz2 : z.length ≤ 1000 := by omega
  refine ⟨_, (pss_cons (ps_expr (pe_call G_check_rows (hr.mono (by omega)) (by rfl) T.g_check_rows T.F_check_rows.kp T.b_check_rows .nil pass0 (pa_cons (pv 0) (pa_cons (pv 1) pa_nil))))
   (pss_one (ps_ret (pe_call G_depth_between (hr.mono (by omega)) (by rfl) T.g_depth_between T.F_depth_between.kp T.b_depth_between .nil pass0 (pa_cons (pe_make0 T.M_Kinds G_Kinds___init__ (hr.mono (by omega)) (by rfl) T.g_Kinds T.b_Kinds___init__ .nil pass0) (pa_cons (pv 0) (pa_cons (pv 1) pa_nil))))))), ?_⟩
  walk_at "rd"
  intro H1 x1
  walk_at "rd"
  intro x dx nx ndx ne
  have x2 : Ex H1 (upd (upd H1 dx (.own x)) x (.ins T.a_Kinds dx [])) := (Ex.new ndx).trans (Ex.new (by rw [upd_ne (Ne.symm ne)]; exact nx))
  have hx : upd (upd H1 dx (.own x)) x (.ins T.a_Kinds dx []) x = some (.ins T.a_Kinds dx []) := upd_same
  generalize upd (upd H1 dx (.own x)) x (.ins T.a_Kinds dx []) = H2 at *
  refine ⟨x, dx, subsAll [codes y, codes z], 8, rfl, hx, sub_two hy hz ly lz, fun A H3 hK old al => ?_⟩
  have x3 : Ex H1 H3 := fun b o e => old b o (ne_of_none e nx) (x2 b o e)
  refine ⟨rfl, ?_⟩
  walk_at "rd"
  have fin : ∀ {t' Ls' H4}, Stp ⟨subsAll [codes y, codes z], 8, x, A⟩ [] H3 [(0, [])] Ls' H4 t' → Ex H H4 := fun st => x1.trans fun b' o e => st.old b' o (fun h => nomatch e.symm.trans (fresh_back x2 (al b' h))) (x3 b' o e)
  exact ⟨_, [], _, y, z, rfl, hK, Nat.le_succ 7, mem_all (by simp), mem_all (by simp), fun e t' Ls' H4 hK4 st => q1 e H4 (fin st), fun e n t' Ls' H4 hK4 st h1 h2 => q2 e n H4 (fin st) h1 h2⟩

end
end Lw
end

section
set_option Elab.async false
set_option linter.all false
set_option maxRecDepth 100000
set_option maxHeartbeats 4000000
set_option pp.maxSteps 300
set_option pp.deepTerms false
namespace Lw
open PySem L2 Evl M
open PyProof.Rows hiding St
local macro_rules | `(tactic| walk_at "at") => `(tactic| first | assumption | exact upd_same)
local macro_rules | `(tactic| walk_at "sq") => `(tactic| first | assumption | exact SqL.of (by walk_at "at") | exact SqT.of (by walk_at "at"))
local macro_rules | `(tactic| walk_at "sd") => `(tactic| first | assumption | exact Names.size (by assumption) | omega | decide | exact Nat.le_of_ble_eq_true rfl | exact Or.inl ⟨by decide, by decide⟩ | exact wide_div (b := 200) (by first | assumption | decide) (by first | assumption | decide) (by decide) (by decide) | exact pow_w 10 (by decide) (by decide) (by decide) (by decide))
local macro_rules | `(tactic| walk_at "r1") => `(tactic| first
  | refine ⟨_, rfl, ?_⟩
  | refine ⟨_, _, rfl, rfl, ?_⟩
  | refine And.intro rfl ?_
  | refine ⟨_, _, _, _, rfl, rfl, (by walk_at "sq"), rfl, ?_⟩
  | refine ⟨_, _, _, _, rfl, rfl, (by walk_at "at"), rfl, ?_⟩
  | refine ⟨_, _, rfl, Or.inl (by walk_at "sq"), ?_⟩
  | refine ⟨_, _, rfl, Or.inr (by walk_at "sq"), ?_⟩
  | refine ⟨_, _, rfl, ?_⟩
  | refine Or.inl ⟨_, rfl, ?_⟩
  | refine And.intro (by walk_at "sd") ?_)
local macro_rules | `(tactic| walk_at "rd") => `(tactic| try (walk_at "r1"; walk_at "rd"))
section
variable {P : Program} {w : World} {K : PySem.W.Frag} {mg : Str → Option Value} {base : Heap}
theorem ok_holds (T : Tx w K mg) : FnOk P w K mg base CX0 1 T.a_holds T.d_holds ["table", "start", "end"] sp_holds := by
  refine T.F_holds.ok sc_holds (fun vs H Q E h => ?_) (fun cdv A outer s H vs Q E hr h => ?_)
  · obtain ⟨_, _, _, _, _, rfl, _⟩ := h
    rfl
  obtain ⟨l, ts, s, e, t, rfl, hl, ht, k⟩ := h
  refine ⟨_, (pss_one (ps_ret (pe_cmpR op_eq (pe_op op_and (pe_op op_shr (pe_ix ix_list (pv 0) (pv 1) (fun _ _ => rfl)) (pv 2)) pe_int) pe_int (nomark _)))), ?_⟩
  walk_at "rd"
  refine ⟨_, _, _, _, rfl, rfl, SqL.of hl, atI_nat (natV_at ht), ?_⟩
  walk_at "rd"
  show Q (V.bl (decide (V.int (Builtin.bitAnd ((t : Int) / 2 ^ ((e : Nat) : Int).toNat) 1) = V.int 1))) H
  rw [bit_at]
  exact k

end
end Lw
end

section
set_option Elab.async false
set_option linter.all false
set_option maxRecDepth 100000
set_option maxHeartbeats 4000000
set_option pp.maxSteps 300
set_option pp.deepTerms false
namespace Lw
open PySem L2 Evl M
open PyProof.Rows hiding St
local macro_rules | `(tactic| walk_at "at") => `(tactic| first | assumption | exact upd_same)
local macro_rules | `(tactic| walk_at "sq") => `(tactic| first | assumption | exact SqL.of (by walk_at "at") | exact SqT.of (by walk_at "at"))
local macro_rules | `(tactic| walk_at "sd") => `(tactic| first | assumption | exact Names.size (by assumption) | omega | decide | exact Nat.le_of_ble_eq_true rfl | exact Or.inl ⟨by decide, by decide⟩ | exact wide_div (b := 200) (by first | assumption | decide) (by first | assumption | decide) (by decide) (by decide) | exact pow_w 10 (by decide) (by decide) (by decide) (by decide))
local macro_rules | `(tactic| walk_at "r1") => `(tactic| first
  | refine ⟨_, rfl, ?_⟩
  | refine ⟨_, _, rfl, rfl, ?_⟩
  | refine And.intro rfl ?_
  | refine ⟨_, _, _, _, rfl, rfl, (by walk_at "sq"), rfl, ?_⟩
  | refine ⟨_, _, _, _, rfl, rfl, (by walk_at "at"), rfl, ?_⟩
  | refine ⟨_, _, rfl, Or.inl (by walk_at "sq"), ?_⟩
  | refine ⟨_, _, rfl, Or.inr (by walk_at "sq"), ?_⟩
  | refine ⟨_, _, rfl, ?_⟩
  | refine Or.inl ⟨_, rfl, ?_⟩
  | refine And.intro (by walk_at "sd") ?_)
local macro_rules | `(tactic| walk_at "rd") => `(tactic| try (walk_at "r1"; walk_at "rd"))
section
variable {P : Program} {w : World} {K : PySem.W.Frag} {mg : Str → Option Value} {base : Heap}
theorem ok_Stretches___init__ (T : Tx w K mg) : FnOk P w K mg base CX0 1 T.a_Stretches___init__ T.d_Stretches___init__ ["self", "row"] (sp_sinit K T.a_Stretches) := by
  refine T.F_Stretches___init__.ok sc_Stretches___init__ (fun vs H Q E h => ?_) (fun cdv A outer s H vs Q E hr h => ?_)
  · obtain ⟨_, _, _, rfl, _⟩ := h
    rfl
  obtain ⟨x, dx, z, rfl, hx, hz, k⟩ := h
  refine ⟨_, (pss_cons (ps_fld (pv 0) (pv 1) rfl)
   (pss_cons (ps_set (i := 2) sc_Stretches___init__.nd rfl (Or.inr rfl) (pe_op op_shl pe_int (pe_op op_add (pe_callB call_len_str (by rfl) T.b_len (by decide +kernel) (pa_cons (pv 1) pa_nil)) pe_int)))
   (pss_one (ps_fld (pv 0) (pe_lc (own := [("start", 3)]) (g := gName 3) (tt := tYes) (by rfl) sc_Stretches___init__.nd (pi_range1 (by rfl) T.b_range (pa_cons (pe_op op_add (pe_callB call_len_str (by rfl) T.b_len (by decide +kernel) (pa_cons (pv 1) pa_nil)) pe_int) pa_nil)) (blkOk_by (own := [("start", 3)]) (N := ["self", "row", "most", "start"]) (sc := defScope s_Stretches___init__) (by decide +kernel)) (fun _ _ _ _ _ => (pg_name (i := 3) sc_Stretches___init__.nd rfl (Or.inl rfl))) (fun _ _ _ _ _ => pts_nil) (fun _ _ _ _ _ => (pe_op op_sub (pv 2) (pe_op op_shl pe_int (pv 3))))) rfl)))), ?_⟩
  walk_at "rd"
  refine ⟨x, T.a_Stretches, dx, [], rfl, hx, T.C_Stretches, T.n_Stretches_row, by decide, ?_⟩
  walk_at "rd"
  refine And.intro (Nat.le_trans hz (by decide)) ?_
  walk_at "rd"
  refine And.intro ⟨by omega, by omega, by decide⟩ ?_
  walk_at "rd"
  have hx1 : upd H x (.ins T.a_Stretches dx (putF "row" (.str z) [])) x = some (.ins T.a_Stretches dx [(("row" : Str), V.str z)]) := upd_same
  have old1 : ∀ b o, b ≠ x → H b = some o → upd H x (.ins T.a_Stretches dx (putF "row" (.str z) [])) b = some o := fun b o nb e => by rw [upd_ne nb]; exact e
  generalize upd H x (.ins T.a_Stretches dx (putF "row" (.str z) [])) = H1 at *
  refine ⟨Nat.le_trans hz (by decide), ?_⟩
  walk_at "rd"
  intro D nD
  have nx : D ≠ x := fun z => by rw [z, hx1] at nD; cases nD
  have htop : ((z.length : Int) + 1).toNat = z.length + 1 := by omega
  obtain ⟨Pv, hPv⟩ : ∃ Pv : Nat → Hp → Prop, ∀ j J, Pv j J ↔ Ex H1 J ∧ J D = some (.lst (natV (wholeU z.length j))) := ⟨_, fun _ _ => Iff.rfl⟩
  refine lc_range Pv ((hPv _ _).mpr ⟨Ex.new nD, upd_same⟩) (fun j J hj hJ => ?_) (fun J hJ => ?_)
  · obtain ⟨xj, ej⟩ := (hPv _ _).mp hJ
    have hj2 : j ≤ z.length := by omega
    walk_at "rd"
    refine And.intro ⟨by omega, by omega, by decide⟩ ?_
    refine ⟨_, _, rfl, rfl, ?_⟩
    refine ⟨_, ej, by rw [wholeU_len]; exact Nat.lt_of_le_of_lt (by omega : j ≤ 100) (by decide), (hPv _ _).mpr ⟨xj.mut nD, ?_⟩⟩
    rw [upd_same, wholeU_succ]
    have e1 := whole_val hj2
    show some (HO.lst (_ ++ [V.int (1 * 2 ^ ((z.length : Int) + 1).toNat - 1 * 2 ^ (0 + (j : Int)).toNat)])) = _
    rw [e1]
  · obtain ⟨xj, ej⟩ := (hPv _ _).mp hJ
    rw [htop, wholeU_all] at ej
    walk_at "rd"
    refine ⟨x, T.a_Stretches, dx, _, rfl, xj _ _ hx1, T.C_Stretches, T.n_Stretches_whole, Nat.lt_of_lt_of_le (Nat.lt_succ_self 1) (by decide), ?_⟩
    refine k _ (fun b o nb e => ?_) ⟨dx, D, upd_same, by rw [upd_ne nx]; exact ej⟩
    rw [upd_ne nb]
    exact xj _ _ (old1 b o nb e)

end
end Lw
end

section
set_option Elab.async false
set_option linter.all false
set_option maxRecDepth 100000
set_option maxHeartbeats 4000000
set_option pp.maxSteps 300
set_option pp.deepTerms false
namespace Lw
open PySem L2 Evl M
open PyProof.Rows hiding St
local macro_rules | `(tactic| walk_at "at") => `(tactic| first | assumption | exact upd_same)
local macro_rules | `(tactic| walk_at "sq") => `(tactic| first | assumption | exact SqL.of (by walk_at "at") | exact SqT.of (by walk_at "at"))
local macro_rules | `(tactic| walk_at "sd") => `(tactic| first | assumption | exact Names.size (by assumption) | omega | decide | exact Nat.le_of_ble_eq_true rfl | exact Or.inl ⟨by decide, by decide⟩ | exact wide_div (b := 200) (by first | assumption | decide) (by first | assumption | decide) (by decide) (by decide) | exact pow_w 10 (by decide) (by decide) (by decide) (by decide))
local macro_rules | `(tactic| walk_at "r1") => `(tactic| first
  | refine ⟨_, rfl, ?_⟩
  | refine ⟨_, _, rfl, rfl, ?_⟩
  | refine And.intro rfl ?_
  | refine ⟨_, _, _, _, rfl, rfl, (by walk_at "sq"), rfl, ?_⟩
  | refine ⟨_, _, _, _, rfl, rfl, (by walk_at "at"), rfl, ?_⟩
  | refine ⟨_, _, rfl, Or.inl (by walk_at "sq"), ?_⟩
  | refine ⟨_, _, rfl, Or.inr (by walk_at "sq"), ?_⟩
  | refine ⟨_, _, rfl, ?_⟩
  | refine Or.inl ⟨_, rfl, ?_⟩
  | refine And.intro (by walk_at "sd") ?_)
local macro_rules | `(tactic| walk_at "rd") => `(tactic| try (walk_at "r1"; walk_at "rd"))
section
variable {P : Program} {w : World} {K : PySem.W.Frag} {mg : Str → Option Value} {base : Heap}
theorem ok_Stretches_met (T : Tx w K mg) (G_holds : FnOk P w K mg base CX0 1 T.a_holds T.d_holds ["table", "start", "end"] sp_holds) :
    FnOk P w K mg base CX0 2 T.a_Stretches_met T.d_Stretches_met ["self", "ahead", "letter", "behind"] (sp_met T.a_Stretches) := by
  refine T.F_Stretches_met.ok sc_Stretches_met (fun vs H Q E h => ?_) (fun cdv A outer s H vs Q E hr h => ?_)
  · obtain ⟨_, _, _, _, _, _, _, _, _, rfl, _⟩ := h
    rfl
  obtain ⟨x, l1, l2, z, c, a, b, ts, us, rfl, hx, hz, e1, t1, e2, t2, k⟩ := h
  refine ⟨_, (pss_cons (ps_set (i := 4) sc_Stretches_met.nd rfl (Or.inl rfl) (pe_op op_rep (pe_lst (pa_cons pe_int pa_nil)) (pe_callB call_len_seq (by rfl) T.b_len (by decide +kernel) (pa_cons (pe_fld (pv 0) rfl) pa_nil))))
   (pss_cons (ps_for PassesOwn.never (by rfl) (M.pi_enumS (by rfl) T.b_enumerate (pa_cons (pe_fld (pv 0) rfl) pa_nil)) (pg_tup (by rfl) (pgs_cons (pg_name (i := 5) sc_Stretches_met.nd rfl (Or.inl rfl)) (pgs_cons (pg_name (i := 6) sc_Stretches_met.nd rfl (Or.inl rfl)) pgs_nil))) (pss_one (ps_if (pt_cmpR op_eq (pv 6) (pv 2) (nomark _)) (pss_cons (ps_set (i := 7) sc_Stretches_met.nd rfl (Or.inl rfl) (pe_ix ix_list (pv 3) (pe_op op_add (pv 5) pe_int) (fun _ _ => rfl)))
   (pss_one (ps_for PassesOwn.never (by rfl) (pi_range1 (by rfl) T.b_range (pa_cons (pe_op op_add (pv 5) pe_int) pa_nil)) (pg_name (i := 8) sc_Stretches_met.nd rfl (Or.inl rfl)) (pss_one (ps_if (pt_val (pe_call G_holds (hr.mono (by omega)) (by rfl) T.g_holds T.F_holds.kp T.b_holds .nil pass0 (pa_cons (pv 1) (pa_cons (pv 8) (pa_cons (pv 5) pa_nil))))) (pss_one (ps_asg (pe_op op_or (pe_ix ix_list (pv 4) (pv 8) (fun _ _ => rfl)) (pv 7)) (pg_sub (pv 4) (pv 8) set_list))) pss_nil))))) pss_nil)))
   (pss_one (ps_ret (pv 4))))), ?_⟩
  obtain ⟨dx, lw, hx1, hw1⟩ := hx
  walk_at "rd"
  intro l0 n0
  have x0 : Ex H (upd H l0 (.lst [.int 0])) := Ex.new n0
  have g0 : upd H l0 (.lst [.int 0]) l0 = some (.lst [.int 0]) := upd_same
  generalize upd H l0 (.lst [.int 0]) = H0 at *
  walk_at "rd"
  refine ⟨x, T.a_Stretches, dx, _, _, rfl, x0 _ _ hx1, T.C_Stretches, T.n_Stretches_whole, rfl, ?_⟩
  walk_at "rd"
  refine ⟨lw, _, rfl, .inl (SqL.of (x0 _ _ hw1)), ?_⟩
  have hwl : (natV (wholeT z.length)).length = z.length + 1 := by rw [natV_len]; simp [wholeT]
  rw [hwl]
  refine ⟨l0, _, _, rfl, rfl, g0, by omega, by omega, ?_, fun lt nlt => ?_⟩
  · have e3 : (((z.length + 1 : Nat) : Int)).toNat = z.length + 1 := by omega
    rw [e3]
    exact Nat.le_trans (by simp; omega : _ ≤ 200) (by decide)
  have e3 : (((z.length + 1 : Nat) : Int)).toNat = z.length + 1 := by omega
  have e4 : (List.replicate (((z.length + 1 : Nat) : Int)).toNat [V.int 0]).flatten = natV (List.replicate (z.length + 1) 0) := by
    rw [e3]
    simp [natV]
  rw [e4]
  have nltH : H lt = none := fresh_back x0 nlt
  have x1 : Ex H (upd H0 lt (.lst (natV (List.replicate (z.length + 1) 0)))) := x0.trans (Ex.new nlt)
  have g1 : upd H0 lt (.lst (natV (List.replicate (z.length + 1) 0))) lt = some (.lst (natV (List.replicate (z.length + 1) 0))) := upd_same
  generalize upd H0 lt (.lst (natV (List.replicate (z.length + 1) 0))) = H1 at *
  have pt0 : Part (codes z) a c b 0 0 (List.replicate (z.length + 1) 0) := by
    have := part0 (codes z) a c b
    rw [codes_len] at this
    exact this
  walk_at "rd"
  refine ⟨x, T.a_Stretches, dx, _, _, rfl, x1 _ _ hx1, T.C_Stretches, T.n_Stretches_row, rfl, ?_⟩
  walk_at "rd"
  obtain ⟨Pv, hPv⟩ : ∃ Pv : Nat → L2.St → Hp → Prop, ∀ i σ G, Pv i σ G ↔ ∃ (o5 o6 o7 o8 : Option V) (tt : List Nat), σ = [some (.ref x), some (.ref l1), some (.str ⟨#[c]⟩), some (.ref l2), some (.ref lt), o5, o6, o7, o8] ∧ Ex H G ∧ G lt = some (.lst (natV tt)) ∧ Part (codes z) a c b i 0 tt := ⟨_, fun _ _ _ => Iff.rfl⟩
  refine for_enumS Pv ((hPv _ _ _).mpr ⟨_, _, _, _, _, rfl, x1, g1, pt0⟩) (fun i c' t σ G hc hT h => ?_) (fun σ G h => ?_)
  · obtain ⟨o5, o6, o7, o8, tt, rfl, xg, gt, pt⟩ := (hPv _ _ _).mp h
    have hcc : (codes z)[i]? = some c' := by unfold codes; rw [Array.getElem?_toList]; exact hc
    have hin : i < z.length := by rw [← codes_len]; exact (List.getElem?_eq_some_iff.mp hcc).1
    have ntl : lt ≠ t := ne_of_none gt hT
    walk_at "rd"
    refine ⟨_, _, rfl, SqT.of upd_same, rfl, ?_⟩
    have xg2 : Ex H (upd G t (.tup [.int (i : Nat), .str ⟨#[c']⟩])) := xg.trans (Ex.new hT)
    have gt2 : upd G t (.tup [.int (i : Nat), .str ⟨#[c']⟩]) lt = some (.lst (natV tt)) := by rw [upd_ne ntl]; exact gt
    generalize upd G t (.tup [.int (i : Nat), .str ⟨#[c']⟩]) = G2 at *
    walk_at "rd"
    refine iteS (fun q1 => ?_) (fun q1 => ?_)
    · have hcx : c' = c := by
        injection q1 with q1
        have := congrArg Array.toList q1
        simpa using this
      subst hcx
      have hus : i + 1 < us.length := by rw [t2.1, codes_len]; omega
      obtain ⟨y, hy⟩ : ∃ y, us[i + 1]? = some y := ⟨_, List.getElem?_eq_getElem hus⟩
      walk_at "rd"
      refine ⟨l2, _, _, _, rfl, rfl, SqL.of (xg2 _ _ e2), (by rw [show ((i : Int) + 1) = ((i + 1 : Nat) : Int) by omega]; exact atI_nat (natV_at hy)), ?_⟩
      walk_at "rd"
      have htop : ((i : Int) + 1).toNat = i + 1 := by omega
      obtain ⟨Pw, hPw⟩ : ∃ Pw : Nat → L2.St → Hp → Prop, ∀ u σ G, Pw u σ G ↔ ∃ (o8 : Option V) (tt : List Nat), σ = [some (.ref x), some (.ref l1), some (.str ⟨#[c']⟩), some (.ref l2), some (.ref lt), some (.int (i : Nat)), some (.str ⟨#[c']⟩), some (.int (y : Nat)), o8] ∧ Ex H G ∧ G lt = some (.lst (natV tt)) ∧ Part (codes z) a c' b i u tt := ⟨_, fun _ _ _ => Iff.rfl⟩
      refine for_range Pw ((hPw _ _ _).mpr ⟨_, tt, rfl, xg2, gt2, pt⟩) (fun u σ G hu h => ?_) (fun σ G h => ?_)
      · obtain ⟨o8', tt', rfl, xg3, gt3, pt3⟩ := (hPw _ _ _).mp h
        have hui : u ≤ i := by omega
        have h0 : (0 + (u : Int)) = ((u : Nat) : Int) := by omega
        have hul : u < ts.length := by rw [t1.1, codes_len]; omega
        obtain ⟨t', ht'⟩ : ∃ t', ts[u]? = some t' := ⟨_, List.getElem?_eq_getElem hul⟩
        have bit := t1.2 u t' ht' i
        have hb1 : decide (u ≤ i ∧ i ≤ (codes z).length) = true := decide_eq_true ⟨hui, by rw [codes_len]; omega⟩
        rw [hb1, Bool.true_and] at bit
        walk_at "rd"
        refine ⟨l1, ts, u, i, t', by rw [h0]; rfl, xg3 _ _ e1, ht', ?_⟩
        rw [bit]
        walk_at "rd"
        refine iteB (fun q2 => ?_) (fun q2 => ?_)
        · have htl : u < tt'.length := by rw [pt3.1, codes_len]; omega
          obtain ⟨w, hw⟩ : ∃ w, tt'[u]? = some w := ⟨_, List.getElem?_eq_getElem htl⟩
          walk_at "rd"
          refine ⟨lt, _, _, _, rfl, rfl, SqL.of gt3, (by rw [h0]; exact atI_nat (natV_at hw)), ?_⟩
          walk_at "rd"
          refine ⟨lt, _, _, u, rfl, rfl, gt3, (by rw [h0]; exact ixN_nat (by rw [natV_len]; exact htl)), ?_⟩
          have e9 := natV_set tt' u w y
          refine (hPw _ _ _).mpr ⟨_, tt'.set u (w ||| y), rfl, xg3.mut nltH, ?_, part_yes pt3 t2 hcc hui q2 hw hy⟩
          rw [upd_same]
          exact congrArg (fun q => some (HO.lst q)) e9
        · walk_at "rd"
          exact (hPw _ _ _).mpr ⟨_, tt', rfl, xg3, gt3, part_no pt3 q2⟩
      · obtain ⟨o8', tt', rfl, xg3, gt3, pt3⟩ := (hPw _ _ _).mp h
        rw [htop] at pt3
        exact (hPv _ _ _).mpr ⟨_, _, _, _, tt', rfl, xg3, gt3, part_next pt3⟩
    · walk_at "rd"
      refine (hPv _ _ _).mpr ⟨_, _, _, _, tt, rfl, xg2, gt2, part_skip pt fun q2 => q1 ?_⟩
      rw [hcc] at q2
      injection q2 with q2
      rw [q2]
  · obtain ⟨o5, o6, o7, o8, tt, rfl, xg, gt, pt⟩ := (hPv _ _ _).mp h
    walk_at "rd"
    have e5 : z.cps.size = (codes z).length := (codes_len z).symm
    rw [e5] at pt
    exact k lt tt G xg nltH gt (part_end pt)

end
end Lw
end

section
set_option Elab.async false
set_option linter.all false
set_option maxRecDepth 100000
set_option maxHeartbeats 4000000
set_option pp.maxSteps 300
set_option pp.deepTerms false
namespace Lw
open PySem L2 Evl M
open PyProof.Rows hiding St
local macro_rules | `(tactic| walk_at "at") => `(tactic| first | assumption | exact upd_same)
local macro_rules | `(tactic| walk_at "sq") => `(tactic| first | assumption | exact SqL.of (by walk_at "at") | exact SqT.of (by walk_at "at"))
local macro_rules | `(tactic| walk_at "sd") => `(tactic| first | assumption | exact Names.size (by assumption) | omega | decide | exact Nat.le_of_ble_eq_true rfl | exact Or.inl ⟨by decide, by decide⟩ | exact wide_div (b := 200) (by first | assumption | decide) (by first | assumption | decide) (by decide) (by decide) | exact pow_w 10 (by decide) (by decide) (by decide) (by decide))
local macro_rules | `(tactic| walk_at "r1") => `(tactic| first
  | refine ⟨_, rfl, ?_⟩
  | refine ⟨_, _, rfl, rfl, ?_⟩
  | refine And.intro rfl ?_
  | refine ⟨_, _, _, _, rfl, rfl, (by walk_at "sq"), rfl, ?_⟩
  | refine ⟨_, _, _, _, rfl, rfl, (by walk_at "at"), rfl, ?_⟩
  | refine ⟨_, _, rfl, Or.inl (by walk_at "sq"), ?_⟩
  | refine ⟨_, _, rfl, Or.inr (by walk_at "sq"), ?_⟩
  | refine ⟨_, _, rfl, ?_⟩
  | refine Or.inl ⟨_, rfl, ?_⟩
  | refine And.intro (by walk_at "sd") ?_)
local macro_rules | `(tactic| walk_at "rd") => `(tactic| try (walk_at "r1"; walk_at "rd"))
section
variable {P : Program} {w : World} {K : PySem.W.Frag} {mg : Str → Option Value} {base : Heap}
theorem ok_table_of_part (T : Tx w K mg) (G_Stretches_met : FnOk P w K mg base CX0 2 T.a_Stretches_met T.d_Stretches_met ["self", "ahead", "letter", "behind"] (sp_met T.a_Stretches)) :
    FnOk P w K mg base CX0 3 T.a_table_of_part T.d_table_of_part ["part", "tables", "asked"] (sp_tpart K T.a_Stretches) := by
  refine T.F_table_of_part.ok sc_table_of_part (fun vs H Q E h => ?_) (fun cdv A outer s H vs Q E hr h => ?_)
  · obtain ⟨_, _, _, _, _, _, _, _, rfl, _⟩ := h
    rfl
  obtain ⟨H0, v, q, l, x, z, xs, rest, rfl, x0, hl0, hd, hok, hS, hz, hL, hxs, k⟩ := h
  refine ⟨_, (pss_cons (ps_set (i := 3) sc_table_of_part.nd rfl (Or.inl rfl) (pe_ix ix_tup (pv 0) pe_int (fun _ _ => rfl)))
   (pss_cons (ps_if (pt_cmpR op_eq (pv 3) pe_str (nomark _)) (pss_one (ps_ret (pe_fld (pv 2) rfl))) pss_nil)
   (pss_cons (ps_set (i := 4) sc_table_of_part.nd rfl (Or.inl rfl) (pe_bm0 PySem.F.plainAttrs_list PySem.F.slot_list_pop PySem.F.type_list_pop mt_pop (pv 1)))
   (pss_cons (ps_if (pt_cmpR op_eq (pv 3) pe_str (nomark _)) (pss_one (ps_ret (pe_lc (own := [("whole", 6), ("told", 7)]) (g := gTup K 2 (gCons (gName 6) (gCons (gName 7) gNil))) (tt := tYes) (by rfl) sc_table_of_part.nd (pi_zip (by rfl) T.b_zip (pa_cons (pe_fld (pv 2) rfl) (pa_cons (pv 4) pa_nil))) (blkOk_by (own := [("whole", 6), ("told", 7)]) (N := ["part", "tables", "asked", "word", "first", "second", "whole", "told", "other"]) (sc := defScope s_table_of_part) (by decide +kernel)) (fun _ _ _ _ _ => (pg_tup (by rfl) (pgs_cons (pg_name (i := 6) sc_table_of_part.nd rfl (Or.inl rfl)) (pgs_cons (pg_name (i := 7) sc_table_of_part.nd rfl (Or.inl rfl)) pgs_nil)))) (fun _ _ _ _ _ => pts_nil) (fun _ _ _ _ _ => (pe_op op_xor (pv 6) (pv 7)))))) pss_nil)
   (pss_cons (ps_set (i := 5) sc_table_of_part.nd rfl (Or.inl rfl) (pe_bm0 PySem.F.plainAttrs_list PySem.F.slot_list_pop PySem.F.type_list_pop mt_pop (pv 1)))
   (pss_cons (ps_if (pt_cmpR op_eq (pv 3) pe_str (nomark _)) (pss_one (ps_ret (pe_lc (own := [("told", 7), ("other", 8)]) (g := gTup K 2 (gCons (gName 7) (gCons (gName 8) gNil))) (tt := tYes) (by rfl) sc_table_of_part.nd (pi_zip (by rfl) T.b_zip (pa_cons (pv 4) (pa_cons (pv 5) pa_nil))) (blkOk_by (own := [("told", 7), ("other", 8)]) (N := ["part", "tables", "asked", "word", "first", "second", "whole", "told", "other"]) (sc := defScope s_table_of_part) (by decide +kernel)) (fun _ _ _ _ _ => (pg_tup (by rfl) (pgs_cons (pg_name (i := 7) sc_table_of_part.nd rfl (Or.inl rfl)) (pgs_cons (pg_name (i := 8) sc_table_of_part.nd rfl (Or.inl rfl)) pgs_nil)))) (fun _ _ _ _ _ => pts_nil) (fun _ _ _ _ _ => (pe_op op_and (pv 7) (pv 8)))))) pss_nil)
   (pss_one (ps_ret (pe_meth (pv 2) T.C_Stretches T.m_Stretches_met G_Stretches_met (hr.mono (by omega)) T.b_Stretches_met .nil pass0 (pa_cons (pv 4) (pa_cons (pe_ix ix_tup (pv 0) pe_int (fun _ _ => rfl)) (pa_cons (pv 5) pa_nil)))))))))))), ?_⟩
  -- a new table at D
  have fin : ∀ (G : Hp) (ys : List V) (D : Addr) (tt : List Nat), Ex H0 G → H0 D = none → G D = some (.lst (natV tt)) → D ≠ l → G l = some (.lst ys) → TAll H0 (codes z) ys rest → (∀ b o, b ≠ l → H b = some o → G b = some o) → IsTab (codes z) q tt → Q (.ref D) G := by
    intro G ys D tt xg hD eD nD gl hys old tab
    refine k _ ys (upd H0 D (.lst (natV tt))) G (Ex.new hD) ?_ (by rw [upd_ne (Ne.symm nD)]; exact hl0) ⟨D, tt, rfl, upd_same, tab⟩ gl (hys.up (Ex.new hD)) old
    intro b o e
    by_cases y : b = D
    · subst y; rw [upd_same] at e; rw [← e]; exact eD
    · rw [upd_ne y] at e; exact xg b o e
  have hS1 := hS.up x0
  obtain ⟨dx, lw, hx1, hw1⟩ := hS1
  have hw0 : ∃ dx, H0 x = some (.ins T.a_Stretches dx [(("row" : Str), V.str z), (("whole" : Str), V.ref lw)]) ∧ H0 lw = some (.lst (natV (wholeT z.length))) := by
    obtain ⟨dx', lw', h1, h2⟩ := hS
    have e := x0 _ _ h1
    rw [hx1] at e
    cases e
    exact ⟨_, h1, h2⟩
  obtain ⟨dx', hx0, hww0⟩ := hw0
  have old1 : ∀ (ys : List V) (b : Addr) (o : HO), b ≠ l → H b = some o → upd H l (.lst ys) b = some o := fun ys b o nb e => by rw [upd_ne nb]; exact e
  have nxl : x ≠ l := ne_of_none hx0 hl0
  have nwl : lw ≠ l := ne_of_none hww0 hl0
  cases q with
  | any =>
    obtain ⟨a, rfl, hx⟩ := da_any hd
    have hx := ex_t x0 hx
    walk_at "rd"
    refine ⟨x, T.a_Stretches, dx, _, _, rfl, hx1, T.C_Stretches, T.n_Stretches_whole, rfl, ?_⟩
    refine k _ xs H0 H (Ex.refl _) x0 hl0 ⟨lw, wholeT z.length, rfl, hww0, ?_⟩ hL (by simpa [Qn.kids] using hxs) (fun b o _ e => e)
    rw [← codes_len]
    exact whole_tab _
  | no r =>
    obtain ⟨a, x', rfl, hx, _⟩ := da_no hd
    have hx := ex_t x0 hx
    have hxs : TAll H0 (codes z) xs (rest ++ [r]) := hxs
    obtain ⟨y, e1, hy, hr1⟩ := hxs.last
    obtain ⟨l1, ts, rfl, f1, t1⟩ := hy
    walk_at "rd"
    refine ⟨.inl ⟨rfl, _, SqL.of hL⟩, l, xs, _, rfl, rfl, hL, e1, ?_⟩
    have xp : Ex H0 (upd H l (.lst xs.dropLast)) := x0.mut hl0
    have gl : upd H l (.lst xs.dropLast) l = some (.lst xs.dropLast) := upd_same
    have oldp := old1 xs.dropLast
    generalize upd H l (.lst xs.dropLast) = H1 at *
    have hx2 := ex_t xp (by assumption : SqT K H0 a _)
    walk_at "rd"
    refine ⟨x, T.a_Stretches, dx', _, _, rfl, xp _ _ hx0, T.C_Stretches, T.n_Stretches_whole, rfl, ?_⟩
    walk_at "rd"
    refine ⟨lw, l1, _, _, rfl, SqL.of (xp _ _ hww0), SqL.of (xp _ _ f1), ?_⟩
    have hwz : IsTab (codes z) (.no r) (List.zipWith (· ^^^ ·) (wholeT z.length) ts) := by rw [← codes_len]; exact not_tab t1
    intro D nD
    have nD0 : H0 D = none := fresh_back xp nD
    have nDl : D ≠ l := fun y => by rw [y, gl] at nD; cases nD
    have lenz : (List.zipWith (· ^^^ ·) (wholeT z.length) ts).length = z.length + 1 := by rw [(hwz).1, codes_len]
    obtain ⟨Pv, hPv⟩ : ∃ Pv : Nat → Hp → Prop, ∀ j J, Pv j J ↔ Ex H1 J ∧ J D = some (.lst (natV ((List.zipWith (· ^^^ ·) (wholeT z.length) ts).take j))) := ⟨_, fun _ _ => Iff.rfl⟩
    refine lc_it (walk_zip (xs := natV ((wholeT z.length))) (ys := natV ts) rfl) Pv ((hPv _ _).mpr ⟨Ex.new nD, upd_same⟩) (fun j J _ hJ => ?_) (fun j y J J' hj hJ hy => ?_) (fun J hJ => ?_)
    · obtain ⟨xj, ej⟩ := (hPv _ _).mp hJ
      exact ⟨SqL.of (xj _ _ (xp _ _ hww0)), SqL.of (xj _ _ (xp _ _ f1))⟩
    · obtain ⟨xj, ej⟩ := (hPv _ _).mp hJ
      obtain ⟨tt, y1, y2, rfl, nt, rfl, h1, h2⟩ := hy
      obtain ⟨n1, g1, rfl⟩ := natV_inv h1
      obtain ⟨n2, g2, rfl⟩ := natV_inv h2
      have ntD : D ≠ tt := ne_of_none ej nt
      have zg := zipw_get (f := fun p q => p ^^^ q) g1 g2
      walk_at "rd"
      refine ⟨_, _, rfl, SqT.of upd_same, rfl, ?_⟩
      walk_at "rd"
      refine ⟨_, (by rw [upd_ne ntD]; exact ej), ?_, (hPv _ _).mpr ⟨(xj.trans (Ex.new nt)).mut nD, ?_⟩⟩
      · rw [natV_len, List.length_take, lenz]
        exact Nat.lt_of_le_of_lt (Nat.le_trans (Nat.min_le_right _ _) (by omega : _ ≤ 200)) (by decide)
      · rw [upd_same, natV_take zg]
        show some (HO.lst (_ ++ [V.int (Builtin.bitXor (n1 : Int) (n2 : Int))])) = _
        rw [xor_nat]
    · obtain ⟨xj, ej⟩ := (hPv _ _).mp hJ
      have full : (List.zipWith (· ^^^ ·) (wholeT z.length) ts).take (min (natV ((wholeT z.length))).length (natV ts).length) = List.zipWith (· ^^^ ·) (wholeT z.length) ts := by
        apply List.take_of_length_le
        rw [List.length_zipWith, natV_len, natV_len]
        exact Nat.le_refl _
      rw [full] at ej
      walk_at "rd"
      exact fin J _ D _ (xp.trans xj) nD0 ej nDl (xj _ _ gl) hr1 (fun b o nb e => xj _ _ (oldp b o nb e)) (hwz)
  | both r t =>
    obtain ⟨a, x', x'', rfl, hx, _⟩ := da_both hd
    have hx := ex_t x0 hx
    have hxs : TAll H0 (codes z) xs ((rest ++ [t]) ++ [r]) := by simpa [Qn.kids] using hxs
    obtain ⟨y, e1, hy, hr1⟩ := hxs.last
    obtain ⟨w2, e2, hw2, hr2⟩ := hr1.last
    obtain ⟨l1, ts, rfl, f1, t1⟩ := hy
    obtain ⟨l2, us, rfl, f2, t2⟩ := hw2
    walk_at "rd"
    refine ⟨.inl ⟨rfl, _, SqL.of hL⟩, l, xs, _, rfl, rfl, hL, e1, ?_⟩
    walk_at "rd"
    refine ⟨.inl ⟨rfl, _, SqL.of upd_same⟩, l, _, _, rfl, rfl, upd_same, e2, ?_⟩
    rw [upd_upd]
    have xp : Ex H0 (upd H l (.lst xs.dropLast.dropLast)) := x0.mut hl0
    have gl : upd H l (.lst xs.dropLast.dropLast) l = some (.lst xs.dropLast.dropLast) := upd_same
    have oldp := old1 xs.dropLast.dropLast
    generalize upd H l (.lst xs.dropLast.dropLast) = H1 at *
    walk_at "rd"
    refine ⟨l1, l2, _, _, rfl, SqL.of (xp _ _ f1), SqL.of (xp _ _ f2), ?_⟩
    have hbz : IsTab (codes z) (.both r t) (List.zipWith (· &&& ·) ts us) := both_tab t1 t2
    intro D nD
    have nD0 : H0 D = none := fresh_back xp nD
    have nDl : D ≠ l := fun y => by rw [y, gl] at nD; cases nD
    have lenz : (List.zipWith (· &&& ·) ts us).length = z.length + 1 := by rw [(hbz).1, codes_len]
    obtain ⟨Pv, hPv⟩ : ∃ Pv : Nat → Hp → Prop, ∀ j J, Pv j J ↔ Ex H1 J ∧ J D = some (.lst (natV ((List.zipWith (· &&& ·) ts us).take j))) := ⟨_, fun _ _ => Iff.rfl⟩
    refine lc_it (walk_zip (xs := natV ts) (ys := natV us) rfl) Pv ((hPv _ _).mpr ⟨Ex.new nD, upd_same⟩) (fun j J _ hJ => ?_) (fun j y J J' hj hJ hy => ?_) (fun J hJ => ?_)
    · obtain ⟨xj, ej⟩ := (hPv _ _).mp hJ
      exact ⟨SqL.of (xj _ _ (xp _ _ f1)), SqL.of (xj _ _ (xp _ _ f2))⟩
    · obtain ⟨xj, ej⟩ := (hPv _ _).mp hJ
      obtain ⟨tt, y1, y2, rfl, nt, rfl, h1, h2⟩ := hy
      obtain ⟨n1, g1, rfl⟩ := natV_inv h1
      obtain ⟨n2, g2, rfl⟩ := natV_inv h2
      have ntD : D ≠ tt := ne_of_none ej nt
      have zg := zipw_get (f := fun p q => p &&& q) g1 g2
      walk_at "rd"
      refine ⟨_, _, rfl, SqT.of upd_same, rfl, ?_⟩
      walk_at "rd"
      refine ⟨_, (by rw [upd_ne ntD]; exact ej), ?_, (hPv _ _).mpr ⟨(xj.trans (Ex.new nt)).mut nD, ?_⟩⟩
      · rw [natV_len, List.length_take, lenz]
        exact Nat.lt_of_le_of_lt (Nat.le_trans (Nat.min_le_right _ _) (by omega : _ ≤ 200)) (by decide)
      · rw [upd_same, natV_take zg]
        show some (HO.lst (_ ++ [V.int (Builtin.bitAnd (n1 : Int) (n2 : Int))])) = _
        rw [and_nat]
    · obtain ⟨xj, ej⟩ := (hPv _ _).mp hJ
      have full : (List.zipWith (· &&& ·) ts us).take (min (natV ts).length (natV us).length) = List.zipWith (· &&& ·) ts us := by
        apply List.take_of_length_le
        rw [List.length_zipWith, natV_len, natV_len]
        exact Nat.le_refl _
      rw [full] at ej
      walk_at "rd"
      exact fin J _ D _ (xp.trans xj) nD0 ej nDl (xj _ _ gl) hr2 (fun b o nb e => xj _ _ (oldp b o nb e)) (hbz)

  | some r c t =>
    obtain ⟨a, x', x'', rfl, hx, _⟩ := da_some hd
    have hx := ex_t x0 hx
    have hxs : TAll H0 (codes z) xs ((rest ++ [t]) ++ [r]) := by simpa [Qn.kids] using hxs
    obtain ⟨y, e1, hy, hr1⟩ := hxs.last
    obtain ⟨w2, e2, hw2, hr2⟩ := hr1.last
    obtain ⟨l1, ts, rfl, f1, t1⟩ := hy
    obtain ⟨l2, us, rfl, f2, t2⟩ := hw2
    walk_at "rd"
    refine ⟨.inl ⟨rfl, _, SqL.of hL⟩, l, xs, _, rfl, rfl, hL, e1, ?_⟩
    walk_at "rd"
    refine ⟨.inl ⟨rfl, _, SqL.of upd_same⟩, l, _, _, rfl, rfl, upd_same, e2, ?_⟩
    rw [upd_upd]
    have xp : Ex H0 (upd H l (.lst xs.dropLast.dropLast)) := x0.mut hl0
    have gl : upd H l (.lst xs.dropLast.dropLast) l = some (.lst xs.dropLast.dropLast) := upd_same
    have oldp := old1 xs.dropLast.dropLast
    have hx2 : SqT K (upd H l (.lst xs.dropLast.dropLast)) a [.str "some", x', .str ⟨#[c]⟩, x''] := ex_t xp (by assumption)
    generalize upd H l (.lst xs.dropLast.dropLast) = H1 at *
    walk_at "rd"
    refine ⟨x, dx', _, rfl, xp _ _ hx0, rfl, ?_⟩
    walk_at "rd"
    refine ⟨x, l1, l2, z, c, r, t, ts, us, rfl, hS.up xp, hz, xp _ _ f1, t1, xp _ _ f2, t2, fun D tt H2 x2 nD eD tab => ?_⟩
    have nDl : D ≠ l := fun y => by rw [y, gl] at nD; cases nD
    exact fin H2 _ D tt (xp.trans x2) (fresh_back xp nD) eD nDl (x2 _ _ gl) hr2 (fun b o nb e => x2 _ _ (oldp b o nb e)) tab

end
end Lw
end

section
set_option Elab.async false
set_option linter.all false
set_option maxRecDepth 100000
set_option maxHeartbeats 4000000
set_option pp.maxSteps 300
set_option pp.deepTerms false
namespace Lw
open PySem L2 Evl M
open PyProof.Rows hiding St
local macro_rules | `(tactic| walk_at "at") => `(tactic| first | assumption | exact upd_same)
local macro_rules | `(tactic| walk_at "sq") => `(tactic| first | assumption | exact SqL.of (by walk_at "at") | exact SqT.of (by walk_at "at"))
local macro_rules | `(tactic| walk_at "sd") => `(tactic| first | assumption | exact Names.size (by assumption) | omega | decide | exact Nat.le_of_ble_eq_true rfl | exact Or.inl ⟨by decide, by decide⟩ | exact wide_div (b := 200) (by first | assumption | decide) (by first | assumption | decide) (by decide) (by decide) | exact pow_w 10 (by decide) (by decide) (by decide) (by decide))
local macro_rules | `(tactic| walk_at "r1") => `(tactic| first
  | refine ⟨_, rfl, ?_⟩
  | refine ⟨_, _, rfl, rfl, ?_⟩
  | refine And.intro rfl ?_
  | refine ⟨_, _, _, _, rfl, rfl, (by walk_at "sq"), rfl, ?_⟩
  | refine ⟨_, _, _, _, rfl, rfl, (by walk_at "at"), rfl, ?_⟩
  | refine ⟨_, _, rfl, Or.inl (by walk_at "sq"), ?_⟩
  | refine ⟨_, _, rfl, Or.inr (by walk_at "sq"), ?_⟩
  | refine ⟨_, _, rfl, ?_⟩
  | refine Or.inl ⟨_, rfl, ?_⟩
  | refine And.intro (by walk_at "sd") ?_)
local macro_rules | `(tactic| walk_at "rd") => `(tactic| try (walk_at "r1"; walk_at "rd"))
section
variable {P : Program} {w : World} {K : PySem.W.Frag} {mg : Str → Option Value} {base : Heap}
theorem ok_table_of (T : Tx w K mg)
    (G_parts_of : FnOk P w K mg base CX0 2 T.a_parts_of T.d_parts_of ["question"] (sp_parts_of K))
    (G_table_of_part : FnOk P w K mg base CX0 3 T.a_table_of_part T.d_table_of_part ["part", "tables", "asked"] (sp_tpart K T.a_Stretches)) :
    FnOk P w K mg base CX0 6 T.a_table_of T.d_table_of ["question", "asked"] (sp_table_of K T.a_Stretches) := by
  refine T.F_table_of.ok sc_table_of (fun vs H Q E h => ?_) (fun cdv A outer s H vs Q E hr h => ?_)
  · obtain ⟨_, _, _, _, _, rfl, _⟩ := h
    rfl
  obtain ⟨H0, v, q, x, z, rfl, x0, hd, hq, hp, hS, hz, k⟩ := h
  refine ⟨_, (pss_cons (ps_set (i := 2) sc_table_of.nd rfl (Or.inl rfl) (pe_lst pa_nil))
   (pss_cons (ps_for PassesOwn.never (by rfl) (pi_reversed (by rfl) T.b_reversed (pa_cons (pe_call G_parts_of (hr.mono (by omega)) (by rfl) T.g_parts_of T.F_parts_of.kp T.b_parts_of .nil pass0 (pa_cons (pv 0) pa_nil)) pa_nil)) (pg_name (i := 3) sc_table_of.nd rfl (Or.inl rfl)) (pss_one (ps_expr (pe_bm PySem.F.plainAttrs_list PySem.F.slot_list_append PySem.F.type_list_append mt_append (pv 2) (pa_cons (pe_call G_table_of_part (hr.mono (by omega)) (by rfl) T.g_table_of_part T.F_table_of_part.kp T.b_table_of_part .nil pass0 (pa_cons (pv 3) (pa_cons (pv 2) (pa_cons (pv 1) pa_nil)))) pa_nil)))))
   (pss_one (ps_ret (pe_bm0 PySem.F.plainAttrs_list PySem.F.slot_list_pop PySem.F.type_list_pop mt_pop (pv 2)))))), ?_⟩
  walk_at "rd"
  intro lt hlt
  have nlt : H lt = none := hlt
  refine ⟨_, rfl, H0, v, q, rfl, x0.trans (Ex.new hlt), hd, hq, hp, fun lp xs H2 x2 hlp e2 hxs => ?_⟩
  have hlt0 : H0 lt = none := fresh_back x0 nlt
  have np : lp ≠ lt := fun z => by rw [z, upd_same] at hlp; cases hlp
  have e3 : H2 lt = some (.lst []) := x2 _ _ upd_same
  have x3 : Ex H H2 := (Ex.new hlt).trans x2
  have hlen := hxs.len
  have hall := Qn.all_len q
  refine ⟨lp, xs, rfl, SqL.of e2, ?_⟩
  refine RT.for_Itv (fun i σ G => ∃ (Hb : Hp) (ys : List V) (ts : List Qn) (o : Option V), σ = [some v, some (.ref x), some (.ref lt), o] ∧ Ex H0 Hb ∧ Ex Hb G ∧ Ex H G ∧ Hb lt = none ∧ G lt = some (.lst ys) ∧ G lp = some (.lst xs) ∧ TAll Hb (codes z) ys ts.reverse ∧
    q.all.drop (xs.length - i) = ts.flatMap Qn.all) ⟨H0, [], [], _, rfl, Ex.refl _, x0.trans x3, x3, hlt0, e3, e2, trivial, by simp [hlen]⟩ (fun i σ G h => ?_) (fun i y σ G hi hx h => ?_) (fun σ G h => ?_)
  · obtain ⟨_, _, _, _, _, _, _, _, _, _, h, _⟩ := h
    exact SqL.of h
  · obtain ⟨Hb, ys, ts, o, rfl, xb, xg, xh, nb, gt, gp, hys, hdrop⟩ := h
    have hj : xs.length - 1 - i < q.all.length := by omega
    have hr2 : q.all.drop (xs.length - (i + 1)) = q.all[xs.length - 1 - i] :: ts.flatMap Qn.all := by
      rw [← hdrop, show xs.length - (i + 1) = xs.length - 1 - i by omega, List.drop_eq_getElem_cons hj, show xs.length - 1 - i + 1 = xs.length - i by omega]
    have hx2 := Qs.at hxs hj hx
    have hmem : q.all[xs.length - 1 - i] ∈ q.all := List.getElem_mem hj
    generalize q.all[xs.length - 1 - i] = r at *
    have hrok := Qn.all_ok hq r hmem
    have hspl : [q].flatMap Qn.all = q.all.take (xs.length - (i + 1)) ++ r :: ts.flatMap Qn.all := by
      rw [← hr2, List.take_append_drop]
      simp
    obtain ⟨S', eS, rest, rfl⟩ := flat_split _ [q] (Nat.le_refl _) _ _ _ hspl
    obtain ⟨rest2, rfl, e5⟩ := flat_inj ts r.kids rest [] eS
    have hys2 : TAll Hb (codes z) ys (rest2.reverse ++ r.kids.reverse) := by simpa using hys
    have hcnt : (rest2.flatMap Qn.all).length + 1 ≤ q.parts := by
      have := congrArg List.length hr2
      simp only [List.length_drop, List.length_cons, List.flatMap_append, List.length_append] at this
      omega
    rw [all_flat] at hcnt
    have hc2 := ptss_len rest2
    walk_at "rd"
    refine ⟨.inl ⟨rfl, _, SqL.of gt⟩, ?_⟩
    walk_at "rd"
    refine ⟨Hb, y, r, lt, x, z, ys, rest2.reverse, rfl, xg, nb, hx2.up xb, hrok, hS.up xb, hz, gt, hys2, fun v' ys' H1' G' xb2 xg2 nb2 hv gt2 hys3 old => ?_⟩
    walk_at "rd"
    have hyl := hys3.len
    refine ⟨lt, ys', v', rfl, rfl, gt2, Nat.lt_of_le_of_lt (by simp at hyl; omega : ys'.length ≤ 1000) (by decide), ?_⟩
    refine ⟨H1', ys' ++ [v'], r :: rest2, _, rfl, xb.trans xb2, xg2.mut nb2, ?_, nb2, upd_same, ?_, ?_, ?_⟩
    · intro b o e
      have nb3 : b ≠ lt := ne_of_none e nlt
      rw [upd_ne nb3]
      exact old b o nb3 (xh b o e)
    · rw [upd_ne np]
      exact old _ _ np gp
    · rw [List.reverse_cons]
      exact hys3.app ⟨hv, trivial⟩
    · rw [hr2, List.flatMap_cons, Qn.all_kids r]
      rw [List.flatMap_append]
      rfl
  · obtain ⟨Hb, ys, ts, o, rfl, xb, xg, xh, nb, gt, gp, hys, hdrop⟩ := h
    have e6 : ts = [q] := flat_one (by rw [← hdrop]; simp)
    subst e6
    obtain ⟨y, f1, f2, f3⟩ := TAll.last (qs := []) (q := q) hys
    obtain ⟨l, tt, rfl, g1, g2⟩ := f2
    walk_at "rd"
    refine ⟨.inl ⟨rfl, _, SqL.of gt⟩, lt, ys, _, rfl, rfl, gt, f1, ?_⟩
    have nl : l ≠ lt := ne_of_none g1 nb
    exact k l tt _ (xh.mut nlt) (by rw [upd_ne nl]; exact xg _ _ g1) g2

end
end Lw
end

section
set_option Elab.async false
set_option linter.all false
set_option maxRecDepth 100000
set_option maxHeartbeats 4000000
set_option pp.maxSteps 300
set_option pp.deepTerms false
namespace Lw
open PySem L2 Evl M
open PyProof.Rows hiding St
local macro_rules | `(tactic| walk_at "at") => `(tactic| first | assumption | exact upd_same)
local macro_rules | `(tactic| walk_at "sq") => `(tactic| first | assumption | exact SqL.of (by walk_at "at") | exact SqT.of (by walk_at "at"))
local macro_rules | `(tactic| walk_at "sd") => `(tactic| first | assumption | exact Names.size (by assumption) | omega | decide | exact Nat.le_of_ble_eq_true rfl | exact Or.inl ⟨by decide, by decide⟩ | exact wide_div (b := 200) (by first | assumption | decide) (by first | assumption | decide) (by decide) (by decide) | exact pow_w 10 (by decide) (by decide) (by decide) (by decide))
local macro_rules | `(tactic| walk_at "r1") => `(tactic| first
  | refine ⟨_, rfl, ?_⟩
  | refine ⟨_, _, rfl, rfl, ?_⟩
  | refine And.intro rfl ?_
  | refine ⟨_, _, _, _, rfl, rfl, (by walk_at "sq"), rfl, ?_⟩
  | refine ⟨_, _, _, _, rfl, rfl, (by walk_at "at"), rfl, ?_⟩
  | refine ⟨_, _, rfl, Or.inl (by walk_at "sq"), ?_⟩
  | refine ⟨_, _, rfl, Or.inr (by walk_at "sq"), ?_⟩
  | refine ⟨_, _, rfl, ?_⟩
  | refine Or.inl ⟨_, rfl, ?_⟩
  | refine And.intro (by walk_at "sd") ?_)
local macro_rules | `(tactic| walk_at "rd") => `(tactic| try (walk_at "r1"; walk_at "rd"))
section
variable {P : Program} {w : World} {K : PySem.W.Frag} {mg : Str → Option Value} {base : Heap}
theorem ok_row_lets (T : Tx w K mg)
    (G_holds : FnOk P w K mg base CX0 1 T.a_holds T.d_holds ["table", "start", "end"] sp_holds)
    (G_Stretches___init__ : FnOk P w K mg base CX0 1 T.a_Stretches___init__ T.d_Stretches___init__ ["self", "row"] (sp_sinit K T.a_Stretches))
    (G_table_of : FnOk P w K mg base CX0 6 T.a_table_of T.d_table_of ["question", "asked"] (sp_table_of K T.a_Stretches)) :
    FnOk P w K mg base CX0 7 T.a_row_lets T.d_row_lets ["row", "question"] (sp_row_lets K) := by
  refine T.F_row_lets.ok sc_row_lets (fun vs H Q E h => ?_) (fun cdv A outer s H vs Q E hr h => ?_)
  · obtain ⟨_, _, _, _, rfl, _⟩ := h
    rfl
  obtain ⟨H0, v, q, z, rfl, x0, hd, hq, hp, hz, hl, k⟩ := h
  refine ⟨_, (pss_one (ps_ret (pe_call G_holds (hr.mono (by omega)) (by rfl) T.g_holds T.F_holds.kp T.b_holds .nil pass0 (pa_cons (pe_call G_table_of (hr.mono (by omega)) (by rfl) T.g_table_of T.F_table_of.kp T.b_table_of .nil pass0 (pa_cons (pv 1) (pa_cons (pe_make T.M_Stretches G_Stretches___init__ (hr.mono (by omega)) (by rfl) T.g_Stretches T.b_Stretches___init__ .nil pass0 (pa_cons (pv 0) pa_nil)) pa_nil))) (pa_cons pe_int (pa_cons (pe_callB call_len_str (by rfl) T.b_len (by decide +kernel) (pa_cons (pv 0) pa_nil)) pa_nil)))))), ?_⟩
  walk_at "rd"
  intro x dx nx ndx hne
  have hx1 : upd (upd H dx (.own x)) x (.ins T.a_Stretches dx []) x = some (.ins T.a_Stretches dx []) := upd_same
  have old1 : ∀ b o, H b = some o → b ≠ x ∧ upd (upd H dx (.own x)) x (.ins T.a_Stretches dx []) b = some o := fun b o e => by
    have n1 : b ≠ x := ne_of_none e nx
    have n2 : b ≠ dx := ne_of_none e ndx
    exact ⟨n1, by rw [upd_ne n1, upd_ne n2]; exact e⟩
  generalize upd (upd H dx (.own x)) x (.ins T.a_Stretches dx []) = H1 at *
  refine ⟨x, dx, z, rfl, hx1, hl, fun H2 old hS => ⟨rfl, ?_⟩⟩
  have x2 : Ex H H2 := fun b o e => by
    obtain ⟨n1, e1⟩ := old1 b o e
    exact old b o n1 e1
  walk_at "rd"
  refine ⟨H2, v, q, x, z, rfl, Ex.refl _, hd.up (x0.trans x2), hq, hp, hS, hl, fun l ts H3 x3 e3 t3 => ?_⟩
  walk_at "rd"
  refine And.intro (Nat.le_trans hl (by decide)) ?_
  have h0 : 0 < ts.length := by rw [t3.1]; omega
  obtain ⟨t, ht⟩ : ∃ t, ts[0]? = some t := ⟨_, List.getElem?_eq_getElem h0⟩
  have last := tab_last t3 ht
  rw [codes_len] at last
  walk_at "rd"
  refine ⟨l, ts, 0, z.length, t, rfl, e3, ht, ?_⟩
  rw [last]
  exact k H3 (x2.trans x3)

end
end Lw
end

section
set_option Elab.async false
set_option linter.all false
set_option maxRecDepth 100000
set_option maxHeartbeats 4000000
set_option pp.maxSteps 300
set_option pp.deepTerms false
namespace Lw
open PySem L2 Evl M
open PyProof.Rows hiding St
local macro_rules | `(tactic| walk_at "at") => `(tactic| first | assumption | exact upd_same)
local macro_rules | `(tactic| walk_at "sq") => `(tactic| first | assumption | exact SqL.of (by walk_at "at") | exact SqT.of (by walk_at "at"))
local macro_rules | `(tactic| walk_at "sd") => `(tactic| first | assumption | exact Names.size (by assumption) | omega | decide | exact Nat.le_of_ble_eq_true rfl | exact Or.inl ⟨by decide, by decide⟩ | exact wide_div (b := 200) (by first | assumption | decide) (by first | assumption | decide) (by decide) (by decide) | exact pow_w 10 (by decide) (by decide) (by decide) (by decide))
local macro_rules | `(tactic| walk_at "r1") => `(tactic| first
  | refine ⟨_, rfl, ?_⟩
  | refine ⟨_, _, rfl, rfl, ?_⟩
  | refine And.intro rfl ?_
  | refine ⟨_, _, _, _, rfl, rfl, (by walk_at "sq"), rfl, ?_⟩
  | refine ⟨_, _, _, _, rfl, rfl, (by walk_at "at"), rfl, ?_⟩
  | refine ⟨_, _, rfl, Or.inl (by walk_at "sq"), ?_⟩
  | refine ⟨_, _, rfl, Or.inr (by walk_at "sq"), ?_⟩
  | refine ⟨_, _, rfl, ?_⟩
  | refine Or.inl ⟨_, rfl, ?_⟩
  | refine And.intro (by walk_at "sd") ?_)
local macro_rules | `(tactic| walk_at "rd") => `(tactic| try (walk_at "r1"; walk_at "rd"))
section
variable {P : Program} {w : World} {K : PySem.W.Frag} {mg : Str → Option Value} {base : Heap}
theorem ok_lets (T : Tx w K mg) (G_check_row : FnOk P w K mg base CX0 2 T.a_check_row T.d_check_row ["row"] sp_check_row)
    (G_check_question : FnOk P w K mg base CX0 5 T.a_check_question T.d_check_question ["question"] (sp_check_question K))
    (G_row_lets : FnOk P w K mg base CX0 7 T.a_row_lets T.d_row_lets ["row", "question"] (sp_row_lets K)) :
    FnOk P w K mg base CX0 8 T.a_lets T.d_lets ["row", "question"] (sp_row_lets K) := by
  refine T.F_lets.ok sc_lets (fun vs H Q E h => ?_) (fun cdv A outer s H vs Q E hr h => ?_)
  · obtain ⟨_, _, _, _, rfl, _⟩ := h
    rfl
  obtain ⟨H0, v, q, z, rfl, x0, hd, hq, hp, hz, hl, k⟩ := h
  refine ⟨_, (pss_cons (ps_expr (pe_call G_check_row (hr.mono (by omega)) (by rfl) T.g_check_row T.F_check_row.kp T.b_check_row .nil pass0 (pa_cons (pv 0) pa_nil)))
   (pss_cons (ps_expr (pe_call G_check_question (hr.mono (by omega)) (by rfl) T.g_check_question T.F_check_question.kp T.b_check_question .nil pass0 (pa_cons (pv 1) pa_nil)))
   (pss_one (ps_ret (pe_call G_row_lets (hr.mono (by omega)) (by rfl) T.g_row_lets T.F_row_lets.kp T.b_row_lets .nil pass0 (pa_cons (pv 0) (pa_cons (pv 1) pa_nil))))))), ?_⟩
  walk_at "rd"
  intro H1 x1
  walk_at "rd"
  refine ⟨H0, v, q, rfl, x0.trans x1, hd, hq, hp, fun H2 x2 => ?_⟩
  walk_at "rd"
  refine ⟨H0, v, q, z, rfl, (x0.trans x1).trans x2, hd, hq, hp, hz, hl, fun H3 x3 => ?_⟩
  exact k H3 ((x1.trans x2).trans x3)

end
end Lw
end

section
set_option Elab.async false
set_option linter.all false
set_option maxRecDepth 100000
set_option maxHeartbeats 4000000
set_option pp.maxSteps 300
set_option pp.deepTerms false
namespace Lw
open PySem L2 Evl M
open PyProof.Rows hiding St
local macro_rules | `(tactic| walk_at "at") => `(tactic| first | assumption | exact upd_same)
local macro_rules | `(tactic| walk_at "sq") => `(tactic| first | assumption | exact SqL.of (by walk_at "at") | exact SqT.of (by walk_at "at"))
local macro_rules | `(tactic| walk_at "sd") => `(tactic| first | assumption | exact Names.size (by assumption) | omega | decide | exact Nat.le_of_ble_eq_true rfl | exact Or.inl ⟨by decide, by decide⟩ | exact wide_div (b := 200) (by first | assumption | decide) (by first | assumption | decide) (by decide) (by decide) | exact pow_w 10 (by decide) (by decide) (by decide) (by decide))
local macro_rules | `(tactic| walk_at "r1") => `(tactic| first
  | refine ⟨_, rfl, ?_⟩
  | refine ⟨_, _, rfl, rfl, ?_⟩
  | refine And.intro rfl ?_
  | refine ⟨_, _, _, _, rfl, rfl, (by walk_at "sq"), rfl, ?_⟩
  | refine ⟨_, _, _, _, rfl, rfl, (by walk_at "at"), rfl, ?_⟩
  | refine ⟨_, _, rfl, Or.inl (by walk_at "sq"), ?_⟩
  | refine ⟨_, _, rfl, Or.inr (by walk_at "sq"), ?_⟩
  | refine ⟨_, _, rfl, ?_⟩
  | refine Or.inl ⟨_, rfl, ?_⟩
  | refine And.intro (by walk_at "sd") ?_)
local macro_rules | `(tactic| walk_at "rd") => `(tactic| try (walk_at "r1"; walk_at "rd"))
section
variable {P : Program} {w : World} {K : PySem.W.Frag} {mg : Str → Option Value} {base : Heap}
theorem ok_is_good_answer (T : Tx w K mg) (G_Kinds_alike : FnOk P w K mg base CX0 16 T.a_Kinds_alike T.d_Kinds_alike ["self", "row", "other_row", "depth"] (sp_kalike P w T.a_Kinds)) :
    FnOk P w K mg base CX0 17 T.a_is_good_answer T.d_is_good_answer ["kinds", "row", "place", "other_row", "other_place", "depth"] (sp_is_good P w T.a_Kinds) := by
  refine T.F_is_good_answer.ok sc_is_good_answer (fun vs H Q E h => ?_) (fun cdv A outer s H vs Q E hr h => ?_)
  · obtain ⟨_, _, _, _, _, _, _, _, rfl, _⟩ := h
    rfl
  obtain ⟨k, Ls, t, d, i, j, y, z, rfl, hK, hdD, hd8, hyS, hzS, hi, hj, q⟩ := h
  refine ⟨_, (pss_cons (ps_if (pt_cmpR op_ne (pe_ix ix_str (pv 1) (pv 2) (fun _ _ => rfl)) (pe_ix ix_str (pv 3) (pv 4) (fun _ _ => rfl)) (nomark _)) (pss_one (ps_ret pe_bl)) pss_nil)
   (pss_cons (ps_if (pt_not (pt_val (pe_meth (pv 0) T.C_Kinds T.m_Kinds_alike G_Kinds_alike (hr.mono (by omega)) T.b_Kinds_alike .nil pass0 (pa_cons (pe_slice sl_str (pv 1) po_none (po_some (pv 2))) (pa_cons (pe_slice sl_str (pv 3) po_none (po_some (pv 4))) (pa_cons (pe_op op_sub (pv 5) pe_int) pa_nil)))))) (pss_one (ps_ret pe_bl)) pss_nil)
   (pss_one (ps_ret (pe_meth (pv 0) T.C_Kinds T.m_Kinds_alike G_Kinds_alike (hr.mono (by omega)) T.b_Kinds_alike .nil pass0 (pa_cons (pe_slice sl_str (pv 1) (po_some (pe_op op_add (pv 2) pe_int)) po_none) (pa_cons (pe_slice sl_str (pv 3) (po_some (pe_op op_add (pv 4) pe_int)) po_none) (pa_cons (pe_op op_sub (pv 5) pe_int) pa_nil)))))))), ?_⟩
  have ly := hK.sub.len _ hyS
  have lz := hK.sub.len _ hzS
  have ey := codes_len y
  have ez := codes_len z
  obtain ⟨cy, hcy⟩ : ∃ c, y.cps[i]? = some c := ⟨_, Array.getElem?_eq_getElem hi⟩
  obtain ⟨cz, hcz⟩ : ∃ c, z.cps[j]? = some c := ⟨_, Array.getElem?_eq_getElem hj⟩
  have gy := codes_at hcy
  have gz := codes_at hcz
  walk_at "rd"
  refine ⟨_, _, cy, rfl, rfl, Nat.le_trans (by omega : y.length ≤ 100) (by decide), (atI_nat gy), ?_⟩
  walk_at "rd"
  refine ⟨_, _, cz, rfl, rfl, Nat.le_trans (by omega : z.length ≤ 100) (by decide), (atI_nat gz), ?_⟩
  have sly : y.length ≤ sizeLine := Nat.le_trans (by omega : y.length ≤ 100) (by decide)
  have slz : z.length ≤ sizeLine := Nat.le_trans (by omega : z.length ≤ 100) (by decide)
  have c1 := codes_cut1 (z := y) (i := i) (by omega)
  have c2 := codes_cut2 (z := y) (i := i + 1) (by omega)
  have c3 := codes_cut1 (z := z) (i := j) (by omega)
  have c4 := codes_cut2 (z := z) (i := j + 1) (by omega)
  walk_at "rd"
  refine iteNS (fun ne => ?_) (fun eq => ?_)
  · refine q false t Ls H hK .refl ⟨fun z => (nomatch z), fun a => ?_⟩
    have := a.1
    rw [gy, gz] at this
    exact absurd (by rw [Option.some.inj this]) ne
  obtain rfl := M.one_inj eq
  walk_at "rd"
  obtain ⟨dx, hins⟩ := hK.ins
  refine ⟨k.x, dx, _, rfl, hins, rfl, ?_⟩
  walk_at "rd"
  refine ⟨k, Ls, t, d, cutS y none (some (i : Int)), cutS z none (some (j : Int)), (by show [V.ref _, V.str _, V.str _, V.int (((d + 1 : Nat) : Int) - 1)] = _; rw [show (((d + 1 : Nat) : Int) - 1) = ((d : Nat) : Int) by omega]), hK, hdD, hd8, by rw [c1]; exact hK.sub.tak _ hyS i, by rw [c3]; exact hK.sub.tak _ hzS j, fun b t1 Ls1 G1 hK1 st1 hb => ?_⟩
  rw [c1, c3] at hb
  walk_at "rd"
  cases b with
  | false =>
    refine iteT ?_
    exact q false t1 Ls1 G1 hK1 st1 ⟨fun z => (nomatch z), fun a => absurd (hb.mpr a.2.2.2.1) (by decide)⟩
  | true =>
    refine iteF ?_
    have h1 := hb.mp rfl
    walk_at "rd"
    obtain ⟨dx1, hins1⟩ := hK1.ins
    refine ⟨k.x, dx1, _, rfl, hins1, rfl, ?_⟩
    walk_at "rd"
    refine ⟨k, Ls1, t1, d, cutS y (some ((i : Int) + 1)) none, cutS z (some ((j : Int) + 1)) none, (by show [V.ref _, V.str _, V.str _, V.int (((d + 1 : Nat) : Int) - 1)] = _; rw [show (((d + 1 : Nat) : Int) - 1) = ((d : Nat) : Int) by omega]), hK1, hdD, hd8, (by
      have : codes (cutS y (some ((i : Int) + 1)) none) = _ := c2
      rw [this]; exact hK.sub.drp _ hyS (i + 1)), (by
      have : codes (cutS z (some ((j : Int) + 1)) none) = _ := c4
      rw [this]; exact hK.sub.drp _ hzS (j + 1)), fun b t2 Ls2 G2 hK2 st2 hb2 => ?_⟩
    have hb2 : b = true ↔ Al d (codes (cutS y (some ((i + 1 : Nat) : Int)) none)) (codes (cutS z (some ((j + 1 : Nat) : Int)) none)) := hb2
    rw [c2, c4] at hb2
    exact q b t2 Ls2 G2 hK2 (Stp.trans hK1 st1 st2) ⟨fun z => ⟨by rw [gy, gz], by omega, by omega, h1, hb2.mp z⟩, fun a => hb2.mpr a.2.2.2.2⟩

end
end Lw
end

section
set_option Elab.async false
set_option linter.all false
set_option maxRecDepth 100000
set_option maxHeartbeats 4000000
set_option pp.maxSteps 300
set_option pp.deepTerms false
namespace Lw
open PySem L2 Evl M
open PyProof.Rows hiding St
local macro_rules | `(tactic| walk_at "at") => `(tactic| first | assumption | exact upd_same)
local macro_rules | `(tactic| walk_at "sq") => `(tactic| first | assumption | exact SqL.of (by walk_at "at") | exact SqT.of (by walk_at "at"))
local macro_rules | `(tactic| walk_at "sd") => `(tactic| first | assumption | exact Names.size (by assumption) | omega | decide | exact Nat.le_of_ble_eq_true rfl | exact Or.inl ⟨by decide, by decide⟩ | exact wide_div (b := 200) (by first | assumption | decide) (by first | assumption | decide) (by decide) (by decide) | exact pow_w 10 (by decide) (by decide) (by decide) (by decide))
local macro_rules | `(tactic| walk_at "r1") => `(tactic| first
  | refine ⟨_, rfl, ?_⟩
  | refine ⟨_, _, rfl, rfl, ?_⟩
  | refine And.intro rfl ?_
  | refine ⟨_, _, _, _, rfl, rfl, (by walk_at "sq"), rfl, ?_⟩
  | refine ⟨_, _, _, _, rfl, rfl, (by walk_at "at"), rfl, ?_⟩
  | refine ⟨_, _, rfl, Or.inl (by walk_at "sq"), ?_⟩
  | refine ⟨_, _, rfl, Or.inr (by walk_at "sq"), ?_⟩
  | refine ⟨_, _, rfl, ?_⟩
  | refine Or.inl ⟨_, rfl, ?_⟩
  | refine And.intro (by walk_at "sd") ?_)
local macro_rules | `(tactic| walk_at "rd") => `(tactic| try (walk_at "r1"; walk_at "rd"))
section
variable {P : Program} {w : World} {K : PySem.W.Frag} {mg : Str → Option Value} {base : Heap}
set_option hygiene false in
local macro_rules | `(tactic| walk_at "tc") => `(tactic| (
  walk_at "rd"
  intro gl ngl
  have nglH : H gl = none := st1.back hK1 ngl
  have outg := hK1.new_out ngl
  have xg := Ex.new (o := .lst []) ngl
  have hKg := hK1.ex xg
  have stg := st1.exx xg
  have elg := xg _ _ el
  have egl : upd G gl (.lst []) gl = some (.lst []) := upd_same
  generalize upd G gl (.lst []) = Gg at *
  walk_at "rd"
  obtain ⟨L, hL⟩ : ∃ L, L = (List.range z.length).filter f := ⟨_, rfl⟩
  rw [← hL] at elg
  have inL : ∀ a ∈ L, a < z.length := fun a ha => by
    rw [hL] at ha
    exact List.mem_range.mp (List.mem_filter.mp ha).1
  have lenL : L.length ≤ z.length := by rw [hL]; exact hfew
  have nl2 : gl ≠ l := fun h => by rw [← h, ngl] at el; exact nomatch el
  obtain ⟨Pf, hPf⟩ : ∃ Pf : Nat → L2.St → Hp → Prop, ∀ j σ J, Pf j σ J ↔ ∃ (o10 : Option V) (t' : KTab) (Ls' : List Addr), σ = [some (.ref k.x), some (.str y), some (.int (i : Nat)), some (.str z), some (.int ((d + 1 : Nat) : Int)), some (.ref l), some (.int (e : Nat)), o7, o8, some (.ref gl), o10, o11] ∧
    KS P w T.a_Kinds k Ls' J t' ∧ Stp k Ls H t Ls' J t' ∧ gl ∉ Ls' ∧ J l = some (.lst (natsV L)) ∧ J gl = some (.lst (natsV ((L.take j).filter (ansB d (codes y) (codes z) i)))) := ⟨_, fun _ _ _ => Iff.rfl⟩
  refine ⟨⟨_, SqL.of elg⟩, ?_⟩
  refine for_list (xs := natsV L) Pf ((hPf _ _ _).mpr ⟨_, t1, Ls1, rfl, hKg, stg, outg.2.2, elg, egl⟩) (fun j σ J hj h => ?_) (fun j x σ J hx h => ?_) (fun σ J h => ?_)
  · obtain ⟨_, _, _, _, _, _, _, h, _⟩ := (hPf _ _ _).mp h
    exact SqL.of h
  · obtain ⟨o10, t2, Ls2, rfl, hK2, st2, fr, elj, egj⟩ := (hPf _ _ _).mp h
    obtain ⟨a, ha, rfl⟩ := natsV_at hx
    have haz := inL a (List.mem_of_getElem? ha)
    walk_at "rd"
    refine ⟨k, Ls2, t2, d, i, a, y, z, rfl, hK2, hdD, hd8, hyS, hzS, hi, haz, fun b t3 Ls3 J3 hK3 st3 hb => ?_⟩
    have hb : ansB d (codes y) (codes z) i a = b := Bool.eq_iff_iff.mpr (ansB_iff.trans hb.symm)
    have fs := filt_succ (f := ansB d (codes y) (codes z) i) ha
    rw [hb] at fs
    have fr3 := st3.fresh fr (by rw [egj]; exact nofun)
    have elj3 := st3.old _ _ out1 elj
    have egj3 := st3.old _ _ outg.1 egj
    have st23 := Stp.trans hK2 st2 st3
    walk_at "rd"
    cases b with
    | true =>
      refine iteT ?_
      walk_at "rd"
      rw [if_pos rfl] at fs
      refine ⟨.inl ⟨rfl, _, SqL.of egj3⟩, _, rfl, gl, _, _, rfl, rfl, egj3, ?_, (hPf _ _ _).mpr ⟨_, t3, Ls3, rfl, hK3.mut outg.1 outg.2.1 fr3 (fun ys q => by rw [egj3] at q; exact nomatch q), st23.mut nglH, fr3, by rw [upd_ne (Ne.symm nl2)]; exact elj3, by rw [upd_same, natsV_snoc, fs]⟩⟩
      have e1 := List.length_filter_le (ansB d (codes y) (codes z) i) (L.take j)
      have e2 : (L.take j).length ≤ L.length := by rw [List.length_take]; omega
      rw [natsV_len, sizeLine_eq]
      omega
    | false =>
      refine iteF ?_
      rw [if_neg (by decide), List.append_nil] at fs
      exact (hPf _ _ _).mpr ⟨_, t3, Ls3, rfl, hK3, st23, fr3, elj3, by rw [fs]; exact egj3⟩
  · obtain ⟨o10, t2, Ls2, rfl, hK2, st2, fr, elj, egj⟩ := (hPf _ _ _).mp h
    rw [natsV_len, List.take_length, hL, ez', good_of hf] at egj
    walk_at "rd"
    exact q gl t2 Ls2 J hK2 st2 nglH egj))
theorem ok_good_answers_to (T : Tx w K mg) (G_Kinds_places : FnOk P w K mg base CX0 14 T.a_Kinds_places T.d_Kinds_places ["self", "row", "depth"] (sp_places P w T.a_Kinds))
    (G_is_good_answer : FnOk P w K mg base CX0 17 T.a_is_good_answer T.d_is_good_answer ["kinds", "row", "place", "other_row", "other_place", "depth"] (sp_is_good P w T.a_Kinds)) :
    FnOk P w K mg base CX0 18 T.a_good_answers_to T.d_good_answers_to ["kinds", "row", "place", "other_row", "depth"] (sp_good P w T.a_Kinds) := by
  refine T.F_good_answers_to.ok sc_good_answers_to (fun vs H Q E h => ?_) (fun cdv A outer s H vs Q E hr h => ?_)
  · obtain ⟨_, _, _, _, _, _, _, rfl, _⟩ := h
    rfl
  obtain ⟨k, Ls, t, d, i, y, z, rfl, hK, hdD, hd8, hyS, hzS, hi, lowy, lowz, q⟩ := h
  refine ⟨_, (pss_cons (ps_set (i := 5) sc_good_answers_to.nd rfl (Or.inl rfl) (pe_listRg (by rfl) (by rfl) T.b_list (prg_1 (by rfl) T.b_range (pe_callB call_len_str (by rfl) T.b_len (by decide +kernel) (pa_cons (pv 3) pa_nil)))))
   (pss_cons (ps_set (i := 6) sc_good_answers_to.nd rfl (Or.inl rfl) pe_int)
   (pss_cons (ps_while PassesOwn.never (pw_and (pt_cmpR op_gt (pe_callB call_len_seq (by rfl) T.b_len (by decide +kernel) (pa_cons (pv 5) pa_nil)) pe_int (nomark _)) (pw_and1 (pt_cmpR op_lt (pv 6) (pe_op op_sub (pv 4) pe_int) (nomark _)))).pt (pss_cons (ps_set (i := 7) sc_good_answers_to.nd rfl (Or.inr rfl) (pe_ix ix_list (pe_meth (pv 0) T.C_Kinds T.m_Kinds_places G_Kinds_places (hr.mono (by omega)) T.b_Kinds_places .nil pass0 (pa_cons (pv 1) (pa_cons (pv 6) pa_nil))) (pv 2) (fun _ _ => rfl)))
   (pss_cons (ps_set (i := 8) sc_good_answers_to.nd rfl (Or.inr rfl) (pe_meth (pv 0) T.C_Kinds T.m_Kinds_places G_Kinds_places (hr.mono (by omega)) T.b_Kinds_places .nil pass0 (pa_cons (pv 3) (pa_cons (pv 6) pa_nil))))
   (pss_cons (ps_setLc (i := 5) (own := [("at", 11)]) (g := gName 11) (by rfl) sc_good_answers_to.nd rfl rfl (sw_true rfl rfl rfl (by decide +kernel)) (pi_list (pv 5)) (blkOk_by (own := [("at", 11)]) (N := ["kinds", "row", "place", "other_row", "depth", "left", "lesser_depth", "wanted", "marks", "good", "other_place", "at"]) (sc := defScope s_good_answers_to) (by decide +kernel)) (fun _ _ _ _ _ => (pg_name (i := 11) sc_good_answers_to.nd rfl (Or.inl rfl))) (fun _ _ _ _ _ => (pts_one (pt_cmpR (show OpR _ (compareOp .Eq) (rEqD K) from op_eqD hr.units) (pe_ix (show IxR _ (rIxL K) from ix_list) (pv 8) (pv 11) (fun _ _ => rfl)) (pv 7) (nomark _)))) (fun _ _ _ _ _ => (pv 11)))
   (pss_one (ps_aug (i := 6) sc_good_answers_to.nd rfl (Or.inl rfl) pe_int ip_add))))))
   (pss_cons (ps_set (i := 9) sc_good_answers_to.nd rfl (Or.inl rfl) (pe_lst pa_nil))
   (pss_cons (ps_for PassesOwn.never (by rfl) (pi_list (pv 5)) (pg_name (i := 10) sc_good_answers_to.nd rfl (Or.inl rfl)) (pss_one (ps_if (pt_val (pe_call G_is_good_answer (hr.mono (by omega)) (by rfl) T.g_is_good_answer T.F_is_good_answer.kp T.b_is_good_answer .nil pass0 (pa_cons (pv 0) (pa_cons (pv 1) (pa_cons (pv 2) (pa_cons (pv 3) (pa_cons (pv 10) (pa_cons (pv 4) pa_nil)))))))) (pss_one (ps_expr (pe_bm PySem.F.plainAttrs_list PySem.F.slot_list_append PySem.F.type_list_append mt_append (pv 9) (pa_cons (pv 10) pa_nil)))) pss_nil)))
   (pss_one (ps_ret (pv 9)))))))), ?_⟩
  have ly := hK.sub.len _ hyS
  have lz := hK.sub.len _ hzS
  have ey := codes_len y
  have ez := codes_len z
  have ez' : z.length = (codes z).length := ez.symm
  have slz : z.length ≤ sizeLine := Nat.le_trans (by omega : z.length ≤ 100) (by decide)
  walk_at "rd"
  refine ⟨.of_le (by omega) (by omega) (by omega) (by omega), fun l nl => ?_⟩
  rw [rgV_nats]
  have out0 := hK.new_out nl
  have xl := Ex.new (o := .lst (natsV ((List.range z.length).filter fun _ => true))) nl
  have el : upd H l (.lst (natsV ((List.range z.length).filter fun _ => true))) l = some (.lst (natsV ((List.range z.length).filter fun _ => true))) := upd_same
  generalize upd H l (.lst (natsV ((List.range z.length).filter fun _ => true))) = H0 at *
  walk_at "rd"
  obtain ⟨Pv, hPv⟩ : ∃ Pv : Nat → L2.St → Hp → Prop, ∀ m σ G, Pv m σ G ↔ ∃ (e : Nat) (f : Nat → Bool) (l : Addr) (o7 o8 o9 o10 o11 : Option V) (t' : KTab) (Ls' : List Addr), m = d - e ∧ e ≤ d ∧ σ = [some (.ref k.x), some (.str y), some (.int (i : Nat)), some (.str z), some (.int ((d + 1 : Nat) : Int)), some (.ref l), some (.int (e : Nat)), o7, o8, o9, o10, o11] ∧
    KS P w T.a_Kinds k Ls' G t' ∧ Stp k Ls H t Ls' G t' ∧ l ∉ k.A.all ∧ G l = some (.lst (natsV ((List.range z.length).filter f))) ∧ (∀ j, Ans d (codes y) (codes z) i j → f j = true) := ⟨_, fun _ _ _ => Iff.rfl⟩
  refine ⟨Pv, ⟨_, (hPv _ _ _).mpr ⟨0, fun _ => true, l, _, _, _, _, _, t, Ls, rfl, Nat.zero_le _, rfl, hK.ex xl, Stp.ex xl, out0.1, el, fun _ _ => rfl⟩⟩, ?_⟩
  rintro m σ G h
  obtain ⟨e, f, l, o7, o8, o9, o10, o11, t1, Ls1, rfl, he, rfl, hK1, st1, out1, el, hf⟩ := (hPv _ _ _).mp h
  have hfew := filt_few z.length f
  walk_at "rd"
  refine iteD (fun h1 => ?_) (fun h1 => ?_)
  · walk_at "rd"
    refine iteD (fun h2 => ?_) (fun h2 => ?_)
    · have hed : e < d := by omega
      obtain ⟨dx, hins⟩ := hK1.ins
      refine ⟨fun σ' G' => ∃ m', m' < d - e ∧ Pv m' σ' G', fun _ _ h => h, ?_⟩
      walk_at "rd"
      refine ⟨k.x, dx, _, rfl, hins, rfl, ?_⟩
      walk_at "rd"
      refine ⟨k, Ls1, t1, e, y, rfl, hK1, by omega, by omega, hyS, fun lm rs ms t2 Ls2 G2 hK2 st2 hlm elm tlm plm => ?_⟩
      have hil : i < ms.length := by rw [plm.1]; omega
      obtain ⟨m1, hm1⟩ : ∃ m1, ms[i]? = some m1 := ⟨_, List.getElem?_eq_getElem hil⟩
      obtain ⟨a1, ha1, oa1⟩ := tlm.at hm1
      walk_at "rd"
      refine ⟨lm, rs, _, _, rfl, rfl, SqL.of elm, atI_nat ha1, ?_⟩
      obtain ⟨dx2, hins2⟩ := hK2.ins
      walk_at "rd"
      refine ⟨k.x, dx2, _, rfl, hins2, rfl, ?_⟩
      walk_at "rd"
      refine ⟨k, Ls2, t2, e, z, rfl, hK2, by omega, by omega, hzS, fun ln rs2 ns t3 Ls3 G3 hK3 st3 hln eln tln pln => ?_⟩
      have oa1 := st3.tk hK2 _ _ oa1
      have stAll := Stp.trans hK2 (Stp.trans hK1 st1 st2) st3
      have el3 := st3.old _ _ out1 (st2.old _ _ out1 el)
      walk_at "rd"
      refine ⟨⟨_, SqL.of el3⟩, fun D nD => ?_⟩
      have nDH : H D = none := stAll.back hK3 nD
      have outD := hK3.new_out nD
      have xD := Ex.new (o := .lst []) nD
      obtain ⟨L, hL⟩ : ∃ L, L = (List.range z.length).filter f := ⟨_, rfl⟩
      rw [← hL] at el3
      have inL : ∀ a ∈ L, a < z.length := fun a ha => by
        rw [hL] at ha
        exact List.mem_range.mp (List.mem_filter.mp ha).1
      obtain ⟨g, hg⟩ : ∃ g : Nat → Bool, ∀ j n, ns[j]? = some n → (g j = decide (n = m1)) := ⟨fun j => decide (ns[j]? = some m1), fun j n h => by
        show decide (ns[j]? = some m1) = _
        rw [h]; simp⟩
      obtain ⟨Pc, hPc⟩ : ∃ Pc : Nat → Hp → Prop, ∀ j J, Pc j J ↔ Ex G3 J ∧ J D = some (.lst (natsV ((L.take j).filter g))) := ⟨_, fun _ _ => Iff.rfl⟩
      have lenL : L.length ≤ z.length := by rw [hL]; exact hfew
      refine lc_list (xs := natsV L) Pc ((hPc _ _).mpr ⟨xD, upd_same⟩) (fun j J hj h => SqL.of (((hPc _ _).mp h).1 _ _ (by rw [el3]))) (fun j x J hx h => ?_) (fun J h => ?_)
      · obtain ⟨a, ha, rfl⟩ := natsV_at hx
        obtain ⟨xJ, eJ⟩ := (hPc _ _).mp h
        have haz := inL a (List.mem_of_getElem? ha)
        obtain ⟨n1, hn1⟩ : ∃ n1, ns[a]? = some n1 := ⟨_, List.getElem?_eq_getElem (by rw [pln.1]; omega)⟩
        obtain ⟨b1, hb1, ob1⟩ := tln.at hn1
        walk_at "rd"
        refine ⟨ln, rs2, _, _, rfl, rfl, SqL.of (xJ _ _ eln), atI_nat hb1, ?_⟩
        walk_at "rd"
        refine ⟨tripD n1, tripD m1, dp_trip (xJ _ _ ob1), dp_trip (xJ _ _ oa1), shaped_trip (lowz _ (List.mem_of_getElem? (pln.2 _ _ _ _ hn1).1)), shaped_trip (lowy _ (List.mem_of_getElem? (plm.2 _ _ _ _ hm1).1)), ?_⟩
        rw [eqv_trip, ← hg _ _ hn1]
        have fs := filt_succ (f := g) ha
        walk_at "rd"
        cases hga : g a with
        | true =>
          refine iteT ?_
          walk_at "rd"
          rw [hga, if_pos rfl] at fs
          refine ⟨_, eJ, ?_, (hPc _ _).mpr ⟨xJ.mut nD, by rw [upd_same, natsV_snoc, fs]⟩⟩
          have e1 := List.length_filter_le g (L.take j)
          have e2 : (L.take j).length ≤ L.length := by rw [List.length_take]; omega
          rw [natsV_len, sizeLine_eq]
          omega
        | false =>
          refine iteF ?_
          rw [hga, if_neg (by decide), List.append_nil] at fs
          exact (hPc _ _).mpr ⟨xJ, by rw [fs]; exact eJ⟩
      · obtain ⟨xJ, eJ⟩ := (hPc _ _).mp h
        rw [natsV_len, List.take_length] at eJ
        walk_at "rd"
        rw [hL, List.filter_filter] at eJ
        refine ⟨d - (e + 1), by omega, (hPv _ _ _).mpr ⟨e + 1, _, D, _, _, _, _, _, t3, Ls3, rfl, by omega, rfl, hK3.ex xJ, stAll.exx xJ, outD.1, eJ, fun j hj => ?_⟩⟩
        have hjz : j < (codes z).length := hj.2.2.1
        obtain ⟨n1, hn1⟩ : ∃ n1, ns[j]? = some n1 := ⟨_, List.getElem?_eq_getElem (by rw [pln.1]; omega)⟩
        rw [hf j hj, hg _ _ hn1, marks_same hK3.tok (plm.up st3.grows) pln hm1 hn1 (by omega) hj]
        simp
    · have := h2
      walk_at "tc"
  · have := h1
    walk_at "tc"

end
end Lw
end

section
set_option Elab.async false
set_option linter.all false
set_option maxRecDepth 100000
set_option maxHeartbeats 4000000
set_option pp.maxSteps 300
set_option pp.deepTerms false
namespace Lw
open PySem L2 Evl M
open PyProof.Rows hiding St
local macro_rules | `(tactic| walk_at "at") => `(tactic| first | assumption | exact upd_same)
local macro_rules | `(tactic| walk_at "sq") => `(tactic| first | assumption | exact SqL.of (by walk_at "at") | exact SqT.of (by walk_at "at"))
local macro_rules | `(tactic| walk_at "sd") => `(tactic| first | assumption | exact Names.size (by assumption) | omega | decide | exact Nat.le_of_ble_eq_true rfl | exact Or.inl ⟨by decide, by decide⟩ | exact wide_div (b := 200) (by first | assumption | decide) (by first | assumption | decide) (by decide) (by decide) | exact pow_w 10 (by decide) (by decide) (by decide) (by decide))
local macro_rules | `(tactic| walk_at "r1") => `(tactic| first
  | refine ⟨_, rfl, ?_⟩
  | refine ⟨_, _, rfl, rfl, ?_⟩
  | refine And.intro rfl ?_
  | refine ⟨_, _, _, _, rfl, rfl, (by walk_at "sq"), rfl, ?_⟩
  | refine ⟨_, _, _, _, rfl, rfl, (by walk_at "at"), rfl, ?_⟩
  | refine ⟨_, _, rfl, Or.inl (by walk_at "sq"), ?_⟩
  | refine ⟨_, _, rfl, Or.inr (by walk_at "sq"), ?_⟩
  | refine ⟨_, _, rfl, ?_⟩
  | refine Or.inl ⟨_, rfl, ?_⟩
  | refine And.intro (by walk_at "sd") ?_)
local macro_rules | `(tactic| walk_at "rd") => `(tactic| try (walk_at "r1"; walk_at "rd"))
section
variable {P : Program} {w : World} {K : PySem.W.Frag} {mg : Str → Option Value} {base : Heap}
theorem ok_picks_without_answer (T : Tx w K mg) (G_good_answers_to : FnOk P w K mg base CX0 18 T.a_good_answers_to T.d_good_answers_to ["kinds", "row", "place", "other_row", "depth"] (sp_good P w T.a_Kinds)) :
    FnOk P w K mg base CX0 19 T.a_picks_without_answer T.d_picks_without_answer ["kinds", "row", "other_row", "depth"] (sp_picks P w T.a_Kinds) := by
  refine T.F_picks_without_answer.ok sc_picks_without_answer (fun vs H Q E h => ?_) (fun cdv A outer s H vs Q E hr h => ?_)
  · obtain ⟨_, _, _, _, _, _, rfl, _⟩ := h
    rfl
  obtain ⟨k, Ls, t, d, y, z, rfl, hK, hdD, hd8, hyS, hzS, lowy, lowz, q⟩ := h
  refine ⟨_, (pss_cons (ps_set (i := 4) sc_picks_without_answer.nd rfl (Or.inl rfl) (pe_lst pa_nil))
   (pss_cons (ps_for PassesOwn.never (by rfl) (pi_tup (pe_tup (pa_cons (pe_tup (pa_cons pe_int (pa_cons (pv 1) (pa_cons (pv 2) pa_nil)))) (pa_cons (pe_tup (pa_cons pe_int (pa_cons (pv 2) (pa_cons (pv 1) pa_nil)))) pa_nil)))) (pg_tup (by rfl) (pgs_cons (pg_name (i := 5) sc_picks_without_answer.nd rfl (Or.inl rfl)) (pgs_cons (pg_name (i := 6) sc_picks_without_answer.nd rfl (Or.inl rfl)) (pgs_cons (pg_name (i := 7) sc_picks_without_answer.nd rfl (Or.inl rfl)) pgs_nil)))) (pss_one (ps_for PassesOwn.never (by rfl) (pi_range1 (by rfl) T.b_range (pa_cons (pe_callB call_len_str (by rfl) T.b_len (by decide +kernel) (pa_cons (pv 6) pa_nil)) pa_nil)) (pg_name (i := 8) sc_picks_without_answer.nd rfl (Or.inl rfl)) (pss_one (ps_if (pt_not (pt_truth (pe_call G_good_answers_to (hr.mono (by omega)) (by rfl) T.g_good_answers_to T.F_good_answers_to.kp T.b_good_answers_to .nil pass0 (pa_cons (pv 0) (pa_cons (pv 6) (pa_cons (pv 8) (pa_cons (pv 7) (pa_cons (pv 3) pa_nil)))))) (by intro _; rfl))) (pss_one (ps_expr (pe_bm PySem.F.plainAttrs_list PySem.F.slot_list_append PySem.F.type_list_append mt_append (pv 4) (pa_cons (pe_tup (pa_cons (pv 5) (pa_cons (pv 8) pa_nil))) pa_nil)))) pss_nil)))))
   (pss_one (ps_ret (pv 4))))), ?_⟩
  have ly := hK.sub.len _ hyS
  have lz := hK.sub.len _ hzS
  have ey := codes_len y
  have ez := codes_len z
  walk_at "rd"
  intro pl npl
  have outp := hK.new_out npl
  have x1 := Ex.new (o := .lst []) npl
  have hK1 := hK.ex x1
  have epl : upd H pl (.lst []) pl = some (.lst []) := upd_same
  generalize upd H pl (.lst []) = H1 at *
  walk_at "rd"
  intro t0 nt0
  have x2 := Ex.new (o := .tup [.int 0, .str y, .str z]) nt0
  have et0 : upd H1 t0 (.tup [.int 0, .str y, .str z]) t0 = some (.tup [.int (0 : Nat), .str y, .str z]) := upd_same
  generalize upd H1 t0 (.tup [.int 0, .str y, .str z]) = H2 at *
  walk_at "rd"
  intro t1 nt1
  have x3 := Ex.new (o := .tup [.int 1, .str z, .str y]) nt1
  have et1 : upd H2 t1 (.tup [.int 1, .str z, .str y]) t1 = some (.tup [.int (1 : Nat), .str z, .str y]) := upd_same
  generalize upd H2 t1 (.tup [.int 1, .str z, .str y]) = H3 at *
  walk_at "rd"
  intro tt ntt
  have x4 := Ex.new (o := .tup [.ref t0, .ref t1]) ntt
  have ett : upd H3 tt (.tup [.ref t0, .ref t1]) tt = some (.tup [.ref t0, .ref t1]) := upd_same
  generalize upd H3 tt (.tup [.ref t0, .ref t1]) = H4 at *
  have x24 := x2.trans (x3.trans x4)
  have epl4 := x24 _ _ epl
  have et0 := x4 _ _ (x3 _ _ et0)
  have et1 := x4 _ _ et1
  have hK4 := hK1.ex x24
  have st4 : Stp k Ls H t Ls H4 t := Stp.ex (x1.trans x24)
  walk_at "rd"
  obtain ⟨Pv, hPv⟩ : ∃ Pv : Nat → L2.St → Hp → Prop, ∀ i σ G, Pv i σ G ↔ ∃ (o5 o6 o7 o8 : Option V) (rs : List V) (t' : KTab) (Ls' : List Addr), σ = [some (.ref k.x), some (.str y), some (.str z), some (.int ((d + 1 : Nat) : Int)), some (.ref pl), o5, o6, o7, o8] ∧
    KS P w T.a_Kinds k Ls' G t' ∧ Stp k Ls H t Ls' G t' ∧ pl ∉ Ls' ∧ G pl = some (.lst rs) ∧ Prs G rs (prog d (codes y) (codes z) i) ∧ Tk H4 G := ⟨_, fun _ _ _ => Iff.rfl⟩
  refine ⟨⟨_, SqT.of ett⟩, for_tup (xs := [.ref t0, .ref t1]) Pv ((hPv _ _ _).mpr ⟨_, _, _, _, [], t, Ls, rfl, hK4, st4, outp.2.2, epl4, .nil, fun _ _ e => e⟩) (fun i σ G hi h => ?_) (fun i x σ G hx h => ?_) (fun σ G h => ?_)⟩
  · obtain ⟨_, _, _, _, _, _, _, _, _, _, _, _, _, tk⟩ := (hPv _ _ _).mp h
    exact SqT.of (tk _ _ ett)
  · obtain ⟨o5, o6, o7, o8, rs, t', Ls', rfl, hKi, sti, fr, ep, hps, tk⟩ := (hPv _ _ _).mp h
    obtain ⟨a, sd, u, v, rfl, ea, hyp⟩ : ∃ (a : Addr) (sd : Nat) (u v : Str), x = .ref a ∧ H4 a = some (.tup [.int (sd : Nat), .str u, .str v]) ∧ ((i = 0 ∧ sd = 0 ∧ u = y ∧ v = z) ∨ (i = 1 ∧ sd = 1 ∧ u = z ∧ v = y)) := by
      match i, hx with
      | 0, hx => exact ⟨t0, 0, y, z, (Option.some.inj hx).symm, et0, .inl ⟨rfl, rfl, rfl, rfl⟩⟩
      | 1, hx => exact ⟨t1, 1, z, y, (Option.some.inj hx).symm, et1, .inr ⟨rfl, rfl, rfl, rfl⟩⟩
    have huv : codes u ∈ k.S ∧ codes v ∈ k.S ∧ (∀ c ∈ codes u, c < 1114112) ∧ (∀ c ∈ codes v, c < 1114112) := by
      rcases hyp with ⟨_, _, rfl, rfl⟩ | ⟨_, _, rfl, rfl⟩
      · exact ⟨hyS, hzS, lowy, lowz⟩
      · exact ⟨hzS, hyS, lowz, lowy⟩
    have hprog : prog d (codes y) (codes z) (i + 1) = prog d (codes y) (codes z) i ++ side sd d (codes u) (codes v) := by
      rcases hyp with ⟨rfl, rfl, rfl, rfl⟩ | ⟨rfl, rfl, rfl, rfl⟩
      · rfl
      · rfl
    have hfew : (prog d (codes y) (codes z) i).length ≤ 100 := by
      rcases hyp with ⟨rfl, rfl, rfl, rfl⟩ | ⟨rfl, rfl, rfl, rfl⟩
      · exact Nat.zero_le _
      · exact Nat.le_trans side_len (by omega)
    obtain ⟨pre, hpre⟩ : ∃ pre, pre = prog d (codes y) (codes z) i := ⟨_, rfl⟩
    rw [← hpre] at hprog hfew hps
    clear hyp
    obtain ⟨huS, hvS, lowu, lowv⟩ := huv
    have lu := hK.sub.len _ huS
    have lv := hK.sub.len _ hvS
    have eu := codes_len u
    have ev := codes_len v
    walk_at "rd"
    refine ⟨_, _, rfl, SqT.of (tk _ _ ea), rfl, ?_⟩
    walk_at "rd"
    have slu : u.length ≤ sizeLine := Nat.le_trans (by omega : u.length ≤ 100) (by decide)
    have ra := r62a u.length
    have rb := r62b (d := u.length) (by omega)
    have htop : ((u.length : Nat) : Int).toNat = u.length := by omega
    refine ⟨slu, ?_⟩
    refine ⟨_, rfl, ra, rb, ?_⟩
    clear ra rb
    obtain ⟨Pi, hPi⟩ : ∃ Pi : Nat → L2.St → Hp → Prop, ∀ j σ G, Pi j σ G ↔ ∃ (o8 : Option V) (rs : List V) (t' : KTab) (Ls' : List Addr), σ = [some (.ref k.x), some (.str y), some (.str z), some (.int ((d + 1 : Nat) : Int)), some (.ref pl), some (.int (sd : Nat)), some (.str u), some (.str v), o8] ∧
      KS P w T.a_Kinds k Ls' G t' ∧ Stp k Ls H t Ls' G t' ∧ pl ∉ Ls' ∧ G pl = some (.lst rs) ∧ Prs G rs (pre ++ ((List.range j).filter (lone d (codes u) (codes v))).map fun i => (sd, i)) ∧ Tk H4 G := ⟨_, fun _ _ _ => Iff.rfl⟩
    refine for_range Pi ((hPi _ _ _).mpr ⟨_, rs, t', Ls', rfl, hKi, sti, fr, ep, by simpa using hps, tk⟩) (fun j σ G hj h => ?_) (fun σ G h => ?_)
    · obtain ⟨o8, rs, t', Ls', rfl, hKj, stj, fr, ep, hps, tk⟩ := (hPi _ _ _).mp h
      have hju : j < u.length := by omega
      have fs := range_filt (lone d (codes u) (codes v)) j
      walk_at "rd"
      refine ⟨k, Ls', t', d, j, u, v, (by show [V.ref _, V.str _, V.int (0 + (j : Int)), V.str _, V.int _] = _; rw [Int.zero_add]), hKj, hdD, hd8, huS, hvS, hju, lowu, lowv, fun gl t2 Ls2 G2 hK2 st2 ngl egl => ?_⟩
      have fr2 := st2.fresh fr (by rw [ep]; exact nofun)
      have ep2 := st2.old _ _ outp.1 ep
      have tk2 := st2.tk hKj
      have stAll := Stp.trans hKj stj st2
      have hem : (natsV (good d (codes u) (codes v) j)).isEmpty = lone d (codes u) (codes v) j := by
        unfold natsV lone
        rw [List.isEmpty_map]
      refine ⟨_, .inl ⟨_, SqL.of egl, rfl⟩, ?_⟩
      rw [hem]
      cases hlo : lone d (codes u) (codes v) j with
      | false =>
        refine iteOF rfl ?_
        rw [hlo, if_neg (by decide), List.append_nil] at fs
        exact (hPi _ _ _).mpr ⟨_, rs, t2, Ls2, rfl, hK2, stAll, fr2, ep2, by rw [fs]; exact hps.up tk2, fun b ys e => tk2 _ _ (tk _ _ e)⟩
      | true =>
        refine iteOT rfl ?_
        rw [hlo, if_pos rfl] at fs
        walk_at "rd"
        refine ⟨.inl ⟨rfl, _, SqL.of ep2⟩, ?_⟩
        walk_at "rd"
        intro pt npt
        have xp := Ex.new (o := .tup [.int (sd : Nat), .int (0 + (j : Int))]) npt
        have ept : upd G2 pt (.tup [.int (sd : Nat), .int (0 + (j : Int))]) pt = some (.tup [.int (sd : Nat), .int (j : Nat)]) := by rw [upd_same, Int.zero_add]
        have hK3 := hK2.ex xp
        have ep3 := xp _ _ ep2
        have hps3 := (hps.up tk2).up (Tk.of xp)
        have st3 := stAll.exx xp
        have tk3 := Tk.of xp
        generalize upd G2 pt (.tup [.int (sd : Nat), .int (0 + (j : Int))]) = G3 at *
        have tkm : Tk G3 (upd G3 pl (.lst (rs ++ [.ref pt]))) := fun b ys q => by rw [upd_ne fun z => by rw [z, ep3] at q; exact nomatch q]; exact q
        have hl := hps3.len
        refine ⟨pl, _, _, rfl, rfl, ep3, ?_, (hPi _ _ _).mpr ⟨_, rs ++ [.ref pt], t2, Ls2, rfl, hK3.mut outp.1 outp.2.1 fr2 (fun ys q => by rw [ep3] at q; exact nomatch q), st3.mut npl, fr2, upd_same, ?_, fun b ys e => tkm _ _ (tk3 _ _ (tk2 _ _ (tk _ _ e)))⟩⟩
        · rw [hl, List.length_append, List.length_map, sizeLine_eq]
          have := filt_few j (lone d (codes u) (codes v))
          omega
        · have := (hps3.snoc ept).up tkm
          rw [fs, List.map_append, ← List.append_assoc]
          exact this
    · obtain ⟨o8, rs, t', Ls', rfl, hKj, stj, fr, ep, hps, tk⟩ := (hPi _ _ _).mp h
      rw [htop, ← eu] at hps
      refine (hPv _ _ _).mpr ⟨_, _, _, _, rs, t', Ls', rfl, hKj, stj, fr, ep, ?_, tk⟩
      rw [hprog]
      exact hps
  · obtain ⟨o5, o6, o7, o8, rs, t', Ls', rfl, hKi, sti, fr, ep, hps, tk⟩ := (hPv _ _ _).mp h
    walk_at "rd"
    exact q pl rs t' Ls' G hKi sti npl ep hps

end
end Lw
end

section
set_option Elab.async false
set_option linter.all false
set_option maxRecDepth 100000
set_option maxHeartbeats 4000000
set_option pp.maxSteps 300
set_option pp.deepTerms false
namespace Lw
open PySem L2 Evl M
open PyProof.Rows hiding St
local macro_rules | `(tactic| walk_at "at") => `(tactic| first | assumption | exact upd_same)
local macro_rules | `(tactic| walk_at "sq") => `(tactic| first | assumption | exact SqL.of (by walk_at "at") | exact SqT.of (by walk_at "at"))
local macro_rules | `(tactic| walk_at "sd") => `(tactic| first | assumption | exact Names.size (by assumption) | omega | decide | exact Nat.le_of_ble_eq_true rfl | exact Or.inl ⟨by decide, by decide⟩ | exact wide_div (b := 200) (by first | assumption | decide) (by first | assumption | decide) (by decide) (by decide) | exact pow_w 10 (by decide) (by decide) (by decide) (by decide))
local macro_rules | `(tactic| walk_at "r1") => `(tactic| first
  | refine ⟨_, rfl, ?_⟩
  | refine ⟨_, _, rfl, rfl, ?_⟩
  | refine And.intro rfl ?_
  | refine ⟨_, _, _, _, rfl, rfl, (by walk_at "sq"), rfl, ?_⟩
  | refine ⟨_, _, _, _, rfl, rfl, (by walk_at "at"), rfl, ?_⟩
  | refine ⟨_, _, rfl, Or.inl (by walk_at "sq"), ?_⟩
  | refine ⟨_, _, rfl, Or.inr (by walk_at "sq"), ?_⟩
  | refine ⟨_, _, rfl, ?_⟩
  | refine Or.inl ⟨_, rfl, ?_⟩
  | refine And.intro (by walk_at "sd") ?_)
local macro_rules | `(tactic| walk_at "rd") => `(tactic| try (walk_at "r1"; walk_at "rd"))
section
variable {P : Program} {w : World} {K : PySem.W.Frag} {mg : Str → Option Value} {base : Heap}
theorem ok_joined (T : Tx w K mg) : FnOk P w K mg base CX0 1 T.a_joined T.d_joined ["question", "other_question"] (sp_joined K) := by
  refine T.F_joined.ok sc_joined (fun vs H Q E h => ?_) (fun cdv A outer s H vs Q E hr h => ?_)
  · obtain ⟨_, _, _, _, rfl, _⟩ := h
    rfl
  obtain ⟨u, v, p, q, rfl, hu, hv, hok, hhi, k⟩ := h
  refine ⟨_, (pss_cons (ps_if (pt_cmpR (op_eqD hr.units) (pv 0) (pe_tup (pa_cons pe_str pa_nil)) (nomark _)) (pss_one (ps_ret (pv 1))) pss_nil)
   (pss_one (ps_ret (pe_tup (pa_cons pe_str (pa_cons (pv 0) (pa_cons (pv 1) pa_nil))))))), ?_⟩
  walk_at "rd"
  intro a na
  have x1 := Ex.new (o := .tup [.str "any"]) na
  have ea : upd H a (.tup [.str "any"]) a = some (.tup [.str "any"]) := upd_same
  generalize upd H a _ = H1 at *
  have hu1 := hu.up (Tk.of x1)
  walk_at "rd"
  refine ⟨p.d, Qn.any.d, hu1.dp, (QD.any ea).dp, Qn.shp hok hhi, by decide +kernel, ?_⟩
  rw [eqv_any]
  cases p with
  | any =>
    walk_at "rd"
    exact k _ _ x1 (hv.up (Tk.of x1))
  | no p' =>
    walk_at "rd"
    intro b nb
    exact k _ _ (x1.trans (Ex.new nb)) (QD.both upd_same (hu1.up (Tk.of (Ex.new nb))) (hv.up (Tk.of (x1.trans (Ex.new nb)))))
  | both p1 p2 =>
    walk_at "rd"
    intro b nb
    exact k _ _ (x1.trans (Ex.new nb)) (QD.both upd_same (hu1.up (Tk.of (Ex.new nb))) (hv.up (Tk.of (x1.trans (Ex.new nb)))))
  | some p1 c p2 =>
    walk_at "rd"
    intro b nb
    exact k _ _ (x1.trans (Ex.new nb)) (QD.both upd_same (hu1.up (Tk.of (Ex.new nb))) (hv.up (Tk.of (x1.trans (Ex.new nb)))))

end
end Lw
end

section
set_option Elab.async false
set_option linter.all false
set_option maxRecDepth 100000
set_option maxHeartbeats 4000000
set_option pp.maxSteps 300
set_option pp.deepTerms false
namespace Lw
open PySem L2 Evl M
open PyProof.Rows hiding St
local macro_rules | `(tactic| walk_at "at") => `(tactic| first | assumption | exact upd_same)
local macro_rules | `(tactic| walk_at "sq") => `(tactic| first | assumption | exact SqL.of (by walk_at "at") | exact SqT.of (by walk_at "at"))
local macro_rules | `(tactic| walk_at "sd") => `(tactic| first | assumption | exact Names.size (by assumption) | omega | decide | exact Nat.le_of_ble_eq_true rfl | exact Or.inl ⟨by decide, by decide⟩ | exact wide_div (b := 200) (by first | assumption | decide) (by first | assumption | decide) (by decide) (by decide) | exact pow_w 10 (by decide) (by decide) (by decide) (by decide))
local macro_rules | `(tactic| walk_at "r1") => `(tactic| first
  | refine ⟨_, rfl, ?_⟩
  | refine ⟨_, _, rfl, rfl, ?_⟩
  | refine And.intro rfl ?_
  | refine ⟨_, _, _, _, rfl, rfl, (by walk_at "sq"), rfl, ?_⟩
  | refine ⟨_, _, _, _, rfl, rfl, (by walk_at "at"), rfl, ?_⟩
  | refine ⟨_, _, rfl, Or.inl (by walk_at "sq"), ?_⟩
  | refine ⟨_, _, rfl, Or.inr (by walk_at "sq"), ?_⟩
  | refine ⟨_, _, rfl, ?_⟩
  | refine Or.inl ⟨_, rfl, ?_⟩
  | refine And.intro (by walk_at "sd") ?_)
local macro_rules | `(tactic| walk_at "rd") => `(tactic| try (walk_at "r1"; walk_at "rd"))
section
variable {P : Program} {w : World} {K : PySem.W.Frag} {mg : Str → Option Value} {base : Heap}
theorem ok_parts_no_later (T : Tx w K mg) (G_depth_between : FnOk P w K mg base CX0 16 T.a_depth_between T.d_depth_between ["kinds", "row", "other_row"] (sp_depth_between P w T.a_Kinds)) :
    FnOk P w K mg base CX0 17 T.a_parts_no_later T.d_parts_no_later ["kinds", "ahead", "other_ahead", "behind", "other_behind"] (sp_no_later P w T.a_Kinds) := by
  refine T.F_parts_no_later.ok sc_parts_no_later (fun vs H Q E h => ?_) (fun cdv A outer s H vs Q E hr h => ?_)
  · obtain ⟨_, _, _, _, _, _, _, rfl, _⟩ := h
    rfl
  obtain ⟨k, Ls, t, y1, y2, z1, z2, rfl, hK, hD, m1, m2, m3, m4, q⟩ := h
  refine ⟨_, (pss_cons (ps_set (i := 5) sc_parts_no_later.nd rfl (Or.inl rfl) (pe_call G_depth_between (hr.mono (by omega)) (by rfl) T.g_depth_between T.F_depth_between.kp T.b_depth_between .nil pass0 (pa_cons (pv 0) (pa_cons (pv 1) (pa_cons (pv 2) pa_nil)))))
   (pss_cons (ps_set (i := 6) sc_parts_no_later.nd rfl (Or.inl rfl) (pe_call G_depth_between (hr.mono (by omega)) (by rfl) T.g_depth_between T.F_depth_between.kp T.b_depth_between .nil pass0 (pa_cons (pv 0) (pa_cons (pv 3) (pa_cons (pv 4) pa_nil)))))
   (pss_cons (ps_if (pt_cmp (pc_isN (pv 5))) (pss_one (ps_ret pe_bl)) pss_nil)
   (pss_one (ps_ret (pe_or (pe_cmp (pc_isN (pv 6))) (pe_one (pe_cmpR op_le (pv 5) (pv 6) (nomark _))))))))), ?_⟩
  walk_at "rd"
  refine ⟨k, Ls, t, y1, y2, rfl, hK, hD, m1, m2, fun e1 t1 Ls1 H1 hK1 st1 => ?_, fun n1 d1 t1 Ls1 H1 hK1 st1 na1 al1 => ?_⟩
  · have hb : noLater (codes y1) (codes y2) (codes z1) (codes z2) = false := by unfold noLater; rw [if_pos (by rw [e1])]
    walk_at "rd"
    refine ⟨k, Ls1, t1, z1, z2, rfl, hK1, hD, m3, m4, fun e2 t2 Ls2 H2 hK2 st2 => ?_, fun n2 d2 t2 Ls2 H2 hK2 st2 na2 al2 => ?_⟩
    · walk_at "rd"
      exact q _ t2 Ls2 H2 hK2 (Stp.trans hK1 st1 st2) hb.symm
    · walk_at "rd"
      exact q _ t2 Ls2 H2 hK2 (Stp.trans hK1 st1 st2) hb.symm
  · have p1 : pdn (codes y1) (codes y2) = d1 := pdn_eq ⟨na1, al1⟩
    walk_at "rd"
    refine ⟨k, Ls1, t1, z1, z2, rfl, hK1, hD, m3, m4, fun e2 t2 Ls2 H2 hK2 st2 => ?_, fun n2 d2 t2 Ls2 H2 hK2 st2 na2 al2 => ?_⟩
    · have hb : noLater (codes y1) (codes y2) (codes z1) (codes z2) = true := by
        unfold noLater
        rw [if_neg (codes_ne n1), decide_eq_true_eq]
        exact .inl (by rw [e2])
      walk_at "rd"
      exact q _ t2 Ls2 H2 hK2 (Stp.trans hK1 st1 st2) hb.symm
    · have p2 : pdn (codes z1) (codes z2) = d2 := pdn_eq ⟨na2, al2⟩
      have hb : noLater (codes y1) (codes y2) (codes z1) (codes z2) = decide (((d1 : Nat) : Int) ≤ ((d2 : Nat) : Int)) := by
        unfold noLater
        rw [if_neg (codes_ne n1), p1, p2]
        apply Bool.eq_iff_iff.mpr
        rw [decide_eq_true_eq, decide_eq_true_eq]
        constructor
        · rintro (h | h)
          · exact absurd h (codes_ne n2)
          · omega
        · exact fun h => .inr (by omega)
      walk_at "rd"
      exact q _ t2 Ls2 H2 hK2 (Stp.trans hK1 st1 st2) hb.symm

end
end Lw
end

section
set_option Elab.async false
set_option linter.all false
set_option maxRecDepth 100000
set_option maxHeartbeats 4000000
set_option pp.maxSteps 300
set_option pp.deepTerms false
namespace Lw
open PySem L2 Evl M
open PyProof.Rows hiding St
local macro_rules | `(tactic| walk_at "at") => `(tactic| first | assumption | exact upd_same)
local macro_rules | `(tactic| walk_at "sq") => `(tactic| first | assumption | exact SqL.of (by walk_at "at") | exact SqT.of (by walk_at "at"))
local macro_rules | `(tactic| walk_at "sd") => `(tactic| first | assumption | exact Names.size (by assumption) | omega | decide | exact Nat.le_of_ble_eq_true rfl | exact Or.inl ⟨by decide, by decide⟩ | exact wide_div (b := 200) (by first | assumption | decide) (by first | assumption | decide) (by decide) (by decide) | exact pow_w 10 (by decide) (by decide) (by decide) (by decide))
local macro_rules | `(tactic| walk_at "r1") => `(tactic| first
  | refine ⟨_, rfl, ?_⟩
  | refine ⟨_, _, rfl, rfl, ?_⟩
  | refine And.intro rfl ?_
  | refine ⟨_, _, _, _, rfl, rfl, (by walk_at "sq"), rfl, ?_⟩
  | refine ⟨_, _, _, _, rfl, rfl, (by walk_at "at"), rfl, ?_⟩
  | refine ⟨_, _, rfl, Or.inl (by walk_at "sq"), ?_⟩
  | refine ⟨_, _, rfl, Or.inr (by walk_at "sq"), ?_⟩
  | refine ⟨_, _, rfl, ?_⟩
  | refine Or.inl ⟨_, rfl, ?_⟩
  | refine And.intro (by walk_at "sd") ?_)
local macro_rules | `(tactic| walk_at "rd") => `(tactic| try (walk_at "r1"; walk_at "rd"))
section
variable {P : Program} {w : World} {K : PySem.W.Frag} {mg : Str → Option Value} {base : Heap}
set_option hygiene false in
local macro_rules | `(tactic| walk_at "ta") => `(tactic| (
  refine (hPv _ _ _).mpr ⟨_, _, _, _, _, _, _, _, _, rfl, hK3, st3, ?_, ?_⟩
  · rw [estep, hstep]; exact hu3
  · rw [estep, hstep]; exact hv3))
theorem ok_question_at (T : Tx w K mg) (f : Nat) (G_row_lets : FnOk P w K mg base CX0 7 T.a_row_lets T.d_row_lets ["row", "question"] (sp_row_lets K))
    (G_joined : FnOk P w K mg base CX0 1 T.a_joined T.d_joined ["question", "other_question"] (sp_joined K))
    (G_parts_no_later : FnOk P w K mg base CX0 17 T.a_parts_no_later T.d_parts_no_later ["kinds", "ahead", "other_ahead", "behind", "other_behind"] (sp_no_later P w T.a_Kinds))
    (G_question_between : FnOk P w K mg base CX0 (20 + 2 * f) T.a_question_between T.d_question_between ["kinds", "row", "other_row"] (sp_qbet P w K T.a_Kinds f)) :
    FnOk P w K mg base CX0 (21 + 2 * f) T.a_question_at T.d_question_at ["kinds", "row", "place", "other_row"] (sp_qat P w K T.a_Kinds f) := by
  refine (T.F_question_at.ok (k := 20 + 2 * f) sc_question_at (fun vs H Q E h => ?_) (fun cdv A outer s H vs Q E hr h => ?_)).mono (by omega)
  · obtain ⟨_, _, _, _, _, _, rfl, _⟩ := h
    rfl
  obtain ⟨k, Ls, t, y, z, i, rfl, hK, hD, hyS, hzS, hy, hz, ly, lz, hi, hg, hf, q⟩ := h
  have ey := codes_len y
  have ez := codes_len z
  have sly : y.length ≤ sizeLine := Nat.le_trans (by omega : y.length ≤ 100) (by decide)
  have slz : z.length ≤ sizeLine := Nat.le_trans (by omega : z.length ≤ 100) (by decide)
  have c1 := codes_cut1 (z := y) (i := i) (by omega)
  have c2 := codes_cut2 (z := y) (i := i + 1) (by omega)
  obtain ⟨cy, hcy⟩ : ∃ c, y.cps[i]? = some c := ⟨_, Array.getElem?_eq_getElem hi⟩
  have gy := codes_at hcy
  have hcl : 97 ≤ cy ∧ cy ≤ 122 := hy _ (List.mem_of_getElem? gy)
  have hgP : ∀ a b : List Nat, a.length ≤ (codes y).length → b.length ≤ (codes z).length → a ≠ b → pdn a b ≤ f → Pts (qbet f a b) a b 106 17 := fun a b ha hb hne hle => by
    have P := qbet_pts 6 f a b (by omega) (by omega) hne hle
    rcases (by omega : f = 0 ∨ f = 1 ∨ f = 2) with rfl | rfl | rfl
    · exact P.up (by decide) (by decide)
    · exact P.up (by decide) (by decide)
    · exact P.up (by decide) (by decide)
  have hinv := qfold_inv hgP (by decide) hg (by omega)
  refine ⟨_, (pss_cons (ps_par (i := 4) (j := 5) (by rfl) sc_question_at.nd rfl rfl (by decide) rfl rfl (pa_cons (pe_slice sl_str (pv 1) po_none (po_some (pv 2))) (pa_cons (pe_slice sl_str (pv 1) (po_some (pe_op op_add (pv 2) pe_int)) po_none) pa_nil)) (by rfl))
   (pss_cons (ps_asg (pe_tup (pa_cons (pe_tup (pa_cons pe_str pa_nil)) (pa_cons (pe_tup (pa_cons pe_str pa_nil)) pa_nil))) (pg_tup (by rfl) (pgs_cons (pg_name (i := 6) sc_question_at.nd rfl (Or.inl rfl)) (pgs_cons (pg_name (i := 7) sc_question_at.nd rfl (Or.inl rfl)) pgs_nil))))
   (pss_cons (ps_for PassesOwn.never (by rfl) (M.pi_enumS (by rfl) T.b_enumerate (pa_cons (pv 3) pa_nil)) (pg_tup (by rfl) (pgs_cons (pg_name (i := 8) sc_question_at.nd rfl (Or.inl rfl)) (pgs_cons (pg_name (i := 9) sc_question_at.nd rfl (Or.inl rfl)) pgs_nil))) (pss_cons (ps_par (i := 10) (j := 11) (by rfl) sc_question_at.nd rfl rfl (by decide) rfl rfl (pa_cons (pe_slice sl_str (pv 3) po_none (po_some (pv 8))) (pa_cons (pe_slice sl_str (pv 3) (po_some (pe_op op_add (pv 8) pe_int)) po_none) pa_nil)) (by rfl))
   (pss_cons (ps_set (i := 12) sc_question_at.nd rfl (Or.inl rfl) (pe_and (pe_call G_row_lets (hr.mono (by omega)) (by rfl) T.g_row_lets T.F_row_lets.kp T.b_row_lets .nil pass0 (pa_cons (pv 10) (pa_cons (pv 6) pa_nil))) (pe_one (pe_call G_row_lets (hr.mono (by omega)) (by rfl) T.g_row_lets T.F_row_lets.kp T.b_row_lets .nil pass0 (pa_cons (pv 11) (pa_cons (pv 7) pa_nil))))))
   (pss_one (ps_if (pw_and (pt_cmpR op_eq (pv 9) (pe_ix ix_str (pv 1) (pv 2) (fun _ _ => rfl)) (nomark _)) (pw_and1 (pt_val (pv 12)))).pt (pss_one (ps_if (pt_val (pe_call G_parts_no_later (hr.mono (by omega)) (by rfl) T.g_parts_no_later T.F_parts_no_later.kp T.b_parts_no_later .nil pass0 (pa_cons (pv 0) (pa_cons (pv 4) (pa_cons (pv 10) (pa_cons (pv 5) (pa_cons (pv 11) pa_nil))))))) (pss_one (ps_set (i := 6) sc_question_at.nd rfl (Or.inl rfl) (pe_call G_joined (hr.mono (by omega)) (by rfl) T.g_joined T.F_joined.kp T.b_joined .nil pass0 (pa_cons (pv 6) (pa_cons (pe_call G_question_between (hr.mono (by omega)) (by rfl) T.g_question_between T.F_question_between.kp T.b_question_between .nil pass0 (pa_cons (pv 0) (pa_cons (pv 4) (pa_cons (pv 10) pa_nil)))) pa_nil))))) (pss_one (ps_set (i := 7) sc_question_at.nd rfl (Or.inl rfl) (pe_call G_joined (hr.mono (by omega)) (by rfl) T.g_joined T.F_joined.kp T.b_joined .nil pass0 (pa_cons (pv 7) (pa_cons (pe_call G_question_between (hr.mono (by omega)) (by rfl) T.g_question_between T.F_question_between.kp T.b_question_between .nil pass0 (pa_cons (pv 0) (pa_cons (pv 5) (pa_cons (pv 11) pa_nil)))) pa_nil))))))) pss_nil)))))
   (pss_one (ps_ret (pe_tup (pa_cons pe_str (pa_cons (pv 6) (pa_cons (pe_ix ix_str (pv 1) (pv 2) (fun _ _ => rfl)) (pa_cons (pv 7) pa_nil)))))))))), ?_⟩
  walk_at "rd"
  intro a1 na1
  have x1 := Ex.new (o := .tup [.str "any"]) na1
  have ea1 : upd H a1 (.tup [.str "any"]) a1 = some (.tup [.str "any"]) := upd_same
  generalize upd H a1 _ = H1 at *
  walk_at "rd"
  intro a2 na2
  have x2 := Ex.new (o := .tup [.str "any"]) na2
  have ea2 : upd H1 a2 (.tup [.str "any"]) a2 = some (.tup [.str "any"]) := upd_same
  have ea3 := x2 _ _ ea1
  generalize upd H1 a2 _ = H2 at *
  walk_at "rd"
  intro a3 na3
  have x3 := Ex.new (o := .tup [.ref a1, .ref a2]) na3
  have ea4 : upd H2 a3 (.tup [.ref a1, .ref a2]) a3 = some (.tup [.ref a1, .ref a2]) := upd_same
  have ea3 := x3 _ _ ea3
  have ea2 := x3 _ _ ea2
  generalize upd H2 a3 _ = H3 at *
  refine ⟨_, _, rfl, SqT.of ea4, rfl, ?_⟩
  have hK2 := hK.ex ((x1.trans x2).trans x3)
  have st2 : Stp k Ls H t Ls H3 t := Stp.ex ((x1.trans x2).trans x3)
  walk_at "rd"
  obtain ⟨Pv, hPv⟩ : ∃ Pv : Nat → L2.St → Hp → Prop, ∀ j σ G, Pv j σ G ↔ ∃ (u v : V) (t' : KTab) (Ls' : List Addr) (o8 o9 o10 o11 o12 : Option V), σ = [some (.ref k.x), some (.str y), some (.int (i : Nat)), some (.str z), some (.str (cutS y none (some ((i : Nat) : Int)))), some (.str (cutS y (some ((i : Int) + 1)) none)), some u, some v, o8, o9, o10, o11, o12] ∧
    KS P w T.a_Kinds k Ls' G t' ∧ Stp k Ls H t Ls' G t' ∧ QD K G u (qfold (qbet f) (codes y) i (codes z) j).1 ∧ QD K G v (qfold (qbet f) (codes y) i (codes z) j).2 := ⟨_, fun _ _ _ => Iff.rfl⟩
  refine for_enumS Pv ((hPv _ _ _).mpr ⟨_, _, t, Ls, _, _, _, _, _, rfl, hK2, st2, QD.any ea3, QD.any ea2⟩) (fun j c tp σ G hc hT h => ?_) (fun σ G h => ?_)
  · obtain ⟨u, v, t', Ls', o8, o9, o10, o11, o12, rfl, hKj, stj, hu, hv⟩ := (hPv _ _ _).mp h
    have hcc := codes_at hc
    have hj : j < z.length := by rw [← codes_len]; exact (List.getElem?_eq_some_iff.mp hcc).1
    have I := hinv j
    obtain ⟨ok1, ok2⟩ := I.ok hy hz
    have ip := I.parts
    have ih1 := I.h1
    have ih2 := I.h2
    have hmul : j * (106 + 1) ≤ 6 * 107 := Nat.mul_le_mul (by omega) (Nat.le_refl _)
    have pp1 := Qn.parts_pos (qfold (qbet f) (codes y) i (codes z) j).1
    have pp2 := Qn.parts_pos (qfold (qbet f) (codes y) i (codes z) j).2
    have estep : qfold (qbet f) (codes y) i (codes z) (j + 1) = qstep (qbet f) (codes y) i (codes z) j (qfold (qbet f) (codes y) i (codes z) j) := rfl
    generalize qfold (qbet f) (codes y) i (codes z) j = pq at *
    have c3 := codes_cut1 (z := z) (i := j) (by omega)
    have c4 := codes_cut2 (z := z) (i := j + 1) (by omega)
    walk_at "rd"
    refine ⟨_, _, rfl, SqT.of upd_same, rfl, ?_⟩
    have xt := Ex.new (o := .tup [.int (j : Nat), .str ⟨#[c]⟩]) hT
    have hKt := hKj.ex xt
    have stt := stj.exx xt
    have hut := hu.up (Tk.of xt)
    have hvt := hv.up (Tk.of xt)
    generalize upd G tp (.tup [.int (j : Nat), .str ⟨#[c]⟩]) = G1 at *
    walk_at "rd"
    refine ⟨tpo G1, u, pq.1, _, rfl, tpo_ex G1, hut, ok1, by omega, abc_cut hz, Nat.le_trans cut_len (by omega), fun G2 x2 => ?_⟩
    rw [c3]
    have hK2 := hKt.ex x2
    have st2 := stt.exx x2
    have hu2 := hut.up (Tk.of x2)
    have hv2 := hvt.up (Tk.of x2)
    walk_at "rd"
    refine iteB (fun b1 => ?_) (fun b1 => ?_)
    · walk_at "rd"
      refine ⟨tpo G2, v, pq.2, _, rfl, tpo_ex G2, hv2, ok2, by omega, abc_cut hz, Nat.le_trans cut_len (by omega), fun G3 x3 => ?_⟩
      rw [show codes (cutS z (some ((j : Int) + 1)) none) = (codes z).drop (j + 1) from c4]
      have hK3 := hK2.ex x3
      have st3 := st2.exx x3
      have hu3 := hu2.up (Tk.of x3)
      have hv3 := hv2.up (Tk.of x3)
      walk_at "rd"
      refine ⟨_, _, cy, rfl, rfl, sly, atI_nat gy, ?_⟩
      walk_at "rd"
      refine iteS (fun ec => ?_) (fun ec => ?_)
      · obtain rfl := M.one_inj ec
        have ce : ((codes z)[j]? == (codes y)[i]?) = true := by rw [hcc, gy]; exact beq_self_eq_true _
        obtain ⟨n1, n2⟩ := no_later (j := j) hg (by omega) (beq_iff_eq.mp ce)
        walk_at "rd"
        refine iteB (fun b2 => ?_) (fun b2 => ?_)
        · have cc : ((codes z)[j]? == (codes y)[i]?) = true ∧ (lt pq.1 ((codes z).take j) && lt pq.2 ((codes z).drop (j + 1))) = true := ⟨ce, by rw [b1, b2]; rfl⟩
          have c2 : codes (cutS y (some ((i : Int) + 1)) none) = (codes y).drop (i + 1) := c2
          have c4 : codes (cutS z (some ((j : Int) + 1)) none) = (codes z).drop (j + 1) := c4
          have m1 : codes (cutS y none (some ((i : Nat) : Int))) ∈ k.S := by rw [c1]; exact hK3.sub.tak _ hyS i
          have m2 : codes (cutS z none (some ((j : Nat) : Int))) ∈ k.S := by rw [c3]; exact hK3.sub.tak _ hzS j
          have m3 : codes (cutS y (some ((i : Int) + 1)) none) ∈ k.S := by rw [c2]; exact hK3.sub.drp _ hyS (i + 1)
          have m4 : codes (cutS z (some ((j : Int) + 1)) none) ∈ k.S := by rw [c4]; exact hK3.sub.drp _ hzS (j + 1)
          walk_at "rd"
          refine ⟨k, Ls', t', _, _, _, _, rfl, hK3, hD, m1, m2, m3, m4, fun b t4 Ls4 G4 hK4 st4 hb => ?_⟩
          rw [c1, c2, c3, c4] at hb
          have hu4 := hu3.up (Stp.tk hK3 st4)
          have hv4 := hv3.up (Stp.tk hK3 st4)
          walk_at "rd"
          refine iteB (fun b3 => ?_) (fun b3 => ?_)
          · rw [hb] at b3
            obtain ⟨ne, le⟩ := n1 b3
            have hstep : qstep (qbet f) (codes y) i (codes z) j pq = (joined pq.1 (qbet f ((codes y).take i) ((codes z).take j)), pq.2) := by unfold qstep; rw [if_pos cc, if_pos b3]
            walk_at "rd"
            refine ⟨k, Ls4, t4, _, _, rfl, hK4, hD, m1, m2, abc_cut hy, abc_cut hz, Nat.le_trans cut_len ly, Nat.le_trans cut_len lz, fun e => ne (by rw [← c1, ← c3, e]), by rw [c1, c3]; exact le, by omega, fun x t5 Ls5 G5 hK5 st5 hx => ?_⟩
            rw [c1, c3] at hx
            have hu5 := hu4.up (Stp.tk hK4 st5)
            have hv5 := hv4.up (Stp.tk hK4 st5)
            walk_at "rd"
            refine ⟨_, x, _, _, rfl, hu5, hx, ok1, by omega, fun x6 G6 x6x hq => ?_⟩
            walk_at "rd"
            refine (hPv _ _ _).mpr ⟨_, _, _, _, _, _, _, _, _, rfl, hK5.ex x6x, (Stp.trans hK4 (Stp.trans hK3 st3 st4) st5).exx x6x, ?_, ?_⟩
            · rw [estep, hstep]; exact hq
            · rw [estep, hstep]; exact hv5.up (Tk.of x6x)
          · rw [hb] at b3
            obtain ⟨ne, le⟩ := n2 b3
            have hstep : qstep (qbet f) (codes y) i (codes z) j pq = (pq.1, joined pq.2 (qbet f ((codes y).drop (i + 1)) ((codes z).drop (j + 1)))) := by unfold qstep; rw [if_pos cc, if_neg (by rw [b3]; decide)]
            walk_at "rd"
            refine ⟨k, Ls4, t4, _, _, rfl, hK4, hD, m3, m4, abc_cut hy, abc_cut hz, Nat.le_trans cut_len ly, Nat.le_trans cut_len lz, fun e => ne (by rw [← c2, ← c4, e]), by rw [c2, c4]; exact le, by omega, fun x t5 Ls5 G5 hK5 st5 hx => ?_⟩
            rw [c2, c4] at hx
            have hu5 := hu4.up (Stp.tk hK4 st5)
            have hv5 := hv4.up (Stp.tk hK4 st5)
            walk_at "rd"
            refine ⟨_, x, _, _, rfl, hv5, hx, ok2, by omega, fun x6 G6 x6x hq => ?_⟩
            walk_at "rd"
            refine (hPv _ _ _).mpr ⟨_, _, _, _, _, _, _, _, _, rfl, hK5.ex x6x, (Stp.trans hK4 (Stp.trans hK3 st3 st4) st5).exx x6x, ?_, ?_⟩
            · rw [estep, hstep]; exact hu5.up (Tk.of x6x)
            · rw [estep, hstep]; exact hq
        · have hstep : qstep (qbet f) (codes y) i (codes z) j pq = pq := by unfold qstep; rw [if_neg (fun q => by rw [b1, b2] at q; exact nomatch q.2)]
          walk_at "rd"
          walk_at "ta"
      · have hstep : qstep (qbet f) (codes y) i (codes z) j pq = pq := by
          unfold qstep
          rw [if_neg (fun q => ec (by
            have := beq_iff_eq.mp q.1
            rw [hcc, gy] at this
            rw [Option.some.inj this]))]
        walk_at "rd"
        walk_at "ta"
    · have hstep : qstep (qbet f) (codes y) i (codes z) j pq = pq := by unfold qstep; rw [if_neg (fun q => by rw [b1] at q; exact nomatch q.2)]
      have hK3 := hK2
      have st3 := st2
      have hu3 := hu2
      have hv3 := hv2
      walk_at "rd"
      refine ⟨_, _, cy, rfl, rfl, sly, atI_nat gy, ?_⟩
      walk_at "rd"
      refine iteS (fun ec => ?_) (fun ec => ?_)
      · walk_at "rd"
        walk_at "ta"
      · walk_at "rd"
        walk_at "ta"
  · obtain ⟨u, v, t', Ls', o8, o9, o10, o11, o12, rfl, hKj, stj, hu, hv⟩ := (hPv _ _ _).mp h
    rw [size_codes] at hu hv
    walk_at "rd"
    refine ⟨_, _, cy, rfl, rfl, sly, atI_nat gy, ?_⟩
    walk_at "rd"
    intro b nb
    have xb := Ex.new (o := .tup [.str "some", u, .str ⟨#[cy]⟩, v]) nb
    refine q _ t' Ls' _ (hKj.ex xb) (stj.exx xb) ?_
    have : qat (qbet f) (codes y) i (codes z) = .some (qfold (qbet f) (codes y) i (codes z) (codes z).length).1 cy (qfold (qbet f) (codes y) i (codes z) (codes z).length).2 := by
      unfold qat
      rw [show (codes y).getD i 0 = cy by rw [List.getD_eq_getElem?_getD, gy]; rfl]
    rw [this]
    exact QD.some upd_same (hu.up (Tk.of xb)) (hv.up (Tk.of xb))

end
end Lw
end

section
set_option Elab.async false
set_option linter.all false
set_option maxRecDepth 100000
set_option maxHeartbeats 4000000
set_option pp.maxSteps 300
set_option pp.deepTerms false
namespace Lw
open PySem L2 Evl M
open PyProof.Rows hiding St
local macro_rules | `(tactic| walk_at "at") => `(tactic| first | assumption | exact upd_same)
local macro_rules | `(tactic| walk_at "sq") => `(tactic| first | assumption | exact SqL.of (by walk_at "at") | exact SqT.of (by walk_at "at"))
local macro_rules | `(tactic| walk_at "sd") => `(tactic| first | assumption | exact Names.size (by assumption) | omega | decide | exact Nat.le_of_ble_eq_true rfl | exact Or.inl ⟨by decide, by decide⟩ | exact wide_div (b := 200) (by first | assumption | decide) (by first | assumption | decide) (by decide) (by decide) | exact pow_w 10 (by decide) (by decide) (by decide) (by decide))
local macro_rules | `(tactic| walk_at "r1") => `(tactic| first
  | refine ⟨_, rfl, ?_⟩
  | refine ⟨_, _, rfl, rfl, ?_⟩
  | refine And.intro rfl ?_
  | refine ⟨_, _, _, _, rfl, rfl, (by walk_at "sq"), rfl, ?_⟩
  | refine ⟨_, _, _, _, rfl, rfl, (by walk_at "at"), rfl, ?_⟩
  | refine ⟨_, _, rfl, Or.inl (by walk_at "sq"), ?_⟩
  | refine ⟨_, _, rfl, Or.inr (by walk_at "sq"), ?_⟩
  | refine ⟨_, _, rfl, ?_⟩
  | refine Or.inl ⟨_, rfl, ?_⟩
  | refine And.intro (by walk_at "sd") ?_)
local macro_rules | `(tactic| walk_at "rd") => `(tactic| try (walk_at "r1"; walk_at "rd"))
section
variable {P : Program} {w : World} {K : PySem.W.Frag} {mg : Str → Option Value} {base : Heap}
theorem ok_question_between (T : Tx w K mg) (G_depth_between : FnOk P w K mg base CX0 16 T.a_depth_between T.d_depth_between ["kinds", "row", "other_row"] (sp_depth_between P w T.a_Kinds))
    (G_picks_without_answer : FnOk P w K mg base CX0 19 T.a_picks_without_answer T.d_picks_without_answer ["kinds", "row", "other_row", "depth"] (sp_picks P w T.a_Kinds))
    (H_question_at : ∀ f : Nat, FnOk P w K mg base CX0 (20 + 2 * f) T.a_question_between T.d_question_between ["kinds", "row", "other_row"] (sp_qbet P w K T.a_Kinds f) →
      FnOk P w K mg base CX0 (21 + 2 * f) T.a_question_at T.d_question_at ["kinds", "row", "place", "other_row"] (sp_qat P w K T.a_Kinds f)) :
    ∀ f : Nat, FnOk P w K mg base CX0 (20 + 2 * f) T.a_question_between T.d_question_between ["kinds", "row", "other_row"] (sp_qbet P w K T.a_Kinds f)
  | 0 => ⟨fun vs H Q E h => by
      obtain ⟨_, _, _, _, _, rfl, _⟩ := h
      rfl, fun A outer s H args us vs Q E hr e b rv h => by
      obtain ⟨_, _, _, y, z, rfl, _, _, _, _, _, _, _, _, ne, le, _⟩ := h
      exact absurd (pdn_pos (codes_ne ne)) (by omega)⟩
  | f + 1 => by
    have G_question_at := H_question_at f (ok_question_between T G_depth_between G_picks_without_answer H_question_at f)
    refine (T.F_question_between.ok (k := 21 + 2 * f) sc_question_between (fun vs H Q E h => ?_) (fun cdv A outer s H vs Q E hr h => ?_)).mono (by omega)
    · obtain ⟨_, _, _, _, _, rfl, _⟩ := h
      rfl
    obtain ⟨k, Ls, t, y, z, rfl, hK, hD, hyS, hzS, hy, hz, ly, lz, ne, le, hf, q⟩ := h
    have ey := codes_len y
    have ez := codes_len z
    have low : ∀ {r : Str}, Abc r → ∀ c ∈ codes r, c < 1114112 := fun hr c hc => by
      have := hr c hc
      omega
    refine ⟨_, (pss_cons (ps_set (i := 3) sc_question_between.nd rfl (Or.inl rfl) (pe_call G_depth_between (hr.mono (by omega)) (by rfl) T.g_depth_between T.F_depth_between.kp T.b_depth_between .nil pass0 (pa_cons (pv 0) (pa_cons (pv 1) (pa_cons (pv 2) pa_nil)))))
   (pss_cons (ps_asg (pe_ix ix_list (pe_call G_picks_without_answer (hr.mono (by omega)) (by rfl) T.g_picks_without_answer T.F_picks_without_answer.kp T.b_picks_without_answer .nil pass0 (pa_cons (pv 0) (pa_cons (pv 1) (pa_cons (pv 2) (pa_cons (pv 3) pa_nil))))) pe_int (fun _ _ => rfl)) (pg_tup (by rfl) (pgs_cons (pg_name (i := 4) sc_question_between.nd rfl (Or.inl rfl)) (pgs_cons (pg_name (i := 5) sc_question_between.nd rfl (Or.inl rfl)) pgs_nil))))
   (pss_cons (ps_if (pt_cmpR op_eq (pv 4) pe_int (nomark _)) (pss_one (ps_ret (pe_call G_question_at (hr.mono (by omega)) (by rfl) T.g_question_at T.F_question_at.kp T.b_question_at .nil pass0 (pa_cons (pv 0) (pa_cons (pv 1) (pa_cons (pv 5) (pa_cons (pv 2) pa_nil))))))) pss_nil)
   (pss_one (ps_ret (pe_tup (pa_cons pe_str (pa_cons (pe_call G_question_at (hr.mono (by omega)) (by rfl) T.g_question_at T.F_question_at.kp T.b_question_at .nil pass0 (pa_cons (pv 0) (pa_cons (pv 2) (pa_cons (pv 5) (pa_cons (pv 1) pa_nil))))) pa_nil)))))))), ?_⟩
    walk_at "rd"
    refine ⟨k, Ls, t, y, z, rfl, hK, hD, hyS, hzS, fun e => absurd e ne, fun _ n t1 Ls1 H1 hK1 st1 na al => ?_⟩
    have hp : pdn (codes y) (codes z) = n := pdn_eq ⟨na, al⟩
    have hpos := pdn_pos (codes_ne ne)
    obtain ⟨m, rfl⟩ : ∃ m, n = m + 1 := ⟨n - 1, by omega⟩
    walk_at "rd"
    refine ⟨k, Ls1, t1, m, y, z, rfl, hK1, by omega, by omega, hyS, hzS, low hy, low hz, fun l rs t2 Ls2 H2 hK2 st2 nl el hps => ?_⟩
    have nw : winP m (codes y) (codes z) ≠ [] := fun z => na (wins_ne.mp z)
    obtain ⟨x, xs, hx⟩ := List.exists_cons_of_ne_nil nw
    have hmem : x ∈ winP m (codes y) (codes z) := by rw [hx]; exact List.mem_cons_self
    have e0 : (winP m (codes y) (codes z))[0]? = some x := by rw [hx]; rfl
    obtain ⟨sd, i⟩ := x
    obtain ⟨a, ha, ea⟩ := hps.at e0
    have st12 := Stp.trans hK1 st1 st2
    have eq : qbet (f + 1) (codes y) (codes z) = if sd = 0 then qat (qbet f) (codes y) i (codes z) else .no (qat (qbet f) (codes z) i (codes y)) := by
      rw [qbet, hp, Nat.add_sub_cancel, e0]
    walk_at "rd"
    refine ⟨l, rs, _, _, rfl, rfl, SqL.of el, (by show atI _ ((0 : Nat) : Int) = _; exact atI_nat ha), ?_⟩
    refine ⟨a, _, rfl, SqT.of ea, rfl, ?_⟩
    walk_at "rd"
    have good_le : ∀ {r s : List Nat}, good m r s i = [] → i < r.length → good f r s i = [] := fun {r s} h hi => by
      cases q : good f r s i with
      | nil => rfl
      | cons j js =>
        have hj : j ∈ good f r s i := by rw [q]; exact List.mem_cons_self
        have A := ansB_iff.mp (List.mem_filter.mp hj).2
        have : j ∈ good m r s i := List.mem_filter.mpr ⟨(List.mem_filter.mp hj).1, ansB_iff.mpr ⟨A.1, A.2.1, A.2.2.1, A.2.2.2.1.mono (by omega), A.2.2.2.2.mono (by omega)⟩⟩
        rw [h] at this
        exact nomatch this
    rcases mem_wins hmem with ⟨h0, hi, hg⟩ | ⟨h0, hi, hg⟩
    · obtain rfl : sd = 0 := h0
      have hi : i < (codes y).length := hi
      refine iteI (fun _ => ?_) (fun z => absurd rfl z)
      walk_at "rd"
      refine ⟨k, Ls2, t2, y, z, i, rfl, hK2, hD, hyS, hzS, hy, hz, ly, lz, by omega, good_le hg hi, by omega, fun v t3 Ls3 H3 hK3 st3 hv => ?_⟩
      refine q v t3 Ls3 H3 hK3 (Stp.trans hK2 st12 st3) ?_
      rw [eq, if_pos rfl]
      exact hv
    · obtain rfl : sd = 1 := h0
      have hi : i < (codes z).length := hi
      refine iteI (fun z => absurd (show ((1 : Nat) : Int) = 0 from z) (by omega)) (fun _ => ?_)
      walk_at "rd"
      refine ⟨k, Ls2, t2, z, y, i, rfl, hK2, hD, hzS, hyS, hz, hy, lz, ly, by omega, good_le hg hi, by omega, fun v t3 Ls3 H3 hK3 st3 hv => ?_⟩
      walk_at "rd"
      intro b nb
      have xb := Ex.new (o := .tup [.str "not", v]) nb
      refine q _ t3 Ls3 _ (hK3.ex xb) ((Stp.trans hK2 st12 st3).exx xb) ?_
      rw [eq, if_neg (by decide)]
      exact QD.no upd_same (hv.up (Tk.of xb))

end
end Lw
end

section
set_option Elab.async false
set_option linter.all false
set_option maxRecDepth 100000
set_option maxHeartbeats 4000000
set_option pp.maxSteps 300
set_option pp.deepTerms false
namespace Lw
open PySem L2 Evl M
open PyProof.Rows hiding St
local macro_rules | `(tactic| walk_at "at") => `(tactic| first | assumption | exact upd_same)
local macro_rules | `(tactic| walk_at "sq") => `(tactic| first | assumption | exact SqL.of (by walk_at "at") | exact SqT.of (by walk_at "at"))
local macro_rules | `(tactic| walk_at "sd") => `(tactic| first | assumption | exact Names.size (by assumption) | omega | decide | exact Nat.le_of_ble_eq_true rfl | exact Or.inl ⟨by decide, by decide⟩ | exact wide_div (b := 200) (by first | assumption | decide) (by first | assumption | decide) (by decide) (by decide) | exact pow_w 10 (by decide) (by decide) (by decide) (by decide))
local macro_rules | `(tactic| walk_at "r1") => `(tactic| first
  | refine ⟨_, rfl, ?_⟩
  | refine ⟨_, _, rfl, rfl, ?_⟩
  | refine And.intro rfl ?_
  | refine ⟨_, _, _, _, rfl, rfl, (by walk_at "sq"), rfl, ?_⟩
  | refine ⟨_, _, _, _, rfl, rfl, (by walk_at "at"), rfl, ?_⟩
  | refine ⟨_, _, rfl, Or.inl (by walk_at "sq"), ?_⟩
  | refine ⟨_, _, rfl, Or.inr (by walk_at "sq"), ?_⟩
  | refine ⟨_, _, rfl, ?_⟩
  | refine Or.inl ⟨_, rfl, ?_⟩
  | refine And.intro (by walk_at "sd") ?_)
local macro_rules | `(tactic| walk_at "rd") => `(tactic| try (walk_at "r1"; walk_at "rd"))
section
variable {P : Program} {w : World} {K : PySem.W.Frag} {mg : Str → Option Value} {base : Heap}
theorem ok_parting_question (T : Tx w K mg) (G_check_rows : FnOk P w K mg base CX0 3 T.a_check_rows T.d_check_rows ["row", "other_row"] sp_check_rows)
    (G_Kinds___init__ : FnOk P w K mg base CX0 1 T.a_Kinds___init__ T.d_Kinds___init__ ["self"] (sp_kinit P w T.a_Kinds))
    (G_question_between : FnOk P w K mg base CX0 26 T.a_question_between T.d_question_between ["kinds", "row", "other_row"] (sp_qbet P w K T.a_Kinds 3)) :
    FnOk P w K mg base CX0 27 T.a_parting_question T.d_parting_question ["row", "other_row"] (sp_pq K) := by
  refine T.F_parting_question.ok sc_parting_question (fun vs H Q E h => ?_) (fun cdv A outer s H vs Q E hr h => ?_)
  · obtain ⟨_, _, _, rfl, _⟩ := h
    rfl
  obtain ⟨y, z, _, rfl, hy, hz, ly, lz, q1, q2⟩ := h
  have ly2 : y.length ≤ 1000 := by omega
  have lz2 : z.length ≤ 1000 := by omega
  refine ⟨_, (pss_cons (ps_expr (pe_call G_check_rows (hr.mono (by omega)) (by rfl) T.g_check_rows T.F_check_rows.kp T.b_check_rows .nil pass0 (pa_cons (pv 0) (pa_cons (pv 1) pa_nil))))
   (pss_cons (ps_if (pt_cmpR op_eq (pv 0) (pv 1) (nomark _)) (pss_one (ps_ret pe_non)) pss_nil)
   (pss_one (ps_ret (pe_call G_question_between (hr.mono (by omega)) (by rfl) T.g_question_between T.F_question_between.kp T.b_question_between .nil pass0 (pa_cons (pe_make0 T.M_Kinds G_Kinds___init__ (hr.mono (by omega)) (by rfl) T.g_Kinds T.b_Kinds___init__ .nil pass0) (pa_cons (pv 0) (pa_cons (pv 1) pa_nil)))))))), ?_⟩
  walk_at "rd"
  intro H1 x1
  walk_at "rd"
  refine iteS (fun e => ?_) (fun ne => ?_)
  · walk_at "rd"
    exact q1 e H1 x1
  walk_at "rd"
  intro x dx nx ndx ne2
  have x2 : Ex H1 (upd (upd H1 dx (.own x)) x (.ins T.a_Kinds dx [])) := (Ex.new ndx).trans (Ex.new (by rw [upd_ne (Ne.symm ne2)]; exact nx))
  have hx : upd (upd H1 dx (.own x)) x (.ins T.a_Kinds dx []) x = some (.ins T.a_Kinds dx []) := upd_same
  generalize upd (upd H1 dx (.own x)) x (.ins T.a_Kinds dx []) = H2 at *
  refine ⟨x, dx, subsAll [codes y, codes z], 8, rfl, hx, sub_two hy hz (by omega) (by omega), fun A H3 hK old al => ?_⟩
  have x3 : Ex H1 H3 := fun b o e => old b o (ne_of_none e nx) (x2 b o e)
  have fin : ∀ {t' Ls' H4}, Stp ⟨subsAll [codes y, codes z], 8, x, A⟩ [] H3 [(0, [])] Ls' H4 t' → Ex H H4 := fun st => x1.trans fun b' o e => st.old b' o (fun h => nomatch e.symm.trans (fresh_back x2 (al b' h))) (x3 b' o e)
  refine ⟨rfl, ?_⟩
  walk_at "rd"
  have hp : pdn (codes y) (codes z) ≤ 3 := (pdn_is (codes_ne ne)).le fun a => codes_ne ne (al_short 3 (by rw [codes_len]; have : 2 ^ 3 = 8 := rfl; omega) a)
  exact ⟨_, [], _, y, z, rfl, hK, by show 7 ≤ 8; omega, mem_all (by simp), mem_all (by simp), hy, hz, ly, lz, ne, hp, by omega, fun v t' Ls' H4 hK4 st hv => q2 ne v H4 (fin st) hv⟩

end
end Lw
end

section
set_option Elab.async false
set_option linter.all false
set_option maxRecDepth 100000
set_option maxHeartbeats 4000000
set_option pp.maxSteps 300
set_option pp.deepTerms false
namespace Lw
open PySem L2 Evl M
open PyProof.Rows hiding St
local macro_rules | `(tactic| walk_at "at") => `(tactic| first | assumption | exact upd_same)
local macro_rules | `(tactic| walk_at "sq") => `(tactic| first | assumption | exact SqL.of (by walk_at "at") | exact SqT.of (by walk_at "at"))
local macro_rules | `(tactic| walk_at "sd") => `(tactic| first | assumption | exact Names.size (by assumption) | omega | decide | exact Nat.le_of_ble_eq_true rfl | exact Or.inl ⟨by decide, by decide⟩ | exact wide_div (b := 200) (by first | assumption | decide) (by first | assumption | decide) (by decide) (by decide) | exact pow_w 10 (by decide) (by decide) (by decide) (by decide))
local macro_rules | `(tactic| walk_at "r1") => `(tactic| first
  | refine ⟨_, rfl, ?_⟩
  | refine ⟨_, _, rfl, rfl, ?_⟩
  | refine And.intro rfl ?_
  | refine ⟨_, _, _, _, rfl, rfl, (by walk_at "sq"), rfl, ?_⟩
  | refine ⟨_, _, _, _, rfl, rfl, (by walk_at "at"), rfl, ?_⟩
  | refine ⟨_, _, rfl, Or.inl (by walk_at "sq"), ?_⟩
  | refine ⟨_, _, rfl, Or.inr (by walk_at "sq"), ?_⟩
  | refine ⟨_, _, rfl, ?_⟩
  | refine Or.inl ⟨_, rfl, ?_⟩
  | refine And.intro (by walk_at "sd") ?_)
local macro_rules | `(tactic| walk_at "rd") => `(tactic| try (walk_at "r1"; walk_at "rd"))
section
variable {P : Program} {w : World} {K : PySem.W.Frag} {mg : Str → Option Value} {base : Heap}
set_option hygiene false in
local macro_rules | `(tactic| walk_at "tl") => `(tactic| (
  refine ⟨Hb, .ref b, r.d, rfl, xg1, hy, r.form hro, fun l2 ys G2 x2 f2' g2 hys => ?_⟩
  rw [Qn.inner] at hys
  have hys : Qs K Hb ys r.kids := hys
  have hyl := hys.len
  have kl := pts2_kids r (d + r.up)
  have p1 : pts2 [(r, d)] = r.parts := by simp [pts2, ptss]
  have b1 := pts2_len rest
  have b2 : r.kids.length ≤ r.parts := by
    have := pts2_len (r.kids.map fun k => (k, d + r.up))
    rw [List.length_map] at this
    omega
  have n2 : l2 ≠ l := fun z => by rw [z, gl1] at f2'; cases f2'
  refine ⟨l2, rfl, ⟨ys, SqL.of g2⟩, ?_⟩
  refine for_list (xs := ys) (fun i σ G => ∃ (Hc : Hp) (ws : List V) (o : Option V), σ = [some v, some (.int ((max D (d + r.up) : Nat) : Int)), some (.ref l), some (.ref b), some (.int ((d + r.up : Nat) : Int)), o] ∧
    Ex Hb Hc ∧ Ex Hc G ∧ Ex H G ∧ Hc l = none ∧ G l = some (.lst ws) ∧ G l2 = some (.lst ys) ∧ i ≤ ys.length ∧ Ds K Hc ws (rest ++ ((r.kids.take i).map fun k => (k, d + r.up))))
    ⟨Hb, xs.dropLast, _, st6 f2 f1, Ex.refl _, xg1.trans x2, xh1.trans x2, nb, x2 _ _ gl1, g2, Nat.zero_le _, by simpa using hrest⟩ (fun i σ G _ h => ?_) (fun i x σ G hx h => ?_) (fun σ G h => ?_)
  · obtain ⟨_, _, _, _, _, _, _, _, _, h, _⟩ := h
    exact SqL.of h
  · obtain ⟨Hc, ws, o, rfl, xbc, xcg, xhg, nc, gw, g2', hi, hws⟩ := h
    have hi2 : i < ys.length := by
      rcases Nat.lt_or_ge i ys.length with z | z
      · exact z
      · rw [List.getElem?_eq_none z] at hx; cases hx
    have hik : i < r.kids.length := by omega
    have hx2 := Qs.at hys hik hx
    walk_at "rd"
    refine ⟨.inl ⟨rfl, _, SqL.of gw⟩, ?_⟩
    walk_at "rd"
    intro t ht
    have nt : l ≠ t := ne_of_none gw ht
    have nt2 : l2 ≠ t := ne_of_none g2' ht
    have htc : Hc t = none := fresh_back xcg ht
    have hwl := hws.len
    refine ⟨l, ws, _, rfl, rfl, by rw [upd_ne nt]; exact gw, Nat.lt_of_le_of_lt (by simp at hwl; omega : ws.length ≤ 2000) (by decide), ?_⟩
    refine ⟨upd Hc t (.tup [x, .int ((d + r.up : Nat) : Int)]), _, _, rfl, xbc.trans (Ex.new htc), (Ex.both xcg t _).mut (by rw [upd_ne nt]; exact nc), ?_, by rw [upd_ne nt]; exact nc, upd_same, ?_, hi2, ?_⟩
    · exact (xhg.trans (Ex.new ht)).mut hlH
    · rw [upd_ne n2, upd_ne nt2]
      exact g2'
    · rw [take_succ' hik, List.map_append, ← List.append_assoc]
      exact Ds.app1 (Ds.up hws (Ex.new htc)) upd_same (hx2.up (xbc.trans (Ex.new htc)))
  · obtain ⟨Hc, ws, o, rfl, xbc, xcg, xhg, nc, gw, g2', hi, hws⟩ := h
    have ek : r.kids.take ys.length = r.kids := by rw [hyl, List.take_length]
    rw [ek] at hws
    refine ⟨pts2 (rest ++ r.kids.map fun k => (k, d + r.up)), by rw [pts2_app, pts2_app]; omega, Hc, ws, _, max D (d + r.up), _, _, _, rfl, rfl, xb.trans xbc, xcg, xhg, nc, gw, hws, ?_, by rw [pts2_app]; omega, ?_⟩
    · intro p hp
      rcases List.mem_append.mp hp with z | z
      · exact hok p (List.mem_append.mpr (.inl z))
      · obtain ⟨k', hk, rfl⟩ := List.mem_map.mp z
        exact Qn.kids_ok hro k' hk
    · have := mx_kids r d
      rw [mx_app]
      simp only [mx] at hmx
      omega))
theorem ok_depth_of (T : Tx w K mg) (G_check_question : FnOk P w K mg base CX0 5 T.a_check_question T.d_check_question ["question"] (sp_check_question K))
    (G_inner_questions : FnOk P w K mg base CX0 1 T.a_inner_questions T.d_inner_questions ["part"] (sp_inner K)) :
    FnOk P w K mg base CX0 6 T.a_depth_of T.d_depth_of ["question"] (sp_depth_of K) := by
  refine T.F_depth_of.ok sc_depth_of (fun vs H Q E h => ?_) (fun cdv A outer s H vs Q E hr h => ?_)
  · obtain ⟨_, _, _, rfl, _⟩ := h
    rfl
  obtain ⟨H0, v, q, rfl, x0, hd, hq, hp, k⟩ := h
  refine ⟨_, (pss_cons (ps_expr (pe_call G_check_question (hr.mono (by omega)) (by rfl) T.g_check_question T.F_check_question.kp T.b_check_question .nil pass0 (pa_cons (pv 0) pa_nil)))
   (pss_cons (ps_set (i := 1) sc_depth_of.nd rfl (Or.inl rfl) pe_int)
   (pss_cons (ps_set (i := 2) sc_depth_of.nd rfl (Or.inl rfl) (pe_lst (pa_cons (pe_tup (pa_cons (pv 0) (pa_cons pe_int pa_nil))) pa_nil)))
   (pss_cons (ps_while PassesOwn.never (pt_truth (pv 2) (by intro _; rfl)) (pss_cons (ps_asg (pe_bm0 PySem.F.plainAttrs_list PySem.F.slot_list_pop PySem.F.type_list_pop mt_pop (pv 2)) (pg_tup (by rfl) (pgs_cons (pg_name (i := 3) sc_depth_of.nd rfl (Or.inl rfl)) (pgs_cons (pg_name (i := 4) sc_depth_of.nd rfl (Or.inl rfl)) pgs_nil))))
   (pss_cons (ps_if (pt_cmpR op_eq (pe_ix ix_tup (pv 3) pe_int (fun _ _ => rfl)) pe_str (nomark _)) (pss_one (ps_aug (i := 4) sc_depth_of.nd rfl (Or.inl rfl) pe_int ip_add)) pss_nil)
   (pss_cons (ps_set (i := 1) sc_depth_of.nd rfl (Or.inl rfl) (pe_callB (call_max2 (by rfl)) (by rfl) T.b_max (by decide +kernel) (pa_cons (pv 1) (pa_cons (pv 4) pa_nil))))
   (pss_one (ps_for PassesOwn.never (by rfl) (pi_list (pe_call G_inner_questions (hr.mono (by omega)) (by rfl) T.g_inner_questions T.F_inner_questions.kp T.b_inner_questions .nil pass0 (pa_cons (pv 3) pa_nil))) (pg_name (i := 5) sc_depth_of.nd rfl (Or.inl rfl)) (pss_one (ps_expr (pe_bm PySem.F.plainAttrs_list PySem.F.slot_list_append PySem.F.type_list_append mt_append (pv 2) (pa_cons (pe_tup (pa_cons (pv 5) (pa_cons (pv 4) pa_nil))) pa_nil))))))))))
   (pss_one (ps_ret (pv 1))))))), ?_⟩
  refine ⟨_, rfl, H0, v, q, rfl, x0, hd, hq, hp, fun H1 x1 => ?_⟩
  walk_at "rd"
  intro t0 ht0
  walk_at "rd"
  intro l hl
  have n0 : t0 ≠ l := fun z => by rw [← z, upd_same] at hl; cases hl
  have hl1 : H1 l = none := by rw [upd_ne (Ne.symm n0)] at hl; exact hl
  have hlH : H l = none := fresh_back x1 hl1
  have hl0 : H0 l = none := fresh_back x0 hlH
  have ht00 : H0 t0 = none := fresh_back (x0.trans x1) ht0
  refine ⟨fun m σ G => ∃ (Hb : Hp) (xs : List V) (todo : List (Qn × Nat)) (D : Nat) (o1 o2 o3 : Option V), σ = [some v, some (.int D), some (.ref l), o1, o2, o3] ∧ m = pts2 todo ∧ Ex H0 Hb ∧ Ex Hb G ∧ Ex H G ∧ Hb l = none ∧ G l = some (.lst xs) ∧ Ds K Hb xs todo ∧
    (∀ p ∈ todo, p.1.Ok) ∧ pts2 todo ≤ q.parts ∧ max D (mx todo) = q.deep, ⟨_, upd H0 t0 (.tup [v, .int 0]), _, [(q, 0)], 0, _, _, _, rfl, rfl, Ex.new ht00, ?_, ?_, by rw [upd_ne (Ne.symm n0)]; exact hl0, upd_same, ?_, by simpa using hq, by simp [pts2, ptss], by simp [mx]⟩, ?_⟩
  · exact ((Ex.both (x0.trans x1) t0 _).mut (by rw [upd_ne (Ne.symm n0)]; exact hl0))
  · exact ((x1.trans (Ex.new ht0)).trans (Ex.new hl))
  · exact Ds.app1 (r := q) (d := 0) (xs := []) (ts := []) .nil upd_same ((da_of _ _ hd).up (Ex.new ht00))
  rintro m σ G ⟨Hb, xs, todo, D, o1, o2, o3, rfl, rfl, xb, xg, xh, nb, gl, hxs, hok, hpt, hmx⟩
  refine ⟨_, rfl, _, .inl ⟨xs, SqL.of gl, rfl⟩, ?_⟩
  have emp : xs.isEmpty = todo.isEmpty := by
    have := hxs.len
    cases xs <;> cases todo <;> simp at this ⊢
  rw [emp]
  rcases List.eq_nil_or_concat todo with rfl | ⟨rest, ⟨r, d⟩, rfl⟩
  · refine iteF ?_
    walk_at "rd"
    have e : D = q.deep := by simpa [mx] using hmx
    rw [e]
    exact k _ xh
  have ne : (rest.concat (r, d)).isEmpty = false := by cases rest <;> rfl
  rw [ne]
  rw [List.concat_eq_append] at *
  refine iteT ?_
  obtain ⟨a, y, e1, ha, hy, hrest⟩ := hxs.last
  have hlen := hxs.len
  have hl2 := pts2_len (rest ++ [(r, d)])
  rw [pts2_app] at hl2 hpt
  rw [mx_app] at hmx
  have hro : r.Ok := hok (r, d) (by simp)
  refine ⟨_, fun _ _ h => h, ?_⟩
  refine ⟨_, rfl, .inl ⟨rfl, _, SqL.of gl⟩, l, xs, .ref a, rfl, rfl, gl, e1, ?_⟩
  have xg1 : Ex Hb (upd G l (.lst xs.dropLast)) := xg.mut nb
  have xh1 : Ex H (upd G l (.lst xs.dropLast)) := xh.mut hlH
  have gl1 : upd G l (.lst xs.dropLast) l = some (.lst xs.dropLast) := upd_same
  generalize upd G l (.lst xs.dropLast) = G1 at *
  have ha1 := ex_t xg1 ha
  have hy1 := hy.up xg1
  obtain ⟨b, ws, rfl, hb⟩ := da_word hy1
  refine ⟨a, _, rfl, ha1, rfl, ?_⟩
  walk_at "rd"
  refine ⟨b, _, 0, _, rfl, rfl, hb, at0 _ _, ?_⟩
  walk_at "rd"
  refine iteS (fun z => ?_) (fun z => ?_)
  · have z1 := Qn.word_some.1 z
    have f1 : ((d : Nat) : Int) + 1 = ((d + r.up : Nat) : Int) := by rw [z1]; rfl
    have f2 : (if ((d : Nat) : Int) + 1 > ((D : Nat) : Int) then ((d : Nat) : Int) + 1 else ((D : Nat) : Int)) = ((max D (d + r.up) : Nat) : Int) := by rw [f1]; split <;> omega
    walk_at "rd"
    walk_at "tl"
  · have z1 := Qn.word_some.2 z
    have f1 : ((d : Nat) : Int) = ((d + r.up : Nat) : Int) := by rw [z1]; rfl
    have f2 : (if ((d : Nat) : Int) > ((D : Nat) : Int) then ((d : Nat) : Int) else ((D : Nat) : Int)) = ((max D (d + r.up) : Nat) : Int) := by split <;> omega
    walk_at "rd"
    walk_at "tl"

end
end Lw
end

section
set_option Elab.async false
set_option linter.all false
set_option maxRecDepth 100000
set_option maxHeartbeats 4000000
set_option pp.maxSteps 300
set_option pp.deepTerms false
namespace Lw
open PySem L2 Evl M
open PyProof.Rows hiding St
local macro_rules | `(tactic| walk_at "at") => `(tactic| first | assumption | exact upd_same)
local macro_rules | `(tactic| walk_at "sq") => `(tactic| first | assumption | exact SqL.of (by walk_at "at") | exact SqT.of (by walk_at "at"))
local macro_rules | `(tactic| walk_at "sd") => `(tactic| first | assumption | exact Names.size (by assumption) | omega | decide | exact Nat.le_of_ble_eq_true rfl | exact Or.inl ⟨by decide, by decide⟩ | exact wide_div (b := 200) (by first | assumption | decide) (by first | assumption | decide) (by decide) (by decide) | exact pow_w 10 (by decide) (by decide) (by decide) (by decide))
local macro_rules | `(tactic| walk_at "r1") => `(tactic| first
  | refine ⟨_, rfl, ?_⟩
  | refine ⟨_, _, rfl, rfl, ?_⟩
  | refine And.intro rfl ?_
  | refine ⟨_, _, _, _, rfl, rfl, (by walk_at "sq"), rfl, ?_⟩
  | refine ⟨_, _, _, _, rfl, rfl, (by walk_at "at"), rfl, ?_⟩
  | refine ⟨_, _, rfl, Or.inl (by walk_at "sq"), ?_⟩
  | refine ⟨_, _, rfl, Or.inr (by walk_at "sq"), ?_⟩
  | refine ⟨_, _, rfl, ?_⟩
  | refine Or.inl ⟨_, rfl, ?_⟩
  | refine And.intro (by walk_at "sd") ?_)
local macro_rules | `(tactic| walk_at "rd") => `(tactic| try (walk_at "r1"; walk_at "rd"))
section
variable {P : Program} {w : World} {K : PySem.W.Frag} {mg : Str → Option Value} {base : Heap}
theorem ok__law_line (T : Tx w K mg) (G__law_draw : FnOk P w K mg base CX0 1 T.a__law_draw T.d__law_draw ["pool", "span"] sp_draw) : FnOk P w K mg base CX0 2 T.a__law_line T.d__law_line ["pool", "names", "longest"] sp_line := by
  refine T.F__law_line.ok sc__law_line (fun vs H Q E h => ?_) (fun cdv A outer s H vs Q E hr h => ?_)
  · obtain ⟨_, _, _, _, _, rfl, _⟩ := h
    rfl
  obtain ⟨H0, p, m, n, z, rfl, hP, hm, hn, hz, k⟩ := h
  refine ⟨_, (pss_one (ps_ret (pe_join pe_str (pe_lc (own := [("turn", 3)]) (g := gName 3) (tt := tYes) (by rfl) sc__law_line.nd (pi_range1 (by rfl) T.b_range (pa_cons (pe_call G__law_draw (hr.mono (by omega)) (by rfl) T.g__law_draw T.F__law_draw.kp T.b__law_draw .nil pass0 (pa_cons (pv 0) (pa_cons (pe_op op_add (pv 2) pe_int) pa_nil))) pa_nil)) (blkOk_by (own := [("turn", 3)]) (N := ["pool", "names", "longest", "turn"]) (sc := defScope s__law_line) (by decide +kernel)) (fun _ _ _ _ _ => (pg_name (i := 3) sc__law_line.nd rfl (Or.inl rfl))) (fun _ _ _ _ _ => pts_nil) (fun _ _ _ _ _ => (pe_ix ix_str (pv 1) (pe_call G__law_draw (hr.mono (by omega)) (by rfl) T.g__law_draw T.F__law_draw.kp T.b__law_draw .nil pass0 (pa_cons (pv 0) (pa_cons (pe_callB call_len_str (by rfl) T.b_len (by decide +kernel) (pa_cons (pv 1) pa_nil)) pa_nil))) (fun _ _ => rfl))))))), ?_⟩
  walk_at "rd"
  walk_at "rd"
  refine And.intro ⟨_, rfl⟩ ?_
  walk_at "rd"
  refine ⟨H0, p, m, (n : Int) + 1, rfl, hP, by omega, by omega, Nat.lt_of_le_of_lt (by omega : _ ≤ 100) (by decide), fun len H1 k0 k1 hP1 _ => ?_⟩
  walk_at "rd"
  intro D nD
  have hDp : D ≠ p := by
    obtain ⟨a, b, c, e, _⟩ := hP1.at_
    exact Ne.symm (ne_of_none e nD)
  have nD0 : H0 D = none := fresh_back hP1.ex nD
  obtain ⟨Pv, hPv⟩ : ∃ Pv : Nat → Hp → Prop, ∀ j J, Pv j J ↔ ∃ cs : List Nat, cs.length = j ∧ (∀ c ∈ cs, c ∈ z.cps.toList) ∧ Pl H0 J p (m + 1 + j) ∧ J D = some (.lst (oneV cs)) := ⟨_, fun _ _ => Iff.rfl⟩
  refine lc_range Pv ((hPv _ _).mpr ⟨[], rfl, (fun c h => nomatch h), hP1.mine nD, upd_same⟩) (fun j J hj hJ => ?_) (fun J hJ => ?_)
  · obtain ⟨cs, e1, e2, hPJ, eD⟩ := (hPv _ _).mp hJ
    walk_at "rd"
    refine ⟨H0, p, _, z.length, rfl, hPJ, by omega, (by have := hz.2.1; omega), (by have := hz.2.2; omega), fun kc J2 c0 c1 hPJ2 keep => ?_⟩
    obtain ⟨c, hc, hcz⟩ := hz.get c0 c1
    refine ⟨_, _, _, rfl, rfl, hz.size, hc, ?_⟩
    have eD2 := (keep D hDp).trans eD
    refine ⟨_, eD2, by rw [oneV_len, e1]; exact Nat.lt_of_le_of_lt (by omega : j ≤ 100) (by decide), (hPv _ _).mpr ⟨cs ++ [c], by simp [e1], fun d hd => ?_, ?_, ?_⟩⟩
    · rcases List.mem_append.mp hd with hd | hd
      · exact e2 d hd
      · rw [List.mem_singleton.mp hd]; exact hcz
    · exact (hPJ2.touch nD0 hDp).mono (by omega)
    · rw [upd_same, oneV_app]
  · obtain ⟨cs, e1, e2, hPJ, eD⟩ := (hPv _ _).mp hJ
    refine ⟨"", D, cs.map fun c => (⟨#[c]⟩ : Str), rfl, rfl, .inl (SqL.of eD), ?_, ?_⟩
    · have h1 : ((cs.map fun c => (⟨#[c]⟩ : Str)).map (·.length)).sum = cs.length := by
        clear e1 e2 eD
        induction cs with
        | nil => rfl
        | cons c cs ih => simp only [List.map_cons, List.sum_cons, List.length_cons, ih]; show 1 + _ = _; omega
      have h2 : ("" : Str).length = 0 := rfl
      rw [h1, h2]
      omega
    · rw [txt_one]
      have hl : (⟨cs.toArray⟩ : Str).length = cs.length := by show cs.toArray.size = _; simp
      refine k _ J (hPJ.mono (by omega)) (fun c hc => hz.1 c (e2 c (by simpa using hc))) (by rw [hl]; omega) (fun c hc => e2 c (by simpa using hc))

end
end Lw
end

section
set_option Elab.async false
set_option linter.all false
set_option maxRecDepth 100000
set_option maxHeartbeats 4000000
set_option pp.maxSteps 300
set_option pp.deepTerms false
namespace Lw
open PySem L2 Evl M
open PyProof.Rows hiding St
local macro_rules | `(tactic| walk_at "at") => `(tactic| first | assumption | exact upd_same)
local macro_rules | `(tactic| walk_at "sq") => `(tactic| first | assumption | exact SqL.of (by walk_at "at") | exact SqT.of (by walk_at "at"))
local macro_rules | `(tactic| walk_at "sd") => `(tactic| first | assumption | exact Names.size (by assumption) | omega | decide | exact Nat.le_of_ble_eq_true rfl | exact Or.inl ⟨by decide, by decide⟩ | exact wide_div (b := 200) (by first | assumption | decide) (by first | assumption | decide) (by decide) (by decide) | exact pow_w 10 (by decide) (by decide) (by decide) (by decide))
local macro_rules | `(tactic| walk_at "r1") => `(tactic| first
  | refine ⟨_, rfl, ?_⟩
  | refine ⟨_, _, rfl, rfl, ?_⟩
  | refine And.intro rfl ?_
  | refine ⟨_, _, _, _, rfl, rfl, (by walk_at "sq"), rfl, ?_⟩
  | refine ⟨_, _, _, _, rfl, rfl, (by walk_at "at"), rfl, ?_⟩
  | refine ⟨_, _, rfl, Or.inl (by walk_at "sq"), ?_⟩
  | refine ⟨_, _, rfl, Or.inr (by walk_at "sq"), ?_⟩
  | refine ⟨_, _, rfl, ?_⟩
  | refine Or.inl ⟨_, rfl, ?_⟩
  | refine And.intro (by walk_at "sd") ?_)
local macro_rules | `(tactic| walk_at "rd") => `(tactic| try (walk_at "r1"; walk_at "rd"))
section
variable {P : Program} {w : World} {K : PySem.W.Frag} {mg : Str → Option Value} {base : Heap}
theorem ok__law_bent (T : Tx w K mg) (G__law_draw : FnOk P w K mg base CX0 1 T.a__law_draw T.d__law_draw ["pool", "span"] sp_draw) : FnOk P w K mg base CX0 2 T.a__law_bent T.d__law_bent ["pool", "line", "names"] sp_bent := by
  refine T.F__law_bent.ok sc__law_bent (fun vs H Q E h => ?_) (fun cdv A outer s H vs Q E hr h => ?_)
  · obtain ⟨_, _, _, _, _, rfl, _⟩ := h
    rfl
  obtain ⟨H0, p, m, y, z, rfl, hP, hm, hy, hl, hn, k⟩ := h
  have hsz : y.length ≤ sizeLine := Nat.le_trans hl (by decide)
  refine ⟨_, (pss_cons (ps_par (i := 3) (j := 4) (by rfl) sc__law_bent.nd rfl rfl (by decide) rfl rfl (pa_cons (pe_call G__law_draw (hr.mono (by omega)) (by rfl) T.g__law_draw T.F__law_draw.kp T.b__law_draw .nil pass0 (pa_cons (pv 0) (pa_cons (pe_op op_add (pe_callB call_len_str (by rfl) T.b_len (by decide +kernel) (pa_cons (pv 1) pa_nil)) pe_int) pa_nil))) (pa_cons (pe_call G__law_draw (hr.mono (by omega)) (by rfl) T.g__law_draw T.F__law_draw.kp T.b__law_draw .nil pass0 (pa_cons (pv 0) (pa_cons pe_int pa_nil))) pa_nil)) (by rfl))
   (pss_cons (ps_set (i := 5) sc__law_bent.nd rfl (Or.inl rfl) (pe_ix ix_str (pv 2) (pe_call G__law_draw (hr.mono (by omega)) (by rfl) T.g__law_draw T.F__law_draw.kp T.b__law_draw .nil pass0 (pa_cons (pv 0) (pa_cons (pe_callB call_len_str (by rfl) T.b_len (by decide +kernel) (pa_cons (pv 2) pa_nil)) pa_nil))) (fun _ _ => rfl)))
   (pss_cons (ps_if (pt_cmpR op_eq (pv 4) pe_int (nomark _)) (pss_one (ps_ret (pe_op op_add_str (pe_op op_add_str (pe_slice sl_str (pv 1) po_none (po_some (pv 3))) (pv 5)) (pe_slice sl_str (pv 1) (po_some (pv 3)) po_none)))) pss_nil)
   (pss_cons (ps_if (pt_cmpR op_eq (pv 4) pe_int (nomark _)) (pss_one (ps_ret (pe_op op_add_str (pe_slice sl_str (pv 1) po_none (po_some (pv 3))) (pe_slice sl_str (pv 1) (po_some (pe_op op_add (pv 3) pe_int)) po_none)))) pss_nil)
   (pss_cons (ps_if (pw_and (pt_cmpR op_eq (pv 4) pe_int (nomark _)) (pw_and1 (pt_cmpR op_lt (pv 3) (pe_callB call_len_str (by rfl) T.b_len (by decide +kernel) (pa_cons (pv 1) pa_nil)) (nomark _)))).pt (pss_one (ps_ret (pe_op op_add_str (pe_op op_add_str (pe_slice sl_str (pv 1) po_none (po_some (pv 3))) (pv 5)) (pe_slice sl_str (pv 1) (po_some (pe_op op_add (pv 3) pe_int)) po_none)))) pss_nil)
   (pss_cons (ps_if (pt_cmpR op_eq (pv 4) pe_int (nomark _)) (pss_one (ps_ret (pe_op op_add_str (pe_op op_add_str (pe_slice sl_str (pv 1) po_none (po_some (pv 3))) (M.pe_revS (pe_slice sl_str (pv 1) (po_some (pv 3)) (po_some (pe_op op_add (pv 3) pe_int))))) (pe_slice sl_str (pv 1) (po_some (pe_op op_add (pv 3) pe_int)) po_none)))) pss_nil)
   (pss_cons (ps_if (pt_cmpR op_eq (pv 4) pe_int (nomark _)) (pss_cons (ps_set (i := 6) sc__law_bent.nd rfl (Or.inl rfl) (pe_op op_add pe_int (pe_call G__law_draw (hr.mono (by omega)) (by rfl) T.g__law_draw T.F__law_draw.kp T.b__law_draw .nil pass0 (pa_cons (pv 0) (pa_cons pe_int pa_nil)))))
   (pss_one (ps_ret (pe_op op_add_str (pe_op op_add_str (pe_slice sl_str (pv 1) po_none (po_some (pv 3))) (pe_slice sl_str (pv 1) (po_some (pv 3)) (po_some (pe_op op_add (pv 3) (pv 6))))) (pe_slice sl_str (pv 1) (po_some (pv 3)) po_none))))) pss_nil)
   (pss_one (ps_ret (pe_ifExp (pt_cmpR op_eq (pv 4) pe_int (nomark _)) (M.pe_revS (pv 1)) (pv 1))))))))))), ?_⟩
  walk_at "rd"
  refine ⟨H0, p, m, (y.length : Int) + 1, rfl, hP, by omega, by omega, Nat.lt_of_le_of_lt (by omega : _ ≤ 100) (by decide), fun at' H1 a0 a1 hP1 _ => ?_⟩
  obtain ⟨a, rfl⟩ : ∃ a : Nat, at' = a := ⟨at'.toNat, by omega⟩
  have ha : a ≤ y.length := by omega
  walk_at "rd"
  refine ⟨H0, p, m + 1, 7, rfl, hP1, by omega, by decide, by decide, fun way H2 w0 w1 hP2 _ => ?_⟩
  walk_at "rd"
  refine ⟨H0, p, m + 1 + 1, z.length, rfl, hP2, by omega, (by have := hn.2.1; omega), (by have := hn.2.2; omega), fun kc H3 c0 c1 hP3 _ => ?_⟩
  obtain ⟨c, hc, hcz⟩ := hn.get c0 c1
  refine ⟨_, _, _, rfl, rfl, hn.size, hc, ?_⟩
  have hc2 := abc_one (hn.1 c hcz)
  have lone : (⟨#[c]⟩ : Str).length = 1 := rfl
  have m3 : m + 1 + 1 + 1 ≤ m + 4 := by omega
  have cl : ∀ lo hi, (cutS y lo hi).length ≤ y.length := fun lo hi => cut_len
  have szs : ∀ n : Nat, n ≤ 1000 → n ≤ sizeLine := fun n h => Nat.le_trans h (by decide)
  have l1 : (cutS y none (some (a : Int))).length ≤ a := len_to
  have l2 : (cutS y (some (a : Int)) none).length ≤ y.length - a := len_from
  have l3 : (cutS y (some ((a : Int) + 1)) none).length ≤ y.length - (a + 1) := len_from (n := a + 1)
  have l4 : (cutS y (some ((a : Int) + 2)) none).length ≤ y.length - (a + 2) := len_from (n := a + 2)
  have l5 : (cutS y (some (a : Int)) (some ((a : Int) + 2))).length ≤ a + 2 - a := len_cut (lo := a) (hi := a + 2)
  have hP3m := hP3.mono m3
  have hs : 1000 ≤ sizeLine := by decide
  have b1 := len_app (cutS y none (some (a : Int))) ⟨#[c]⟩
  have b2 := len_app (cutS y none (some (a : Int))) (revS (cutS y (some (a : Int)) (some ((a : Int) + 2))))
  have b3 := len_rev (cutS y (some (a : Int)) (some ((a : Int) + 2)))
  walk_at "rd"
  refine iteI (fun e0 => ?_) (fun e0 => ?_)
  · walk_at "rd"
    exact k _ _ hP3m (abc_app (abc_app (abc_cut hy) hc2) (abc_cut hy)) (by rw [len_app, len_app]; omega)
  walk_at "rd"
  refine iteI (fun e1 => ?_) (fun e1 => ?_)
  · walk_at "rd"
    exact k _ _ hP3m (abc_app (abc_cut hy) (abc_cut hy)) (by rw [len_app]; omega)
  walk_at "rd"
  refine iteI (fun e2 => ?_) (fun e2 => ?_)
  · walk_at "rd"
    refine iteD (fun e3 => ?_) (fun e3 => ?_)
    · walk_at "rd"
      exact k _ _ hP3m (abc_app (abc_app (abc_cut hy) hc2) (abc_cut hy)) (by rw [len_app, len_app]; omega)
    · walk_at "rd"
      refine iteI (fun e4 => by omega) (fun e4 => ?_)
      walk_at "rd"
      refine iteI (fun e5 => by omega) (fun e5 => ?_)
      walk_at "rd"
      refine iteI (fun e6 => by omega) (fun e6 => ?_)
      walk_at "rd"
      exact k _ _ hP3m hy (by omega)
  walk_at "rd"
  refine iteI (fun e3 => ?_) (fun e3 => ?_)
  · walk_at "rd"
    exact k _ _ hP3m (abc_app (abc_app (abc_cut hy) (abc_rev (abc_cut hy))) (abc_cut hy)) (by rw [len_app, len_app, len_rev]; omega)
  walk_at "rd"
  refine iteI (fun e4 => ?_) (fun e4 => ?_)
  · walk_at "rd"
    refine ⟨H0, p, m + 1 + 1 + 1, 3, rfl, hP3, by omega, by decide, by decide, fun sp H4 s0 s1 hP4 _ => ?_⟩
    obtain ⟨b, hb⟩ : ∃ b : Nat, (a : Int) + (1 + sp) = ((b : Nat) : Int) := ⟨((a : Int) + (1 + sp)).toNat, by omega⟩
    have l6 : (cutS y (some (a : Int)) (some ((b : Nat) : Int))).length ≤ b - a := len_cut (lo := a) (hi := b)
    rw [← hb] at l6
    have b4 := len_app (cutS y none (some (a : Int))) (cutS y (some (a : Int)) (some ((a : Int) + (1 + sp))))
    walk_at "rd"
    exact k _ _ (hP4.mono (by omega)) (abc_app (abc_app (abc_cut hy) (abc_cut hy)) (abc_cut hy)) (by rw [len_app, len_app]; omega)
  walk_at "rd"
  refine iteI (fun e5 => ?_) (fun e5 => ?_)
  · walk_at "rd"
    exact k _ _ hP3m (abc_rev hy) (by rw [len_rev]; omega)
  · walk_at "rd"
    exact k _ _ hP3m hy (by omega)

end
end Lw
end

section
set_option Elab.async false
set_option linter.all false
set_option maxRecDepth 100000
set_option maxHeartbeats 4000000
set_option pp.maxSteps 300
set_option pp.deepTerms false
namespace Lw
open PySem L2 Evl M
open PyProof.Rows hiding St
local macro_rules | `(tactic| walk_at "at") => `(tactic| first | assumption | exact upd_same)
local macro_rules | `(tactic| walk_at "sq") => `(tactic| first | assumption | exact SqL.of (by walk_at "at") | exact SqT.of (by walk_at "at"))
local macro_rules | `(tactic| walk_at "sd") => `(tactic| first | assumption | exact Names.size (by assumption) | omega | decide | exact Nat.le_of_ble_eq_true rfl | exact Or.inl ⟨by decide, by decide⟩ | exact wide_div (b := 200) (by first | assumption | decide) (by first | assumption | decide) (by decide) (by decide) | exact pow_w 10 (by decide) (by decide) (by decide) (by decide))
local macro_rules | `(tactic| walk_at "r1") => `(tactic| first
  | refine ⟨_, rfl, ?_⟩
  | refine ⟨_, _, rfl, rfl, ?_⟩
  | refine And.intro rfl ?_
  | refine ⟨_, _, _, _, rfl, rfl, (by walk_at "sq"), rfl, ?_⟩
  | refine ⟨_, _, _, _, rfl, rfl, (by walk_at "at"), rfl, ?_⟩
  | refine ⟨_, _, rfl, Or.inl (by walk_at "sq"), ?_⟩
  | refine ⟨_, _, rfl, Or.inr (by walk_at "sq"), ?_⟩
  | refine ⟨_, _, rfl, ?_⟩
  | refine Or.inl ⟨_, rfl, ?_⟩
  | refine And.intro (by walk_at "sd") ?_)
local macro_rules | `(tactic| walk_at "rd") => `(tactic| try (walk_at "r1"; walk_at "rd"))
section
variable {P : Program} {w : World} {K : PySem.W.Frag} {mg : Str → Option Value} {base : Heap}
theorem ok__law_pair_of_lines (T : Tx w K mg) (G__law_draw : FnOk P w K mg base CX0 1 T.a__law_draw T.d__law_draw ["pool", "span"] sp_draw)
    (G__law_line : FnOk P w K mg base CX0 2 T.a__law_line T.d__law_line ["pool", "names", "longest"] sp_line)
    (G__law_bent : FnOk P w K mg base CX0 2 T.a__law_bent T.d__law_bent ["pool", "line", "names"] sp_bent) :
    FnOk P w K mg base CX0 3 T.a__law_pair_of_lines T.d__law_pair_of_lines ["pool", "longest"] sp_pair := by
  refine T.F__law_pair_of_lines.ok sc__law_pair_of_lines (fun vs H Q E h => ?_) (fun cdv A outer s H vs Q E hr h => ?_)
  · obtain ⟨_, _, _, _, rfl, _⟩ := h
    rfl
  obtain ⟨H0, p, m, n, rfl, hP, hm, hn, k⟩ := h
  refine ⟨_, (pss_cons (ps_set (i := 2) sc__law_pair_of_lines.nd rfl (Or.inl rfl) (pe_ix ix_list (pe_lst (pa_cons pe_str (pa_cons pe_str (pa_cons pe_str (pa_cons pe_str pa_nil))))) (pe_call G__law_draw (hr.mono (by omega)) (by rfl) T.g__law_draw T.F__law_draw.kp T.b__law_draw .nil pass0 (pa_cons (pv 0) (pa_cons pe_int pa_nil))) (fun _ _ => rfl)))
   (pss_cons (ps_par (i := 3) (j := 4) (by rfl) sc__law_pair_of_lines.nd rfl rfl (by decide) rfl rfl (pa_cons (pe_call G__law_line (hr.mono (by omega)) (by rfl) T.g__law_line T.F__law_line.kp T.b__law_line .nil pass0 (pa_cons (pv 0) (pa_cons (pv 2) (pa_cons (pv 1) pa_nil)))) (pa_cons (pe_call G__law_draw (hr.mono (by omega)) (by rfl) T.g__law_draw T.F__law_draw.kp T.b__law_draw .nil pass0 (pa_cons (pv 0) (pa_cons pe_int pa_nil))) pa_nil)) (by rfl))
   (pss_cons (ps_if (pt_cmpR op_eq (pv 4) pe_int (nomark _)) (pss_one (ps_ret (pe_tup (pa_cons (pv 3) (pa_cons (pe_call G__law_line (hr.mono (by omega)) (by rfl) T.g__law_line T.F__law_line.kp T.b__law_line .nil pass0 (pa_cons (pv 0) (pa_cons (pv 2) (pa_cons (pv 1) pa_nil)))) pa_nil))))) pss_nil)
   (pss_cons (ps_set (i := 5) sc__law_pair_of_lines.nd rfl (Or.inl rfl) (pv 3))
   (pss_cons (ps_for PassesOwn.never (by rfl) (pi_range1 (by rfl) T.b_range (pa_cons (pv 4) pa_nil)) (pg_name (i := 6) sc__law_pair_of_lines.nd rfl (Or.inl rfl)) (pss_one (ps_set (i := 5) sc__law_pair_of_lines.nd rfl (Or.inl rfl) (pe_call G__law_bent (hr.mono (by omega)) (by rfl) T.g__law_bent T.F__law_bent.kp T.b__law_bent .nil pass0 (pa_cons (pv 0) (pa_cons (pv 5) (pa_cons (pv 2) pa_nil)))))))
   (pss_one (ps_ret (pe_tup (pa_cons (pv 3) (pa_cons (pe_slice sl_str (pv 5) po_none (po_some (pv 1))) pa_nil)))))))))), ?_⟩
  walk_at "rd"
  intro l hl
  have hP1 := hP.mine (o := .lst [.str "ab", .str "a", .str "abc", .str "xyb"]) hl
  have gl : upd H l (.lst [.str "ab", .str "a", .str "abc", .str "xyb"]) l = some (.lst [.str "ab", .str "a", .str "abc", .str "xyb"]) := upd_same
  have hlp : l ≠ p := by
    obtain ⟨a, b, c, e, _⟩ := hP.at_
    exact Ne.symm (ne_of_none e hl)
  generalize upd H l (.lst [.str "ab", .str "a", .str "abc", .str "xyb"]) = H1 at *
  walk_at "rd"
  refine ⟨H0, p, m, 4, rfl, hP1, by omega, by decide, by decide, fun kd H2 k0 k1 hP2 keep => ?_⟩
  have gl2 : H2 l = _ := (keep l hlp).trans gl
  obtain ⟨z, hz, hnz⟩ := namesB k0 k1
  refine ⟨l, _, kd, .str z, rfl, rfl, SqL.of gl2, hz, ?_⟩
  walk_at "rd"
  refine ⟨H0, p, m + 1, n, z, rfl, hP2, by omega, hn, hnz, fun ln H3 hP3 abc hlen _ => ?_⟩
  walk_at "rd"
  refine ⟨H0, p, _, 4, rfl, hP3, by omega, by decide, by decide, fun way H4 w0 w1 hP4 _ => ?_⟩
  walk_at "rd"
  refine iteI (fun e0 => ?_) (fun e0 => ?_)
  · walk_at "rd"
    refine ⟨H0, p, _, n, z, rfl, hP4, by omega, hn, hnz, fun ln2 H5 hP5 abc2 hlen2 _ => ?_⟩
    walk_at "rd"
    intro t ht
    exact k t ln ln2 _ ((hP5.mine ht).mono (by omega)) upd_same abc abc2 hlen hlen2
  have hw : way.toNat ≤ 3 := by omega
  walk_at "rd"
  generalize Int.toNat _ = top at *
  obtain ⟨Pv, hPv⟩ : ∃ Pv : Nat → L2.St → Hp → Prop, ∀ i σ G, Pv i σ G ↔ ∃ (v : Str) (o6 : Option V), σ = [some (.ref p), some (.int (n : Nat)), some (.str z), some (.str ln), some (.int way), some (.str v), o6] ∧ Pl H0 G p (m + 1 + n + 2 + 1 + 4 * i) ∧ Abc v ∧ v.length ≤ n + 3 * i := ⟨_, fun _ _ _ => Iff.rfl⟩
  refine for_range Pv ((hPv _ _ _).mpr ⟨ln, _, rfl, hP4.mono (by omega), abc, by omega⟩) (fun i σ G hi h => ?_) (fun σ G h => ?_)
  · obtain ⟨v, o6, rfl, hPi, av, lv⟩ := (hPv _ _ _).mp h
    have hi4 : i < 4 := by omega
    walk_at "rd"
    refine ⟨H0, p, _, v, z, rfl, hPi, by omega, av, by omega, hnz, fun v2 G2 hP5 av2 lv2 => ?_⟩
    walk_at "rd"
    exact (hPv _ _ _).mpr ⟨v2, _, rfl, hP5.mono (by omega), av2, by omega⟩
  · obtain ⟨v, o6, rfl, hPi, av, lv⟩ := (hPv _ _ _).mp h
    walk_at "rd"
    refine ⟨Nat.le_trans (by omega : v.length ≤ 100) (by decide), ?_⟩
    walk_at "rd"
    intro t ht
    exact k t ln _ _ ((hPi.mine ht).mono (by omega)) upd_same abc (abc_cut av) hlen (by
      have := len_to (z := v) (hi := n)
      exact this)

end
end Lw
end

section
set_option Elab.async false
set_option linter.all false
set_option maxRecDepth 100000
set_option maxHeartbeats 4000000
set_option pp.maxSteps 300
set_option pp.deepTerms false
namespace Lw
open PySem L2 Evl M
open PyProof.Rows hiding St
local macro_rules | `(tactic| walk_at "at") => `(tactic| first | assumption | exact upd_same)
local macro_rules | `(tactic| walk_at "sq") => `(tactic| first | assumption | exact SqL.of (by walk_at "at") | exact SqT.of (by walk_at "at"))
local macro_rules | `(tactic| walk_at "sd") => `(tactic| first | assumption | exact Names.size (by assumption) | omega | decide | exact Nat.le_of_ble_eq_true rfl | exact Or.inl ⟨by decide, by decide⟩ | exact wide_div (b := 200) (by first | assumption | decide) (by first | assumption | decide) (by decide) (by decide) | exact pow_w 10 (by decide) (by decide) (by decide) (by decide))
local macro_rules | `(tactic| walk_at "r1") => `(tactic| first
  | refine ⟨_, rfl, ?_⟩
  | refine ⟨_, _, rfl, rfl, ?_⟩
  | refine And.intro rfl ?_
  | refine ⟨_, _, _, _, rfl, rfl, (by walk_at "sq"), rfl, ?_⟩
  | refine ⟨_, _, _, _, rfl, rfl, (by walk_at "at"), rfl, ?_⟩
  | refine ⟨_, _, rfl, Or.inl (by walk_at "sq"), ?_⟩
  | refine ⟨_, _, rfl, Or.inr (by walk_at "sq"), ?_⟩
  | refine ⟨_, _, rfl, ?_⟩
  | refine Or.inl ⟨_, rfl, ?_⟩
  | refine And.intro (by walk_at "sd") ?_)
local macro_rules | `(tactic| walk_at "rd") => `(tactic| try (walk_at "r1"; walk_at "rd"))
section
variable {P : Program} {w : World} {K : PySem.W.Frag} {mg : Str → Option Value} {base : Heap}
theorem ok__law_deep (T : Tx w K mg) : ∀ n : Nat, FnOk P w K mg base CX0 n T.a__law_deep T.d__law_deep ["query"] (sp_deep K n) := by
  intro n
  induction n with
  | zero =>
    refine fn_void fun vs H Q E h => ?_
    obtain ⟨_, _, q, _, _, _, h, _⟩ := h
    have := q.hi_pos
    omega
  | succ n ih =>
  have G__law_deep := ih
  refine T.F__law_deep.ok sc__law_deep (fun vs H Q E h => ?_) (fun cdv A outer s H vs Q E hr h => ?_)
  · obtain ⟨_, _, _, rfl, _⟩ := h
    rfl
  obtain ⟨H0, v, q, rfl, x0, hd, hh, k⟩ := h
  refine ⟨_, (pss_cons (ps_if (pt_cmpR op_eq (pe_ix ix_tup (pv 0) pe_int (fun _ _ => rfl)) pe_str (nomark _)) (pss_one (ps_ret (pe_op op_add pe_int (pe_callB (call_max2 (by rfl)) (by rfl) T.b_max (by decide +kernel) (pa_cons (pe_call G__law_deep (hr.mono (by omega)) (by rfl) T.g__law_deep T.F__law_deep.kp T.b__law_deep .nil pass0 (pa_cons (pe_ix ix_tup (pv 0) pe_int (fun _ _ => rfl)) pa_nil)) (pa_cons (pe_call G__law_deep (hr.mono (by omega)) (by rfl) T.g__law_deep T.F__law_deep.kp T.b__law_deep .nil pass0 (pa_cons (pe_ix ix_tup (pv 0) pe_int (fun _ _ => rfl)) pa_nil)) pa_nil)))))) pss_nil)
   (pss_one (ps_ret (pe_callB (cr_max (by rfl)) (by rfl) T.b_max (by decide +kernel) (pa_cons (pe_op op_cat (pe_lst (pa_cons pe_int pa_nil)) (pe_lc (own := [("inner_here", 1)]) (g := gName 1) (tt := tYes) (by rfl) sc__law_deep.nd (pi_tup (pe_slice sl_tup (pv 0) (po_some pe_int) po_none)) (blkOk_by (own := [("inner_here", 1)]) (N := ["query", "inner_here"]) (sc := defScope s__law_deep) (by decide +kernel)) (fun _ _ _ _ _ => (pg_name (i := 1) sc__law_deep.nd rfl (Or.inl rfl))) (fun _ _ _ _ _ => pts_nil) (fun _ _ _ _ _ => (pe_call G__law_deep (hr.mono (by omega)) (by rfl) T.g__law_deep T.F__law_deep.kp T.b__law_deep .nil pass0 (pa_cons (pv 1) pa_nil))))) pa_nil))))), ?_⟩
  have hd1 := hd.up x0
  rcases q.up_cases with ⟨r, c, u, rfl⟩ | hn
  · obtain ⟨a, x, y, rfl, ha, hx, hy⟩ := da_some hd1
    simp only [Qn.hi] at hh
    walk_at "rd"
    refine ⟨H, x, r, rfl, Ex.refl _, hx, by omega, fun H1 x1 => ?_⟩
    have ha1 := ex_t x1 ha
    walk_at "rd"
    refine ⟨H, y, u, rfl, x1, hy, by omega, fun H2 x2 => ?_⟩
    walk_at "rd"
    have e : (1 : Int) + (if ((u.deep : Nat) : Int) > ((r.deep : Nat) : Int) then ((u.deep : Nat) : Int) else ((r.deep : Nat) : Int)) = (((Qn.some r c u).deep : Nat) : Int) := by
      simp only [Qn.deep]
      split <;> omega
    have fin := k H2 (x1.trans x2)
    rw [← e] at fin
    exact fin
  · obtain ⟨a, ws, rfl, ha, hks⟩ := da_kids hd1 hn
    walk_at "rd"
    refine ⟨a, _, 0, _, rfl, rfl, ha, at0 _ _, ?_⟩
    walk_at "rd"
    refine iteS (fun z => ?_) (fun z => ?_)
    · have := Qn.word_some.1 z
      omega
    walk_at "rd"
    intro p hp
    have ha1 := ex_t (Ex.new (o := .lst [.int 0]) hp) ha
    walk_at "rd"
    refine ⟨_, _, rfl, ha1, cut1_not _ _, fun t ht => ?_⟩
    rw [cut1]
    have nt : t ≠ p := fun z => by rw [z, upd_same] at ht; cases ht
    refine ⟨t, rfl, ⟨ws, st_of upd_same⟩, fun D hD => ?_⟩
    have np : D ≠ p := fun z => by rw [z, upd_ne (Ne.symm nt), upd_same] at hD; cases hD
    have nD : D ≠ t := fun z => by rw [z, upd_same] at hD; cases hD
    have hDH : H D = none := by rw [upd_ne nD, upd_ne np] at hD; exact hD
    have hl := hks.len
    have hf := q.kids_few
    refine lc_tup (xs := ws) (fun i G => Ex H G ∧ G t = some (.tup ws) ∧ G p = some (.lst [.int 0]) ∧ i ≤ ws.length ∧ G D = some (.lst ((q.kids.take i).map fun r => V.int ((r.deep : Nat) : Int))))
      ⟨?_, ?_, ?_, Nat.zero_le _, upd_same⟩ (fun i G _ h => st_of h.2.1) (fun i x G hx h => ?_) (fun G h => ?_)
    · exact ((Ex.new hp).trans (Ex.new ht)).trans (Ex.new hD)
    · rw [upd_ne (Ne.symm nD), upd_same]
    · rw [upd_ne (Ne.symm np), upd_ne (Ne.symm nt), upd_same]
    · obtain ⟨xg, gt, gp, hi, gD⟩ := h
      have hi2 : i < ws.length := (List.getElem?_eq_some_iff.mp hx).1
      have hj : i < q.kids.length := by omega
      have hx2 := Qs.at hks hj hx
      have hh2 := Qn.hi_kids (List.getElem_mem hj)
      refine ⟨rfl, ?_⟩
      walk_at "rd"
      refine ⟨H, x, q.kids[i], rfl, xg, hx2, by omega, fun G2 x2 => ?_⟩
      have gt2 := x2 _ _ gt
      have gp2 := x2 _ _ gp
      have gD2 := x2 _ _ gD
      refine ⟨_, gD2, Nat.lt_of_le_of_lt (by simp only [List.length_map, List.length_take]; omega : _ ≤ 10) (by decide), (xg.trans x2).mut hDH, by rw [upd_ne (Ne.symm nD)]; exact gt2, by rw [upd_ne (Ne.symm np)]; exact gp2, hi2, ?_⟩
      rw [upd_same, take_succ' hj, List.map_append]
      rfl
    · obtain ⟨xg, gt, gp, hi, gD⟩ := h
      have full : q.kids.take ws.length = q.kids := by rw [hl, List.take_length]
      rw [full] at gD
      refine ⟨p, D, _, _, rfl, rfl, gp, gD, Nat.le_trans (by simp only [List.length_map, List.length_cons, List.length_nil]; omega : _ ≤ 10) (by decide), fun e he => ?_⟩
      refine ⟨e, (0 : Int) :: q.kids.map fun r => ((r.deep : Nat) : Int), rfl, SqL.of ?_, Nat.succ_pos _, fun m h1 h2 => ?_⟩
      · rw [upd_same, List.map_cons, List.map_map]
        rfl
      · rw [Qn.deep_max hn h1 h2]
        exact k _ (xg.trans (Ex.new he))

end
end Lw
end

section
set_option Elab.async false
set_option linter.all false
set_option maxRecDepth 100000
set_option maxHeartbeats 4000000
set_option pp.maxSteps 300
set_option pp.deepTerms false
namespace Lw
open PySem L2 Evl M
open PyProof.Rows hiding St
local macro_rules | `(tactic| walk_at "at") => `(tactic| first | assumption | exact upd_same)
local macro_rules | `(tactic| walk_at "sq") => `(tactic| first | assumption | exact SqL.of (by walk_at "at") | exact SqT.of (by walk_at "at"))
local macro_rules | `(tactic| walk_at "sd") => `(tactic| first | assumption | exact Names.size (by assumption) | omega | decide | exact Nat.le_of_ble_eq_true rfl | exact Or.inl ⟨by decide, by decide⟩ | exact wide_div (b := 200) (by first | assumption | decide) (by first | assumption | decide) (by decide) (by decide) | exact pow_w 10 (by decide) (by decide) (by decide) (by decide))
local macro_rules | `(tactic| walk_at "r1") => `(tactic| first
  | refine ⟨_, rfl, ?_⟩
  | refine ⟨_, _, rfl, rfl, ?_⟩
  | refine And.intro rfl ?_
  | refine ⟨_, _, _, _, rfl, rfl, (by walk_at "sq"), rfl, ?_⟩
  | refine ⟨_, _, _, _, rfl, rfl, (by walk_at "at"), rfl, ?_⟩
  | refine ⟨_, _, rfl, Or.inl (by walk_at "sq"), ?_⟩
  | refine ⟨_, _, rfl, Or.inr (by walk_at "sq"), ?_⟩
  | refine ⟨_, _, rfl, ?_⟩
  | refine Or.inl ⟨_, rfl, ?_⟩
  | refine And.intro (by walk_at "sd") ?_)
local macro_rules | `(tactic| walk_at "rd") => `(tactic| try (walk_at "r1"; walk_at "rd"))
section
variable {P : Program} {w : World} {K : PySem.W.Frag} {mg : Str → Option Value} {base : Heap}
theorem ok__law_lets (T : Tx w K mg) : ∀ n : Nat, FnOk P w K mg base CX0 n T.a__law_lets T.d__law_lets ["line", "query"] (sp_law_lets K n) := by
  intro n
  induction n with
  | zero =>
    refine fn_void fun vs H Q E h => ?_
    obtain ⟨_, _, q, _, _, _, _, h, _⟩ := h
    have := q.hi_pos
    omega
  | succ n ih =>
  have G__law_lets := ih
  refine T.F__law_lets.ok sc__law_lets (fun vs H Q E h => ?_) (fun cdv A outer s H vs Q E hr h => ?_)
  · obtain ⟨_, _, _, _, rfl, _⟩ := h
    rfl
  obtain ⟨H0, v, q, z, rfl, x0, hd, hh, hl, k⟩ := h
  refine ⟨_, (pss_cons (ps_if (pt_cmpR op_eq (pe_ix ix_tup (pv 1) pe_int (fun _ _ => rfl)) pe_str (nomark _)) (pss_one (ps_ret (pe_not (pe_call G__law_lets (hr.mono (by omega)) (by rfl) T.g__law_lets T.F__law_lets.kp T.b__law_lets .nil pass0 (pa_cons (pv 0) (pa_cons (pe_ix ix_tup (pv 1) pe_int (fun _ _ => rfl)) pa_nil)))))) pss_nil)
   (pss_cons (ps_if (pt_cmpR op_eq (pe_ix ix_tup (pv 1) pe_int (fun _ _ => rfl)) pe_str (nomark _)) (pss_one (ps_ret (pe_and (pe_call G__law_lets (hr.mono (by omega)) (by rfl) T.g__law_lets T.F__law_lets.kp T.b__law_lets .nil pass0 (pa_cons (pv 0) (pa_cons (pe_ix ix_tup (pv 1) pe_int (fun _ _ => rfl)) pa_nil))) (pe_one (pe_call G__law_lets (hr.mono (by omega)) (by rfl) T.g__law_lets T.F__law_lets.kp T.b__law_lets .nil pass0 (pa_cons (pv 0) (pa_cons (pe_ix ix_tup (pv 1) pe_int (fun _ _ => rfl)) pa_nil))))))) pss_nil)
   (pss_cons (ps_if (pt_cmpR op_eq (pe_ix ix_tup (pv 1) pe_int (fun _ _ => rfl)) pe_str (nomark _)) (pss_one (ps_ret pe_bl)) pss_nil)
   (pss_cons (ps_for PassesOwn.never (by rfl) (M.pi_enumS (by rfl) T.b_enumerate (pa_cons (pv 0) pa_nil)) (pg_tup (by rfl) (pgs_cons (pg_name (i := 2) sc__law_lets.nd rfl (Or.inl rfl)) (pgs_cons (pg_name (i := 3) sc__law_lets.nd rfl (Or.inl rfl)) pgs_nil))) (pss_one (ps_if (pw_and (pt_cmpR op_eq (pv 3) (pe_ix ix_tup (pv 1) pe_int (fun _ _ => rfl)) (nomark _)) (pw_and (pt_val (pe_call G__law_lets (hr.mono (by omega)) (by rfl) T.g__law_lets T.F__law_lets.kp T.b__law_lets .nil pass0 (pa_cons (pe_slice sl_str (pv 0) po_none (po_some (pv 2))) (pa_cons (pe_ix ix_tup (pv 1) pe_int (fun _ _ => rfl)) pa_nil)))) (pw_and1 (pt_val (pe_call G__law_lets (hr.mono (by omega)) (by rfl) T.g__law_lets T.F__law_lets.kp T.b__law_lets .nil pass0 (pa_cons (pe_slice sl_str (pv 0) (po_some (pe_op op_add (pv 2) pe_int)) po_none) (pa_cons (pe_ix ix_tup (pv 1) pe_int (fun _ _ => rfl)) pa_nil))))))).pt (pss_one (ps_ret pe_bl)) pss_nil)))
   (pss_one (ps_ret pe_bl)))))), ?_⟩
  cases q with
  | any =>
    obtain ⟨a, rfl, hx⟩ := da_any hd
    have hx := ex_t x0 hx
    walk_at "rd"
    refine iteT ?_
    walk_at "rd"
    exact k H (Ex.refl _)
  | no r =>
    obtain ⟨a, x', rfl, hx, h1⟩ := da_no hd
    have hx := ex_t x0 hx
    have hh1 : r.hi ≤ n := by simp only [Qn.hi] at hh; omega
    walk_at "rd"
    refine ⟨H0, x', r, z, rfl, x0, h1, hh1, hl, fun H1 x1 => ?_⟩
    walk_at "rd"
    exact k H1 x1
  | both r t =>
    obtain ⟨a, x', x'', rfl, hx, h1, h2⟩ := da_both hd
    have hx := ex_t x0 hx
    have hh1 : r.hi ≤ n ∧ t.hi ≤ n := by simp only [Qn.hi] at hh; omega
    walk_at "rd"
    refine ⟨H0, x', r, z, rfl, x0, h1, hh1.1, hl, fun H1 x1 => ?_⟩
    have hx1 := ex_t x1 hx
    walk_at "rd"
    refine iteB (fun q1 => ?_) (fun q1 => ?_)
    · walk_at "rd"
      refine ⟨H0, x'', t, z, rfl, x0.trans x1, h2, hh1.2, hl, fun H2 x2 => ?_⟩
      have e : lt (.both r t) (codes z) = lt t (codes z) := by simp only [lt]; rw [q1, Bool.true_and]
      have := k H2 (x1.trans x2)
      rw [e] at this
      exact this
    · have e : lt (.both r t) (codes z) = lt r (codes z) := by simp only [lt]; rw [q1, Bool.false_and]
      have := k H1 x1
      rw [e, q1] at this
      exact this
  | some r c t =>
    obtain ⟨a, x', x'', rfl, hx, h1, h2⟩ := da_some hd
    have hx := ex_t x0 hx
    have hh1 : r.hi ≤ n ∧ t.hi ≤ n := by simp only [Qn.hi] at hh; omega
    walk_at "rd"
    obtain ⟨Pv, hPv⟩ : ∃ Pv : Nat → L2.St → Hp → Prop, ∀ i σ G, Pv i σ G ↔ ∃ o1 o2 : Option V, σ = [some (.str z), some (.ref a), o1, o2] ∧ Ex H G ∧ ∀ j < i, ¬ ((codes z)[j]? = some c ∧ lt r ((codes z).take j) = true ∧ lt t ((codes z).drop (j + 1)) = true) := ⟨_, fun _ _ _ => Iff.rfl⟩
    refine for_enumS Pv ((hPv _ _ _).mpr ⟨_, _, rfl, Ex.refl _, fun j h => absurd h (Nat.not_lt_zero _)⟩) (fun i c' tp σ G hc hT h => ?_) (fun σ G h => ?_)
    · obtain ⟨o1, o2, rfl, xg, none⟩ := (hPv _ _ _).mp h
      have hcc : (codes z)[i]? = some c' := by unfold codes; rw [Array.getElem?_toList]; exact hc
      walk_at "rd"
      refine ⟨_, _, rfl, SqT.of upd_same, rfl, ?_⟩
      have xg2 : Ex H (upd G tp (.tup [.int (i : Nat), .str ⟨#[c']⟩])) := xg.trans (Ex.new hT)
      generalize upd G tp (.tup [.int (i : Nat), .str ⟨#[c']⟩]) = G2 at *
      have hx2 := ex_t xg2 hx
      walk_at "rd"
      have hi2 : i < z.length := by rw [← codes_len]; exact (List.getElem?_eq_some_iff.mp hcc).1
      have next : ¬ ((codes z)[i]? = some c ∧ lt r ((codes z).take i) = true ∧ lt t ((codes z).drop (i + 1)) = true) → ∀ G3, Ex H G3 → Pv (i + 1) [some (.str z), some (.ref a), some (.int (i : Nat)), some (.str ⟨#[c']⟩)] G3 := fun no G3 x3 => by
        refine (hPv _ _ _).mpr ⟨_, _, rfl, x3, fun j hj => ?_⟩
        by_cases e : j = i
        · subst e; exact no
        · exact none j (by omega)
      refine iteS (fun q1 => ?_) (fun q1 => ?_)
      · have hcx : c' = c := by
          injection q1 with q1
          have := congrArg Array.toList q1
          simpa using this
        subst hcx
        walk_at "rd"
        refine And.intro (Nat.le_trans hl (by decide)) ?_
        have hxa := ex_t xg2 hx
        walk_at "rd"
        refine ⟨H0, x', r, _, rfl, x0.trans xg2, h1, hh1.1, Nat.le_trans cut_len hl, fun G3 x3 => ?_⟩
        rw [codes_cut1 (Nat.le_of_lt hi2)]
        walk_at "rd"
        refine iteB (fun q2 => ?_) (fun q2 => ?_)
        · walk_at "rd"
          refine And.intro (Nat.le_trans hl (by decide)) ?_
          have hxb := ex_t (xg2.trans x3) hx
          have e1 : ((i : Int) + 1) = ((i + 1 : Nat) : Int) := by omega
          walk_at "rd"
          refine ⟨H0, x'', t, _, rfl, (x0.trans xg2).trans x3, h2, hh1.2, Nat.le_trans cut_len hl, fun G4 x4 => ?_⟩
          rw [e1, codes_cut2 hi2]
          walk_at "rd"
          refine iteB (fun q3 => ?_) (fun q3 => ?_)
          · walk_at "rd"
            have e : lt (.some r c' t) (codes z) = true := by
              simp only [lt, List.any_eq_true, List.mem_range, Bool.and_eq_true, decide_eq_true_eq]
              exact ⟨i, by rw [codes_len]; exact hi2, hcc, q2, q3⟩
            have := k G4 ((xg2.trans x3).trans x4)
            rw [e] at this
            exact this
          · walk_at "rd"
            refine next (fun h => ?_) G4 ((xg2.trans x3).trans x4)
            rw [q3] at h
            exact nomatch h.2.2
        · walk_at "rd"
          refine next (fun h => ?_) G3 (xg2.trans x3)
          rw [q2] at h
          exact nomatch h.2.1
      · walk_at "rd"
        refine next (fun h => q1 ?_) G2 xg2
        have h1 := h.1
        rw [hcc] at h1
        injection h1 with h1
        rw [h1]
    · obtain ⟨o1, o2, rfl, xg, none⟩ := (hPv _ _ _).mp h
      walk_at "rd"
      have e : lt (.some r c t) (codes z) = false := by
        apply Bool.eq_false_iff.mpr
        intro q1
        simp only [lt, List.any_eq_true, List.mem_range, Bool.and_eq_true, decide_eq_true_eq] at q1
        obtain ⟨j, j1, j2⟩ := q1
        exact none j (by rw [codes_len] at j1; exact j1) j2
      have := k G xg
      rw [e] at this
      exact this

end
end Lw
end

section
set_option Elab.async false
set_option linter.all false
set_option maxRecDepth 100000
set_option maxHeartbeats 4000000
set_option pp.maxSteps 300
set_option pp.deepTerms false
namespace Lw
open PySem L2 Evl M
open PyProof.Rows hiding St
local macro_rules | `(tactic| walk_at "at") => `(tactic| first | assumption | exact upd_same)
local macro_rules | `(tactic| walk_at "sq") => `(tactic| first | assumption | exact SqL.of (by walk_at "at") | exact SqT.of (by walk_at "at"))
local macro_rules | `(tactic| walk_at "sd") => `(tactic| first | assumption | exact Names.size (by assumption) | omega | decide | exact Nat.le_of_ble_eq_true rfl | exact Or.inl ⟨by decide, by decide⟩ | exact wide_div (b := 200) (by first | assumption | decide) (by first | assumption | decide) (by decide) (by decide) | exact pow_w 10 (by decide) (by decide) (by decide) (by decide))
local macro_rules | `(tactic| walk_at "r1") => `(tactic| first
  | refine ⟨_, rfl, ?_⟩
  | refine ⟨_, _, rfl, rfl, ?_⟩
  | refine And.intro rfl ?_
  | refine ⟨_, _, _, _, rfl, rfl, (by walk_at "sq"), rfl, ?_⟩
  | refine ⟨_, _, _, _, rfl, rfl, (by walk_at "at"), rfl, ?_⟩
  | refine ⟨_, _, rfl, Or.inl (by walk_at "sq"), ?_⟩
  | refine ⟨_, _, rfl, Or.inr (by walk_at "sq"), ?_⟩
  | refine ⟨_, _, rfl, ?_⟩
  | refine Or.inl ⟨_, rfl, ?_⟩
  | refine And.intro (by walk_at "sd") ?_)
local macro_rules | `(tactic| walk_at "rd") => `(tactic| try (walk_at "r1"; walk_at "rd"))
section
variable {P : Program} {w : World} {K : PySem.W.Frag} {mg : Str → Option Value} {base : Heap}
theorem ok__law_fits (T : Tx w K mg) (G__law_pair_of_lines : FnOk P w K mg base CX0 3 T.a__law_pair_of_lines T.d__law_pair_of_lines ["pool", "longest"] sp_pair)
    (G_parting_question : FnOk P w K mg base CX0 27 T.a_parting_question T.d_parting_question ["row", "other_row"] (sp_pq K))
    (G_is_question : FnOk P w K mg base CX0 4 T.a_is_question T.d_is_question ["value"] (sp_is_question K))
    (G_depth_of : FnOk P w K mg base CX0 6 T.a_depth_of T.d_depth_of ["question"] (sp_depth_of K))
    (G_parting_depth : FnOk P w K mg base CX0 17 T.a_parting_depth T.d_parting_depth ["row", "other_row"] sp_parting_depth)
    (G__law_deep : FnOk P w K mg base CX0 60 T.a__law_deep T.d__law_deep ["query"] (sp_deep K 60))
    (G__law_lets : FnOk P w K mg base CX0 60 T.a__law_lets T.d__law_lets ["line", "query"] (sp_law_lets K 60))
    (G_lets : FnOk P w K mg base CX0 8 T.a_lets T.d_lets ["row", "question"] (sp_row_lets K)) :
    FnG P w K mg base CX0 64 T.a__law_fits T.d__law_fits ["pool"] sp_fits := by
  refine M.Fun.okG T.F__law_fits sc__law_fits (fun vs H Q E h => ?_) (fun cdv A hg outer s H vs Q E hr h => ?_)
  · obtain ⟨_, _, _, rfl, _⟩ := h
    rfl
  obtain ⟨H0, p, m, rfl, hP, hm, k⟩ := h
  refine ⟨_, (pss_cons (ps_asg (pe_call G__law_pair_of_lines (hr.mono (by omega)) (by rfl) T.g__law_pair_of_lines T.F__law_pair_of_lines.kp T.b__law_pair_of_lines .nil pass0 (pa_cons (pv 0) (pa_cons pe_int pa_nil))) (pg_tup (by rfl) (pgs_cons (pg_name (i := 1) sc__law_fits.nd rfl (Or.inl rfl)) (pgs_cons (pg_name (i := 2) sc__law_fits.nd rfl (Or.inl rfl)) pgs_nil))))
   (pss_cons (ps_for PassesOwn.never (by rfl) (pi_tup (pe_tup (pa_cons (pe_tup (pa_cons (pv 1) (pa_cons (pv 2) pa_nil))) (pa_cons (pe_tup (pa_cons (pv 2) (pa_cons (pv 1) pa_nil))) pa_nil)))) (pg_tup (by rfl) (pgs_cons (pg_name (i := 3) sc__law_fits.nd rfl (Or.inl rfl)) (pgs_cons (pg_name (i := 4) sc__law_fits.nd rfl (Or.inl rfl)) pgs_nil))) (pss_cons (ps_set (i := 5) sc__law_fits.nd rfl (Or.inl rfl) (pe_call G_parting_question (hr.mono (by omega)) (by rfl) T.g_parting_question T.F_parting_question.kp T.b_parting_question .nil pass0 (pa_cons (pv 3) (pa_cons (pv 4) pa_nil))))
   (pss_cons (ps_if (pw_or (pt_cmpR op_ne (pe_cmp (pc_isN (pv 5))) (pe_cmpR op_eq (pv 3) (pv 4) (nomark _)) (nomark _)) (pw_or1 (pt_cmpR (op_neD hr.units) (M.pe_callK0 G_parting_question (hr.mono (by omega)) (by rfl) T.g_parting_question T.F_parting_question.kp T.kb_parting_question__other_row_row pass0 (pk_cons (pv 4) (pk_cons (pv 3) pk_nil))) (pv 5) (nomark _)))).pt (pss_one (ps_ret pe_bl)) pss_nil)
   (pss_one (ps_if (pt_cmp (pc_notN (pv 5))) (pss_cons (ps_if (pw_or (pt_not (pt_val (pe_call G_is_question (hr.mono (by omega)) (by rfl) T.g_is_question T.F_is_question.kp T.b_is_question .nil pass0 (pa_cons (pv 5) pa_nil)))) (pw_or (pt_cmpR (op_neD hr.units) (pe_call G_depth_of (hr.mono (by omega)) (by rfl) T.g_depth_of T.F_depth_of.kp T.b_depth_of .nil pass0 (pa_cons (pv 5) pa_nil)) (pe_call G_parting_depth (hr.mono (by omega)) (by rfl) T.g_parting_depth T.F_parting_depth.kp T.b_parting_depth .nil pass0 (pa_cons (pv 3) (pa_cons (pv 4) pa_nil))) (nomark _)) (pw_or1 (pt_cmpR op_gt (pe_call G__law_deep (hr.mono (by omega)) (by rfl) T.g__law_deep T.F__law_deep.kp T.b__law_deep .nil pass0 (pa_cons (pv 5) pa_nil)) pe_int (nomark _))))).pt (pss_one (ps_ret pe_bl)) pss_nil)
   (pss_cons (ps_if (pw_or (pt_not (pt_val (pe_call G__law_lets (hr.mono (by omega)) (by rfl) T.g__law_lets T.F__law_lets.kp T.b__law_lets .nil pass0 (pa_cons (pv 3) (pa_cons (pv 5) pa_nil))))) (pw_or1 (pt_val (pe_call G__law_lets (hr.mono (by omega)) (by rfl) T.g__law_lets T.F__law_lets.kp T.b__law_lets .nil pass0 (pa_cons (pv 4) (pa_cons (pv 5) pa_nil)))))).pt (pss_one (ps_ret pe_bl)) pss_nil)
   (pss_one (ps_if (pw_or (pt_cmpR M.op_isnot_bl (pe_call G_lets (hr.mono (by omega)) (by rfl) T.g_lets T.F_lets.kp T.b_lets .nil pass0 (pa_cons (pv 3) (pa_cons (pv 5) pa_nil))) pe_bl (nomark _)) (pw_or1 (pt_cmpR M.op_isnot_bl (pe_call G_lets (hr.mono (by omega)) (by rfl) T.g_lets T.F_lets.kp T.b_lets .nil pass0 (pa_cons (pv 4) (pa_cons (pv 5) pa_nil))) pe_bl (nomark _)))).pt (pss_one (ps_ret pe_bl)) pss_nil)))) pss_nil)))))
   (pss_one (ps_ret pe_bl)))), ?_⟩
  walk_at "rd"
  refine ⟨H0, p, m, 6, rfl, hP, by omega, by decide, fun pa y z H1 hP1 hpa hy hz ly lz => ?_⟩
  walk_at "rd"
  refine ⟨_, _, rfl, SqT.of hpa, rfl, ?_⟩
  walk_at "rd"
  intro t1 n1
  have x1 := Ex.new (o := .tup [.str y, .str z]) n1
  have g1 : upd H1 t1 (.tup [.str y, .str z]) t1 = some (.tup [.str y, .str z]) := upd_same
  generalize upd H1 t1 (.tup [.str y, .str z]) = H2 at *
  walk_at "rd"
  intro t2 n2
  have x2 := Ex.new (o := .tup [.str z, .str y]) n2
  have g2 : upd H2 t2 (.tup [.str z, .str y]) t2 = some (.tup [.str z, .str y]) := upd_same
  generalize upd H2 t2 (.tup [.str z, .str y]) = H3 at *
  walk_at "rd"
  intro t3 n3
  have x3 := Ex.new (o := .tup [.ref t1, .ref t2]) n3
  have g3 : upd H3 t3 (.tup [.ref t1, .ref t2]) t3 = some (.tup [.ref t1, .ref t2]) := upd_same
  generalize upd H3 t3 (.tup [.ref t1, .ref t2]) = H4 at *
  have g1 := x3 _ _ (x2 _ _ g1)
  have g2 := x3 _ _ g2
  have x13 : Ex H1 H4 := (x1.trans x2).trans x3
  walk_at "rd"
  obtain ⟨Po, hPo⟩ : ∃ Po : Nat → L2.St → Hp → Prop, ∀ i σ G, Po i σ G ↔ ∃ o3 o4 o5 : Option V, σ = [some (.ref p), some (.str y), some (.str z), o3, o4, o5] ∧ Ex H4 G := ⟨_, fun _ _ _ => Iff.rfl⟩
  refine ⟨⟨_, SqT.of g3⟩, for_tup (xs := [.ref t1, .ref t2]) Po ((hPo _ _ _).mpr ⟨_, _, _, rfl, Ex.refl _⟩) (fun i σ G hi h => ?_) (fun i x σ G hx h => ?_) (fun σ G h => ?_)⟩
  · obtain ⟨_, _, _, _, xg⟩ := (hPo _ _ _).mp h
    exact SqT.of (xg _ _ g3)
  · obtain ⟨o3, o4, o5, rfl, xg⟩ := (hPo _ _ _).mp h
    obtain ⟨u, v, tt, rfl, gt, hu, hv, lu, lv⟩ : ∃ (u v : Str) (tt : Addr), x = .ref tt ∧ G tt = some (.tup [.str u, .str v]) ∧ Abc u ∧ Abc v ∧ u.length ≤ 6 ∧ v.length ≤ 6 := by
      match i, hx with
      | 0, hx => cases hx; exact ⟨y, z, t1, rfl, xg _ _ g1, hy, hz, ly, lz⟩
      | 1, hx => cases hx; exact ⟨z, y, t2, rfl, xg _ _ g2, hz, hy, lz, ly⟩
      | i + 2, hx => simp at hx
    have slu := codes_len u
    have slv := codes_len v
    walk_at "rd"
    refine ⟨_, _, rfl, SqT.of gt, rfl, ?_⟩
    walk_at "rd"
    refine ⟨u, v, (), rfl, hu, hv, lu, lv, fun e G1 y1 => ?_, fun ne qv G1 y1 hq => ?_⟩
    · walk_at "rd"
      rw [show decide (V.str u = V.str v) = true from decide_eq_true (by rw [e])]
      refine iteOF (by decide) ?_
      walk_at "rd"
      refine ⟨u, v, (), rfl, hu, hv, lu, lv, fun _ G2 y2 => ?_, fun ne => absurd e ne⟩
      walk_at "rd"
      refine ⟨.none, .none, .non, .non, by decide +kernel, by decide +kernel, ?_⟩
      walk_at "rd"
      exact (hPo _ _ _).mpr ⟨_, _, _, rfl, xg.trans (y1.trans y2)⟩
    · obtain ⟨qa, rfl⟩ := hq.ref
      have cne := codes_ne ne
      have hp3 : pdn (codes u) (codes v) ≤ 3 := (pdn_is cne).le fun a => cne (al_short 3 (by rw [codes_len]; have : 2 ^ 3 = 8 := rfl; omega) a)
      obtain ⟨P1, ok1⟩ := qbet_ok (Nat.le_refl 3) hu hv lu lv ne hp3
      have hdeep := P1.is cne
      have hparts := P1.parts
      have hhi := P1.hi
      have hyes := P1.yes
      have hno := P1.no
      generalize hqq : qbet 3 (codes u) (codes v) = q at *
      walk_at "rd"
      rw [show decide (V.str u = V.str v) = false from decide_eq_false fun e => ne (V.str.inj e)]
      refine iteOF (by simp) ?_
      walk_at "rd"
      refine ⟨u, v, (), rfl, hu, hv, lu, lv, fun e => absurd e ne, fun _ qw G2 y2 hq2 => ?_⟩
      rw [hqq] at hq2
      walk_at "rd"
      refine ⟨q.d, q.d, hq2.dp, (hq.up (Tk.of y2)).dp, Qn.shp ok1 (by omega), Qn.shp ok1 (by omega), ?_⟩
      rw [Qn.same ok1]
      walk_at "rd"
      have hq2 := (hq.up (Tk.of y2))
      refine ⟨G2, .ref qa, q.d, rfl, Ex.refl _, da_of _ _ hq2.dp, sm_q q, by have := nds_q q; omega, fun b G3 y3 hb => ?_⟩
      obtain rfl : b = true := hb.mpr ⟨q, ok1, rfl⟩
      walk_at "rd"
      refine ⟨G2, .ref qa, q, rfl, y3, hq2.dp, ok1, by omega, fun G4 y4 => ?_⟩
      walk_at "rd"
      refine ⟨u, v, (), rfl, hu, hv, by omega, by omega, fun e => absurd e ne, fun _ n G5 y5 na al => ?_⟩
      have hn : q.deep = n := by rw [hdeep]; exact pdn_eq ⟨na, al⟩
      walk_at "rd"
      refine ⟨.int (q.deep : Nat), .int (n : Nat), .int _, .int _, by rfl, by rfl, ?_⟩
      rw [hn, show PyData.eqv (.int ((n : Nat) : Int)) (.int ((n : Nat) : Int)) = true from by simp [PyData.eqv]]
      walk_at "rd"
      refine ⟨G2, .ref qa, q, rfl, (y3.trans y4).trans y5, da_of _ _ hq2.dp, by omega, fun G6 y6 => ?_⟩
      walk_at "rd"
      refine iteOF (decide_eq_false (by omega)) ?_
      walk_at "rd"
      have z6 := ((y3.trans y4).trans y5).trans y6
      refine ⟨G2, .ref qa, q, u, rfl, z6, da_of _ _ hq2.dp, by omega, by omega, fun G7 y7 => ?_⟩
      rw [hyes]
      walk_at "rd"
      refine ⟨G2, .ref qa, q, v, rfl, z6.trans y7, da_of _ _ hq2.dp, by omega, by omega, fun G8 y8 => ?_⟩
      rw [hno]
      walk_at "rd"
      refine ⟨G2, .ref qa, q, u, rfl, (z6.trans y7).trans y8, hq2.dp, ok1, by omega, hu, by omega, fun G9 y9 => ?_⟩
      rw [hyes]
      walk_at "rd"
      refine ⟨G2, .ref qa, q, v, rfl, ((z6.trans y7).trans y8).trans y9, hq2.dp, ok1, by omega, hv, by omega, fun G10 y10 => ?_⟩
      rw [hno]
      walk_at "rd"
      exact (hPo _ _ _).mpr ⟨_, _, _, rfl, xg.trans (y1.trans (y2.trans ((((z6.trans y7).trans y8).trans y9).trans y10)))⟩
  · obtain ⟨o3, o4, o5, rfl, xg⟩ := (hPo _ _ _).mp h
    walk_at "rd"
    exact k G ((hP1.keep (x13.trans xg)).mono (by omega))

end
end Lw
end

section
set_option Elab.async false
set_option linter.all false
set_option maxRecDepth 100000
set_option maxHeartbeats 4000000
set_option pp.maxSteps 300
set_option pp.deepTerms false
namespace Lw
open PySem L2 Evl M
open PyProof.Rows hiding St
local macro_rules | `(tactic| walk_at "at") => `(tactic| first | assumption | exact upd_same)
local macro_rules | `(tactic| walk_at "sq") => `(tactic| first | assumption | exact SqL.of (by walk_at "at") | exact SqT.of (by walk_at "at"))
local macro_rules | `(tactic| walk_at "sd") => `(tactic| first | assumption | exact Names.size (by assumption) | omega | decide | exact Nat.le_of_ble_eq_true rfl | exact Or.inl ⟨by decide, by decide⟩ | exact wide_div (b := 200) (by first | assumption | decide) (by first | assumption | decide) (by decide) (by decide) | exact pow_w 10 (by decide) (by decide) (by decide) (by decide))
local macro_rules | `(tactic| walk_at "r1") => `(tactic| first
  | refine ⟨_, rfl, ?_⟩
  | refine ⟨_, _, rfl, rfl, ?_⟩
  | refine And.intro rfl ?_
  | refine ⟨_, _, _, _, rfl, rfl, (by walk_at "sq"), rfl, ?_⟩
  | refine ⟨_, _, _, _, rfl, rfl, (by walk_at "at"), rfl, ?_⟩
  | refine ⟨_, _, rfl, Or.inl (by walk_at "sq"), ?_⟩
  | refine ⟨_, _, rfl, Or.inr (by walk_at "sq"), ?_⟩
  | refine ⟨_, _, rfl, ?_⟩
  | refine Or.inl ⟨_, rfl, ?_⟩
  | refine And.intro (by walk_at "sd") ?_)
local macro_rules | `(tactic| walk_at "rd") => `(tactic| try (walk_at "r1"; walk_at "rd"))
section
variable {P : Program} {w : World} {K : PySem.W.Frag} {mg : Str → Option Value} {base : Heap}
theorem ok_law (T : Tx w K mg) (G__law_pool : FnOk P w K mg base CX0 1 T.a__law_pool T.d__law_pool ["script", "spot"] (sp_pool K))
    (G__law_fits : FnG P w K mg base CX0 64 T.a__law_fits T.d__law_fits ["pool"] sp_fits) :
    FnG P w K mg base CX0 65 T.a_law T.d_law ["script"] (sp_law K) := by
  refine M.Fun.okG T.F_law sc_law (fun vs H Q E h => ?_) (fun cdv A hg outer s H vs Q E hr h => ?_)
  · obtain ⟨_, _, rfl, _⟩ := h
    rfl
  obtain ⟨a, ns, rfl, hs, hl, k⟩ := h
  refine ⟨_, (pss_cons (ps_for PassesOwn.never (by rfl) (pi_range1 (by rfl) T.b_range (pa_cons (pe_callB (call_max2 (by rfl)) (by rfl) T.b_max (by decide +kernel) (pa_cons pe_int (pa_cons (pe_callB (call_min2 (by rfl)) (by rfl) T.b_min (by decide +kernel) (pa_cons pe_int (pa_cons (pe_callB call_len_seq (by rfl) T.b_len (by decide +kernel) (pa_cons (pv 0) pa_nil)) pa_nil))) pa_nil))) pa_nil)) (pg_name (i := 1) sc_law.nd rfl (Or.inl rfl)) (pss_cons (ps_set (i := 2) sc_law.nd rfl (Or.inl rfl) (pe_call G__law_pool (hr.mono (by omega)) (by rfl) T.g__law_pool T.F__law_pool.kp T.b__law_pool .nil pass0 (pa_cons (pv 0) (pa_cons (pv 1) pa_nil))))
   (pss_one (ps_for PassesOwn.never (by rfl) (pi_range1 (by rfl) T.b_range (pa_cons pe_int pa_nil)) (pg_name (i := 3) sc_law.nd rfl (Or.inl rfl)) (pss_one (ps_if (pt_not (pt_val (M.pe_callG G__law_fits hg (hr.mono (by omega)) (by rfl) T.g__law_fits T.F__law_fits.kp T.b__law_fits .nil pass0 (pa_cons (pv 2) pa_nil)))) (pss_one (ps_ret pe_bl)) pss_nil))))))
   (pss_one (ps_ret pe_bl))), ?_⟩
  walk_at "rd"
  have hb : (if (if (((ns.map V.int).length : Nat) : Int) < 6 then (((ns.map V.int).length : Nat) : Int) else 6) > 1 then (if (((ns.map V.int).length : Nat) : Int) < 6 then (((ns.map V.int).length : Nat) : Int) else 6) else 1).toNat ≤ 6 := by
    split <;> split <;> omega
  generalize Int.toNat _ = top at *
  obtain ⟨Po, hPo⟩ : ∃ Po : Nat → L2.St → Hp → Prop, ∀ i σ G, Po i σ G ↔ ∃ (o1 o2 o3 : Option V), σ = [some (.ref a), o1, o2, o3] ∧ Ex H G := ⟨_, fun _ _ _ => Iff.rfl⟩
  refine for_range Po ((hPo _ _ _).mpr ⟨_, _, _, rfl, Ex.refl _⟩) (fun i σ G hi h => ?_) (fun σ G h => ?_)
  · obtain ⟨o1, o2, o3, rfl, xg⟩ := (hPo _ _ _).mp h
    have hs1 := ex_l xg hs
    walk_at "rd"
    refine ⟨a, ns, _, rfl, hs1, by omega, by omega, fun p G2 hP => ?_⟩
    walk_at "rd"
    obtain ⟨Pi, hPi⟩ : ∃ Pi : Nat → L2.St → Hp → Prop, ∀ i σ G3, Pi i σ G3 ↔ ∃ (o1 o3 : Option V), σ = [some (.ref a), o1, some (.ref p), o3] ∧ Pl G G3 p (600 * i) := ⟨_, fun _ _ _ => Iff.rfl⟩
    refine for_range Pi ((hPi _ _ _).mpr ⟨_, _, rfl, hP⟩) (fun j σ G3 hj h => ?_) (fun σ G3 h => ?_)
    · obtain ⟨o1, o3, rfl, hP3⟩ := (hPi _ _ _).mp h
      have hj5 : j < 4 := hj
      walk_at "rd"
      refine ⟨G, p, 600 * j, rfl, hP3, by omega, fun G4 hP4 => ?_⟩
      walk_at "rd"
      exact (hPi _ _ _).mpr ⟨_, _, rfl, hP4.mono (by omega)⟩
    · obtain ⟨o1, o3, rfl, hP3⟩ := (hPi _ _ _).mp h
      exact (hPo _ _ _).mpr ⟨_, _, _, rfl, xg.trans hP3.ex⟩
  · obtain ⟨o1, o2, o3, rfl, xg⟩ := (hPo _ _ _).mp h
    walk_at "rd"
    exact k G

end
end Lw
end

section
set_option Elab.async false
set_option linter.all false
set_option maxRecDepth 100000
set_option maxHeartbeats 4000000
namespace Lw
open PySem L2 Evl M
open PyProof.Rows hiding St
theorem all_mk {P : Program} {w : World} {K : PySem.W.Frag} {h : Heap} {mg : Str → Option Value} {fa : Addr} (X : K.In h) (G : h.Ns mainGlobals mg) (hfa : mg "law" = some (.ref fa))
  {f_is_letter : Addr} {od_is_letter an_is_letter : Option Addr} {sl_is_letter : Array (Option Value)} {oc_is_letter kV_is_letter dc_is_letter pm_is_letter cd_is_letter ct_is_letter : Value}
  {f_check_row : Addr} {od_check_row an_check_row : Option Addr} {sl_check_row : Array (Option Value)} {oc_check_row kV_check_row dc_check_row pm_check_row cd_check_row ct_check_row : Value}
  {f_check_rows : Addr} {od_check_rows an_check_rows : Option Addr} {sl_check_rows : Array (Option Value)} {oc_check_rows kV_check_rows dc_check_rows pm_check_rows cd_check_rows ct_check_rows : Value}
  {f_Kinds___init__ : Addr} {od_Kinds___init__ an_Kinds___init__ : Option Addr} {sl_Kinds___init__ : Array (Option Value)} {oc_Kinds___init__ kV_Kinds___init__ dc_Kinds___init__ pm_Kinds___init__ cd_Kinds___init__ ct_Kinds___init__ : Value}
  {f_Kinds : Addr}
  {f_Kinds_alike : Addr} {od_Kinds_alike an_Kinds_alike : Option Addr} {sl_Kinds_alike : Array (Option Value)} {oc_Kinds_alike kV_Kinds_alike dc_Kinds_alike pm_Kinds_alike cd_Kinds_alike ct_Kinds_alike : Value}
  {f_Kinds_of_row : Addr} {od_Kinds_of_row an_Kinds_of_row : Option Addr} {sl_Kinds_of_row : Array (Option Value)} {oc_Kinds_of_row kV_Kinds_of_row dc_Kinds_of_row pm_Kinds_of_row cd_Kinds_of_row ct_Kinds_of_row : Value}
  {f_Kinds_places : Addr} {od_Kinds_places an_Kinds_places : Option Addr} {sl_Kinds_places : Array (Option Value)} {oc_Kinds_places kV_Kinds_places dc_Kinds_places pm_Kinds_places cd_Kinds_places ct_Kinds_places : Value}
  {f_Kinds_marks_of_places : Addr} {od_Kinds_marks_of_places an_Kinds_marks_of_places : Option Addr} {sl_Kinds_marks_of_places : Array (Option Value)} {oc_Kinds_marks_of_places kV_Kinds_marks_of_places dc_Kinds_marks_of_places pm_Kinds_marks_of_places cd_Kinds_marks_of_places ct_Kinds_marks_of_places : Value}
  {f_Kinds_empty : Addr} {od_Kinds_empty an_Kinds_empty : Option Addr} {sl_Kinds_empty : Array (Option Value)} {oc_Kinds_empty kV_Kinds_empty dc_Kinds_empty pm_Kinds_empty cd_Kinds_empty ct_Kinds_empty : Value}
  {f_Kinds_numbered : Addr} {od_Kinds_numbered an_Kinds_numbered : Option Addr} {sl_Kinds_numbered : Array (Option Value)} {oc_Kinds_numbered kV_Kinds_numbered dc_Kinds_numbered pm_Kinds_numbered cd_Kinds_numbered ct_Kinds_numbered : Value}
  {f_Kinds_lesser : Addr} {od_Kinds_lesser an_Kinds_lesser : Option Addr} {sl_Kinds_lesser : Array (Option Value)} {oc_Kinds_lesser kV_Kinds_lesser dc_Kinds_lesser pm_Kinds_lesser cd_Kinds_lesser ct_Kinds_lesser : Value}
  {f_Kinds_added_behind : Addr} {od_Kinds_added_behind an_Kinds_added_behind : Option Addr} {sl_Kinds_added_behind : Array (Option Value)} {oc_Kinds_added_behind kV_Kinds_added_behind dc_Kinds_added_behind pm_Kinds_added_behind cd_Kinds_added_behind ct_Kinds_added_behind : Value}
  {f_Kinds_added_ahead : Addr} {od_Kinds_added_ahead an_Kinds_added_ahead : Option Addr} {sl_Kinds_added_ahead : Array (Option Value)} {oc_Kinds_added_ahead kV_Kinds_added_ahead dc_Kinds_added_ahead pm_Kinds_added_ahead cd_Kinds_added_ahead ct_Kinds_added_ahead : Value}
  {f_parting_depth : Addr} {od_parting_depth an_parting_depth : Option Addr} {sl_parting_depth : Array (Option Value)} {oc_parting_depth kV_parting_depth dc_parting_depth pm_parting_depth cd_parting_depth ct_parting_depth : Value}
  {f_depth_between : Addr} {od_depth_between an_depth_between : Option Addr} {sl_depth_between : Array (Option Value)} {oc_depth_between kV_depth_between dc_depth_between pm_depth_between cd_depth_between ct_depth_between : Value}
  {f_good_answers_to : Addr} {od_good_answers_to an_good_answers_to : Option Addr} {sl_good_answers_to : Array (Option Value)} {oc_good_answers_to kV_good_answers_to dc_good_answers_to pm_good_answers_to cd_good_answers_to ct_good_answers_to : Value}
  {f_is_good_answer : Addr} {od_is_good_answer an_is_good_answer : Option Addr} {sl_is_good_answer : Array (Option Value)} {oc_is_good_answer kV_is_good_answer dc_is_good_answer pm_is_good_answer cd_is_good_answer ct_is_good_answer : Value}
  {f_picks_without_answer : Addr} {od_picks_without_answer an_picks_without_answer : Option Addr} {sl_picks_without_answer : Array (Option Value)} {oc_picks_without_answer kV_picks_without_answer dc_picks_without_answer pm_picks_without_answer cd_picks_without_answer ct_picks_without_answer : Value}
  {f_is_question : Addr} {od_is_question an_is_question : Option Addr} {sl_is_question : Array (Option Value)} {oc_is_question kV_is_question dc_is_question pm_is_question cd_is_question ct_is_question : Value}
  {f_depth_of : Addr} {od_depth_of an_depth_of : Option Addr} {sl_depth_of : Array (Option Value)} {oc_depth_of kV_depth_of dc_depth_of pm_depth_of cd_depth_of ct_depth_of : Value}
  {f_parts_of : Addr} {od_parts_of an_parts_of : Option Addr} {sl_parts_of : Array (Option Value)} {oc_parts_of kV_parts_of dc_parts_of pm_parts_of cd_parts_of ct_parts_of : Value}
  {f_inner_questions : Addr} {od_inner_questions an_inner_questions : Option Addr} {sl_inner_questions : Array (Option Value)} {oc_inner_questions kV_inner_questions dc_inner_questions pm_inner_questions cd_inner_questions ct_inner_questions : Value}
  {f_has_form : Addr} {od_has_form an_has_form : Option Addr} {sl_has_form : Array (Option Value)} {oc_has_form kV_has_form dc_has_form pm_has_form cd_has_form ct_has_form : Value}
  {f_is_one_letter : Addr} {od_is_one_letter an_is_one_letter : Option Addr} {sl_is_one_letter : Array (Option Value)} {oc_is_one_letter kV_is_one_letter dc_is_one_letter pm_is_one_letter cd_is_one_letter ct_is_one_letter : Value}
  {f_check_question : Addr} {od_check_question an_check_question : Option Addr} {sl_check_question : Array (Option Value)} {oc_check_question kV_check_question dc_check_question pm_check_question cd_check_question ct_check_question : Value}
  {f_table_of : Addr} {od_table_of an_table_of : Option Addr} {sl_table_of : Array (Option Value)} {oc_table_of kV_table_of dc_table_of pm_table_of cd_table_of ct_table_of : Value}
  {f_table_of_part : Addr} {od_table_of_part an_table_of_part : Option Addr} {sl_table_of_part : Array (Option Value)} {oc_table_of_part kV_table_of_part dc_table_of_part pm_table_of_part cd_table_of_part ct_table_of_part : Value}
  {f_Stretches___init__ : Addr} {od_Stretches___init__ an_Stretches___init__ : Option Addr} {sl_Stretches___init__ : Array (Option Value)} {oc_Stretches___init__ kV_Stretches___init__ dc_Stretches___init__ pm_Stretches___init__ cd_Stretches___init__ ct_Stretches___init__ : Value}
  {f_Stretches : Addr}
  {f_Stretches_met : Addr} {od_Stretches_met an_Stretches_met : Option Addr} {sl_Stretches_met : Array (Option Value)} {oc_Stretches_met kV_Stretches_met dc_Stretches_met pm_Stretches_met cd_Stretches_met ct_Stretches_met : Value}
  {f_holds : Addr} {od_holds an_holds : Option Addr} {sl_holds : Array (Option Value)} {oc_holds kV_holds dc_holds pm_holds cd_holds ct_holds : Value}
  {f_lets : Addr} {od_lets an_lets : Option Addr} {sl_lets : Array (Option Value)} {oc_lets kV_lets dc_lets pm_lets cd_lets ct_lets : Value}
  {f_parting_question : Addr} {od_parting_question an_parting_question : Option Addr} {sl_parting_question : Array (Option Value)} {oc_parting_question kV_parting_question dc_parting_question pm_parting_question cd_parting_question ct_parting_question : Value}
  {f_row_lets : Addr} {od_row_lets an_row_lets : Option Addr} {sl_row_lets : Array (Option Value)} {oc_row_lets kV_row_lets dc_row_lets pm_row_lets cd_row_lets ct_row_lets : Value}
  {f_question_between : Addr} {od_question_between an_question_between : Option Addr} {sl_question_between : Array (Option Value)} {oc_question_between kV_question_between dc_question_between pm_question_between cd_question_between ct_question_between : Value}
  {f_question_at : Addr} {od_question_at an_question_at : Option Addr} {sl_question_at : Array (Option Value)} {oc_question_at kV_question_at dc_question_at pm_question_at cd_question_at ct_question_at : Value}
  {f_parts_no_later : Addr} {od_parts_no_later an_parts_no_later : Option Addr} {sl_parts_no_later : Array (Option Value)} {oc_parts_no_later kV_parts_no_later dc_parts_no_later pm_parts_no_later cd_parts_no_later ct_parts_no_later : Value}
  {f_joined : Addr} {od_joined an_joined : Option Addr} {sl_joined : Array (Option Value)} {oc_joined kV_joined dc_joined pm_joined cd_joined ct_joined : Value}
  {f__law_pool : Addr} {od__law_pool an__law_pool : Option Addr} {sl__law_pool : Array (Option Value)} {oc__law_pool kV__law_pool dc__law_pool pm__law_pool cd__law_pool ct__law_pool : Value}
  {f__law_draw : Addr} {od__law_draw an__law_draw : Option Addr} {sl__law_draw : Array (Option Value)} {oc__law_draw kV__law_draw dc__law_draw pm__law_draw cd__law_draw ct__law_draw : Value}
  {f__law_line : Addr} {od__law_line an__law_line : Option Addr} {sl__law_line : Array (Option Value)} {oc__law_line kV__law_line dc__law_line pm__law_line cd__law_line ct__law_line : Value}
  {f__law_bent : Addr} {od__law_bent an__law_bent : Option Addr} {sl__law_bent : Array (Option Value)} {oc__law_bent kV__law_bent dc__law_bent pm__law_bent cd__law_bent ct__law_bent : Value}
  {f__law_lets : Addr} {od__law_lets an__law_lets : Option Addr} {sl__law_lets : Array (Option Value)} {oc__law_lets kV__law_lets dc__law_lets pm__law_lets cd__law_lets ct__law_lets : Value}
  {f__law_deep : Addr} {od__law_deep an__law_deep : Option Addr} {sl__law_deep : Array (Option Value)} {oc__law_deep kV__law_deep dc__law_deep pm__law_deep cd__law_deep ct__law_deep : Value}
  {f__law_pair_of_lines : Addr} {od__law_pair_of_lines an__law_pair_of_lines : Option Addr} {sl__law_pair_of_lines : Array (Option Value)} {oc__law_pair_of_lines kV__law_pair_of_lines dc__law_pair_of_lines pm__law_pair_of_lines cd__law_pair_of_lines ct__law_pair_of_lines : Value}
  {f__law_fits : Addr} {od__law_fits an__law_fits : Option Addr} {sl__law_fits : Array (Option Value)} {oc__law_fits kV__law_fits dc__law_fits pm__law_fits cd__law_fits ct__law_fits : Value}
  {f_law : Addr} {od_law an_law : Option Addr} {sl_law : Array (Option Value)} {oc_law kV_law dc_law pm_law cd_law ct_law : Value}
  {f_SIZES : Addr} {es_SIZES : Array DictEntry} {n_SIZES : Nat}
  (g_is_letter : PySem.W.nsIn K mainGlobals "is_letter" = some (some (.ref f_is_letter)))
  (l_is_letter : K.lookup f_is_letter = some ⟨oc_is_letter, od_is_letter, .func (PySem.W.fnOf "is_letter" "is_letter" (defArgs s_is_letter) (defBody s_is_letter) (defScope s_is_letter) .none kV_is_letter dc_is_letter pm_is_letter an_is_letter cd_is_letter ct_is_letter), sl_is_letter⟩)
  (c_is_letter : PySem.W.codeIn K cd_is_letter "is_letter" = true)
  (k_is_letter : PySem.W.keepIn K (.ref f_is_letter) = true)
  (g_check_row : PySem.W.nsIn K mainGlobals "check_row" = some (some (.ref f_check_row)))
  (l_check_row : K.lookup f_check_row = some ⟨oc_check_row, od_check_row, .func (PySem.W.fnOf "check_row" "check_row" (defArgs s_check_row) (defBody s_check_row) (defScope s_check_row) .none kV_check_row dc_check_row pm_check_row an_check_row cd_check_row ct_check_row), sl_check_row⟩)
  (c_check_row : PySem.W.codeIn K cd_check_row "check_row" = true)
  (k_check_row : PySem.W.keepIn K (.ref f_check_row) = true)
  (g_check_rows : PySem.W.nsIn K mainGlobals "check_rows" = some (some (.ref f_check_rows)))
  (l_check_rows : K.lookup f_check_rows = some ⟨oc_check_rows, od_check_rows, .func (PySem.W.fnOf "check_rows" "check_rows" (defArgs s_check_rows) (defBody s_check_rows) (defScope s_check_rows) .none kV_check_rows dc_check_rows pm_check_rows an_check_rows cd_check_rows ct_check_rows), sl_check_rows⟩)
  (c_check_rows : PySem.W.codeIn K cd_check_rows "check_rows" = true)
  (k_check_rows : PySem.W.keepIn K (.ref f_check_rows) = true)
  (g_Kinds : PySem.W.nsIn K mainGlobals "Kinds" = some (some (.ref f_Kinds)))
  (pg_Kinds : PySem.W.plainGet K f_Kinds Str.empty = true)
  (hd_Kinds : PySem.W.hasDictIn K f_Kinds = true)
  (po_Kinds : PySem.W.plainOver K f_Kinds = true)
  (sa_Kinds : PySem.W.findIn K (.ref f_Kinds) "__setattr__" = some (some (.builtin "object.__setattr__")))
  (mk_Kinds : PySem.W.makesIn K f_Kinds = true)
  (kk_Kinds : PySem.W.keepIn K (.ref f_Kinds) = true)
  (n_Kinds_known_kinds : PySem.W.findIn K (.ref f_Kinds) "known_kinds" = some none)
  (n_Kinds_known_places : PySem.W.findIn K (.ref f_Kinds) "known_places" = some none)
  (n_Kinds_numbers : PySem.W.findIn K (.ref f_Kinds) "numbers" = some none)
  (n_Kinds_marks : PySem.W.findIn K (.ref f_Kinds) "marks" = some none)
  (n_Kinds_depths : PySem.W.findIn K (.ref f_Kinds) "depths" = some none)
  (n_Kinds_lesser_kinds : PySem.W.findIn K (.ref f_Kinds) "lesser_kinds" = some none)
  (n_Kinds_longer_behind : PySem.W.findIn K (.ref f_Kinds) "longer_behind" = some none)
  (n_Kinds_longer_ahead : PySem.W.findIn K (.ref f_Kinds) "longer_ahead" = some none)
  (g_Kinds___init__ : PySem.W.findIn K (.ref f_Kinds) "__init__" = some (some (.ref f_Kinds___init__)))
  (l_Kinds___init__ : K.lookup f_Kinds___init__ = some ⟨oc_Kinds___init__, od_Kinds___init__, .func (PySem.W.fnOf "__init__" "Kinds.__init__" (defArgs s_Kinds___init__) (defBody s_Kinds___init__) (defScope s_Kinds___init__) .none kV_Kinds___init__ dc_Kinds___init__ pm_Kinds___init__ an_Kinds___init__ cd_Kinds___init__ ct_Kinds___init__), sl_Kinds___init__⟩)
  (c_Kinds___init__ : PySem.W.codeIn K cd_Kinds___init__ "Kinds.__init__" = true)
  (k_Kinds___init__ : PySem.W.keepIn K (.ref f_Kinds___init__) = true)
  (fn_Kinds___init__ : PySem.W.isFn K (.ref f_Kinds___init__) = true)
  (g_Kinds_alike : PySem.W.findIn K (.ref f_Kinds) "alike" = some (some (.ref f_Kinds_alike)))
  (l_Kinds_alike : K.lookup f_Kinds_alike = some ⟨oc_Kinds_alike, od_Kinds_alike, .func (PySem.W.fnOf "alike" "Kinds.alike" (defArgs s_Kinds_alike) (defBody s_Kinds_alike) (defScope s_Kinds_alike) .none kV_Kinds_alike dc_Kinds_alike pm_Kinds_alike an_Kinds_alike cd_Kinds_alike ct_Kinds_alike), sl_Kinds_alike⟩)
  (c_Kinds_alike : PySem.W.codeIn K cd_Kinds_alike "Kinds.alike" = true)
  (k_Kinds_alike : PySem.W.keepIn K (.ref f_Kinds_alike) = true)
  (fn_Kinds_alike : PySem.W.isFn K (.ref f_Kinds_alike) = true)
  (g_Kinds_of_row : PySem.W.findIn K (.ref f_Kinds) "of_row" = some (some (.ref f_Kinds_of_row)))
  (l_Kinds_of_row : K.lookup f_Kinds_of_row = some ⟨oc_Kinds_of_row, od_Kinds_of_row, .func (PySem.W.fnOf "of_row" "Kinds.of_row" (defArgs s_Kinds_of_row) (defBody s_Kinds_of_row) (defScope s_Kinds_of_row) .none kV_Kinds_of_row dc_Kinds_of_row pm_Kinds_of_row an_Kinds_of_row cd_Kinds_of_row ct_Kinds_of_row), sl_Kinds_of_row⟩)
  (c_Kinds_of_row : PySem.W.codeIn K cd_Kinds_of_row "Kinds.of_row" = true)
  (k_Kinds_of_row : PySem.W.keepIn K (.ref f_Kinds_of_row) = true)
  (fn_Kinds_of_row : PySem.W.isFn K (.ref f_Kinds_of_row) = true)
  (g_Kinds_places : PySem.W.findIn K (.ref f_Kinds) "places" = some (some (.ref f_Kinds_places)))
  (l_Kinds_places : K.lookup f_Kinds_places = some ⟨oc_Kinds_places, od_Kinds_places, .func (PySem.W.fnOf "places" "Kinds.places" (defArgs s_Kinds_places) (defBody s_Kinds_places) (defScope s_Kinds_places) .none kV_Kinds_places dc_Kinds_places pm_Kinds_places an_Kinds_places cd_Kinds_places ct_Kinds_places), sl_Kinds_places⟩)
  (c_Kinds_places : PySem.W.codeIn K cd_Kinds_places "Kinds.places" = true)
  (k_Kinds_places : PySem.W.keepIn K (.ref f_Kinds_places) = true)
  (fn_Kinds_places : PySem.W.isFn K (.ref f_Kinds_places) = true)
  (g_Kinds_marks_of_places : PySem.W.findIn K (.ref f_Kinds) "marks_of_places" = some (some (.ref f_Kinds_marks_of_places)))
  (l_Kinds_marks_of_places : K.lookup f_Kinds_marks_of_places = some ⟨oc_Kinds_marks_of_places, od_Kinds_marks_of_places, .func (PySem.W.fnOf "marks_of_places" "Kinds.marks_of_places" (defArgs s_Kinds_marks_of_places) (defBody s_Kinds_marks_of_places) (defScope s_Kinds_marks_of_places) .none kV_Kinds_marks_of_places dc_Kinds_marks_of_places pm_Kinds_marks_of_places an_Kinds_marks_of_places cd_Kinds_marks_of_places ct_Kinds_marks_of_places), sl_Kinds_marks_of_places⟩)
  (c_Kinds_marks_of_places : PySem.W.codeIn K cd_Kinds_marks_of_places "Kinds.marks_of_places" = true)
  (k_Kinds_marks_of_places : PySem.W.keepIn K (.ref f_Kinds_marks_of_places) = true)
  (fn_Kinds_marks_of_places : PySem.W.isFn K (.ref f_Kinds_marks_of_places) = true)
  (g_Kinds_empty : PySem.W.findIn K (.ref f_Kinds) "empty" = some (some (.ref f_Kinds_empty)))
  (l_Kinds_empty : K.lookup f_Kinds_empty = some ⟨oc_Kinds_empty, od_Kinds_empty, .func (PySem.W.fnOf "empty" "Kinds.empty" (defArgs s_Kinds_empty) (defBody s_Kinds_empty) (defScope s_Kinds_empty) .none kV_Kinds_empty dc_Kinds_empty pm_Kinds_empty an_Kinds_empty cd_Kinds_empty ct_Kinds_empty), sl_Kinds_empty⟩)
  (c_Kinds_empty : PySem.W.codeIn K cd_Kinds_empty "Kinds.empty" = true)
  (k_Kinds_empty : PySem.W.keepIn K (.ref f_Kinds_empty) = true)
  (fn_Kinds_empty : PySem.W.isFn K (.ref f_Kinds_empty) = true)
  (g_Kinds_numbered : PySem.W.findIn K (.ref f_Kinds) "numbered" = some (some (.ref f_Kinds_numbered)))
  (l_Kinds_numbered : K.lookup f_Kinds_numbered = some ⟨oc_Kinds_numbered, od_Kinds_numbered, .func (PySem.W.fnOf "numbered" "Kinds.numbered" (defArgs s_Kinds_numbered) (defBody s_Kinds_numbered) (defScope s_Kinds_numbered) .none kV_Kinds_numbered dc_Kinds_numbered pm_Kinds_numbered an_Kinds_numbered cd_Kinds_numbered ct_Kinds_numbered), sl_Kinds_numbered⟩)
  (c_Kinds_numbered : PySem.W.codeIn K cd_Kinds_numbered "Kinds.numbered" = true)
  (k_Kinds_numbered : PySem.W.keepIn K (.ref f_Kinds_numbered) = true)
  (fn_Kinds_numbered : PySem.W.isFn K (.ref f_Kinds_numbered) = true)
  (g_Kinds_lesser : PySem.W.findIn K (.ref f_Kinds) "lesser" = some (some (.ref f_Kinds_lesser)))
  (l_Kinds_lesser : K.lookup f_Kinds_lesser = some ⟨oc_Kinds_lesser, od_Kinds_lesser, .func (PySem.W.fnOf "lesser" "Kinds.lesser" (defArgs s_Kinds_lesser) (defBody s_Kinds_lesser) (defScope s_Kinds_lesser) .none kV_Kinds_lesser dc_Kinds_lesser pm_Kinds_lesser an_Kinds_lesser cd_Kinds_lesser ct_Kinds_lesser), sl_Kinds_lesser⟩)
  (c_Kinds_lesser : PySem.W.codeIn K cd_Kinds_lesser "Kinds.lesser" = true)
  (k_Kinds_lesser : PySem.W.keepIn K (.ref f_Kinds_lesser) = true)
  (fn_Kinds_lesser : PySem.W.isFn K (.ref f_Kinds_lesser) = true)
  (g_Kinds_added_behind : PySem.W.findIn K (.ref f_Kinds) "added_behind" = some (some (.ref f_Kinds_added_behind)))
  (l_Kinds_added_behind : K.lookup f_Kinds_added_behind = some ⟨oc_Kinds_added_behind, od_Kinds_added_behind, .func (PySem.W.fnOf "added_behind" "Kinds.added_behind" (defArgs s_Kinds_added_behind) (defBody s_Kinds_added_behind) (defScope s_Kinds_added_behind) .none kV_Kinds_added_behind dc_Kinds_added_behind pm_Kinds_added_behind an_Kinds_added_behind cd_Kinds_added_behind ct_Kinds_added_behind), sl_Kinds_added_behind⟩)
  (c_Kinds_added_behind : PySem.W.codeIn K cd_Kinds_added_behind "Kinds.added_behind" = true)
  (k_Kinds_added_behind : PySem.W.keepIn K (.ref f_Kinds_added_behind) = true)
  (fn_Kinds_added_behind : PySem.W.isFn K (.ref f_Kinds_added_behind) = true)
  (g_Kinds_added_ahead : PySem.W.findIn K (.ref f_Kinds) "added_ahead" = some (some (.ref f_Kinds_added_ahead)))
  (l_Kinds_added_ahead : K.lookup f_Kinds_added_ahead = some ⟨oc_Kinds_added_ahead, od_Kinds_added_ahead, .func (PySem.W.fnOf "added_ahead" "Kinds.added_ahead" (defArgs s_Kinds_added_ahead) (defBody s_Kinds_added_ahead) (defScope s_Kinds_added_ahead) .none kV_Kinds_added_ahead dc_Kinds_added_ahead pm_Kinds_added_ahead an_Kinds_added_ahead cd_Kinds_added_ahead ct_Kinds_added_ahead), sl_Kinds_added_ahead⟩)
  (c_Kinds_added_ahead : PySem.W.codeIn K cd_Kinds_added_ahead "Kinds.added_ahead" = true)
  (k_Kinds_added_ahead : PySem.W.keepIn K (.ref f_Kinds_added_ahead) = true)
  (fn_Kinds_added_ahead : PySem.W.isFn K (.ref f_Kinds_added_ahead) = true)
  (g_parting_depth : PySem.W.nsIn K mainGlobals "parting_depth" = some (some (.ref f_parting_depth)))
  (l_parting_depth : K.lookup f_parting_depth = some ⟨oc_parting_depth, od_parting_depth, .func (PySem.W.fnOf "parting_depth" "parting_depth" (defArgs s_parting_depth) (defBody s_parting_depth) (defScope s_parting_depth) .none kV_parting_depth dc_parting_depth pm_parting_depth an_parting_depth cd_parting_depth ct_parting_depth), sl_parting_depth⟩)
  (c_parting_depth : PySem.W.codeIn K cd_parting_depth "parting_depth" = true)
  (k_parting_depth : PySem.W.keepIn K (.ref f_parting_depth) = true)
  (g_depth_between : PySem.W.nsIn K mainGlobals "depth_between" = some (some (.ref f_depth_between)))
  (l_depth_between : K.lookup f_depth_between = some ⟨oc_depth_between, od_depth_between, .func (PySem.W.fnOf "depth_between" "depth_between" (defArgs s_depth_between) (defBody s_depth_between) (defScope s_depth_between) .none kV_depth_between dc_depth_between pm_depth_between an_depth_between cd_depth_between ct_depth_between), sl_depth_between⟩)
  (c_depth_between : PySem.W.codeIn K cd_depth_between "depth_between" = true)
  (k_depth_between : PySem.W.keepIn K (.ref f_depth_between) = true)
  (g_good_answers_to : PySem.W.nsIn K mainGlobals "good_answers_to" = some (some (.ref f_good_answers_to)))
  (l_good_answers_to : K.lookup f_good_answers_to = some ⟨oc_good_answers_to, od_good_answers_to, .func (PySem.W.fnOf "good_answers_to" "good_answers_to" (defArgs s_good_answers_to) (defBody s_good_answers_to) (defScope s_good_answers_to) .none kV_good_answers_to dc_good_answers_to pm_good_answers_to an_good_answers_to cd_good_answers_to ct_good_answers_to), sl_good_answers_to⟩)
  (c_good_answers_to : PySem.W.codeIn K cd_good_answers_to "good_answers_to" = true)
  (k_good_answers_to : PySem.W.keepIn K (.ref f_good_answers_to) = true)
  (g_is_good_answer : PySem.W.nsIn K mainGlobals "is_good_answer" = some (some (.ref f_is_good_answer)))
  (l_is_good_answer : K.lookup f_is_good_answer = some ⟨oc_is_good_answer, od_is_good_answer, .func (PySem.W.fnOf "is_good_answer" "is_good_answer" (defArgs s_is_good_answer) (defBody s_is_good_answer) (defScope s_is_good_answer) .none kV_is_good_answer dc_is_good_answer pm_is_good_answer an_is_good_answer cd_is_good_answer ct_is_good_answer), sl_is_good_answer⟩)
  (c_is_good_answer : PySem.W.codeIn K cd_is_good_answer "is_good_answer" = true)
  (k_is_good_answer : PySem.W.keepIn K (.ref f_is_good_answer) = true)
  (g_picks_without_answer : PySem.W.nsIn K mainGlobals "picks_without_answer" = some (some (.ref f_picks_without_answer)))
  (l_picks_without_answer : K.lookup f_picks_without_answer = some ⟨oc_picks_without_answer, od_picks_without_answer, .func (PySem.W.fnOf "picks_without_answer" "picks_without_answer" (defArgs s_picks_without_answer) (defBody s_picks_without_answer) (defScope s_picks_without_answer) .none kV_picks_without_answer dc_picks_without_answer pm_picks_without_answer an_picks_without_answer cd_picks_without_answer ct_picks_without_answer), sl_picks_without_answer⟩)
  (c_picks_without_answer : PySem.W.codeIn K cd_picks_without_answer "picks_without_answer" = true)
  (k_picks_without_answer : PySem.W.keepIn K (.ref f_picks_without_answer) = true)
  (g_is_question : PySem.W.nsIn K mainGlobals "is_question" = some (some (.ref f_is_question)))
  (l_is_question : K.lookup f_is_question = some ⟨oc_is_question, od_is_question, .func (PySem.W.fnOf "is_question" "is_question" (defArgs s_is_question) (defBody s_is_question) (defScope s_is_question) .none kV_is_question dc_is_question pm_is_question an_is_question cd_is_question ct_is_question), sl_is_question⟩)
  (c_is_question : PySem.W.codeIn K cd_is_question "is_question" = true)
  (k_is_question : PySem.W.keepIn K (.ref f_is_question) = true)
  (g_depth_of : PySem.W.nsIn K mainGlobals "depth_of" = some (some (.ref f_depth_of)))
  (l_depth_of : K.lookup f_depth_of = some ⟨oc_depth_of, od_depth_of, .func (PySem.W.fnOf "depth_of" "depth_of" (defArgs s_depth_of) (defBody s_depth_of) (defScope s_depth_of) .none kV_depth_of dc_depth_of pm_depth_of an_depth_of cd_depth_of ct_depth_of), sl_depth_of⟩)
  (c_depth_of : PySem.W.codeIn K cd_depth_of "depth_of" = true)
  (k_depth_of : PySem.W.keepIn K (.ref f_depth_of) = true)
  (g_parts_of : PySem.W.nsIn K mainGlobals "parts_of" = some (some (.ref f_parts_of)))
  (l_parts_of : K.lookup f_parts_of = some ⟨oc_parts_of, od_parts_of, .func (PySem.W.fnOf "parts_of" "parts_of" (defArgs s_parts_of) (defBody s_parts_of) (defScope s_parts_of) .none kV_parts_of dc_parts_of pm_parts_of an_parts_of cd_parts_of ct_parts_of), sl_parts_of⟩)
  (c_parts_of : PySem.W.codeIn K cd_parts_of "parts_of" = true)
  (k_parts_of : PySem.W.keepIn K (.ref f_parts_of) = true)
  (g_inner_questions : PySem.W.nsIn K mainGlobals "inner_questions" = some (some (.ref f_inner_questions)))
  (l_inner_questions : K.lookup f_inner_questions = some ⟨oc_inner_questions, od_inner_questions, .func (PySem.W.fnOf "inner_questions" "inner_questions" (defArgs s_inner_questions) (defBody s_inner_questions) (defScope s_inner_questions) .none kV_inner_questions dc_inner_questions pm_inner_questions an_inner_questions cd_inner_questions ct_inner_questions), sl_inner_questions⟩)
  (c_inner_questions : PySem.W.codeIn K cd_inner_questions "inner_questions" = true)
  (k_inner_questions : PySem.W.keepIn K (.ref f_inner_questions) = true)
  (g_has_form : PySem.W.nsIn K mainGlobals "has_form" = some (some (.ref f_has_form)))
  (l_has_form : K.lookup f_has_form = some ⟨oc_has_form, od_has_form, .func (PySem.W.fnOf "has_form" "has_form" (defArgs s_has_form) (defBody s_has_form) (defScope s_has_form) .none kV_has_form dc_has_form pm_has_form an_has_form cd_has_form ct_has_form), sl_has_form⟩)
  (c_has_form : PySem.W.codeIn K cd_has_form "has_form" = true)
  (k_has_form : PySem.W.keepIn K (.ref f_has_form) = true)
  (g_is_one_letter : PySem.W.nsIn K mainGlobals "is_one_letter" = some (some (.ref f_is_one_letter)))
  (l_is_one_letter : K.lookup f_is_one_letter = some ⟨oc_is_one_letter, od_is_one_letter, .func (PySem.W.fnOf "is_one_letter" "is_one_letter" (defArgs s_is_one_letter) (defBody s_is_one_letter) (defScope s_is_one_letter) .none kV_is_one_letter dc_is_one_letter pm_is_one_letter an_is_one_letter cd_is_one_letter ct_is_one_letter), sl_is_one_letter⟩)
  (c_is_one_letter : PySem.W.codeIn K cd_is_one_letter "is_one_letter" = true)
  (k_is_one_letter : PySem.W.keepIn K (.ref f_is_one_letter) = true)
  (g_check_question : PySem.W.nsIn K mainGlobals "check_question" = some (some (.ref f_check_question)))
  (l_check_question : K.lookup f_check_question = some ⟨oc_check_question, od_check_question, .func (PySem.W.fnOf "check_question" "check_question" (defArgs s_check_question) (defBody s_check_question) (defScope s_check_question) .none kV_check_question dc_check_question pm_check_question an_check_question cd_check_question ct_check_question), sl_check_question⟩)
  (c_check_question : PySem.W.codeIn K cd_check_question "check_question" = true)
  (k_check_question : PySem.W.keepIn K (.ref f_check_question) = true)
  (g_table_of : PySem.W.nsIn K mainGlobals "table_of" = some (some (.ref f_table_of)))
  (l_table_of : K.lookup f_table_of = some ⟨oc_table_of, od_table_of, .func (PySem.W.fnOf "table_of" "table_of" (defArgs s_table_of) (defBody s_table_of) (defScope s_table_of) .none kV_table_of dc_table_of pm_table_of an_table_of cd_table_of ct_table_of), sl_table_of⟩)
  (c_table_of : PySem.W.codeIn K cd_table_of "table_of" = true)
  (k_table_of : PySem.W.keepIn K (.ref f_table_of) = true)
  (g_table_of_part : PySem.W.nsIn K mainGlobals "table_of_part" = some (some (.ref f_table_of_part)))
  (l_table_of_part : K.lookup f_table_of_part = some ⟨oc_table_of_part, od_table_of_part, .func (PySem.W.fnOf "table_of_part" "table_of_part" (defArgs s_table_of_part) (defBody s_table_of_part) (defScope s_table_of_part) .none kV_table_of_part dc_table_of_part pm_table_of_part an_table_of_part cd_table_of_part ct_table_of_part), sl_table_of_part⟩)
  (c_table_of_part : PySem.W.codeIn K cd_table_of_part "table_of_part" = true)
  (k_table_of_part : PySem.W.keepIn K (.ref f_table_of_part) = true)
  (g_Stretches : PySem.W.nsIn K mainGlobals "Stretches" = some (some (.ref f_Stretches)))
  (pg_Stretches : PySem.W.plainGet K f_Stretches Str.empty = true)
  (hd_Stretches : PySem.W.hasDictIn K f_Stretches = true)
  (po_Stretches : PySem.W.plainOver K f_Stretches = true)
  (sa_Stretches : PySem.W.findIn K (.ref f_Stretches) "__setattr__" = some (some (.builtin "object.__setattr__")))
  (mk_Stretches : PySem.W.makesIn K f_Stretches = true)
  (kk_Stretches : PySem.W.keepIn K (.ref f_Stretches) = true)
  (n_Stretches_row : PySem.W.findIn K (.ref f_Stretches) "row" = some none)
  (n_Stretches_whole : PySem.W.findIn K (.ref f_Stretches) "whole" = some none)
  (g_Stretches___init__ : PySem.W.findIn K (.ref f_Stretches) "__init__" = some (some (.ref f_Stretches___init__)))
  (l_Stretches___init__ : K.lookup f_Stretches___init__ = some ⟨oc_Stretches___init__, od_Stretches___init__, .func (PySem.W.fnOf "__init__" "Stretches.__init__" (defArgs s_Stretches___init__) (defBody s_Stretches___init__) (defScope s_Stretches___init__) .none kV_Stretches___init__ dc_Stretches___init__ pm_Stretches___init__ an_Stretches___init__ cd_Stretches___init__ ct_Stretches___init__), sl_Stretches___init__⟩)
  (c_Stretches___init__ : PySem.W.codeIn K cd_Stretches___init__ "Stretches.__init__" = true)
  (k_Stretches___init__ : PySem.W.keepIn K (.ref f_Stretches___init__) = true)
  (fn_Stretches___init__ : PySem.W.isFn K (.ref f_Stretches___init__) = true)
  (g_Stretches_met : PySem.W.findIn K (.ref f_Stretches) "met" = some (some (.ref f_Stretches_met)))
  (l_Stretches_met : K.lookup f_Stretches_met = some ⟨oc_Stretches_met, od_Stretches_met, .func (PySem.W.fnOf "met" "Stretches.met" (defArgs s_Stretches_met) (defBody s_Stretches_met) (defScope s_Stretches_met) .none kV_Stretches_met dc_Stretches_met pm_Stretches_met an_Stretches_met cd_Stretches_met ct_Stretches_met), sl_Stretches_met⟩)
  (c_Stretches_met : PySem.W.codeIn K cd_Stretches_met "Stretches.met" = true)
  (k_Stretches_met : PySem.W.keepIn K (.ref f_Stretches_met) = true)
  (fn_Stretches_met : PySem.W.isFn K (.ref f_Stretches_met) = true)
  (g_holds : PySem.W.nsIn K mainGlobals "holds" = some (some (.ref f_holds)))
  (l_holds : K.lookup f_holds = some ⟨oc_holds, od_holds, .func (PySem.W.fnOf "holds" "holds" (defArgs s_holds) (defBody s_holds) (defScope s_holds) .none kV_holds dc_holds pm_holds an_holds cd_holds ct_holds), sl_holds⟩)
  (c_holds : PySem.W.codeIn K cd_holds "holds" = true)
  (k_holds : PySem.W.keepIn K (.ref f_holds) = true)
  (g_lets : PySem.W.nsIn K mainGlobals "lets" = some (some (.ref f_lets)))
  (l_lets : K.lookup f_lets = some ⟨oc_lets, od_lets, .func (PySem.W.fnOf "lets" "lets" (defArgs s_lets) (defBody s_lets) (defScope s_lets) .none kV_lets dc_lets pm_lets an_lets cd_lets ct_lets), sl_lets⟩)
  (c_lets : PySem.W.codeIn K cd_lets "lets" = true)
  (k_lets : PySem.W.keepIn K (.ref f_lets) = true)
  (g_parting_question : PySem.W.nsIn K mainGlobals "parting_question" = some (some (.ref f_parting_question)))
  (l_parting_question : K.lookup f_parting_question = some ⟨oc_parting_question, od_parting_question, .func (PySem.W.fnOf "parting_question" "parting_question" (defArgs s_parting_question) (defBody s_parting_question) (defScope s_parting_question) .none kV_parting_question dc_parting_question pm_parting_question an_parting_question cd_parting_question ct_parting_question), sl_parting_question⟩)
  (c_parting_question : PySem.W.codeIn K cd_parting_question "parting_question" = true)
  (k_parting_question : PySem.W.keepIn K (.ref f_parting_question) = true)
  (g_row_lets : PySem.W.nsIn K mainGlobals "row_lets" = some (some (.ref f_row_lets)))
  (l_row_lets : K.lookup f_row_lets = some ⟨oc_row_lets, od_row_lets, .func (PySem.W.fnOf "row_lets" "row_lets" (defArgs s_row_lets) (defBody s_row_lets) (defScope s_row_lets) .none kV_row_lets dc_row_lets pm_row_lets an_row_lets cd_row_lets ct_row_lets), sl_row_lets⟩)
  (c_row_lets : PySem.W.codeIn K cd_row_lets "row_lets" = true)
  (k_row_lets : PySem.W.keepIn K (.ref f_row_lets) = true)
  (g_question_between : PySem.W.nsIn K mainGlobals "question_between" = some (some (.ref f_question_between)))
  (l_question_between : K.lookup f_question_between = some ⟨oc_question_between, od_question_between, .func (PySem.W.fnOf "question_between" "question_between" (defArgs s_question_between) (defBody s_question_between) (defScope s_question_between) .none kV_question_between dc_question_between pm_question_between an_question_between cd_question_between ct_question_between), sl_question_between⟩)
  (c_question_between : PySem.W.codeIn K cd_question_between "question_between" = true)
  (k_question_between : PySem.W.keepIn K (.ref f_question_between) = true)
  (g_question_at : PySem.W.nsIn K mainGlobals "question_at" = some (some (.ref f_question_at)))
  (l_question_at : K.lookup f_question_at = some ⟨oc_question_at, od_question_at, .func (PySem.W.fnOf "question_at" "question_at" (defArgs s_question_at) (defBody s_question_at) (defScope s_question_at) .none kV_question_at dc_question_at pm_question_at an_question_at cd_question_at ct_question_at), sl_question_at⟩)
  (c_question_at : PySem.W.codeIn K cd_question_at "question_at" = true)
  (k_question_at : PySem.W.keepIn K (.ref f_question_at) = true)
  (g_parts_no_later : PySem.W.nsIn K mainGlobals "parts_no_later" = some (some (.ref f_parts_no_later)))
  (l_parts_no_later : K.lookup f_parts_no_later = some ⟨oc_parts_no_later, od_parts_no_later, .func (PySem.W.fnOf "parts_no_later" "parts_no_later" (defArgs s_parts_no_later) (defBody s_parts_no_later) (defScope s_parts_no_later) .none kV_parts_no_later dc_parts_no_later pm_parts_no_later an_parts_no_later cd_parts_no_later ct_parts_no_later), sl_parts_no_later⟩)
  (c_parts_no_later : PySem.W.codeIn K cd_parts_no_later "parts_no_later" = true)
  (k_parts_no_later : PySem.W.keepIn K (.ref f_parts_no_later) = true)
  (g_joined : PySem.W.nsIn K mainGlobals "joined" = some (some (.ref f_joined)))
  (l_joined : K.lookup f_joined = some ⟨oc_joined, od_joined, .func (PySem.W.fnOf "joined" "joined" (defArgs s_joined) (defBody s_joined) (defScope s_joined) .none kV_joined dc_joined pm_joined an_joined cd_joined ct_joined), sl_joined⟩)
  (c_joined : PySem.W.codeIn K cd_joined "joined" = true)
  (k_joined : PySem.W.keepIn K (.ref f_joined) = true)
  (g__law_pool : PySem.W.nsIn K mainGlobals "_law_pool" = some (some (.ref f__law_pool)))
  (l__law_pool : K.lookup f__law_pool = some ⟨oc__law_pool, od__law_pool, .func (PySem.W.fnOf "_law_pool" "_law_pool" (defArgs s__law_pool) (defBody s__law_pool) (defScope s__law_pool) .none kV__law_pool dc__law_pool pm__law_pool an__law_pool cd__law_pool ct__law_pool), sl__law_pool⟩)
  (c__law_pool : PySem.W.codeIn K cd__law_pool "_law_pool" = true)
  (k__law_pool : PySem.W.keepIn K (.ref f__law_pool) = true)
  (g__law_draw : PySem.W.nsIn K mainGlobals "_law_draw" = some (some (.ref f__law_draw)))
  (l__law_draw : K.lookup f__law_draw = some ⟨oc__law_draw, od__law_draw, .func (PySem.W.fnOf "_law_draw" "_law_draw" (defArgs s__law_draw) (defBody s__law_draw) (defScope s__law_draw) .none kV__law_draw dc__law_draw pm__law_draw an__law_draw cd__law_draw ct__law_draw), sl__law_draw⟩)
  (c__law_draw : PySem.W.codeIn K cd__law_draw "_law_draw" = true)
  (k__law_draw : PySem.W.keepIn K (.ref f__law_draw) = true)
  (g__law_line : PySem.W.nsIn K mainGlobals "_law_line" = some (some (.ref f__law_line)))
  (l__law_line : K.lookup f__law_line = some ⟨oc__law_line, od__law_line, .func (PySem.W.fnOf "_law_line" "_law_line" (defArgs s__law_line) (defBody s__law_line) (defScope s__law_line) .none kV__law_line dc__law_line pm__law_line an__law_line cd__law_line ct__law_line), sl__law_line⟩)
  (c__law_line : PySem.W.codeIn K cd__law_line "_law_line" = true)
  (k__law_line : PySem.W.keepIn K (.ref f__law_line) = true)
  (g__law_bent : PySem.W.nsIn K mainGlobals "_law_bent" = some (some (.ref f__law_bent)))
  (l__law_bent : K.lookup f__law_bent = some ⟨oc__law_bent, od__law_bent, .func (PySem.W.fnOf "_law_bent" "_law_bent" (defArgs s__law_bent) (defBody s__law_bent) (defScope s__law_bent) .none kV__law_bent dc__law_bent pm__law_bent an__law_bent cd__law_bent ct__law_bent), sl__law_bent⟩)
  (c__law_bent : PySem.W.codeIn K cd__law_bent "_law_bent" = true)
  (k__law_bent : PySem.W.keepIn K (.ref f__law_bent) = true)
  (g__law_lets : PySem.W.nsIn K mainGlobals "_law_lets" = some (some (.ref f__law_lets)))
  (l__law_lets : K.lookup f__law_lets = some ⟨oc__law_lets, od__law_lets, .func (PySem.W.fnOf "_law_lets" "_law_lets" (defArgs s__law_lets) (defBody s__law_lets) (defScope s__law_lets) .none kV__law_lets dc__law_lets pm__law_lets an__law_lets cd__law_lets ct__law_lets), sl__law_lets⟩)
  (c__law_lets : PySem.W.codeIn K cd__law_lets "_law_lets" = true)
  (k__law_lets : PySem.W.keepIn K (.ref f__law_lets) = true)
  (g__law_deep : PySem.W.nsIn K mainGlobals "_law_deep" = some (some (.ref f__law_deep)))
  (l__law_deep : K.lookup f__law_deep = some ⟨oc__law_deep, od__law_deep, .func (PySem.W.fnOf "_law_deep" "_law_deep" (defArgs s__law_deep) (defBody s__law_deep) (defScope s__law_deep) .none kV__law_deep dc__law_deep pm__law_deep an__law_deep cd__law_deep ct__law_deep), sl__law_deep⟩)
  (c__law_deep : PySem.W.codeIn K cd__law_deep "_law_deep" = true)
  (k__law_deep : PySem.W.keepIn K (.ref f__law_deep) = true)
  (g__law_pair_of_lines : PySem.W.nsIn K mainGlobals "_law_pair_of_lines" = some (some (.ref f__law_pair_of_lines)))
  (l__law_pair_of_lines : K.lookup f__law_pair_of_lines = some ⟨oc__law_pair_of_lines, od__law_pair_of_lines, .func (PySem.W.fnOf "_law_pair_of_lines" "_law_pair_of_lines" (defArgs s__law_pair_of_lines) (defBody s__law_pair_of_lines) (defScope s__law_pair_of_lines) .none kV__law_pair_of_lines dc__law_pair_of_lines pm__law_pair_of_lines an__law_pair_of_lines cd__law_pair_of_lines ct__law_pair_of_lines), sl__law_pair_of_lines⟩)
  (c__law_pair_of_lines : PySem.W.codeIn K cd__law_pair_of_lines "_law_pair_of_lines" = true)
  (k__law_pair_of_lines : PySem.W.keepIn K (.ref f__law_pair_of_lines) = true)
  (g__law_fits : PySem.W.nsIn K mainGlobals "_law_fits" = some (some (.ref f__law_fits)))
  (l__law_fits : K.lookup f__law_fits = some ⟨oc__law_fits, od__law_fits, .func (PySem.W.fnOf "_law_fits" "_law_fits" (defArgs s__law_fits) (defBody s__law_fits) (defScope s__law_fits) .none kV__law_fits dc__law_fits pm__law_fits an__law_fits cd__law_fits ct__law_fits), sl__law_fits⟩)
  (c__law_fits : PySem.W.codeIn K cd__law_fits "_law_fits" = true)
  (k__law_fits : PySem.W.keepIn K (.ref f__law_fits) = true)
  (g_law : PySem.W.nsIn K mainGlobals "law" = some (some (.ref f_law)))
  (l_law : K.lookup f_law = some ⟨oc_law, od_law, .func (PySem.W.fnOf "law" "law" (defArgs s_law) (defBody s_law) (defScope s_law) .none kV_law dc_law pm_law an_law cd_law ct_law), sl_law⟩)
  (c_law : PySem.W.codeIn K cd_law "law" = true)
  (k_law : PySem.W.keepIn K (.ref f_law) = true)
  (z_abs : PySem.W.nsIn K mainGlobals "abs" = some none)
  (z_enumerate : PySem.W.nsIn K mainGlobals "enumerate" = some none)
  (z_int : PySem.W.nsIn K mainGlobals "int" = some none)
  (z_isinstance : PySem.W.nsIn K mainGlobals "isinstance" = some none)
  (z_len : PySem.W.nsIn K mainGlobals "len" = some none)
  (z_list : PySem.W.nsIn K mainGlobals "list" = some none)
  (z_max : PySem.W.nsIn K mainGlobals "max" = some none)
  (z_min : PySem.W.nsIn K mainGlobals "min" = some none)
  (z_range : PySem.W.nsIn K mainGlobals "range" = some none)
  (z_reversed : PySem.W.nsIn K mainGlobals "reversed" = some none)
  (z_set : PySem.W.nsIn K mainGlobals "set" = some none)
  (z_sorted : PySem.W.nsIn K mainGlobals "sorted" = some none)
  (z_str : PySem.W.nsIn K mainGlobals "str" = some none)
  (z_tuple : PySem.W.nsIn K mainGlobals "tuple" = some none)
  (z_zip : PySem.W.nsIn K mainGlobals "zip" = some none)
  (g_SIZES : PySem.W.nsIn K mainGlobals "SIZES" = some (some (.ref f_SIZES)))
  (l_SIZES : K.lookup f_SIZES = some ⟨.type "dict", none, .dict es_SIZES n_SIZES, #[]⟩)
  (h_SIZES : PySem.W.KeysLit w.params es_SIZES.toList)
  (o_SIZES : (f_SIZES == sysModules) = false)
  (v_SIZES : es_SIZES.toList.map entI = ([(("any" : Str), (1 : Int)), (("not" : Str), (2 : Int)), (("both" : Str), (3 : Int)), (("some" : Str), (4 : Int))]).map some) :
  ∃ fd : FuncData, (∀ (s : Shared) (u : Value), BindsTo s fd ⟨[u], []⟩ [("script", u)]) ∧ ∀ base : Heap, K.In base → base.Ns mainGlobals mg → FnG P w K mg base CX0 65 fa fd ["script"] (sp_law K) := by
  have e : f_law = fa := by
    have e1 := hfa.symm.trans (PySem.W.mg_of X G g_law)
    injection e1 with e1
    injection e1 with e1
    exact e1.symm
  subst e
  let T : Tx w K mg := {
    a_is_letter := f_is_letter,
    d_is_letter := PySem.W.fnOf "is_letter" "is_letter" (defArgs s_is_letter) (defBody s_is_letter) (defScope s_is_letter) .none kV_is_letter dc_is_letter pm_is_letter an_is_letter cd_is_letter ct_is_letter,
    g_is_letter := PySem.W.mg_of X G g_is_letter,
    F_is_letter := fun_mk (st := s_is_letter) l_is_letter c_is_letter k_is_letter,
    b_is_letter := (fun_mk (st := s_is_letter) l_is_letter c_is_letter k_is_letter).binds (ps := ["sign"]) fun _ _ _ _ _ _ us hl => match us, hl with | [_], _ => rfl,
    a_check_row := f_check_row,
    d_check_row := PySem.W.fnOf "check_row" "check_row" (defArgs s_check_row) (defBody s_check_row) (defScope s_check_row) .none kV_check_row dc_check_row pm_check_row an_check_row cd_check_row ct_check_row,
    g_check_row := PySem.W.mg_of X G g_check_row,
    F_check_row := fun_mk (st := s_check_row) l_check_row c_check_row k_check_row,
    b_check_row := (fun_mk (st := s_check_row) l_check_row c_check_row k_check_row).binds (ps := ["row"]) fun _ _ _ _ _ _ us hl => match us, hl with | [_], _ => rfl,
    a_check_rows := f_check_rows,
    d_check_rows := PySem.W.fnOf "check_rows" "check_rows" (defArgs s_check_rows) (defBody s_check_rows) (defScope s_check_rows) .none kV_check_rows dc_check_rows pm_check_rows an_check_rows cd_check_rows ct_check_rows,
    g_check_rows := PySem.W.mg_of X G g_check_rows,
    F_check_rows := fun_mk (st := s_check_rows) l_check_rows c_check_rows k_check_rows,
    b_check_rows := (fun_mk (st := s_check_rows) l_check_rows c_check_rows k_check_rows).binds (ps := ["row", "other_row"]) fun _ _ _ _ _ _ us hl => match us, hl with | [_, _], _ => rfl,
    a_Kinds := f_Kinds,
    g_Kinds := PySem.W.mg_of X G g_Kinds,
    C_Kinds := ⟨pg_Kinds, hd_Kinds, po_Kinds, sa_Kinds⟩,
    n_Kinds_known_kinds := n_Kinds_known_kinds,
    n_Kinds_known_places := n_Kinds_known_places,
    n_Kinds_numbers := n_Kinds_numbers,
    n_Kinds_marks := n_Kinds_marks,
    n_Kinds_depths := n_Kinds_depths,
    n_Kinds_lesser_kinds := n_Kinds_lesser_kinds,
    n_Kinds_longer_behind := n_Kinds_longer_behind,
    n_Kinds_longer_ahead := n_Kinds_longer_ahead,
    a_Kinds___init__ := f_Kinds___init__,
    d_Kinds___init__ := PySem.W.fnOf "__init__" "Kinds.__init__" (defArgs s_Kinds___init__) (defBody s_Kinds___init__) (defScope s_Kinds___init__) .none kV_Kinds___init__ dc_Kinds___init__ pm_Kinds___init__ an_Kinds___init__ cd_Kinds___init__ ct_Kinds___init__,
    M_Kinds := ⟨mk_Kinds, g_Kinds___init__, fn_Kinds___init__, kk_Kinds⟩,
    F_Kinds___init__ := fun_mk (st := s_Kinds___init__) l_Kinds___init__ c_Kinds___init__ k_Kinds___init__,
    b_Kinds___init__ := (fun_mk (st := s_Kinds___init__) l_Kinds___init__ c_Kinds___init__ k_Kinds___init__).binds (ps := ["self"]) fun _ _ _ _ _ _ us hl => match us, hl with | [_], _ => rfl,
    a_Kinds_alike := f_Kinds_alike,
    d_Kinds_alike := PySem.W.fnOf "alike" "Kinds.alike" (defArgs s_Kinds_alike) (defBody s_Kinds_alike) (defScope s_Kinds_alike) .none kV_Kinds_alike dc_Kinds_alike pm_Kinds_alike an_Kinds_alike cd_Kinds_alike ct_Kinds_alike,
    m_Kinds_alike := ⟨g_Kinds_alike, fn_Kinds_alike, k_Kinds_alike⟩,
    F_Kinds_alike := fun_mk (st := s_Kinds_alike) l_Kinds_alike c_Kinds_alike k_Kinds_alike,
    b_Kinds_alike := (fun_mk (st := s_Kinds_alike) l_Kinds_alike c_Kinds_alike k_Kinds_alike).binds (ps := ["self", "row", "other_row", "depth"]) fun _ _ _ _ _ _ us hl => match us, hl with | [_, _, _, _], _ => rfl,
    a_Kinds_of_row := f_Kinds_of_row,
    d_Kinds_of_row := PySem.W.fnOf "of_row" "Kinds.of_row" (defArgs s_Kinds_of_row) (defBody s_Kinds_of_row) (defScope s_Kinds_of_row) .none kV_Kinds_of_row dc_Kinds_of_row pm_Kinds_of_row an_Kinds_of_row cd_Kinds_of_row ct_Kinds_of_row,
    m_Kinds_of_row := ⟨g_Kinds_of_row, fn_Kinds_of_row, k_Kinds_of_row⟩,
    F_Kinds_of_row := fun_mk (st := s_Kinds_of_row) l_Kinds_of_row c_Kinds_of_row k_Kinds_of_row,
    b_Kinds_of_row := (fun_mk (st := s_Kinds_of_row) l_Kinds_of_row c_Kinds_of_row k_Kinds_of_row).binds (ps := ["self", "row", "depth"]) fun _ _ _ _ _ _ us hl => match us, hl with | [_, _, _], _ => rfl,
    a_Kinds_places := f_Kinds_places,
    d_Kinds_places := PySem.W.fnOf "places" "Kinds.places" (defArgs s_Kinds_places) (defBody s_Kinds_places) (defScope s_Kinds_places) .none kV_Kinds_places dc_Kinds_places pm_Kinds_places an_Kinds_places cd_Kinds_places ct_Kinds_places,
    m_Kinds_places := ⟨g_Kinds_places, fn_Kinds_places, k_Kinds_places⟩,
    F_Kinds_places := fun_mk (st := s_Kinds_places) l_Kinds_places c_Kinds_places k_Kinds_places,
    b_Kinds_places := (fun_mk (st := s_Kinds_places) l_Kinds_places c_Kinds_places k_Kinds_places).binds (ps := ["self", "row", "depth"]) fun _ _ _ _ _ _ us hl => match us, hl with | [_, _, _], _ => rfl,
    a_Kinds_marks_of_places := f_Kinds_marks_of_places,
    d_Kinds_marks_of_places := PySem.W.fnOf "marks_of_places" "Kinds.marks_of_places" (defArgs s_Kinds_marks_of_places) (defBody s_Kinds_marks_of_places) (defScope s_Kinds_marks_of_places) .none kV_Kinds_marks_of_places dc_Kinds_marks_of_places pm_Kinds_marks_of_places an_Kinds_marks_of_places cd_Kinds_marks_of_places ct_Kinds_marks_of_places,
    m_Kinds_marks_of_places := ⟨g_Kinds_marks_of_places, fn_Kinds_marks_of_places, k_Kinds_marks_of_places⟩,
    F_Kinds_marks_of_places := fun_mk (st := s_Kinds_marks_of_places) l_Kinds_marks_of_places c_Kinds_marks_of_places k_Kinds_marks_of_places,
    b_Kinds_marks_of_places := (fun_mk (st := s_Kinds_marks_of_places) l_Kinds_marks_of_places c_Kinds_marks_of_places k_Kinds_marks_of_places).binds (ps := ["self", "row", "depth"]) fun _ _ _ _ _ _ us hl => match us, hl with | [_, _, _], _ => rfl,
    a_Kinds_empty := f_Kinds_empty,
    d_Kinds_empty := PySem.W.fnOf "empty" "Kinds.empty" (defArgs s_Kinds_empty) (defBody s_Kinds_empty) (defScope s_Kinds_empty) .none kV_Kinds_empty dc_Kinds_empty pm_Kinds_empty an_Kinds_empty cd_Kinds_empty ct_Kinds_empty,
    m_Kinds_empty := ⟨g_Kinds_empty, fn_Kinds_empty, k_Kinds_empty⟩,
    F_Kinds_empty := fun_mk (st := s_Kinds_empty) l_Kinds_empty c_Kinds_empty k_Kinds_empty,
    b_Kinds_empty := (fun_mk (st := s_Kinds_empty) l_Kinds_empty c_Kinds_empty k_Kinds_empty).binds (ps := ["self", "depth"]) fun _ _ _ _ _ _ us hl => match us, hl with | [_, _], _ => rfl,
    a_Kinds_numbered := f_Kinds_numbered,
    d_Kinds_numbered := PySem.W.fnOf "numbered" "Kinds.numbered" (defArgs s_Kinds_numbered) (defBody s_Kinds_numbered) (defScope s_Kinds_numbered) .none kV_Kinds_numbered dc_Kinds_numbered pm_Kinds_numbered an_Kinds_numbered cd_Kinds_numbered ct_Kinds_numbered,
    m_Kinds_numbered := ⟨g_Kinds_numbered, fn_Kinds_numbered, k_Kinds_numbered⟩,
    F_Kinds_numbered := fun_mk (st := s_Kinds_numbered) l_Kinds_numbered c_Kinds_numbered k_Kinds_numbered,
    b_Kinds_numbered := (fun_mk (st := s_Kinds_numbered) l_Kinds_numbered c_Kinds_numbered k_Kinds_numbered).binds (ps := ["self", "depth", "marks"]) fun _ _ _ _ _ _ us hl => match us, hl with | [_, _, _], _ => rfl,
    a_Kinds_lesser := f_Kinds_lesser,
    d_Kinds_lesser := PySem.W.fnOf "lesser" "Kinds.lesser" (defArgs s_Kinds_lesser) (defBody s_Kinds_lesser) (defScope s_Kinds_lesser) .none kV_Kinds_lesser dc_Kinds_lesser pm_Kinds_lesser an_Kinds_lesser cd_Kinds_lesser ct_Kinds_lesser,
    m_Kinds_lesser := ⟨g_Kinds_lesser, fn_Kinds_lesser, k_Kinds_lesser⟩,
    F_Kinds_lesser := fun_mk (st := s_Kinds_lesser) l_Kinds_lesser c_Kinds_lesser k_Kinds_lesser,
    b_Kinds_lesser := (fun_mk (st := s_Kinds_lesser) l_Kinds_lesser c_Kinds_lesser k_Kinds_lesser).binds (ps := ["self", "kind"]) fun _ _ _ _ _ _ us hl => match us, hl with | [_, _], _ => rfl,
    a_Kinds_added_behind := f_Kinds_added_behind,
    d_Kinds_added_behind := PySem.W.fnOf "added_behind" "Kinds.added_behind" (defArgs s_Kinds_added_behind) (defBody s_Kinds_added_behind) (defScope s_Kinds_added_behind) .none kV_Kinds_added_behind dc_Kinds_added_behind pm_Kinds_added_behind an_Kinds_added_behind cd_Kinds_added_behind ct_Kinds_added_behind,
    m_Kinds_added_behind := ⟨g_Kinds_added_behind, fn_Kinds_added_behind, k_Kinds_added_behind⟩,
    F_Kinds_added_behind := fun_mk (st := s_Kinds_added_behind) l_Kinds_added_behind c_Kinds_added_behind k_Kinds_added_behind,
    b_Kinds_added_behind := (fun_mk (st := s_Kinds_added_behind) l_Kinds_added_behind c_Kinds_added_behind k_Kinds_added_behind).binds (ps := ["self", "kind", "letter"]) fun _ _ _ _ _ _ us hl => match us, hl with | [_, _, _], _ => rfl,
    a_Kinds_added_ahead := f_Kinds_added_ahead,
    d_Kinds_added_ahead := PySem.W.fnOf "added_ahead" "Kinds.added_ahead" (defArgs s_Kinds_added_ahead) (defBody s_Kinds_added_ahead) (defScope s_Kinds_added_ahead) .none kV_Kinds_added_ahead dc_Kinds_added_ahead pm_Kinds_added_ahead an_Kinds_added_ahead cd_Kinds_added_ahead ct_Kinds_added_ahead,
    m_Kinds_added_ahead := ⟨g_Kinds_added_ahead, fn_Kinds_added_ahead, k_Kinds_added_ahead⟩,
    F_Kinds_added_ahead := fun_mk (st := s_Kinds_added_ahead) l_Kinds_added_ahead c_Kinds_added_ahead k_Kinds_added_ahead,
    b_Kinds_added_ahead := (fun_mk (st := s_Kinds_added_ahead) l_Kinds_added_ahead c_Kinds_added_ahead k_Kinds_added_ahead).binds (ps := ["self", "letter", "kind"]) fun _ _ _ _ _ _ us hl => match us, hl with | [_, _, _], _ => rfl,
    a_parting_depth := f_parting_depth,
    d_parting_depth := PySem.W.fnOf "parting_depth" "parting_depth" (defArgs s_parting_depth) (defBody s_parting_depth) (defScope s_parting_depth) .none kV_parting_depth dc_parting_depth pm_parting_depth an_parting_depth cd_parting_depth ct_parting_depth,
    g_parting_depth := PySem.W.mg_of X G g_parting_depth,
    F_parting_depth := fun_mk (st := s_parting_depth) l_parting_depth c_parting_depth k_parting_depth,
    b_parting_depth := (fun_mk (st := s_parting_depth) l_parting_depth c_parting_depth k_parting_depth).binds (ps := ["row", "other_row"]) fun _ _ _ _ _ _ us hl => match us, hl with | [_, _], _ => rfl,
    a_depth_between := f_depth_between,
    d_depth_between := PySem.W.fnOf "depth_between" "depth_between" (defArgs s_depth_between) (defBody s_depth_between) (defScope s_depth_between) .none kV_depth_between dc_depth_between pm_depth_between an_depth_between cd_depth_between ct_depth_between,
    g_depth_between := PySem.W.mg_of X G g_depth_between,
    F_depth_between := fun_mk (st := s_depth_between) l_depth_between c_depth_between k_depth_between,
    b_depth_between := (fun_mk (st := s_depth_between) l_depth_between c_depth_between k_depth_between).binds (ps := ["kinds", "row", "other_row"]) fun _ _ _ _ _ _ us hl => match us, hl with | [_, _, _], _ => rfl,
    a_good_answers_to := f_good_answers_to,
    d_good_answers_to := PySem.W.fnOf "good_answers_to" "good_answers_to" (defArgs s_good_answers_to) (defBody s_good_answers_to) (defScope s_good_answers_to) .none kV_good_answers_to dc_good_answers_to pm_good_answers_to an_good_answers_to cd_good_answers_to ct_good_answers_to,
    g_good_answers_to := PySem.W.mg_of X G g_good_answers_to,
    F_good_answers_to := fun_mk (st := s_good_answers_to) l_good_answers_to c_good_answers_to k_good_answers_to,
    b_good_answers_to := (fun_mk (st := s_good_answers_to) l_good_answers_to c_good_answers_to k_good_answers_to).binds (ps := ["kinds", "row", "place", "other_row", "depth"]) fun _ _ _ _ _ _ us hl => match us, hl with | [_, _, _, _, _], _ => rfl,
    a_is_good_answer := f_is_good_answer,
    d_is_good_answer := PySem.W.fnOf "is_good_answer" "is_good_answer" (defArgs s_is_good_answer) (defBody s_is_good_answer) (defScope s_is_good_answer) .none kV_is_good_answer dc_is_good_answer pm_is_good_answer an_is_good_answer cd_is_good_answer ct_is_good_answer,
    g_is_good_answer := PySem.W.mg_of X G g_is_good_answer,
    F_is_good_answer := fun_mk (st := s_is_good_answer) l_is_good_answer c_is_good_answer k_is_good_answer,
    b_is_good_answer := (fun_mk (st := s_is_good_answer) l_is_good_answer c_is_good_answer k_is_good_answer).binds (ps := ["kinds", "row", "place", "other_row", "other_place", "depth"]) fun _ _ _ _ _ _ us hl => match us, hl with | [_, _, _, _, _, _], _ => rfl,
    a_picks_without_answer := f_picks_without_answer,
    d_picks_without_answer := PySem.W.fnOf "picks_without_answer" "picks_without_answer" (defArgs s_picks_without_answer) (defBody s_picks_without_answer) (defScope s_picks_without_answer) .none kV_picks_without_answer dc_picks_without_answer pm_picks_without_answer an_picks_without_answer cd_picks_without_answer ct_picks_without_answer,
    g_picks_without_answer := PySem.W.mg_of X G g_picks_without_answer,
    F_picks_without_answer := fun_mk (st := s_picks_without_answer) l_picks_without_answer c_picks_without_answer k_picks_without_answer,
    b_picks_without_answer := (fun_mk (st := s_picks_without_answer) l_picks_without_answer c_picks_without_answer k_picks_without_answer).binds (ps := ["kinds", "row", "other_row", "depth"]) fun _ _ _ _ _ _ us hl => match us, hl with | [_, _, _, _], _ => rfl,
    a_is_question := f_is_question,
    d_is_question := PySem.W.fnOf "is_question" "is_question" (defArgs s_is_question) (defBody s_is_question) (defScope s_is_question) .none kV_is_question dc_is_question pm_is_question an_is_question cd_is_question ct_is_question,
    g_is_question := PySem.W.mg_of X G g_is_question,
    F_is_question := fun_mk (st := s_is_question) l_is_question c_is_question k_is_question,
    b_is_question := (fun_mk (st := s_is_question) l_is_question c_is_question k_is_question).binds (ps := ["value"]) fun _ _ _ _ _ _ us hl => match us, hl with | [_], _ => rfl,
    a_depth_of := f_depth_of,
    d_depth_of := PySem.W.fnOf "depth_of" "depth_of" (defArgs s_depth_of) (defBody s_depth_of) (defScope s_depth_of) .none kV_depth_of dc_depth_of pm_depth_of an_depth_of cd_depth_of ct_depth_of,
    g_depth_of := PySem.W.mg_of X G g_depth_of,
    F_depth_of := fun_mk (st := s_depth_of) l_depth_of c_depth_of k_depth_of,
    b_depth_of := (fun_mk (st := s_depth_of) l_depth_of c_depth_of k_depth_of).binds (ps := ["question"]) fun _ _ _ _ _ _ us hl => match us, hl with | [_], _ => rfl,
    a_parts_of := f_parts_of,
    d_parts_of := PySem.W.fnOf "parts_of" "parts_of" (defArgs s_parts_of) (defBody s_parts_of) (defScope s_parts_of) .none kV_parts_of dc_parts_of pm_parts_of an_parts_of cd_parts_of ct_parts_of,
    g_parts_of := PySem.W.mg_of X G g_parts_of,
    F_parts_of := fun_mk (st := s_parts_of) l_parts_of c_parts_of k_parts_of,
    b_parts_of := (fun_mk (st := s_parts_of) l_parts_of c_parts_of k_parts_of).binds (ps := ["question"]) fun _ _ _ _ _ _ us hl => match us, hl with | [_], _ => rfl,
    a_inner_questions := f_inner_questions,
    d_inner_questions := PySem.W.fnOf "inner_questions" "inner_questions" (defArgs s_inner_questions) (defBody s_inner_questions) (defScope s_inner_questions) .none kV_inner_questions dc_inner_questions pm_inner_questions an_inner_questions cd_inner_questions ct_inner_questions,
    g_inner_questions := PySem.W.mg_of X G g_inner_questions,
    F_inner_questions := fun_mk (st := s_inner_questions) l_inner_questions c_inner_questions k_inner_questions,
    b_inner_questions := (fun_mk (st := s_inner_questions) l_inner_questions c_inner_questions k_inner_questions).binds (ps := ["part"]) fun _ _ _ _ _ _ us hl => match us, hl with | [_], _ => rfl,
    a_has_form := f_has_form,
    d_has_form := PySem.W.fnOf "has_form" "has_form" (defArgs s_has_form) (defBody s_has_form) (defScope s_has_form) .none kV_has_form dc_has_form pm_has_form an_has_form cd_has_form ct_has_form,
    g_has_form := PySem.W.mg_of X G g_has_form,
    F_has_form := fun_mk (st := s_has_form) l_has_form c_has_form k_has_form,
    b_has_form := (fun_mk (st := s_has_form) l_has_form c_has_form k_has_form).binds (ps := ["value"]) fun _ _ _ _ _ _ us hl => match us, hl with | [_], _ => rfl,
    a_is_one_letter := f_is_one_letter,
    d_is_one_letter := PySem.W.fnOf "is_one_letter" "is_one_letter" (defArgs s_is_one_letter) (defBody s_is_one_letter) (defScope s_is_one_letter) .none kV_is_one_letter dc_is_one_letter pm_is_one_letter an_is_one_letter cd_is_one_letter ct_is_one_letter,
    g_is_one_letter := PySem.W.mg_of X G g_is_one_letter,
    F_is_one_letter := fun_mk (st := s_is_one_letter) l_is_one_letter c_is_one_letter k_is_one_letter,
    b_is_one_letter := (fun_mk (st := s_is_one_letter) l_is_one_letter c_is_one_letter k_is_one_letter).binds (ps := ["value"]) fun _ _ _ _ _ _ us hl => match us, hl with | [_], _ => rfl,
    a_check_question := f_check_question,
    d_check_question := PySem.W.fnOf "check_question" "check_question" (defArgs s_check_question) (defBody s_check_question) (defScope s_check_question) .none kV_check_question dc_check_question pm_check_question an_check_question cd_check_question ct_check_question,
    g_check_question := PySem.W.mg_of X G g_check_question,
    F_check_question := fun_mk (st := s_check_question) l_check_question c_check_question k_check_question,
    b_check_question := (fun_mk (st := s_check_question) l_check_question c_check_question k_check_question).binds (ps := ["question"]) fun _ _ _ _ _ _ us hl => match us, hl with | [_], _ => rfl,
    a_table_of := f_table_of,
    d_table_of := PySem.W.fnOf "table_of" "table_of" (defArgs s_table_of) (defBody s_table_of) (defScope s_table_of) .none kV_table_of dc_table_of pm_table_of an_table_of cd_table_of ct_table_of,
    g_table_of := PySem.W.mg_of X G g_table_of,
    F_table_of := fun_mk (st := s_table_of) l_table_of c_table_of k_table_of,
    b_table_of := (fun_mk (st := s_table_of) l_table_of c_table_of k_table_of).binds (ps := ["question", "asked"]) fun _ _ _ _ _ _ us hl => match us, hl with | [_, _], _ => rfl,
    a_table_of_part := f_table_of_part,
    d_table_of_part := PySem.W.fnOf "table_of_part" "table_of_part" (defArgs s_table_of_part) (defBody s_table_of_part) (defScope s_table_of_part) .none kV_table_of_part dc_table_of_part pm_table_of_part an_table_of_part cd_table_of_part ct_table_of_part,
    g_table_of_part := PySem.W.mg_of X G g_table_of_part,
    F_table_of_part := fun_mk (st := s_table_of_part) l_table_of_part c_table_of_part k_table_of_part,
    b_table_of_part := (fun_mk (st := s_table_of_part) l_table_of_part c_table_of_part k_table_of_part).binds (ps := ["part", "tables", "asked"]) fun _ _ _ _ _ _ us hl => match us, hl with | [_, _, _], _ => rfl,
    a_Stretches := f_Stretches,
    g_Stretches := PySem.W.mg_of X G g_Stretches,
    C_Stretches := ⟨pg_Stretches, hd_Stretches, po_Stretches, sa_Stretches⟩,
    n_Stretches_row := n_Stretches_row,
    n_Stretches_whole := n_Stretches_whole,
    a_Stretches___init__ := f_Stretches___init__,
    d_Stretches___init__ := PySem.W.fnOf "__init__" "Stretches.__init__" (defArgs s_Stretches___init__) (defBody s_Stretches___init__) (defScope s_Stretches___init__) .none kV_Stretches___init__ dc_Stretches___init__ pm_Stretches___init__ an_Stretches___init__ cd_Stretches___init__ ct_Stretches___init__,
    M_Stretches := ⟨mk_Stretches, g_Stretches___init__, fn_Stretches___init__, kk_Stretches⟩,
    F_Stretches___init__ := fun_mk (st := s_Stretches___init__) l_Stretches___init__ c_Stretches___init__ k_Stretches___init__,
    b_Stretches___init__ := (fun_mk (st := s_Stretches___init__) l_Stretches___init__ c_Stretches___init__ k_Stretches___init__).binds (ps := ["self", "row"]) fun _ _ _ _ _ _ us hl => match us, hl with | [_, _], _ => rfl,
    a_Stretches_met := f_Stretches_met,
    d_Stretches_met := PySem.W.fnOf "met" "Stretches.met" (defArgs s_Stretches_met) (defBody s_Stretches_met) (defScope s_Stretches_met) .none kV_Stretches_met dc_Stretches_met pm_Stretches_met an_Stretches_met cd_Stretches_met ct_Stretches_met,
    m_Stretches_met := ⟨g_Stretches_met, fn_Stretches_met, k_Stretches_met⟩,
    F_Stretches_met := fun_mk (st := s_Stretches_met) l_Stretches_met c_Stretches_met k_Stretches_met,
    b_Stretches_met := (fun_mk (st := s_Stretches_met) l_Stretches_met c_Stretches_met k_Stretches_met).binds (ps := ["self", "ahead", "letter", "behind"]) fun _ _ _ _ _ _ us hl => match us, hl with | [_, _, _, _], _ => rfl,
    a_holds := f_holds,
    d_holds := PySem.W.fnOf "holds" "holds" (defArgs s_holds) (defBody s_holds) (defScope s_holds) .none kV_holds dc_holds pm_holds an_holds cd_holds ct_holds,
    g_holds := PySem.W.mg_of X G g_holds,
    F_holds := fun_mk (st := s_holds) l_holds c_holds k_holds,
    b_holds := (fun_mk (st := s_holds) l_holds c_holds k_holds).binds (ps := ["table", "start", "end"]) fun _ _ _ _ _ _ us hl => match us, hl with | [_, _, _], _ => rfl,
    a_lets := f_lets,
    d_lets := PySem.W.fnOf "lets" "lets" (defArgs s_lets) (defBody s_lets) (defScope s_lets) .none kV_lets dc_lets pm_lets an_lets cd_lets ct_lets,
    g_lets := PySem.W.mg_of X G g_lets,
    F_lets := fun_mk (st := s_lets) l_lets c_lets k_lets,
    b_lets := (fun_mk (st := s_lets) l_lets c_lets k_lets).binds (ps := ["row", "question"]) fun _ _ _ _ _ _ us hl => match us, hl with | [_, _], _ => rfl,
    a_parting_question := f_parting_question,
    d_parting_question := PySem.W.fnOf "parting_question" "parting_question" (defArgs s_parting_question) (defBody s_parting_question) (defScope s_parting_question) .none kV_parting_question dc_parting_question pm_parting_question an_parting_question cd_parting_question ct_parting_question,
    g_parting_question := PySem.W.mg_of X G g_parting_question,
    F_parting_question := fun_mk (st := s_parting_question) l_parting_question c_parting_question k_parting_question,
    b_parting_question := (fun_mk (st := s_parting_question) l_parting_question c_parting_question k_parting_question).binds (ps := ["row", "other_row"]) fun _ _ _ _ _ _ us hl => match us, hl with | [_, _], _ => rfl,
    a_row_lets := f_row_lets,
    d_row_lets := PySem.W.fnOf "row_lets" "row_lets" (defArgs s_row_lets) (defBody s_row_lets) (defScope s_row_lets) .none kV_row_lets dc_row_lets pm_row_lets an_row_lets cd_row_lets ct_row_lets,
    g_row_lets := PySem.W.mg_of X G g_row_lets,
    F_row_lets := fun_mk (st := s_row_lets) l_row_lets c_row_lets k_row_lets,
    b_row_lets := (fun_mk (st := s_row_lets) l_row_lets c_row_lets k_row_lets).binds (ps := ["row", "question"]) fun _ _ _ _ _ _ us hl => match us, hl with | [_, _], _ => rfl,
    a_question_between := f_question_between,
    d_question_between := PySem.W.fnOf "question_between" "question_between" (defArgs s_question_between) (defBody s_question_between) (defScope s_question_between) .none kV_question_between dc_question_between pm_question_between an_question_between cd_question_between ct_question_between,
    g_question_between := PySem.W.mg_of X G g_question_between,
    F_question_between := fun_mk (st := s_question_between) l_question_between c_question_between k_question_between,
    b_question_between := (fun_mk (st := s_question_between) l_question_between c_question_between k_question_between).binds (ps := ["kinds", "row", "other_row"]) fun _ _ _ _ _ _ us hl => match us, hl with | [_, _, _], _ => rfl,
    a_question_at := f_question_at,
    d_question_at := PySem.W.fnOf "question_at" "question_at" (defArgs s_question_at) (defBody s_question_at) (defScope s_question_at) .none kV_question_at dc_question_at pm_question_at an_question_at cd_question_at ct_question_at,
    g_question_at := PySem.W.mg_of X G g_question_at,
    F_question_at := fun_mk (st := s_question_at) l_question_at c_question_at k_question_at,
    b_question_at := (fun_mk (st := s_question_at) l_question_at c_question_at k_question_at).binds (ps := ["kinds", "row", "place", "other_row"]) fun _ _ _ _ _ _ us hl => match us, hl with | [_, _, _, _], _ => rfl,
    a_parts_no_later := f_parts_no_later,
    d_parts_no_later := PySem.W.fnOf "parts_no_later" "parts_no_later" (defArgs s_parts_no_later) (defBody s_parts_no_later) (defScope s_parts_no_later) .none kV_parts_no_later dc_parts_no_later pm_parts_no_later an_parts_no_later cd_parts_no_later ct_parts_no_later,
    g_parts_no_later := PySem.W.mg_of X G g_parts_no_later,
    F_parts_no_later := fun_mk (st := s_parts_no_later) l_parts_no_later c_parts_no_later k_parts_no_later,
    b_parts_no_later := (fun_mk (st := s_parts_no_later) l_parts_no_later c_parts_no_later k_parts_no_later).binds (ps := ["kinds", "ahead", "other_ahead", "behind", "other_behind"]) fun _ _ _ _ _ _ us hl => match us, hl with | [_, _, _, _, _], _ => rfl,
    a_joined := f_joined,
    d_joined := PySem.W.fnOf "joined" "joined" (defArgs s_joined) (defBody s_joined) (defScope s_joined) .none kV_joined dc_joined pm_joined an_joined cd_joined ct_joined,
    g_joined := PySem.W.mg_of X G g_joined,
    F_joined := fun_mk (st := s_joined) l_joined c_joined k_joined,
    b_joined := (fun_mk (st := s_joined) l_joined c_joined k_joined).binds (ps := ["question", "other_question"]) fun _ _ _ _ _ _ us hl => match us, hl with | [_, _], _ => rfl,
    a__law_pool := f__law_pool,
    d__law_pool := PySem.W.fnOf "_law_pool" "_law_pool" (defArgs s__law_pool) (defBody s__law_pool) (defScope s__law_pool) .none kV__law_pool dc__law_pool pm__law_pool an__law_pool cd__law_pool ct__law_pool,
    g__law_pool := PySem.W.mg_of X G g__law_pool,
    F__law_pool := fun_mk (st := s__law_pool) l__law_pool c__law_pool k__law_pool,
    b__law_pool := (fun_mk (st := s__law_pool) l__law_pool c__law_pool k__law_pool).binds (ps := ["script", "spot"]) fun _ _ _ _ _ _ us hl => match us, hl with | [_, _], _ => rfl,
    a__law_draw := f__law_draw,
    d__law_draw := PySem.W.fnOf "_law_draw" "_law_draw" (defArgs s__law_draw) (defBody s__law_draw) (defScope s__law_draw) .none kV__law_draw dc__law_draw pm__law_draw an__law_draw cd__law_draw ct__law_draw,
    g__law_draw := PySem.W.mg_of X G g__law_draw,
    F__law_draw := fun_mk (st := s__law_draw) l__law_draw c__law_draw k__law_draw,
    b__law_draw := (fun_mk (st := s__law_draw) l__law_draw c__law_draw k__law_draw).binds (ps := ["pool", "span"]) fun _ _ _ _ _ _ us hl => match us, hl with | [_, _], _ => rfl,
    a__law_line := f__law_line,
    d__law_line := PySem.W.fnOf "_law_line" "_law_line" (defArgs s__law_line) (defBody s__law_line) (defScope s__law_line) .none kV__law_line dc__law_line pm__law_line an__law_line cd__law_line ct__law_line,
    g__law_line := PySem.W.mg_of X G g__law_line,
    F__law_line := fun_mk (st := s__law_line) l__law_line c__law_line k__law_line,
    b__law_line := (fun_mk (st := s__law_line) l__law_line c__law_line k__law_line).binds (ps := ["pool", "names", "longest"]) fun _ _ _ _ _ _ us hl => match us, hl with | [_, _, _], _ => rfl,
    a__law_bent := f__law_bent,
    d__law_bent := PySem.W.fnOf "_law_bent" "_law_bent" (defArgs s__law_bent) (defBody s__law_bent) (defScope s__law_bent) .none kV__law_bent dc__law_bent pm__law_bent an__law_bent cd__law_bent ct__law_bent,
    g__law_bent := PySem.W.mg_of X G g__law_bent,
    F__law_bent := fun_mk (st := s__law_bent) l__law_bent c__law_bent k__law_bent,
    b__law_bent := (fun_mk (st := s__law_bent) l__law_bent c__law_bent k__law_bent).binds (ps := ["pool", "line", "names"]) fun _ _ _ _ _ _ us hl => match us, hl with | [_, _, _], _ => rfl,
    a__law_lets := f__law_lets,
    d__law_lets := PySem.W.fnOf "_law_lets" "_law_lets" (defArgs s__law_lets) (defBody s__law_lets) (defScope s__law_lets) .none kV__law_lets dc__law_lets pm__law_lets an__law_lets cd__law_lets ct__law_lets,
    g__law_lets := PySem.W.mg_of X G g__law_lets,
    F__law_lets := fun_mk (st := s__law_lets) l__law_lets c__law_lets k__law_lets,
    b__law_lets := (fun_mk (st := s__law_lets) l__law_lets c__law_lets k__law_lets).binds (ps := ["line", "query"]) fun _ _ _ _ _ _ us hl => match us, hl with | [_, _], _ => rfl,
    a__law_deep := f__law_deep,
    d__law_deep := PySem.W.fnOf "_law_deep" "_law_deep" (defArgs s__law_deep) (defBody s__law_deep) (defScope s__law_deep) .none kV__law_deep dc__law_deep pm__law_deep an__law_deep cd__law_deep ct__law_deep,
    g__law_deep := PySem.W.mg_of X G g__law_deep,
    F__law_deep := fun_mk (st := s__law_deep) l__law_deep c__law_deep k__law_deep,
    b__law_deep := (fun_mk (st := s__law_deep) l__law_deep c__law_deep k__law_deep).binds (ps := ["query"]) fun _ _ _ _ _ _ us hl => match us, hl with | [_], _ => rfl,
    a__law_pair_of_lines := f__law_pair_of_lines,
    d__law_pair_of_lines := PySem.W.fnOf "_law_pair_of_lines" "_law_pair_of_lines" (defArgs s__law_pair_of_lines) (defBody s__law_pair_of_lines) (defScope s__law_pair_of_lines) .none kV__law_pair_of_lines dc__law_pair_of_lines pm__law_pair_of_lines an__law_pair_of_lines cd__law_pair_of_lines ct__law_pair_of_lines,
    g__law_pair_of_lines := PySem.W.mg_of X G g__law_pair_of_lines,
    F__law_pair_of_lines := fun_mk (st := s__law_pair_of_lines) l__law_pair_of_lines c__law_pair_of_lines k__law_pair_of_lines,
    b__law_pair_of_lines := (fun_mk (st := s__law_pair_of_lines) l__law_pair_of_lines c__law_pair_of_lines k__law_pair_of_lines).binds (ps := ["pool", "longest"]) fun _ _ _ _ _ _ us hl => match us, hl with | [_, _], _ => rfl,
    a__law_fits := f__law_fits,
    d__law_fits := PySem.W.fnOf "_law_fits" "_law_fits" (defArgs s__law_fits) (defBody s__law_fits) (defScope s__law_fits) .none kV__law_fits dc__law_fits pm__law_fits an__law_fits cd__law_fits ct__law_fits,
    g__law_fits := PySem.W.mg_of X G g__law_fits,
    F__law_fits := fun_mk (st := s__law_fits) l__law_fits c__law_fits k__law_fits,
    b__law_fits := (fun_mk (st := s__law_fits) l__law_fits c__law_fits k__law_fits).binds (ps := ["pool"]) fun _ _ _ _ _ _ us hl => match us, hl with | [_], _ => rfl,
    a_law := f_law,
    d_law := PySem.W.fnOf "law" "law" (defArgs s_law) (defBody s_law) (defScope s_law) .none kV_law dc_law pm_law an_law cd_law ct_law,
    g_law := PySem.W.mg_of X G g_law,
    F_law := fun_mk (st := s_law) l_law c_law k_law,
    b_law := (fun_mk (st := s_law) l_law c_law k_law).binds (ps := ["script"]) fun _ _ _ _ _ _ us hl => match us, hl with | [_], _ => rfl,
    kb_parting_question__other_row_row := kbl_parting_question__other_row_row fun _ _ _ => .of_eq rfl,
    b_abs := PySem.W.mg_none_of X G z_abs,
    b_enumerate := PySem.W.mg_none_of X G z_enumerate,
    b_int := PySem.W.mg_none_of X G z_int,
    b_isinstance := PySem.W.mg_none_of X G z_isinstance,
    b_len := PySem.W.mg_none_of X G z_len,
    b_list := PySem.W.mg_none_of X G z_list,
    b_max := PySem.W.mg_none_of X G z_max,
    b_min := PySem.W.mg_none_of X G z_min,
    b_range := PySem.W.mg_none_of X G z_range,
    b_reversed := PySem.W.mg_none_of X G z_reversed,
    b_set := PySem.W.mg_none_of X G z_set,
    b_sorted := PySem.W.mg_none_of X G z_sorted,
    b_str := PySem.W.mg_none_of X G z_str,
    b_tuple := PySem.W.mg_none_of X G z_tuple,
    b_zip := PySem.W.mg_none_of X G z_zip,
    a_SIZES := f_SIZES,
    g_SIZES := PySem.W.mg_of X G g_SIZES,
    ki_SIZES := kints_of l_SIZES h_SIZES o_SIZES v_SIZES,
    bl := fun s v => .of_eq rfl }
  refine ⟨PySem.W.fnOf "law" "law" (defArgs s_law) (defBody s_law) (defScope s_law) .none kV_law dc_law pm_law an_law cd_law ct_law, fun s v => .of_eq rfl, fun base _ _ => ?_⟩
  have G__law_draw := ok__law_draw (P := P) (base := base) T
  have G__law_pool := ok__law_pool (P := P) (base := base) T
  have G_is_letter := ok_is_letter (P := P) (base := base) T
  have G_is_one_letter := ok_is_one_letter T G_is_letter
  have G_has_form := ok_has_form T G_is_one_letter
  have G_inner_questions := ok_inner_questions (P := P) (base := base) T
  have G_is_question := ok_is_question T G_has_form G_inner_questions
  have G_check_question := ok_check_question T G_is_question
  have G_parts_of := ok_parts_of T G_inner_questions
  have G_check_row := ok_check_row T G_is_letter
  have G_check_rows := ok_check_rows T G_check_row
  have G_Kinds___init__ := ok_Kinds___init__ (P := P) (base := base) T
  have G_Kinds_numbered := ok_Kinds_numbered (P := P) (base := base) T
  have G_Kinds_empty := ok_Kinds_empty T G_Kinds_numbered
  have G_Kinds_lesser := ok_Kinds_lesser T G_Kinds_numbered
  have G_Kinds_added_behind := ok_Kinds_added_behind T G_Kinds_numbered G_Kinds_empty G_Kinds_lesser
  have G_Kinds_added_ahead := ok_Kinds_added_ahead T G_Kinds_numbered G_Kinds_empty G_Kinds_lesser
  have G_Kinds_marks_of_places := ok_Kinds_marks_of_places T G_Kinds_empty G_Kinds_added_behind G_Kinds_added_ahead
  have G_Kinds_places := ok_Kinds_places T G_Kinds_marks_of_places
  have G_Kinds_of_row := ok_Kinds_of_row T G_Kinds_places G_Kinds_numbered
  have G_Kinds_alike := ok_Kinds_alike T G_Kinds_of_row
  have G_depth_between := ok_depth_between T G_Kinds_of_row
  have G_parting_depth := ok_parting_depth T G_check_rows G_Kinds___init__ G_depth_between
  have G_holds := ok_holds (P := P) (base := base) T
  have G_Stretches___init__ := ok_Stretches___init__ (P := P) (base := base) T
  have G_Stretches_met := ok_Stretches_met T G_holds
  have G_table_of_part := ok_table_of_part T G_Stretches_met
  have G_table_of := ok_table_of T G_parts_of G_table_of_part
  have G_row_lets := ok_row_lets T G_holds G_Stretches___init__ G_table_of
  have G_lets := ok_lets T G_check_row G_check_question G_row_lets
  have G_is_good_answer := ok_is_good_answer T G_Kinds_alike
  have G_good_answers_to := ok_good_answers_to T G_Kinds_places G_is_good_answer
  have G_picks_without_answer := ok_picks_without_answer T G_good_answers_to
  have G_joined := ok_joined (P := P) (base := base) T
  have G_parts_no_later := ok_parts_no_later T G_depth_between
  have G_question_at := (fun f => ok_question_at T f G_row_lets G_joined G_parts_no_later)
  have G_question_between := ok_question_between T G_depth_between G_picks_without_answer G_question_at
  have G_parting_question := ok_parting_question T G_check_rows G_Kinds___init__ (G_question_between 3)
  have G_depth_of := ok_depth_of T G_check_question G_inner_questions
  have G__law_line := ok__law_line T G__law_draw
  have G__law_bent := ok__law_bent T G__law_draw
  have G__law_pair_of_lines := ok__law_pair_of_lines T G__law_draw G__law_line G__law_bent
  have G__law_deep := ok__law_deep (P := P) (base := base) T 60
  have G__law_lets := ok__law_lets (P := P) (base := base) T 60
  have G__law_fits := ok__law_fits T G__law_pair_of_lines G_parting_question G_is_question G_depth_of G_parting_depth G__law_deep G__law_lets G_lets
  have G_law := ok_law T G__law_pool G__law_fits
  exact G_law
end Lw
open PySem PySem.W PyProof.Rows in
set_option maxRecDepth 100000 in
set_option maxHeartbeats 0 in
theorem PySem.Challenge.cw_pickdepths_k17_questions_that_part_holds : PySem.Challenge.rw_pickdepths_k17_questions_that_part.Holds := by
  w_on; o_law; k_head; (case hw => w_witness2)
  k_fill
  refine M.walk_ofG (l := PySem.Challenge.rw_pickdepths_k17_questions_that_part) (n := 63) (k := 65) (x := "script") (sp := fun K => M.sp_law K) rfl (by decide) rfl ⟨rfl, by decide, by decide⟩ (fun w h Y => PySem.W.kIn_of Y) ?F (fun K H a ns hl _ hS => ⟨a, ns, rfl, hS, hl, fun _ => rfl⟩)
  case F =>
    intro w mg fa h KX G hmg
    refine' Lw.all_mk KX G hmg ?g_is_letter ?l_is_letter ?c_is_letter ?k_is_letter ?g_check_row ?l_check_row ?c_check_row ?k_check_row ?g_check_rows ?l_check_rows ?c_check_rows ?k_check_rows ?g_Kinds ?pg_Kinds ?hd_Kinds ?po_Kinds ?sa_Kinds ?mk_Kinds ?kk_Kinds ?n_Kinds_known_kinds ?n_Kinds_known_places ?n_Kinds_numbers ?n_Kinds_marks ?n_Kinds_depths ?n_Kinds_lesser_kinds ?n_Kinds_longer_behind ?n_Kinds_longer_ahead ?g_Kinds___init__ ?l_Kinds___init__ ?c_Kinds___init__ ?k_Kinds___init__ ?fn_Kinds___init__ ?g_Kinds_alike ?l_Kinds_alike ?c_Kinds_alike ?k_Kinds_alike ?fn_Kinds_alike ?g_Kinds_of_row ?l_Kinds_of_row ?c_Kinds_of_row ?k_Kinds_of_row ?fn_Kinds_of_row ?g_Kinds_places ?l_Kinds_places ?c_Kinds_places ?k_Kinds_places ?fn_Kinds_places ?g_Kinds_marks_of_places ?l_Kinds_marks_of_places ?c_Kinds_marks_of_places ?k_Kinds_marks_of_places ?fn_Kinds_marks_of_places ?g_Kinds_empty ?l_Kinds_empty ?c_Kinds_empty ?k_Kinds_empty ?fn_Kinds_empty ?g_Kinds_numbered ?l_Kinds_numbered ?c_Kinds_numbered ?k_Kinds_numbered ?fn_Kinds_numbered ?g_Kinds_lesser ?l_Kinds_lesser ?c_Kinds_lesser ?k_Kinds_lesser ?fn_Kinds_lesser ?g_Kinds_added_behind ?l_Kinds_added_behind ?c_Kinds_added_behind ?k_Kinds_added_behind ?fn_Kinds_added_behind ?g_Kinds_added_ahead ?l_Kinds_added_ahead ?c_Kinds_added_ahead ?k_Kinds_added_ahead ?fn_Kinds_added_ahead ?g_parting_depth ?l_parting_depth ?c_parting_depth ?k_parting_depth ?g_depth_between ?l_depth_between ?c_depth_between ?k_depth_between ?g_good_answers_to ?l_good_answers_to ?c_good_answers_to ?k_good_answers_to ?g_is_good_answer ?l_is_good_answer ?c_is_good_answer ?k_is_good_answer ?g_picks_without_answer ?l_picks_without_answer ?c_picks_without_answer ?k_picks_without_answer ?g_is_question ?l_is_question ?c_is_question ?k_is_question ?g_depth_of ?l_depth_of ?c_depth_of ?k_depth_of ?g_parts_of ?l_parts_of ?c_parts_of ?k_parts_of ?g_inner_questions ?l_inner_questions ?c_inner_questions ?k_inner_questions ?g_has_form ?l_has_form ?c_has_form ?k_has_form ?g_is_one_letter ?l_is_one_letter ?c_is_one_letter ?k_is_one_letter ?g_check_question ?l_check_question ?c_check_question ?k_check_question ?g_table_of ?l_table_of ?c_table_of ?k_table_of ?g_table_of_part ?l_table_of_part ?c_table_of_part ?k_table_of_part ?g_Stretches ?pg_Stretches ?hd_Stretches ?po_Stretches ?sa_Stretches ?mk_Stretches ?kk_Stretches ?n_Stretches_row ?n_Stretches_whole ?g_Stretches___init__ ?l_Stretches___init__ ?c_Stretches___init__ ?k_Stretches___init__ ?fn_Stretches___init__ ?g_Stretches_met ?l_Stretches_met ?c_Stretches_met ?k_Stretches_met ?fn_Stretches_met ?g_holds ?l_holds ?c_holds ?k_holds ?g_lets ?l_lets ?c_lets ?k_lets ?g_parting_question ?l_parting_question ?c_parting_question ?k_parting_question ?g_row_lets ?l_row_lets ?c_row_lets ?k_row_lets ?g_question_between ?l_question_between ?c_question_between ?k_question_between ?g_question_at ?l_question_at ?c_question_at ?k_question_at ?g_parts_no_later ?l_parts_no_later ?c_parts_no_later ?k_parts_no_later ?g_joined ?l_joined ?c_joined ?k_joined ?g__law_pool ?l__law_pool ?c__law_pool ?k__law_pool ?g__law_draw ?l__law_draw ?c__law_draw ?k__law_draw ?g__law_line ?l__law_line ?c__law_line ?k__law_line ?g__law_bent ?l__law_bent ?c__law_bent ?k__law_bent ?g__law_lets ?l__law_lets ?c__law_lets ?k__law_lets ?g__law_deep ?l__law_deep ?c__law_deep ?k__law_deep ?g__law_pair_of_lines ?l__law_pair_of_lines ?c__law_pair_of_lines ?k__law_pair_of_lines ?g__law_fits ?l__law_fits ?c__law_fits ?k__law_fits ?g_law ?l_law ?c_law ?k_law ?z_abs ?z_enumerate ?z_int ?z_isinstance ?z_len ?z_list ?z_max ?z_min ?z_range ?z_reversed ?z_set ?z_sorted ?z_str ?z_tuple ?z_zip ?g_SIZES ?l_SIZES ?h_SIZES ?o_SIZES ?v_SIZES
    (case g_is_letter => k_is)
    (case l_is_letter => k_is)
    (case c_is_letter => k_is)
    (case k_is_letter => k_is)
    (case g_check_row => k_is)
    (case l_check_row => k_is)
    (case c_check_row => k_is)
    (case k_check_row => k_is)
    (case g_check_rows => k_is)
    (case l_check_rows => k_is)
    (case c_check_rows => k_is)
    (case k_check_rows => k_is)
    (case g_Kinds => k_is)
    (case pg_Kinds => k_is)
    (case hd_Kinds => k_is)
    (case po_Kinds => k_is)
    (case sa_Kinds => k_is)
    (case mk_Kinds => k_is)
    (case kk_Kinds => k_is)
    (case n_Kinds_known_kinds => k_is)
    (case n_Kinds_known_places => k_is)
    (case n_Kinds_numbers => k_is)
    (case n_Kinds_marks => k_is)
    (case n_Kinds_depths => k_is)
    (case n_Kinds_lesser_kinds => k_is)
    (case n_Kinds_longer_behind => k_is)
    (case n_Kinds_longer_ahead => k_is)
    (case g_Kinds___init__ => k_is)
    (case l_Kinds___init__ => k_is)
    (case c_Kinds___init__ => k_is)
    (case k_Kinds___init__ => k_is)
    (case fn_Kinds___init__ => k_is)
    (case g_Kinds_alike => k_is)
    (case l_Kinds_alike => k_is)
    (case c_Kinds_alike => k_is)
    (case k_Kinds_alike => k_is)
    (case fn_Kinds_alike => k_is)
    (case g_Kinds_of_row => k_is)
    (case l_Kinds_of_row => k_is)
    (case c_Kinds_of_row => k_is)
    (case k_Kinds_of_row => k_is)
    (case fn_Kinds_of_row => k_is)
    (case g_Kinds_places => k_is)
    (case l_Kinds_places => k_is)
    (case c_Kinds_places => k_is)
    (case k_Kinds_places => k_is)
    (case fn_Kinds_places => k_is)
    (case g_Kinds_marks_of_places => k_is)
    (case l_Kinds_marks_of_places => k_is)
    (case c_Kinds_marks_of_places => k_is)
    (case k_Kinds_marks_of_places => k_is)
    (case fn_Kinds_marks_of_places => k_is)
    (case g_Kinds_empty => k_is)
    (case l_Kinds_empty => k_is)
    (case c_Kinds_empty => k_is)
    (case k_Kinds_empty => k_is)
    (case fn_Kinds_empty => k_is)
    (case g_Kinds_numbered => k_is)
    (case l_Kinds_numbered => k_is)
    (case c_Kinds_numbered => k_is)
    (case k_Kinds_numbered => k_is)
    (case fn_Kinds_numbered => k_is)
    (case g_Kinds_lesser => k_is)
    (case l_Kinds_lesser => k_is)
    (case c_Kinds_lesser => k_is)
    (case k_Kinds_lesser => k_is)
    (case fn_Kinds_lesser => k_is)
    (case g_Kinds_added_behind => k_is)
    (case l_Kinds_added_behind => k_is)
    (case c_Kinds_added_behind => k_is)
    (case k_Kinds_added_behind => k_is)
    (case fn_Kinds_added_behind => k_is)
    (case g_Kinds_added_ahead => k_is)
    (case l_Kinds_added_ahead => k_is)
    (case c_Kinds_added_ahead => k_is)
    (case k_Kinds_added_ahead => k_is)
    (case fn_Kinds_added_ahead => k_is)
    (case g_parting_depth => k_is)
    (case l_parting_depth => k_is)
    (case c_parting_depth => k_is)
    (case k_parting_depth => k_is)
    (case g_depth_between => k_is)
    (case l_depth_between => k_is)
    (case c_depth_between => k_is)
    (case k_depth_between => k_is)
    (case g_good_answers_to => k_is)
    (case l_good_answers_to => k_is)
    (case c_good_answers_to => k_is)
    (case k_good_answers_to => k_is)
    (case g_is_good_answer => k_is)
    (case l_is_good_answer => k_is)
    (case c_is_good_answer => k_is)
    (case k_is_good_answer => k_is)
    (case g_picks_without_answer => k_is)
    (case l_picks_without_answer => k_is)
    (case c_picks_without_answer => k_is)
    (case k_picks_without_answer => k_is)
    (case g_is_question => k_is)
    (case l_is_question => k_is)
    (case c_is_question => k_is)
    (case k_is_question => k_is)
    (case g_depth_of => k_is)
    (case l_depth_of => k_is)
    (case c_depth_of => k_is)
    (case k_depth_of => k_is)
    (case g_parts_of => k_is)
    (case l_parts_of => k_is)
    (case c_parts_of => k_is)
    (case k_parts_of => k_is)
    (case g_inner_questions => k_is)
    (case l_inner_questions => k_is)
    (case c_inner_questions => k_is)
    (case k_inner_questions => k_is)
    (case g_has_form => k_is)
    (case l_has_form => k_is)
    (case c_has_form => k_is)
    (case k_has_form => k_is)
    (case g_is_one_letter => k_is)
    (case l_is_one_letter => k_is)
    (case c_is_one_letter => k_is)
    (case k_is_one_letter => k_is)
    (case g_check_question => k_is)
    (case l_check_question => k_is)
    (case c_check_question => k_is)
    (case k_check_question => k_is)
    (case g_table_of => k_is)
    (case l_table_of => k_is)
    (case c_table_of => k_is)
    (case k_table_of => k_is)
    (case g_table_of_part => k_is)
    (case l_table_of_part => k_is)
    (case c_table_of_part => k_is)
    (case k_table_of_part => k_is)
    (case g_Stretches => k_is)
    (case pg_Stretches => k_is)
    (case hd_Stretches => k_is)
    (case po_Stretches => k_is)
    (case sa_Stretches => k_is)
    (case mk_Stretches => k_is)
    (case kk_Stretches => k_is)
    (case n_Stretches_row => k_is)
    (case n_Stretches_whole => k_is)
    (case g_Stretches___init__ => k_is)
    (case l_Stretches___init__ => k_is)
    (case c_Stretches___init__ => k_is)
    (case k_Stretches___init__ => k_is)
    (case fn_Stretches___init__ => k_is)
    (case g_Stretches_met => k_is)
    (case l_Stretches_met => k_is)
    (case c_Stretches_met => k_is)
    (case k_Stretches_met => k_is)
    (case fn_Stretches_met => k_is)
    (case g_holds => k_is)
    (case l_holds => k_is)
    (case c_holds => k_is)
    (case k_holds => k_is)
    (case g_lets => k_is)
    (case l_lets => k_is)
    (case c_lets => k_is)
    (case k_lets => k_is)
    (case g_parting_question => k_is)
    (case l_parting_question => k_is)
    (case c_parting_question => k_is)
    (case k_parting_question => k_is)
    (case g_row_lets => k_is)
    (case l_row_lets => k_is)
    (case c_row_lets => k_is)
    (case k_row_lets => k_is)
    (case g_question_between => k_is)
    (case l_question_between => k_is)
    (case c_question_between => k_is)
    (case k_question_between => k_is)
    (case g_question_at => k_is)
    (case l_question_at => k_is)
    (case c_question_at => k_is)
    (case k_question_at => k_is)
    (case g_parts_no_later => k_is)
    (case l_parts_no_later => k_is)
    (case c_parts_no_later => k_is)
    (case k_parts_no_later => k_is)
    (case g_joined => k_is)
    (case l_joined => k_is)
    (case c_joined => k_is)
    (case k_joined => k_is)
    (case g__law_pool => k_is)
    (case l__law_pool => k_is)
    (case c__law_pool => k_is)
    (case k__law_pool => k_is)
    (case g__law_draw => k_is)
    (case l__law_draw => k_is)
    (case c__law_draw => k_is)
    (case k__law_draw => k_is)
    (case g__law_line => k_is)
    (case l__law_line => k_is)
    (case c__law_line => k_is)
    (case k__law_line => k_is)
    (case g__law_bent => k_is)
    (case l__law_bent => k_is)
    (case c__law_bent => k_is)
    (case k__law_bent => k_is)
    (case g__law_lets => k_is)
    (case l__law_lets => k_is)
    (case c__law_lets => k_is)
    (case k__law_lets => k_is)
    (case g__law_deep => k_is)
    (case l__law_deep => k_is)
    (case c__law_deep => k_is)
    (case k__law_deep => k_is)
    (case g__law_pair_of_lines => k_is)
    (case l__law_pair_of_lines => k_is)
    (case c__law_pair_of_lines => k_is)
    (case k__law_pair_of_lines => k_is)
    (case g__law_fits => k_is)
    (case l__law_fits => k_is)
    (case c__law_fits => k_is)
    (case k__law_fits => k_is)
    (case g_law => k_is)
    (case l_law => k_is)
    (case c_law => k_is)
    (case k_law => k_is)
    (case z_abs => k_is)
    (case z_enumerate => k_is)
    (case z_int => k_is)
    (case z_isinstance => k_is)
    (case z_len => k_is)
    (case z_list => k_is)
    (case z_max => k_is)
    (case z_min => k_is)
    (case z_range => k_is)
    (case z_reversed => k_is)
    (case z_set => k_is)
    (case z_sorted => k_is)
    (case z_str => k_is)
    (case z_tuple => k_is)
    (case z_zip => k_is)
    (case g_SIZES => k_is)
    (case l_SIZES => k_is)
    (case h_SIZES => repeat (first | exact trivial | refine ⟨⟨_, _, rfl, rfl⟩, ?_⟩))
    (case o_SIZES => first | rfl | decide +kernel | k_is)
    (case v_SIZES => rfl)
end
