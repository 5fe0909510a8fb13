import PyProof.Rows.All
import Wide.All
import OpenK.AllK
import Wide.FinOn
import HandS.ForMost
import HandS.Exc
import HandS.Wide
import HandS.Style
import HandS.Evl
import HandS.IsInst
import KE.IntBitsLaws
import KE.GoesEnum
import KE.KRevSl
import PyProof.ReprRoads
import PyProof.StrBlock2
import HandS.TupSets
import HandS.SetKeys
import HandS.Rev
import HandS.Strs
import HandS.SetFor
import HandS.Text
import HandS.WideBits
import HandS.Walk
import PyProof.StrLawsTight
import PyProof.StrLawsIn
import PyProof.Rows.StrJoinRep
import PySem.Challenge.RW_pickdepths_k14_questions_of_long_rows
section
set_option Elab.async false
set_option linter.all false
set_option maxRecDepth 100000
/-! my own base: rules that the hand layer lacks, and the words of my specs -/
namespace M
open PySem L2 Evl
open PyProof.Rows hiding St

/-! ### operators -/
def CPowW (i j : Int) : Prop := 0 ≤ j ∧ (Builtin.Int.intBits i : Int) * j ≤ 2 ^ 27
theorem op_powW {X : Cx} : OpR X (binaryOp .Pow) (rI CPowW fun i j => .int (i ^ j.toNat)) := opI fun _ _ _ _ _ _ _ hc q => pow_int hc.1 hc.2 q
theorem bits_le {i : Int} {n : Nat} (h : i.natAbs < 2 ^ n) : Builtin.Int.intBits i ≤ n := by
  unfold Builtin.Int.intBits
  by_cases e : i = 0
  · simp [e]
  · rw [if_neg (by simpa using e)]
    have h2 : i.natAbs.log2 < n := (Nat.log2_lt (by omega)).mpr h
    omega
theorem pow_w {i : Int} {j : Int} (n : Nat) (h : i.natAbs < 2 ^ n) (h0 : 0 ≤ j) (hj : j ≤ 100) (hn : n ≤ 1000) : CPowW i j := by
  refine ⟨h0, ?_⟩
  have e := bits_le h
  have h1 : ((Builtin.Int.intBits i : Nat) : Int) ≤ 1000 := by omega
  have h27 : (2 : Int) ^ 27 = 134217728 := by decide
  rw [h27]
  have h2 : ((Builtin.Int.intBits i : Nat) : Int) * j ≤ 1000 * 100 := Int.mul_le_mul h1 hj h0 (by decide)
  omega
theorem op_mul_str {X : Cx} : OpR X (binaryOp .Mult) (fun x y H Q => ∃ z i, x = .str z ∧ y = .int i ∧ MulOk z i ∧ Q (.str (Txt.mul z i)) H) := by
  intro pins s σ H x y v u Q I rx ry h
  obtain ⟨z, i, rfl, rfl, hc, q⟩ := h
  obtain ⟨t, rfl⟩ := rx
  obtain ⟨t', rfl⟩ := ry
  exact SB.mul hc fun t2 k => ⟨.str _, H, I.tok _, ⟨_, rfl⟩, q⟩

/-! ### repr of data, where no repr is running -/
def rRepr (K : PySem.W.Frag) : List V → Hp → VK → Prop := fun xs H Q => ∃ x d, xs = [x] ∧ Dp K H x d ∧ d.showable = true ∧ d.hasDict = false ∧ d.depth ≤ 50 ∧ d.shown.length ≤ sizeLine ∧ Q (.str d.shown) H
theorem call_repr {X : Cx} (hg : X.A.guards = some []) (hu : X.A.units + 64 < cLine) : CallR X (.builtin "repr") (rRepr X.K) := by
  intro pins s σ H vs us Q I r h
  obtain ⟨x, d, rfl, hd, hs, hn, hp, hz, q⟩ := h
  obtain ⟨u, rfl, ru⟩ := vals1 r
  obtain ⟨as, rd⟩ := Dp.reads I d x u hd ru
  have fin : ∀ t, EP X pins σ Q (.str d.shown t) { s with toks := s.toks + 1 } := fun t => ⟨.str _, H, I.tok _, ⟨_, rfl⟩, q⟩
  cases rd with
  | none => exact P.repr_of_none (fin _)
  | bool b => exact P.repr_of_bool (fin _)
  | int i t => exact P.repr_of_int (by simpa [PyData.showable] using hs) (fin _)
  | str z t => exact P.repr_of_str (fin _) hz
  | list h1 h2 h3 h4 =>
    refine repr_of_reads' (.list h1 h2 h3 h4) hs (PyData.noDict_hsm hn) hg (by omega) (fun _ _ e => e) (fun h' t tk k => ?_) hz
    exact ⟨.str _, H, I.kept (t' := tk) k, ⟨_, rfl⟩, q⟩
  | tuple h1 h2 h3 h4 =>
    refine repr_of_reads' (.tuple h1 h2 h3 h4) hs (PyData.noDict_hsm hn) hg (by omega) (fun _ _ e => e) (fun h' t tk k => ?_) hz
    exact ⟨.str _, H, I.kept (t' := tk) k, ⟨_, rfl⟩, q⟩
  | dict => cases hn

/-! ### a def whose body asks that no repr is running -/
structure FnG (P : Program) (w : World) (K : PySem.W.Frag) (mg : Str → Option Value) (base : Heap) (CX : CXT) (k : Nat) (f : Addr) (fd : FuncData) (ps : List Str) (sp : Sp) : Prop where
  len : ∀ vs H Q E, sp vs H Q E → vs.length = ps.length
  run : ∀ (A : Around), A.guards = some [] → ∀ (outer : List Env) (s : Shared) (H : Hp) (args : Args) (us : List Value) (vs : List V) (Q : VK) (E : XK), Room k A → Env0 P w K mg base A outer s H →
    BindsTo s fd args (ps.zip us) → Vals vs us → sp vs H Q E → codeAny (model P w) A (.call (.ref f) args) (CR CX outer P w H s Q E) s
section
variable {P : Program} {w : World} {K : PySem.W.Frag} {mg : Str → Option Value} {base : Heap} {CX : CXT} {k : Nat} {f : Addr} {fd : FuncData} {ps : List Str} {sp : Sp}
theorem FnG.of (F : FnOk P w K mg base CX k f fd ps sp) : FnG P w K mg base CX k f fd ps sp := ⟨F.len, fun A _ => F.run A⟩
theorem FnG.mono {j : Nat} (F : FnG P w K mg base CX j f fd ps sp) (h : j ≤ k) : FnG P w K mg base CX k f fd ps sp := ⟨F.len, fun A hg o s H ar us vs Q E hr => F.run A hg o s H ar us vs Q E (hr.mono h)⟩
theorem fnG_of {name qual : Str} {params : Arguments} {body : List Stmt} {scope : Scope} {dV kV doc pm cdv ct oc : Value} {an od : Option Addr} {osl : Array (Option Value)} {N : List Str}
    (lk : K.lookup f = some ⟨oc, od, .func (PySem.W.fnOf name qual params body scope dV kV doc pm an cdv ct), osl⟩) (hcd : PySem.W.codeIn K cdv qual = true) (S : FnScope N ps scope) (len : ∀ vs H Q E, sp vs H Q E → vs.length = ps.length)
    (hb : ∀ (A : Around), A.guards = some [] → ∀ (outer : List Env) (s : Shared) (H : Hp) (vs : List V) (Q : VK) (E : XK), Room k (A.deeper (envOfC qual scope s.heap.objs.size f cdv)) → sp vs H Q E →
      ∃ t, PSs (cxOf CX P w K mg base N qual scope f cdv A outer s H E) body t ∧ t { nx := fun _ H' => Q .non H', rt := Q } (start N vs) H) :
    FnG P w K mg base CX (k + 1) f (PySem.W.fnOf name qual params body scope dV kV doc pm an cdv ct) ps sp where
  len := len
  run := by
    intro A hgA outer s H args us vs Q E room env bind rel want
    have inK : K.In s.heap := env.mod.kin.keeps fun b o q => (env.bs b o q).1
    have free : s.heap.NoLimit := env.mod.nolimit.keeps fun b o q => (env.bs b o q).1
    have kinds : ∀ y ∈ ps.zip us, scope.names.lookup y.1 = some .local ∨ (scope.names.lookup y.1 = some .cell ∧ ((cellsFrom (s.heap.objs.size + 1) scope.names []).lookup y.1).isSome = true) := by
      rintro ⟨n, v⟩ hy
      exact (S.par n (List.of_mem_zip hy).1).imp id fun q => ⟨q, PySem.W.cellsFrom_some _ _ _ (.inl q)⟩
    refine codeAny_call_function room.depth (inK _ _ lk) rfl S.co S.gen rfl (PySem.W.codeRec_of inK hcd) (bind _ _ _ _ ?_)
    refine wpAny_newFunctionEnv_cells S.kind kinds fun env' he s1 x => ?_
    subst he
    refine ⟨free.keeps x.toInCall.keep, codeAny_func ?_⟩
    obtain ⟨t, ht, hq⟩ := hb A hgA outer s H vs Q E (room.deeper _) want
    have I := inv_start (CX := CX) (E := E) S room.hd env (len _ _ _ _ want) rel x
    refine wpAny_mono (ht.run [] s1 (start N vs) H _ I hq) (fun fl s' hs => ?_) fun e s' hs => hs
    cases fl with
    | ret u =>
      obtain ⟨v, τ, G, J, rv, q⟩ := hs
      exact ⟨v, G, J.os, J.bare, J.base, J.hok, rv, q⟩
    | next =>
      obtain ⟨τ, G, J, q⟩ := hs
      exact ⟨V.non, G, J.os, J.bare, J.base, J.hok, rfl, q⟩
    | brk => exact hs.elim fun _ z => z.elim fun _ z => z.2.elim
    | cont => exact hs.elim fun _ z => z.elim fun _ z => z.2.elim
theorem Fun.okG {x qual : Str} {st : Stmt} {N : List Str} (F : Fun K x qual st f fd) (S : FnScope N ps (defScope st)) (len : ∀ vs H Q E, sp vs H Q E → vs.length = ps.length)
    (hb : ∀ (cdv : Value) (A : Around), A.guards = some [] → ∀ (outer : List Env) (s : Shared) (H : Hp) (vs : List V) (Q : VK) (E : XK), Room k (A.deeper (envOfC qual (defScope st) s.heap.objs.size f cdv)) → sp vs H Q E →
      ∃ t, PSs (cxOf CX0 P w K mg base N qual (defScope st) f cdv A outer s H E).nox (defBody st) t ∧ t { nx := fun _ H' => Q .non H', rt := Q } (start N vs) H) : FnG P w K mg base CX0 (k + 1) f fd ps sp := by
  obtain ⟨oc, od, kV, doc, pm, an, cdv, ct, osl, rfl, lk, hcd⟩ := F.ex
  refine fnG_of lk hcd S len fun A hg outer s H vs Q E hr want => ?_
  obtain ⟨t, p, q⟩ := hb cdv A hg outer s H vs Q E hr want
  exact ⟨t, p.nox, q⟩
end
section
variable {X : Cx} {CX : CXT} {k : Nat} {f : Addr} {fd : FuncData} {ps ks : List Str} {sp : Sp} {dvs : List V} {ds : List Value} {E : XK} {x : Str} {p pos : Pos} {e : Expr} {es : List Expr} {t tk : TA} {kws : List Keyword}
  {g : List Value → List Value → List Value} {gV : List V → List V → List V}
theorem ended {pins : List (Addr × Obj)} {σ : St} {H : Hp} {s s' : Shared} {Q : VK} {r : Result} (hx : Passes CX X E) (I : Inv X pins σ H s) (hq : CR CX X.stack X.prog X.w H s Q E r s') :
    (match r with | .ok (.ret u) => EP X pins σ Q u s' | .ok _ => False | .error e => X.xe e s') := by
  rcases r with e | fl
  · exact hx pins σ H s e s' I hq
  · cases fl with
    | ret u => exact I.after hq
    | next => exact hq.elim
    | brk => exact hq.elim
    | cont => exact hq.elim
theorem pe_callG (F : FnG X.prog X.w X.K X.mg X.base CX k f fd ps sp) (hga : X.A.guards = some []) (hr : Room k X.A) (hg : Gl X x) (hm : X.mg x = some (.ref f)) (hk : PySem.W.keepIn X.K (.ref f) = true) (hb : Binds X.K fd ps ds)
    (hd : Vals dvs ds) (hx : Passes CX X E) (ha : PA X (e :: es) t) (hdb : (x == ("__debug__" : Str)) = false := by decide) (he : starEach (e :: es) X.env = (false, eval e X.env) :: starEach es X.env := by rfl)
    (hpl : (backTo pos (starEach es X.env)).any (·.1) = false := by rfl) : PE X (.Call (.Name x p) (e :: es) [] pos) (tCall sp dvs E t) := by
  constructor
  intro pins s σ H Q I h
  refine wpAny_Call_Name_kw (ld_glob I hg hm (PySem.W.callWith_K (h₀ := X.base) I.ok.mod.kin hk (thn (ha.run pos pins s σ H _ I h) ?_) he hpl) hdb)
  rintro us s1 ⟨vs, H1, I1, r, q⟩
  refine ⟨I1.kIn, ?_⟩
  have both : Vals (vs ++ dvs) (us ++ ds) := r.append hd
  refine wpAny_call (codeAny_mono (F.run X.A hga X.stack s1 H1 ⟨us, []⟩ (us ++ ds) (vs ++ dvs) Q E hr I1.env0 (hb s1 us I1.kIn (by rw [← both.length]; exact F.len _ _ _ _ q)) both q) fun r s' hq => ?_)
  have z := ended hx I1 hq
  cases r with
  | error _ => exact z
  | ok fl => cases fl <;> exact z
theorem keysRun {pins : List (Addr × Obj)} {σ : St} {H : Hp} {s : Shared} {Q : VK} {us ws : List Value} {vs zs : List V} (F : FnG X.prog X.w X.K X.mg X.base CX k f fd ps sp) (hga : X.A.guards = some []) (hr : Room k X.A)
    (hb : KBinds X.K fd ps ks g gV) (hx : Passes CX X E) (I : Inv X pins σ H s) (r : Vals vs us) (rz : Vals zs ws) (h : sp (gV vs zs) H Q E) : wpAny (model X.prog X.w) X.A (call (.ref f) us (ks.zip ws)) (EP X pins σ Q) X.xe s := by
  have both := hb.rel r rz
  refine wpAny_call (codeAny_mono (F.run X.A hga X.stack s H ⟨us, ks.zip ws⟩ (g us ws) (gV vs zs) Q E hr I.env0 (hb.to s us ws I.kIn (by rw [← both.length]; exact F.len _ _ _ _ h)) both h) fun r s' hq => ?_)
  have z := ended hx I hq
  cases r with
  | error _ => exact z
  | ok fl => cases fl <;> exact z
/-- f(k = v, ..): every argument by its name -/
theorem pe_callK0 (F : FnOk X.prog X.w X.K X.mg X.base CX k f fd ps sp) (hr : Room k X.A) (hg : Gl X x) (hm : X.mg x = some (.ref f)) (hk : PySem.W.keepIn X.K (.ref f) = true) (hb : KBinds X.K fd ps ks g gV) (hx : Passes CX X E)
    (hkw : PK X kws tk) (hall : (backToKw pos (keywordEach kws X.env)).all (·.1.isSome) = true := by rfl) (hks : (backToKw pos (keywordEach kws X.env)).filterMap (·.1) = ks := by rfl)
    (hdb : (x == ("__debug__" : Str)) = false := by decide) (hpl : ((backTo pos (starEach [] X.env)).any (·.1) || (backToKw pos (keywordEach kws X.env)).any (·.1.isNone)) = false := by rfl) :
    PE X (.Call (.Name x p) [] kws pos) (tCallK sp gV E tNil tk) := by
  constructor
  intro pins s σ H Q I h
  refine wpAny_Call_Name_kw (ld_glob I hg hm (PySem.W.callWith_KW0 (h₀ := X.base) I.ok.mod.kin hk hall (thn (hkw.run pos pins s σ H _ I h) ?_) hpl) hdb)
  rintro ws s2 ⟨zs, H2, I2, rz, q2⟩
  refine ⟨I2.kIn, ?_⟩
  rw [hks]
  exact run_fnk F hr hb hx I2 .nil rz q2
end

/-! ### the end of a law, where the law's def asks that no repr is running -/
theorem law_callG {P : Program} {w : World} {K : PySem.W.Frag} {mg mb : Str → Option Value} {CX : CXT} {k : Nat} {fa a : Addr} {fd : FuncData} {x : Str} {sp : Sp} {s1 : Shared} {vs : List Value} {ns : List Int}
    (KX : K.In s1.heap) (hns : s1.heap.Ns mainGlobals mg) (hb : s1.heap.Ns builtinsNs mb) (hbb : ∀ y : Str, y ≠ "__name__" → mb y = bootBuiltins y) (lim : s1.heap.NoLimit) (hg : s1.gens = #[])
    (ha : s1.heap.get? a = some { cls := .type "list", data := .seq vs.toArray }) (hi : IntsAre vs ns) (hl : ns.length ≤ sizeLine) (hr : Room k callerA)
    (F : ∀ base : Heap, K.In base → base.Ns mainGlobals mg → FnG P w K mg base CX k fa fd [x] sp) (hbind : ∀ (s : Shared) (u : Value), BindsTo s fd ⟨[u], []⟩ [(x, u)])
    (hsp : ∀ H : Hp, Only H → SqL K H a (ns.map V.int) → sp [.ref a] H (fun v _ => v = .bl true) fun _ _ _ => False)
    (hCX : ∀ H e s', CX [] H s1 (fun _ _ _ => False) e s' → False) :
    codeAny (model P w) callerA (.call (.ref fa) ⟨[.ref a], []⟩) (fun r s' => r = .ok (.ret (.bool true)) ∧ OldK s1.heap s'.heap ∧ s'.os = s1.os ∧ AllBare s'.gens) s1 := by
  have rel := vals_ints hi
  have len := hi.length
  have go : ∀ H : Hp, Only H → SqL K H a (ns.map V.int) → HOk P w H s1.heap → (∀ b, H b ≠ none → b = a ∧ K.lookup a = none) →
      codeAny (model P w) callerA (.call (.ref fa) ⟨[.ref a], []⟩) (fun r s' => r = .ok (.ret (.bool true)) ∧ OldK s1.heap s'.heap ∧ s'.os = s1.os ∧ AllBare s'.gens) s1 := by
    intro H only script held here
    have plain : ∀ {b : Addr} {m : Str → Option Value}, s1.heap.Ns b m → (hidT s1.heap H).Ns b m := by
      rintro b m ⟨o, es, ep, q, d, z⟩
      refine ⟨o, es, ep, hidT_get q ?_, d, z⟩
      rcases hH : H b with _ | u
      · rfl
      · obtain ⟨rfl, _⟩ := here b (by rw [hH]; simp)
        rw [ha] at q
        cases q
        exact nomatch (show Data.seq vs.toArray _ = Data.dict es ep from d)
    have inK : K.In (hidT s1.heap H) := by
      intro b o q
      refine hidT_get (KX b o q) ?_
      rcases hH : H b with _ | u
      · rfl
      · obtain ⟨rfl, z⟩ := here b (by rw [hH]; simp)
        rw [z] at q
        cases q
    obtain ⟨mc, l1, l2⟩ := lim
    have env : Env0 P w K mg (hidT s1.heap H) callerA [] s1 H :=
      ⟨rfl, ⟨inK, plain hns, ⟨mb, plain hb, hbb⟩, ⟨mc, plain l1, l2⟩⟩, fun b o q => of_hidT q, Nat.le_of_eq (hidT_size _ _), trivial, fun b z => absurd (show b ∈ ([] : List Addr) from z) (by simp), held, .of_eq hg⟩
    refine codeAny_mono ((F _ inK (plain hns)).run callerA rfl [] s1 H ⟨[.ref a], []⟩ [.ref a] [.ref a] _ _ hr env (hbind s1 (.ref a)) (.cons rfl .nil) (hsp H only script)) ?_
    rintro (e | fl) s' z
    · exact (hCX H e s' z).elim
    · cases fl with
      | ret u =>
        obtain ⟨v, G, os, bare, un, held', rv, ev⟩ := z
        subst ev
        cases (show u = Value.bool true from rv)
        refine ⟨rfl, OldK.of_keep fun b o q => ?_, os, bare⟩
        rcases only b with n | ⟨ob, xs, n⟩
        · exact un.keep b o q n (fun z => absurd (show b ∈ ([] : List Addr) from z) (by simp)) (by simp)
        · obtain ⟨e1, _⟩ := held b _ n
          obtain ⟨e2, _⟩ := held' b _ (un.frzs b ob _ n)
          rw [q] at e1
          cases e1
          exact e2
      | next => exact z.elim
      | brk => exact z.elim
      | cont => exact z.elim
  rcases hk : K.lookup a with _ | o
  · refine go (fun b => if b = a then some (.frz { cls := .type "list", data := .seq vs.toArray } (.lst (ns.map V.int))) else none) ?_ (.inl (.inr ⟨_, if_pos rfl⟩)) ?_ ?_
    · intro b
      by_cases q : b = a
      · exact .inr ⟨_, _, if_pos q⟩
      · exact .inl (if_neg q)
    · intro b u z
      by_cases q : b = a
      · subst q
        have z' := (if_pos (c := b = b) rfl).symm.trans z
        cases z'
        exact ⟨ha, by rw [List.length_map]; exact hl, vs, _, rel, ha⟩
      · exact nomatch (if_neg q).symm.trans z
    · intro b z
      by_cases q : b = a
      · exact ⟨q, hk⟩
      · exact absurd (if_neg q) z
  · have q := KX a o hk
    rw [ha] at q
    cases q
    exact go (fun _ => none) (fun _ => .inl rfl) (.inr ⟨_, vs.toArray, _, hk, rfl, rfl, rfl, by rw [List.size_toArray, len]; exact hl, by simpa using rel⟩) (fun b u z => nomatch (show (none : Option HO) = some u from z)) fun b z => absurd rfl z
theorem walk_ofG {l : PySem.W.OpenLaw} {n k : Nat} {q : Program} {loose : List Str} {XP : (Str → Option Value) → Heap → Prop} {YP : World → Heap → Prop} {d : DefRec} {K : Params → PySem.W.Frag} {sp : PySem.W.Frag → Sp} {x : Str}
    (hn : l.most = some n) (hn2 : n ≤ sizeLine) (hdf : d.params.defaults = []) (hr : Room k callerA) (hY : ∀ (w : World) (h : Heap), YP w h → (K w.params).In h)
    (F : ∀ (w : World) (mg : Str → Option Value) (fa : Addr) (h : Heap), (K w.params).In h → h.Ns mainGlobals mg → mg d.name = some (.ref fa) →
      ∃ fd : FuncData, (∀ (s : Shared) (u : Value), BindsTo s fd ⟨[u], []⟩ [(x, u)]) ∧ ∀ base : Heap, (K w.params).In base → base.Ns mainGlobals mg → FnG l.prog w (K w.params) mg base CX0 k fa fd [x] (sp (K w.params)))
    (hsp : ∀ (K : PySem.W.Frag) (H : Hp) (a : Addr) (ns : List Int), ns.length ≤ n → Only H → SqL K H a (ns.map V.int) → sp K [.ref a] H (fun v _ => v = .bl true) fun _ _ _ => False) :
    PySem.W.WalkO q loose XP YP l.row.toRowW d [] (fun f vs => PySem.call f vs) := by
  refine Att.attach_call hn hdf fun w s0 s1 mg mb fa o pm cd doc a vs ns G Y ho hd hcd hmg hobj hints hlen hg => ?_
  obtain ⟨fd, hb, hF⟩ := F w mg fa _ (hY w _ Y) G.T.g hmg
  exact law_callG (hY w _ Y) G.T.g G.T.b G.T.builtins G.T.nolimit hg hobj hints (Nat.le_trans hlen hn2) hr hF hb (fun H hO hS => hsp _ H a ns hlen hO hS) fun H e s' z => z.elim

/-! ### s[::-1] -/
theorem back_idx (n : Nat) : Builtin.Str.strSliceIndices none none (-1) n = (List.range n).reverse := by
  unfold Builtin.Str.strSliceIndices
  simp only [show ¬ ((-1 : Int) > 0) by decide, if_false]
  rw [PySem.W.krv_sliceRange, PySem.W.krv_range]
def revS (z : Str) : Str := ⟨z.cps.toList.reverse.toArray⟩
def tRevS (te : TE) : TE := fun σ H Q => te σ H fun x H1 => ∃ z, x = .str z ∧ z.length ≤ sizeLine ∧ Q (.str (revS z)) H1
theorem pe_revS {X : Cx} {e : Expr} {te : TE} {k : Nat} {p1 p2 p3 pos : Pos} (he : PE X e te) : PE X (.Subscript e (.Slice none none (some (.UnaryOp .USub (.Constant (.int 1) k p1) p2)) p3) pos) (tRevS te) := by
  constructor
  intro pins s σ H Q I h
  refine Subscript_ (thn (he.run pins s σ H _ I h) ?_)
  rintro v s1 ⟨x, H1, I1, r1, z, rfl, hz, q⟩
  obtain ⟨t, rfl⟩ := r1
  have one : PO X (some (.UnaryOp .USub (.Constant (.int 1) k p1) p2)) (tPart (tUn (rU fun i => .int (-i)) (tC (.int 1)))) := po_some (pe_un un_neg pe_int)
  refine wpAny_Slice (thn (po_none.run pins s1 σ H1 (fun o G => o = none ∧ G = H1) I1 ⟨rfl, rfl⟩) ?_)
  rintro vl s2 ⟨_, _, I2, pl, rfl, rfl⟩
  refine thn (po_none.run pins s2 σ _ (fun o G => o = none ∧ G = _) I2 ⟨rfl, rfl⟩) ?_
  rintro vu s3 ⟨_, _, I3, pu, rfl, rfl⟩
  refine thn (one.run pins s3 σ _ (fun o G => o = some (-1) ∧ G = _) I3 ⟨1, rfl, -1, rfl, rfl, rfl⟩) ?_
  rintro vs s4 ⟨_, _, I4, ps, rfl, rfl⟩
  obtain ⟨l, rfl, el⟩ := IsPart.raw pl
  obtain ⟨u, rfl, eu⟩ := IsPart.raw pu
  obtain ⟨st, rfl, es⟩ := IsPart.raw ps
  obtain rfl : l = none := by cases l <;> first | rfl | cases el
  obtain rfl : u = none := by cases u <;> first | rfl | cases eu
  obtain ⟨tm, rfl⟩ : ∃ tm, st = some (-1, tm) := by
    cases st with
    | none => cases es
    | some q => exact ⟨q.2, by cases q; cases es; rfl⟩
  have I5 : Inv X pins σ _ { s4 with heap := s4.heap.push { cls := .type "slice", data := .fields #[partValue none, partValue none, partValue (some (-1, tm))] } } := I4.kept (t' := s4.toks) fun b ob q => Heap.get?_push_of_some _ q
  show wpAny (model X.prog X.w) X.A (subscriptTail e (.Slice none none (some (.UnaryOp .USub (.Constant (.int 1) k p1) p2)) p3) (.str z t) (.ref s4.heap.objs.size)) (EP X pins σ Q) X.xe { s4 with heap := s4.heap.push { cls := .type "slice", data := .fields #[partValue none, partValue none, partValue (some (-1, tm))] } }
  refine tail_any (ops := [.str z t, .ref s4.heap.objs.size]) (typeIs_str _ z t) PySem.F.slot_str_getitem.lookup ?_ (by with_unfolding_all rfl)
  refine wpAny_getItem_str_slice (l := none) (u := none) (st := some (-1, tm)) ⟨_, Heap.get?_push_size _ rfl, rfl, rfl⟩ rfl ?_
  have e2 : sliceMade z t none none (some (-1, tm)) = Made.str (revS z) := by
    unfold sliceMade slicePicked
    rw [if_neg (by simp)]
    show Made.str ⟨((Builtin.Str.strSliceIndices none none (-1) z.length).filterMap (z.cps[·]?)).toArray⟩ = _
    rw [back_idx, List.filterMap_reverse, show z.length = z.cps.size from rfl, PySem.W.krv_all]
    rfl
  rw [e2]
  refine ⟨?_, .str _, _, I5.tok _, ⟨_, rfl⟩, q⟩
  show (z.cps.toList.reverse.toArray).size ≤ _
  rw [List.size_toArray, List.length_reverse, Array.length_toList]
  exact hz

/-! ### for i, c in enumerate(s), s a text -/
def Ites (x : Str) : It :=
  ⟨fun i _ => i < x.cps.size, fun i H v H' => ∃ T c, v = .ref T ∧ H T = none ∧ H' = upd H T (.tup [.int (i : Nat), .str ⟨#[c]⟩]) ∧ x.cps[i]? = some c, fun i _ => x.cps.size ≤ i⟩
theorem turn_enumS {P : Program} {w : World} {K : PySem.W.Frag} {elts : List Expr} {kk : Nat} {tpos : Pos} (x : Str) (t : Tok) (e it : Addr) :
    Turn P w K (.Tuple elts kk tpos) (Ites x) [e, it] e (fun i h => (∃ old, IsEnum h e it ((i : Nat) : Int) old) ∧ h.IsStrIter it (strIterType x) x t i ∧ e ≠ it ∧ i ≤ x.cps.size) where
  mem := List.mem_cons_self
  obj := by
    rintro i h ⟨⟨old, he⟩, ⟨o, ho, hc, hd⟩, _⟩ b hb
    rcases List.mem_cons.mp hb with rfl | hb
    · exact ⟨_, he, fun v q => nomatch q⟩
    · obtain rfl := List.mem_singleton.mp hb
      exact ⟨o, ho, fun v q => by rw [hd] at q; cases q⟩
  keep := by
    rintro i h h' ⟨⟨old, he⟩, ⟨o, ho, r⟩, ne, le⟩ k
    exact ⟨⟨old, k e (by simp) _ he⟩, ⟨o, k it (by simp) o ho, r⟩, ne, le⟩
  item := by
    intro X hP hw hK hc i pins s σ H E I hf st go
    subst hP hw hK
    obtain ⟨⟨old, he⟩, hit, ne, le⟩ := st
    have lte : e < s.heap.objs.size := Heap.lt_size he
    have lti : it < s.heap.objs.size := by obtain ⟨_, q, _⟩ := hit; exact Heap.lt_size q
    refine wpAny_pyNext_enum_itemC (Draws.text (A := X.A.in1) (I.ok.hd hc) it x t) he hit go ne (by simpa using ne) fun v h' tk hv ho hit' hT hsz hk => ?_
    obtain ⟨c, tc, hcx, rfl⟩ := hv
    refine ⟨_, rfl, wpAny_letOwnedTupleGo_enum (s := { s with heap := h', toks := tk + 1 }) ho fun h2 he2 sb => ?_⟩
    have hT2 : h2.get? s.heap.objs.size = some { cls := .type "tuple", data := .seq #[.int i tk, .str ⟨#[c]⟩ tc] } := (sb.2 _ (Nat.ne_of_gt lte)).trans hT
    have new : ObjOk X.prog X.w (upd H s.heap.objs.size (.tup [.int (i : Nat), .str ⟨#[c]⟩])) h2 s.heap.objs.size (.tup [.int (i : Nat), .str ⟨#[c]⟩]) :=
      ⟨by show 2 ≤ sizeLine; decide, [.int i tk, .str ⟨#[c]⟩ tc], .cons ⟨_, rfl⟩ (.cons ⟨_, rfl⟩ .nil), ⟨_, hT2, rfl, _, rfl⟩⟩
    have I1 := I.turnedNew (t' := tk + 1) (ch := [e, it]) (fun b ob hb q => (sb.2 b (fun z => hb (by simp [z]))).trans (hk b ob (fun z => hb (by simp [z])) (fun z => hb (by simp [z])) q)) hf (Nat.le_refl _) new
    refine ⟨.ref s.heap.objs.size, _, I1, rfl, ⟨_, c, rfl, I.hok.fresh (Nat.le_refl _), rfl, hcx⟩, ⟨⟨_, by simpa using he2⟩, ?_, ne, go⟩, ?_⟩
    · obtain ⟨o, ho, r⟩ := hit'
      exact ⟨o, (sb.2 it (Ne.symm ne)).trans ho, r⟩
    · intro b hb
      have small : b < s.heap.objs.size := by
        rcases List.mem_cons.mp hb with rfl | q
        · exact lte
        · rw [List.mem_singleton.mp q]; exact lti
      rw [upd_ne (Nat.ne_of_lt small)]
      exact (hf b hb).1
  done := by
    intro X hP hw hK hc i pins s σ H E I hf st stop
    subst hP hw hK
    obtain ⟨⟨old, he⟩, hit, ne, le⟩ := st
    obtain ⟨f0, f1, f2, f3, f4, f5⟩ := hf it (by simp)
    obtain rfl : i = x.cps.size := Nat.le_antisymm le stop
    refine wpAny_pyNext_enum_endD (Draws.text (A := X.A.in1) (I.ok.hd hc) it x t) he hit fun h' eb => ⟨rfl, I.turned (t' := s.toks) (fun b o hb q => eb b o hb q) f0 f1 f3 f4 f5⟩
  self := by
    rintro A i s Q E ⟨⟨_, he⟩, _⟩ h
    exact wpAny_pyIter_enum he h
def iEnumS (ta : TA) : TI := fun σ H R => ta σ H fun vs H1 => ∃ x, vs = [.str x] ∧ R (Ites x) H1
theorem pi_enumS {X : Cx} {e : Expr} {ta : TA} {p pos tpos : Pos} {elts : List Expr} {kk : Nat} (hg : Gl X "enumerate") (hm : X.mg "enumerate" = none) (ha : PA X [e] ta) (hs : starEach [e] X.env = [(false, eval e X.env)] := by rfl) :
    PI X (.Tuple elts kk tpos) (.Call (.Name "enumerate" p) [e] [] pos) (iEnumS ta) := by
  constructor
  intro pins s σ H R I h
  refine Call_ (ld_blt I hg hm boot_enumerate (PyProof.Rows.callWith_type1 (thn (ha.run pos pins s σ H _ I h) ?_) hs rfl))
  rintro us s1 ⟨vs, H1, I1, r1, x, rfl, q⟩
  obtain ⟨u, rfl, ru⟩ := vals1 r1
  obtain ⟨t, rfl⟩ := ru
  refine call_enumerate_str fun h' he hit hsz hk => wpAny_pyIter_enum he ?_
  refine ⟨s1.heap.objs.size + 1, [s1.heap.objs.size + 1, s1.heap.objs.size], _, _, H1, rfl, I1.kept (t' := s1.toks) hk, turn_enumS x t (s1.heap.objs.size + 1) s1.heap.objs.size, ⟨⟨.none, he⟩, hit, Nat.succ_ne_self _, Nat.zero_le _⟩, ?_, q⟩
  intro b hb
  have big : s1.heap.objs.size ≤ b := by
    rcases List.mem_cons.mp hb with rfl | z
    · exact Nat.le_add_right _ _
    · rw [List.mem_singleton.mp z]; exact Nat.le_refl _
  exact I1.fpOk big (I1.hok.fresh big)
/-- the loop over such: the invariant by the turn -/
theorem for_enumS {x : Str} {g : TG} {tb : TS} {D : Ends} {σ : St} {H : Hp} (Pv : Nat → St → Hp → Prop) (h0 : Pv 0 σ H)
    (hs : ∀ i c T σ H, x.cps[i]? = some c → H T = none → Pv i σ H → g (.ref T) σ (upd H T (.tup [.int (i : Nat), .str ⟨#[c]⟩])) fun σ2 H2 => tb { D with nx := Pv (i + 1), ct := Pv (i + 1), bk := D.nx } σ2 H2)
    (hd : ∀ σ H, Pv x.cps.size σ H → D.nx σ H) :
    ∃ W : Nat → Nat → St → Hp → Prop, (∃ m, W 0 m σ H) ∧ ∀ i m σ H, W i m σ H →
      ((Ites x).stop i H ∧ D.nx σ H) ∨ ((Ites x).go i H ∧ ∃ N : St → Hp → Prop, (∀ σ' H', N σ' H' → ∃ m', m' < m ∧ W (i + 1) m' σ' H') ∧ ∀ v H', (Ites x).yld i H v H' → g v σ H' fun σ2 H2 => tb { D with nx := N, ct := N, bk := D.nx } σ2 H2) := by
  refine ⟨fun i m σ H => m = x.cps.size - i ∧ i ≤ x.cps.size ∧ Pv i σ H, ⟨_, rfl, Nat.zero_le _, h0⟩, ?_⟩
  rintro i _ σ H ⟨rfl, le, p⟩
  rcases Nat.lt_or_ge i x.cps.size with lt | ge
  · right
    refine ⟨lt, Pv (i + 1), fun σ' H' q => ⟨_, by omega, rfl, lt, q⟩, ?_⟩
    rintro v H' ⟨T, c, rfl, free, rfl, hc⟩
    exact hs i c T σ H hc free p
  · obtain rfl : i = x.cps.size := Nat.le_antisymm le ge
    exact .inl ⟨Nat.le_refl _, hd _ _ p⟩
end M
end

section
set_option Elab.async false
set_option linter.all false
set_option maxRecDepth 100000
/-! the words of my specs: what stands, pools, questions as data -/
namespace M
open PySem L2 Evl
open PyProof.Rows hiding St

/-! ### data over a part of the heap -/
mutual
theorem dp_mono {K : PySem.W.Frag} {H H' : Hp} (x : Ex H H') : ∀ (d : PyData) (v : V), Dp K H v d → Dp K H' v d
  | .none, _, h => by cases h; exact .non
  | .bool b, _, h => by cases h; exact .bl b
  | .int i, _, h => by cases h; exact .int i
  | .str z, _, h => by cases h; exact .str z
  | .list ds, _, h => by
    cases h with
    | lst hs ha => exact .lst (ex_l x hs) (dpa_mono x ds _ ha)
  | .tuple ds, _, h => by
    cases h with
    | tup hs ha => exact .tup (ex_t x hs) (dpa_mono x ds _ ha)
  | .dict _, _, h => by cases h
theorem dpa_mono {K : PySem.W.Frag} {H H' : Hp} (x : Ex H H') : ∀ (ds : List PyData) (vs : List V), DpAll K H vs ds → DpAll K H' vs ds
  | [], _, h => by cases h; exact .nil
  | d :: ds, _, h => by
    cases h with
    | cons h1 h2 => exact .cons (dp_mono x d _ h1) (dpa_mono x ds _ h2)
end
theorem _root_.L2.Dp.up {K : PySem.W.Frag} {H H' : Hp} {v : V} {d : PyData} (h : Dp K H v d) (x : Ex H H') : Dp K H' v d := dp_mono x d v h

/-! ### the pool of draws: three ints at p, apart from what H0 knows; m bounds how many were mixed -/
structure Pl (H0 H : Hp) (p : Addr) (m : Nat) : Prop where
  ex : Ex H0 H
  out : H0 p = none
  at_ : ∃ a b c : Int, H p = some (.lst [.int a, .int b, .int c]) ∧ 0 ≤ a ∧ 0 ≤ b ∧ b < 2 ^ 62 ∧ 0 ≤ c ∧ c ≤ m
theorem Pl.mono {H0 H : Hp} {p : Addr} {m n : Nat} (h : Pl H0 H p m) (le : m ≤ n) : Pl H0 H p n := by
  obtain ⟨a, b, c, h1, h2, h3, h4, h5, h6⟩ := h.at_
  exact ⟨h.ex, h.out, a, b, c, h1, h2, h3, h4, h5, by omega⟩
/-- a new object that the data may know -/
theorem Pl.new {H0 H : Hp} {p q : Addr} {m : Nat} {o : HO} (h : Pl H0 H p m) (hq : H q = none) : Pl (upd H0 q o) (upd H q o) p m ∧ Ex H0 (upd H0 q o) ∧ (upd H0 q o) q = some o := by
  have q0 : H0 q = none := fresh_back h.ex hq
  obtain ⟨a, b, c, h1, r⟩ := h.at_
  have np : p ≠ q := ne_of_none h1 hq
  refine ⟨⟨fun b' u e => ?_, by rw [upd_ne np]; exact h.out, a, b, c, by rw [upd_ne np]; exact h1, r⟩, Ex.new q0, upd_same⟩
  by_cases e' : b' = q
  · subst e'
    rw [upd_same] at e ⊢
    exact e
  · rw [upd_ne e'] at e ⊢
    exact h.ex _ _ e
/-- a new object that stays ours -/
theorem Pl.mine {H0 H : Hp} {p q : Addr} {m : Nat} {o : HO} (h : Pl H0 H p m) (hq : H q = none) : Pl H0 (upd H q o) p m := by
  obtain ⟨a, b, c, h1, r⟩ := h.at_
  have np : p ≠ q := ne_of_none h1 hq
  exact ⟨h.ex.trans (Ex.new hq), h.out, a, b, c, by rw [upd_ne np]; exact h1, r⟩
theorem Pl.keep {H0 H H' : Hp} {p : Addr} {m : Nat} (h : Pl H0 H p m) (x : Ex H H') : Pl H0 H' p m := by
  obtain ⟨a, b, c, h1, r⟩ := h.at_
  exact ⟨h.ex.trans x, h.out, a, b, c, x _ _ h1, r⟩
/-- an object apart from the data and the pool changes -/
theorem Pl.touch {H0 H : Hp} {p q : Addr} {m : Nat} {o : HO} (h : Pl H0 H p m) (hq : H0 q = none) (np : q ≠ p) : Pl H0 (upd H q o) p m := by
  obtain ⟨a, b, c, h1, r⟩ := h.at_
  exact ⟨h.ex.mut hq, h.out, a, b, c, by rw [upd_ne (Ne.symm np)]; exact h1, r⟩

def sp_draw : Sp := fun vs H Q _ => ∃ (H0 : Hp) (p : Addr) (m : Nat) (n : Int), vs = [.ref p, .int n] ∧ Pl H0 H p m ∧ m ≤ 2 ^ 30 ∧ 0 < n ∧ n.natAbs < 2 ^ 200 ∧
  ∀ (k : Int) (H' : Hp), 0 ≤ k → k < n → Pl H0 H' p (m + 1) → (∀ b, b ≠ p → H' b = H b) → Q (.int k) H'
def sp_pool (K : PySem.W.Frag) : Sp := fun vs H Q _ => ∃ (a : Addr) (ns : List Int) (i : Int), vs = [.ref a, .int i] ∧ SqL K H a (ns.map V.int) ∧ 0 ≤ i ∧ i ≤ 100 ∧
  ∀ (p : Addr) (H' : Hp), Pl H H' p 0 → Q (.ref p) H'

/-! ### letters, questions -/
def Abc (z : Str) : Prop := ∀ c ∈ z.cps.toList, 97 ≤ c ∧ c ≤ 122
inductive Qn where
  | any
  | no (q : Qn)
  | both (a b : Qn)
  | some (a : Qn) (c : Nat) (b : Qn)
namespace Qn
def d : Qn → PyData
  | any => .tuple [.str "any"]
  | no q => .tuple [.str "not", q.d]
  | both a b => .tuple [.str "both", a.d, b.d]
  | some a c b => .tuple [.str "some", a.d, .str ⟨#[c]⟩, b.d]
/-- how far it nests -/
def hi : Qn → Nat
  | any => 1
  | no q => q.hi + 1
  | both a b => max a.hi b.hi + 1
  | some a _ b => max a.hi b.hi + 1
/-- its parts -/
def parts : Qn → Nat
  | any => 1
  | no q => q.parts + 1
  | both a b => a.parts + b.parts + 1
  | some a _ b => a.parts + b.parts + 1
def deep : Qn → Nat
  | any => 0
  | no q => q.deep
  | both a b => max a.deep b.deep
  | some a _ b => max a.deep b.deep + 1
/-- its letters lie in names, and from a to z -/
def In (z : Str) : Qn → Prop
  | any => True
  | no q => q.In z
  | both a b => a.In z ∧ b.In z
  | some a c b => a.In z ∧ c ∈ z.cps.toList ∧ b.In z
def Ok : Qn → Prop
  | any => True
  | no q => q.Ok
  | both a b => a.Ok ∧ b.Ok
  | some a c b => a.Ok ∧ (97 ≤ c ∧ c ≤ 122) ∧ b.Ok
theorem In.ok {z : Str} (h : Abc z) : ∀ {q : Qn}, q.In z → q.Ok
  | any, _ => trivial
  | no q, i => In.ok (q := q) h i
  | both _ _, i => ⟨In.ok h i.1, In.ok h i.2⟩
  | some _ _ _, i => ⟨In.ok h i.1, h _ i.2.1, In.ok h i.2.2⟩
theorem hi_le : ∀ q : Qn, q.hi ≤ q.parts
  | any => by simp [hi, parts]
  | no q => by have := hi_le q; simp [hi, parts]; omega
  | both a b => by have := hi_le a; have := hi_le b; simp [hi, parts]; omega
  | some a _ b => by have := hi_le a; have := hi_le b; simp [hi, parts]; omega
theorem parts_pos : ∀ q : Qn, 1 ≤ q.parts
  | any => by simp [parts]
  | no q => by simp [parts]
  | both a b => by simp [parts]
  | some a _ b => by simp [parts]
end Qn
section
variable {K : PySem.W.Frag} {H : Hp} {v : V}
/-- a tuple's data -/
theorem dp_tup {ds : List PyData} (h : Dp K H v (.tuple ds)) : ∃ a xs, v = .ref a ∧ SqT K H a xs ∧ DpAll K H xs ds := by
  cases h with
  | tup h1 h2 => exact ⟨_, _, rfl, h1, h2⟩
theorem dpa_len : ∀ {xs : List V} {ds : List PyData}, DpAll K H xs ds → xs.length = ds.length
  | _, _, .nil => rfl
  | _, _, .cons _ t => by rw [List.length_cons, List.length_cons, dpa_len t]
theorem dp_str {z : Str} (h : Dp K H v (.str z)) : v = .str z := by cases h; rfl
theorem dp_q {q : Qn} (h : Dp K H v q.d) : ∃ a xs, v = .ref a ∧ SqT K H a xs ∧
    match q with
    | .any => xs = [.str "any"]
    | .no r => ∃ x, xs = [.str "not", x] ∧ Dp K H x r.d
    | .both r t => ∃ x y, xs = [.str "both", x, y] ∧ Dp K H x r.d ∧ Dp K H y t.d
    | .some r c t => ∃ x y, xs = [.str "some", x, .str ⟨#[c]⟩, y] ∧ Dp K H x r.d ∧ Dp K H y t.d := by
  cases q with
  | any =>
    obtain ⟨a, xs, e, hs, ha⟩ := dp_tup h
    refine ⟨a, xs, e, hs, ?_⟩
    cases ha with
    | cons h1 t => cases t; rw [dp_str h1]
  | no r =>
    obtain ⟨a, xs, e, hs, ha⟩ := dp_tup h
    refine ⟨a, xs, e, hs, ?_⟩
    cases ha with
    | cons h1 t => cases t with
      | cons h2 t => cases t; rw [dp_str h1]; exact ⟨_, rfl, h2⟩
  | both r u =>
    obtain ⟨a, xs, e, hs, ha⟩ := dp_tup h
    refine ⟨a, xs, e, hs, ?_⟩
    cases ha with
    | cons h1 t => cases t with
      | cons h2 t => cases t with
        | cons h3 t => cases t; rw [dp_str h1]; exact ⟨_, _, rfl, h2, h3⟩
  | some r c u =>
    obtain ⟨a, xs, e, hs, ha⟩ := dp_tup h
    refine ⟨a, xs, e, hs, ?_⟩
    cases ha with
    | cons h1 t => cases t with
      | cons h2 t => cases t with
        | cons h3 t => cases t with
          | cons h4 t => cases t; rw [dp_str h1, dp_str h3]; exact ⟨_, _, rfl, h2, h4⟩
theorem q_any {a : Addr} (h : H a = Option.some (.tup [.str "any"])) : Dp K H (.ref a) Qn.any.d := .tup (st_of h) (.cons (.str _) .nil)
theorem q_no {a : Addr} {x : V} {r : Qn} (h : H a = Option.some (.tup [.str "not", x])) (hx : Dp K H x r.d) : Dp K H (.ref a) (Qn.no r).d := .tup (st_of h) (.cons (.str _) (.cons hx .nil))
theorem q_both {a : Addr} {x y : V} {r t : Qn} (h : H a = Option.some (.tup [.str "both", x, y])) (hx : Dp K H x r.d) (hy : Dp K H y t.d) : Dp K H (.ref a) (Qn.both r t).d := .tup (st_of h) (.cons (.str _) (.cons hx (.cons hy .nil)))
theorem q_some {a : Addr} {x y : V} {r t : Qn} {c : Nat} (h : H a = Option.some (.tup [.str "some", x, .str ⟨#[c]⟩, y])) (hx : Dp K H x r.d) (hy : Dp K H y t.d) : Dp K H (.ref a) (Qn.some r c t).d := .tup (st_of h) (.cons (.str _) (.cons hx (.cons (.str _) (.cons hy .nil))))
end

/-! ### tests whose answer is not known yet -/
theorem iteD {c A B : Prop} [Decidable c] (h1 : c → A) (h2 : ¬ c → B) : if decide c = true then A else B := by
  by_cases h : c
  · rw [if_pos (decide_eq_true h)]; exact h1 h
  · rw [if_neg (by simp [h])]; exact h2 h
theorem iteND {c A B : Prop} [Decidable c] (h1 : ¬ c → A) (h2 : c → B) : if (!decide c) = true then A else B := by
  by_cases h : c
  · rw [if_neg (by simp [h])]; exact h2 h
  · rw [if_pos (by simp [h])]; exact h1 h
theorem iteI {i j : Int} {A B : Prop} (h1 : i = j → A) (h2 : i ≠ j → B) : if decide (V.int i = V.int j) = true then A else B :=
  iteD (fun h => h1 (by injection h)) (fun h => h2 fun e => h (by rw [e]))
theorem iteNI {i j : Int} {A B : Prop} (h1 : i ≠ j → A) (h2 : i = j → B) : if (!decide (V.int i = V.int j)) = true then A else B :=
  iteND (fun h => h1 fun e => h (by rw [e])) (fun h => h2 (by injection h))
theorem iteS {i j : Str} {A B : Prop} (h1 : i = j → A) (h2 : i ≠ j → B) : if decide (V.str i = V.str j) = true then A else B :=
  iteD (fun h => h1 (by injection h)) (fun h => h2 fun e => h (by rw [e]))
theorem iteNS {i j : Str} {A B : Prop} (h1 : i ≠ j → A) (h2 : i = j → B) : if (!decide (V.str i = V.str j)) = true then A else B :=
  iteND (fun h => h1 fun e => h (by rw [e])) (fun h => h2 (by injection h))
theorem iteB {b : Bool} {A B : Prop} (h1 : b = true → A) (h2 : b = false → B) : if b = true then A else B := by
  cases b
  · exact h2 rfl
  · exact h1 rfl
/-- a promise that nobody can ask -/
theorem fn_void {P : Program} {w : World} {K : PySem.W.Frag} {mg : Str → Option Value} {base : Heap} {CX : CXT} {k : Nat} {f : Addr} {fd : FuncData} {ps : List Str} {sp : Sp} (h : ∀ vs H Q E, sp vs H Q E → False) : FnOk P w K mg base CX k f fd ps sp :=
  ⟨fun vs H Q E z => (h vs H Q E z).elim, fun _ _ _ _ _ _ vs Q E _ _ _ _ z => (h vs _ Q E z).elim⟩

/-! ### drawn questions -/
def Names (z : Str) : Prop := Abc z ∧ 1 ≤ z.length ∧ z.length ≤ 100
theorem Names.size {z : Str} (h : Names z) : z.length ≤ sizeLine := Nat.le_trans h.2.2 (by decide)
theorem Names.get {z : Str} (h : Names z) {k : Int} (h0 : 0 ≤ k) (h1 : k < z.length) : ∃ c, atI z.cps.toList k = some c ∧ c ∈ z.cps.toList := by
  obtain ⟨j, rfl⟩ : ∃ j : Nat, k = j := ⟨k.toNat, by omega⟩
  have lt : j < z.cps.toList.length := by
    rw [Array.length_toList]
    have : ((j : Nat) : Int) < z.cps.size := h1
    omega
  exact ⟨z.cps.toList[j], atI_nat (by simp [lt]), List.getElem_mem lt⟩
def sp_query (K : PySem.W.Frag) (n : Nat) : Sp := fun vs H Q _ => ∃ (H0 : Hp) (p : Addr) (m : Nat) (z : Str) (dp wd : Int), vs = [.ref p, .str z, .int dp, .int wd] ∧ Pl H0 H p m ∧ m + 2 * wd.toNat ≤ 2 ^ 20 ∧ 1 ≤ wd ∧ wd < n ∧ Names z ∧
  ∀ (q : Qn) (v : V) (H1 H' : Hp), Ex H0 H1 → Pl H1 H' p (m + 2 * wd.toNat) → Dp K H1 v q.d → q.In z → q.deep ≤ dp.toNat → (q.parts : Int) ≤ wd → Q v H'
def sp_steep (K : PySem.W.Frag) (n : Nat) : Sp := fun vs H Q _ => ∃ (H0 : Hp) (p : Addr) (m : Nat) (z : Str) (dp : Int), vs = [.ref p, .str z, .int dp] ∧ Pl H0 H p m ∧ m + 16 * dp.toNat ≤ 2 ^ 20 ∧ dp < n ∧ Names z ∧
  ∀ (q : Qn) (v : V) (H1 H' : Hp), Ex H0 H1 → Pl H1 H' p (m + 16 * dp.toNat) → Dp K H1 v q.d → q.In z → q.deep ≤ dp.toNat → q.parts ≤ 8 * dp.toNat + 1 → Q v H'
def sp_any_query (K : PySem.W.Frag) : Sp := fun vs H Q _ => ∃ (H0 : Hp) (p : Addr) (m : Nat) (z : Str) (dp wd : Int), vs = [.ref p, .str z, .int dp, .int wd] ∧ Pl H0 H p m ∧ m + 500 ≤ 2 ^ 20 ∧ 0 ≤ dp ∧ dp ≤ 6 ∧ 1 ≤ wd ∧ wd ≤ 60 ∧ Names z ∧
  ∀ (q : Qn) (v : V) (H1 H' : Hp), Ex H0 H1 → Pl H1 H' p (m + 500) → Dp K H1 v q.d → q.In z → q.deep ≤ dp.toNat → (q.parts : Int) ≤ max (8 * dp + 1) wd → Q v H'
end M
end

section
set_option Elab.async false
set_option linter.all false
set_option maxRecDepth 100000
/-! more rules: isinstance of data, a written dict's get, questions checked -/
namespace M
open PySem L2 Evl
open PyProof.Rows hiding St

/-! ### isinstance(x, T), T built in -/
theorem tyx_tup {K : PySem.W.Frag} {H : Hp} {a : Addr} {xs : List V} (h : SqT K H a xs) : TyX K H (.ref a) (.type "tuple") := by
  rcases h with (h | ⟨o, h⟩) | ⟨o, its, n, hk, hc, _⟩
  · exact .base (.tup h)
  · exact .fTuple h
  · exact .kTuple hk hc
theorem tyx_lst {K : PySem.W.Frag} {H : Hp} {a : Addr} {xs : List V} (h : SqL K H a xs) : TyX K H (.ref a) (.type "list") := by
  rcases h with (h | ⟨o, h⟩) | ⟨o, its, n, hk, hc, _⟩
  · exact .base (.lst h)
  · exact .base (.frz h)
  · exact .kList hk hc
def rIsT (K : PySem.W.Frag) : List V → Hp → VK → Prop := fun xs H Q => ∃ (x : V) (n t : String) (b : Bool), xs = [x, .ty n] ∧ TyX K H x (.type t) ∧ kitB t n = some b ∧ Q (.bl b) H
theorem call_isT {X : Cx} : CallR X (.builtin "isinstance") (rIsT X.K) := by
  intro pins s σ H xs us Q I r h
  obtain ⟨x, n, t, b, rfl, ty, k, q⟩ := h
  exact call_isi pins s σ H _ us Q I r ⟨x, .ty n, .type t, .type n, b, rfl, .ty n, ty, kit_ty k, q⟩
theorem k_tt : kitB "tuple" "tuple" = some true := by decide +kernel
theorem k_ss : kitB "str" "str" = some true := by decide +kernel
theorem k_ll : kitB "list" "list" = some true := by decide +kernel
theorem k_st : kitB "str" "tuple" = some false := by decide +kernel
theorem k_lt : kitB "list" "tuple" = some false := by decide +kernel
theorem k_it : kitB "int" "tuple" = some false := by decide +kernel
theorem k_bt : kitB "bool" "tuple" = some false := by decide +kernel
theorem k_nt : kitB "NoneType" "tuple" = some false := by decide +kernel
theorem k_dt : kitB "dict" "tuple" = some false := by decide +kernel
theorem k_ts : kitB "tuple" "str" = some false := by decide +kernel
theorem k_ls : kitB "list" "str" = some false := by decide +kernel
theorem k_is : kitB "int" "str" = some false := by decide +kernel
theorem k_bs : kitB "bool" "str" = some false := by decide +kernel
theorem k_ns : kitB "NoneType" "str" = some false := by decide +kernel
theorem k_ds : kitB "dict" "str" = some false := by decide +kernel
theorem k_tl : kitB "tuple" "list" = some false := by decide +kernel

/-! ### D.get(word, n), D a written dict of ints by texts -/
/-- what D holds at z: an int, or nothing -/
def KInts (K : PySem.W.Frag) (w : World) (d : Addr) (f : Str → Option Int) : Prop :=
  ∃ es n, KDict K w d es n ∧ ∀ z, (∃ i t, f z = some i ∧ PySem.W.nsIn K d z = some (some (.int i t))) ∨ (f z = none ∧ PySem.W.nsIn K d z = some none)
def tKGet (K : PySem.W.Frag) (w : World) (td ty tx : TE) : TE := fun σ H Q => td σ H fun x H1 => ∃ d f, x = .ref d ∧ KInts K w d f ∧ ty σ H1 fun y H2 => ∃ z, y = .str z ∧ tx σ H2 fun u H3 => ∃ j, u = .int j ∧ Q (.int ((f z).getD j)) H3
theorem pe_kget {X : Cx} {o e f : Expr} {apos cpos : Pos} {td ty tx : TE} (ho : PE X o td) (he : PE X e ty) (hf : PE X f tx) (m : M2 X o "get" apos e f cpos) : PE X (.Call (.Attribute o "get" apos) [e, f] [] cpos) (tKGet X.K X.w td ty tx) := by
  constructor
  intro pins s σ H Q I h
  refine wpAny_Call_method m.base m.few m.line PySem.F.plainAttrs_dict PySem.F.slot_dict_get PySem.F.type_dict_get (thn (ho.run pins s σ H _ I h) ?_)
  rintro u s1 ⟨x, H1, I1, rx, d, g, rfl, ⟨es, n, D, hg⟩, q1⟩
  cases (show u = Value.ref d from rx)
  have hm0 := PySem.W.mapOf_K (prog := X.prog) I1.kIn D.at_ D.lit
  refine ⟨hm0.typeIs, fun a ea => ?_, ?_⟩
  · cases ea
    exact ⟨_, I1.kIn _ _ D.at_, rfl⟩
  rw [m.trees]
  refine Calls.callWith_builtin rfl (Calls.evalArgs_plain (Calls.spliced_cons (thn (he.run pins s1 σ H1 _ I1 q1) ?_)))
  rintro v s2 ⟨y, H2, I2, ry, z, rfl, q2⟩
  obtain ⟨t, rfl⟩ := ry
  refine Calls.spliced_cons (thn (hf.run pins s2 σ H2 _ I2 q2) ?_)
  rintro v2 s3 ⟨y2, H3, I3, r3, j, rfl, q3⟩
  obtain ⟨t3, rfl⟩ := r3
  have hm := PySem.W.mapOf_K (prog := X.prog) I3.kIn D.at_ D.lit
  refine Calls.spliced_nil (call_meetsIn PySem.F.slot_dict_get hm.typeIs PySem.F.entry_dict_get (PySem.F.args_dict_get_3 _ _ _) (meets_dict_get_default (strKind X.prog X.w) d (PySem.strKind_is X.prog X.w z t) D.low (.int j t3)) ⟨_, hm, ?_⟩)
  rcases hg z with ⟨i, ti, e1, e2⟩ | ⟨e1, e2⟩
  · rw [e1] at q3
    rw [PySem.W.find_K D.at_ e2]
    exact ⟨.int i, H3, I3.tok _, ⟨ti, rfl⟩, q3⟩
  · rw [e1] at q3
    rw [PySem.W.find_K D.at_ e2]
    exact ⟨.int j, H3, I3.tok _, ⟨t3, rfl⟩, q3⟩

/-! ### values of any kind that a law makes: data, and empty dicts -/
mutual
inductive Da (K : PySem.W.Frag) (H : Hp) : V → PyData → Prop
  | non : Da K H .non .none
  | bl (b : Bool) : Da K H (.bl b) (.bool b)
  | int (i : Int) : Da K H (.int i) (.int i)
  | str (x : Str) : Da K H (.str x) (.str x)
  | dct {a : Addr} : H a = some (.dK []) → Da K H (.ref a) (.dict [])
  | lst {a : Addr} {xs : List V} {ds : List PyData} : SqL K H a xs → Das K H xs ds → Da K H (.ref a) (.list ds)
  | tup {a : Addr} {xs : List V} {ds : List PyData} : SqT K H a xs → Das K H xs ds → Da K H (.ref a) (.tuple ds)
inductive Das (K : PySem.W.Frag) (H : Hp) : List V → List PyData → Prop
  | nil : Das K H [] []
  | cons {v : V} {vs : List V} {d : PyData} {ds : List PyData} : Da K H v d → Das K H vs ds → Das K H (v :: vs) (d :: ds)
end
section
variable {K : PySem.W.Frag} {H H' : Hp}
mutual
theorem da_of : ∀ (d : PyData) (v : V), Dp K H v d → Da K H v d
  | .none, _, h => by cases h; exact .non
  | .bool b, _, h => by cases h; exact .bl b
  | .int i, _, h => by cases h; exact .int i
  | .str z, _, h => by cases h; exact .str z
  | .list ds, _, h => by cases h with | lst a b => exact .lst a (das_of ds _ b)
  | .tuple ds, _, h => by cases h with | tup a b => exact .tup a (das_of ds _ b)
  | .dict _, _, h => by cases h
theorem das_of : ∀ (ds : List PyData) (vs : List V), DpAll K H vs ds → Das K H vs ds
  | [], _, h => by cases h; exact .nil
  | d :: ds, _, h => by cases h with | cons a b => exact .cons (da_of d _ a) (das_of ds _ b)
end
mutual
theorem da_mono (x : Ex H H') : ∀ (d : PyData) (v : V), Da K H v d → Da K H' v d
  | .none, _, h => by cases h; exact .non
  | .bool b, _, h => by cases h; exact .bl b
  | .int i, _, h => by cases h; exact .int i
  | .str z, _, h => by cases h; exact .str z
  | .list ds, _, h => by cases h with | lst a b => exact .lst (ex_l x a) (das_mono x ds _ b)
  | .tuple ds, _, h => by cases h with | tup a b => exact .tup (ex_t x a) (das_mono x ds _ b)
  | .dict _, _, h => by cases h with | dct a => exact .dct (x _ _ a)
theorem das_mono (x : Ex H H') : ∀ (ds : List PyData) (vs : List V), Das K H vs ds → Das K H' vs ds
  | [], _, h => by cases h; exact .nil
  | d :: ds, _, h => by cases h with | cons a b => exact .cons (da_mono x d _ a) (das_mono x ds _ b)
end
theorem Da.up {v : V} {d : PyData} (h : Da K H v d) (x : Ex H H') : Da K H' v d := da_mono x d v h
theorem Das.up {v : List V} {d : List PyData} (h : Das K H v d) (x : Ex H H') : Das K H' v d := das_mono x d v h
theorem Das.len : ∀ {xs : List V} {ds : List PyData}, Das K H xs ds → xs.length = ds.length
  | _, _, .nil => rfl
  | _, _, .cons _ t => by rw [List.length_cons, List.length_cons, Das.len t]
theorem Das.app : ∀ {xs ys : List V} {ds es : List PyData}, Das K H xs ds → Das K H ys es → Das K H (xs ++ ys) (ds ++ es)
  | _, _, _, _, .nil, h => h
  | _, _, _, _, .cons a t, h => .cons a (Das.app t h)
/-- the last one -/
theorem Das.last : ∀ {xs : List V} {ds : List PyData}, Das K H xs ds → ds ≠ [] → ∃ x d, xs[xs.length - 1]? = some x ∧ Da K H x d ∧ Das K H xs.dropLast ds.dropLast ∧ ds = ds.dropLast ++ [d]
  | _, _, .nil, h => absurd rfl h
  | _, _, .cons a .nil, _ => ⟨_, _, rfl, a, .nil, rfl⟩
  | _, _, .cons a (.cons b t), _ => by
    obtain ⟨x, d, e1, e2, e3, e4⟩ := Das.last (.cons b t) (by simp)
    refine ⟨x, d, ?_, e2, .cons a e3, ?_⟩
    · simpa using e1
    · rw [List.dropLast_cons₂]
      show _ = _ :: (_ ++ [d])
      rw [← e4]
/-- the name of its type -/
def tyN : PyData → String
  | .none => "NoneType" | .bool _ => "bool" | .int _ => "int" | .str _ => "str" | .list _ => "list" | .tuple _ => "tuple" | .dict _ => "dict"
theorem Da.ty {v : V} {d : PyData} (h : Da K H v d) : TyX K H v (.type (tyN d)) := by
  cases h with
  | non => exact .base .non
  | bl b => exact .base (.bl b)
  | int i => exact .base (.int i)
  | str x => exact .base (.str x)
  | dct a => exact .base (.dK a)
  | lst a _ => exact tyx_lst a
  | tup a _ => exact tyx_tup a
def tupB : PyData → Bool
  | .tuple _ => true
  | _ => false
def strB : PyData → Bool
  | .str _ => true
  | _ => false
theorem isTup (d : PyData) : kitB (tyN d) "tuple" = some (tupB d) := by
  cases d with
  | tuple ds => exact k_tt
  | none => exact k_nt
  | bool b => exact k_bt
  | int b => exact k_it
  | str b => exact k_st
  | list b => exact k_lt
  | dict b => exact k_dt
theorem isStr (d : PyData) : kitB (tyN d) "str" = some (strB d) := by
  cases d with
  | str z => exact k_ss
  | none => exact k_ns
  | bool b => exact k_bs
  | int b => exact k_is
  | tuple b => exact k_ts
  | list b => exact k_ls
  | dict b => exact k_ds
end

/-! ### which data are questions -/
def IsQ (d : PyData) : Prop := ∃ q : Qn, q.Ok ∧ q.d = d
def OneLetter (z : Str) : Prop := ∃ c, z = ⟨#[c]⟩ ∧ 97 ≤ c ∧ c ≤ 122
def HasForm : PyData → Prop
  | .tuple [.str w] => w = "any"
  | .tuple [.str w, _] => w = "not"
  | .tuple [.str w, _, _] => w = "both"
  | .tuple [.str w, _, .str z, _] => w = "some" ∧ OneLetter z
  | _ => False
def inner : PyData → List PyData
  | .tuple [_, a] => [a]
  | .tuple [_, a, b] => [a, b]
  | .tuple [_, a, _, b] => [a, b]
  | _ => []
theorem isQ_form {d : PyData} : IsQ d ↔ HasForm d ∧ ∀ x ∈ inner d, IsQ x := by
  constructor
  · rintro ⟨q, ok, rfl⟩
    cases q with
    | any => exact ⟨rfl, by simp [Qn.d, inner]⟩
    | no a => exact ⟨rfl, by simp only [Qn.d, inner, List.mem_singleton, forall_eq]; exact ⟨a, ok, rfl⟩⟩
    | both a b =>
      refine ⟨rfl, fun x hx => ?_⟩
      simp only [Qn.d, inner, List.mem_cons, List.not_mem_nil, or_false] at hx
      rcases hx with rfl | rfl
      · exact ⟨a, ok.1, rfl⟩
      · exact ⟨b, ok.2, rfl⟩
    | some a c b =>
      refine ⟨⟨rfl, c, rfl, ok.2.1⟩, fun x hx => ?_⟩
      simp only [Qn.d, inner, List.mem_cons, List.not_mem_nil, or_false] at hx
      rcases hx with rfl | rfl
      · exact ⟨a, ok.1, rfl⟩
      · exact ⟨b, ok.2.2, rfl⟩
  · rintro ⟨hf, hi⟩
    unfold HasForm at hf
    split at hf
    · subst hf; exact ⟨.any, trivial, rfl⟩
    · subst hf
      obtain ⟨a, ha, ea⟩ := hi _ (by simp only [inner]; exact List.mem_cons_self)
      exact ⟨.no a, ha, by rw [← ea]; rfl⟩
    · subst hf
      obtain ⟨a, ha, ea⟩ := hi _ (by simp only [inner]; exact List.mem_cons_self)
      obtain ⟨b, hb, eb⟩ := hi _ (by simp only [inner]; exact List.mem_cons_of_mem _ List.mem_cons_self)
      exact ⟨.both a b, ⟨ha, hb⟩, by rw [← ea, ← eb]; rfl⟩
    · obtain ⟨rfl, c, rfl, hc⟩ := hf
      obtain ⟨a, ha, ea⟩ := hi _ (by simp only [inner]; exact List.mem_cons_self)
      obtain ⟨b, hb, eb⟩ := hi _ (by simp only [inner]; exact List.mem_cons_of_mem _ List.mem_cons_self)
      exact ⟨.some a c b, ⟨ha, hc, hb⟩, by rw [← ea, ← eb]; rfl⟩
    · exact hf.elim
/-- how big -/
noncomputable def sizes (ds : List PyData) : Nat := (ds.map sizeOf).sum
theorem inner_lt (d : PyData) : sizes (inner d) < sizeOf d := by
  unfold inner
  split <;> simp [sizes] <;> first | omega | (cases d <;> simp <;> omega)
theorem form_tup {d : PyData} (h : HasForm d) : ∃ z ds, d = .tuple (.str z :: ds) := by
  unfold HasForm at h
  split at h <;> first | exact ⟨_, _, rfl⟩ | exact h.elim

/-! ### texts within are short -/
mutual
def sm : PyData → Bool
  | .str z => decide (z.length ≤ 1000)
  | .list ds => sms ds
  | .tuple ds => sms ds
  | _ => true
def sms : List PyData → Bool
  | [] => true
  | d :: ds => sm d && sms ds
end
theorem sms_mem : ∀ {ds : List PyData}, sms ds = true → ∀ d ∈ ds, sm d = true
  | _ :: _, h, _, hd => by
    rw [sms, Bool.and_eq_true] at h
    rcases List.mem_cons.mp hd with rfl | hd
    · exact h.1
    · exact sms_mem h.2 _ hd
theorem sm_inner {d : PyData} (h : sm d = true) : ∀ x ∈ inner d, sm x = true := by
  intro x hx
  unfold inner at hx
  split at hx
  all_goals first
    | exact absurd hx (List.not_mem_nil)
    | (rw [sm] at h
       refine sms_mem h x ?_
       simp only [List.mem_cons, List.not_mem_nil, or_false] at hx ⊢
       first
        | exact .inr hx
        | (rcases hx with rfl | rfl
           · exact .inr (.inl rfl)
           · exact .inr (.inr (.inr rfl)))
        | (rcases hx with rfl | rfl
           · exact .inr (.inl rfl)
           · exact .inr (.inr rfl)))
theorem sm_q : ∀ q : Qn, sm q.d = true
  | .any => rfl
  | .no q => by simp only [Qn.d, sm, sms, sm_q q]; rfl
  | .both a b => by simp only [Qn.d, sm, sms, sm_q a, sm_q b]; rfl
  | .some a c b => by simp only [Qn.d, sm, sms, sm_q a, sm_q b]; rfl

/-! ### what the program's own defs promise -/
def sp_is_letter : Sp := fun vs H Q _ => ∃ c : Nat, vs = [.str ⟨#[c]⟩] ∧ Q (.bl (decide (97 ≤ c ∧ c ≤ 122))) H
def sp_is_one_letter (K : PySem.W.Frag) : Sp := fun vs H Q _ => ∃ (v : V) (d : PyData), vs = [v] ∧ Da K H v d ∧ sm d = true ∧ ∀ b : Bool, (b = true ↔ ∃ z, d = .str z ∧ OneLetter z) → Q (.bl b) H
def sp_has_form (K : PySem.W.Frag) : Sp := fun vs H Q _ => ∃ (v : V) (d : PyData), vs = [v] ∧ Da K H v d ∧ sm d = true ∧ ∀ b : Bool, (b = true ↔ HasForm d) → Q (.bl b) H
theorem one_cases (z : Str) (h : z.length = 1) : ∃ c, z = ⟨#[c]⟩ := by
  obtain ⟨⟨l⟩⟩ := z
  cases l with
  | nil => cases h
  | cons c t => cases t with
    | nil => exact ⟨c, rfl⟩
    | cons d t => simp [PySem.Str.length] at h
theorem at0 {α : Type} (x : α) (xs : List α) : atI (x :: xs) 0 = some x := atI_nat (j := 0) rfl
theorem at1 {α : Type} (x y : α) (xs : List α) : atI (x :: y :: xs) 1 = some y := atI_nat (j := 1) rfl
theorem at2 {α : Type} (x y z : α) (xs : List α) : atI (x :: y :: z :: xs) 2 = some z := atI_nat (j := 2) rfl
theorem at3 {α : Type} (x y z u : α) (xs : List α) : atI (x :: y :: z :: u :: xs) 3 = some u := atI_nat (j := 3) rfl
theorem look_cons {z k : Str} {n : Int} {l : List (Str × Int)} : List.lookup z ((k, n) :: l) = if z = k then some n else List.lookup z l := by
  by_cases e : z = k
  · rw [if_pos e, e]; simp [List.lookup]
  · rw [if_neg e]
    have : (z == k) = false := beq_eq_false_iff_ne.mpr e
    simp [List.lookup, this]
theorem sz_cases {z : Str} {n : Int} (h : (List.lookup z [(("any" : Str), (1 : Int)), (("not" : Str), 2), (("both" : Str), 3), (("some" : Str), 4)]).getD 0 = n) (hn : n ≠ 0) :
    (z = "any" ∧ n = 1) ∨ (z = "not" ∧ n = 2) ∨ (z = "both" ∧ n = 3) ∨ (z = "some" ∧ n = 4) := by
  rw [look_cons, look_cons, look_cons, look_cons] at h
  by_cases e1 : z = "any"
  · rw [if_pos e1] at h; exact .inl ⟨e1, h.symm⟩
  rw [if_neg e1] at h
  by_cases e2 : z = "not"
  · rw [if_pos e2] at h; exact .inr (.inl ⟨e2, h.symm⟩)
  rw [if_neg e2] at h
  by_cases e3 : z = "both"
  · rw [if_pos e3] at h; exact .inr (.inr (.inl ⟨e3, h.symm⟩))
  rw [if_neg e3] at h
  by_cases e4 : z = "some"
  · rw [if_pos e4] at h; exact .inr (.inr (.inr ⟨e4, h.symm⟩))
  rw [if_neg e4] at h
  exact absurd h.symm hn
theorem form_size {wd : Str} {ds : List PyData} (h : HasForm (.tuple (.str wd :: ds))) :
    (List.lookup wd [(("any" : Str), (1 : Int)), (("not" : Str), 2), (("both" : Str), 3), (("some" : Str), 4)]).getD 0 = ((ds.length + 1 : Nat) : Int) := by
  unfold HasForm at h
  split at h
  · rename_i e; cases e; subst h; exact (by decide +kernel : (List.lookup ("any" : Str) [(("any" : Str), (1 : Int)), (("not" : Str), 2), (("both" : Str), 3), (("some" : Str), 4)]).getD 0 = (1 : Int))
  · rename_i e; cases e; subst h; exact (by decide +kernel : (List.lookup ("not" : Str) [(("any" : Str), (1 : Int)), (("not" : Str), 2), (("both" : Str), 3), (("some" : Str), 4)]).getD 0 = (2 : Int))
  · rename_i e; cases e; subst h; exact (by decide +kernel : (List.lookup ("both" : Str) [(("any" : Str), (1 : Int)), (("not" : Str), 2), (("both" : Str), 3), (("some" : Str), 4)]).getD 0 = (3 : Int))
  · rename_i e; cases e; rw [h.1]; exact (by decide +kernel : (List.lookup ("some" : Str) [(("any" : Str), (1 : Int)), (("not" : Str), 2), (("both" : Str), 3), (("some" : Str), 4)]).getD 0 = (4 : Int))
  · exact h.elim
end M
end

section
set_option Elab.async false
set_option linter.all false
set_option maxRecDepth 100000
/-! stacks of data, questions walked part by part -/
namespace M
open PySem L2 Evl
open PyProof.Rows hiding St

/-! ### how many nodes -/
mutual
def nds : PyData → Nat
  | .list ds => ndss ds + 1
  | .tuple ds => ndss ds + 1
  | _ => 1
def ndss : List PyData → Nat
  | [] => 0
  | d :: ds => nds d + ndss ds
end
theorem nds_pos (d : PyData) : 1 ≤ nds d := by cases d <;> simp [nds]
theorem ndss_app : ∀ a b : List PyData, ndss (a ++ b) = ndss a + ndss b
  | [], b => by simp [ndss]
  | d :: a, b => by simp [ndss, ndss_app a b]; omega
theorem ndss_len : ∀ a : List PyData, a.length ≤ ndss a
  | [] => Nat.le_refl _
  | d :: a => by have := ndss_len a; have := nds_pos d; simp [ndss]; omega
theorem inner_nds (d : PyData) : ndss (inner d) < nds d := by
  unfold inner
  split <;> simp [nds, ndss] <;> first | omega | (cases d <;> simp [nds])
theorem sms_app : ∀ {a b : List PyData}, sms a = true → sms b = true → sms (a ++ b) = true
  | [], _, _, h => h
  | d :: a, b, h, h2 => by
    rw [sms, Bool.and_eq_true] at h
    show (sm d && sms (a ++ b)) = true
    rw [h.1, sms_app h.2 h2]; rfl
theorem sms_of : ∀ {a : List PyData}, (∀ d ∈ a, sm d = true) → sms a = true
  | [], _ => rfl
  | d :: a, h => by
    show (sm d && sms a) = true
    rw [h d List.mem_cons_self, sms_of fun x hx => h x (List.mem_cons_of_mem _ hx)]; rfl
theorem Das.ne {K : PySem.W.Frag} {H : Hp} {xs : List V} {ds : List PyData} (h : Das K H xs ds) : xs.isEmpty = ds.isEmpty := by cases h <;> rfl

def sp_inner (K : PySem.W.Frag) : Sp := fun vs H Q _ => ∃ (H0 : Hp) (v : V) (d : PyData), vs = [v] ∧ Ex H0 H ∧ Da K H0 v d ∧ HasForm d ∧
  ∀ (l : Addr) (xs : List V) (H' : Hp), Ex H H' → H l = none → H' l = some (.lst xs) → Das K H0 xs (inner d) → Q (.ref l) H'
def sp_is_question (K : PySem.W.Frag) : Sp := fun vs H Q _ => ∃ (H0 : Hp) (v : V) (d : PyData), vs = [v] ∧ Ex H0 H ∧ Da K H0 v d ∧ sm d = true ∧ nds d ≤ 10000 ∧
  ∀ (b : Bool) (H' : Hp), Ex H H' → (b = true ↔ IsQ d) → Q (.bl b) H'
theorem cut1_not (x : V) (xs : List V) : ¬ (HT.sIx (x :: xs).length 0 (some 1) = 0 ∧ HT.sIx (x :: xs).length (x :: xs).length none = (x :: xs).length) := by
  rintro ⟨h, _⟩
  simp [HT.sIx] at h
  try omega
theorem cut1 (x : V) (xs : List V) : cutV (x :: xs) (some 1) none = xs := by
  have e1 : HT.sIx (x :: xs).length 0 (some 1) = 1 := by
    simp [HT.sIx]
    try omega
  have e2 : HT.sIx (x :: xs).length (x :: xs).length none = (x :: xs).length := rfl
  unfold cutV
  rw [e1, e2]
  simp
section
variable {K : PySem.W.Frag} {H : Hp} {v : V} {xs : List V}
theorem da_str {z : Str} (h : Da K H v (.str z)) : v = .str z := by cases h; rfl
theorem da_tup {ds : List PyData} (h : Da K H v (.tuple ds)) : ∃ a xs, v = .ref a ∧ SqT K H a xs ∧ Das K H xs ds := by cases h with | tup a b => exact ⟨_, _, rfl, a, b⟩
theorem das0 (h : Das K H xs []) : xs = [] := by cases h; rfl
theorem dasc {a : PyData} {ds : List PyData} (h : Das K H xs (a :: ds)) : ∃ x ys, xs = x :: ys ∧ Da K H x a ∧ Das K H ys ds := by cases h with | cons a b => exact ⟨_, _, rfl, a, b⟩
theorem das1 {a : PyData} (h : Das K H xs [a]) : ∃ x, xs = [x] ∧ Da K H x a := by
  obtain ⟨x, ys, rfl, h1, h2⟩ := dasc h
  exact ⟨x, by rw [das0 h2], h1⟩
theorem das2 {a b : PyData} (h : Das K H xs [a, b]) : ∃ x y, xs = [x, y] ∧ Da K H x a ∧ Da K H y b := by
  obtain ⟨x, ys, rfl, h1, h2⟩ := dasc h
  obtain ⟨y, rfl, h3⟩ := das1 h2
  exact ⟨x, y, rfl, h1, h3⟩
theorem das3 {a b c : PyData} (h : Das K H xs [a, b, c]) : ∃ x y z, xs = [x, y, z] ∧ Da K H x a ∧ Da K H y b ∧ Da K H z c := by
  obtain ⟨x, ys, rfl, h1, h2⟩ := dasc h
  obtain ⟨y, z, rfl, h3⟩ := das2 h2
  exact ⟨x, y, z, rfl, h1, h3⟩
theorem das4 {a b c d : PyData} (h : Das K H xs [a, b, c, d]) : ∃ x y z u, xs = [x, y, z, u] ∧ Da K H x a ∧ Da K H y b ∧ Da K H z c ∧ Da K H u d := by
  obtain ⟨x, ys, rfl, h1, h2⟩ := dasc h
  obtain ⟨y, z, u, rfl, h3⟩ := das3 h2
  exact ⟨x, y, z, u, rfl, h1, h3⟩
/-- the shapes of what has form -/
theorem form_cases {d : PyData} (hd : Da K H v d) (hf : HasForm d) : ∃ a xs, v = .ref a ∧ SqT K H a xs ∧
    ((xs = [.str "any"] ∧ inner d = []) ∨ (∃ x r, xs = [.str "not", x] ∧ Da K H x r ∧ inner d = [r]) ∨ (∃ x y r t, xs = [.str "both", x, y] ∧ Da K H x r ∧ Da K H y t ∧ inner d = [r, t]) ∨
     (∃ x y r t c, xs = [.str "some", x, .str ⟨#[c]⟩, y] ∧ Da K H x r ∧ Da K H y t ∧ inner d = [r, t] ∧ 97 ≤ c ∧ c ≤ 122)) := by
  unfold HasForm at hf
  split at hf
  · obtain ⟨a, xs, rfl, hs, hx⟩ := da_tup hd
    obtain ⟨x, rfl, h⟩ := das1 hx
    rw [da_str h, hf] at hs
    exact ⟨a, _, rfl, hs, .inl ⟨rfl, rfl⟩⟩
  · obtain ⟨a, xs, rfl, hs, hx⟩ := da_tup hd
    obtain ⟨x, y, rfl, h, h2⟩ := das2 hx
    rw [da_str h, hf] at hs
    exact ⟨a, _, rfl, hs, .inr (.inl ⟨y, _, rfl, h2, rfl⟩)⟩
  · obtain ⟨a, xs, rfl, hs, hx⟩ := da_tup hd
    obtain ⟨x, y, z, rfl, h, h2, h3⟩ := das3 hx
    rw [da_str h, hf] at hs
    exact ⟨a, _, rfl, hs, .inr (.inr (.inl ⟨y, z, _, _, rfl, h2, h3, rfl⟩))⟩
  · obtain ⟨a, xs, rfl, hs, hx⟩ := da_tup hd
    obtain ⟨x, y, z, u, rfl, h, h2, h3, h4⟩ := das4 hx
    obtain ⟨e1, c, e2, hc⟩ := hf
    rw [da_str h, da_str h3, e1, e2] at hs
    exact ⟨a, _, rfl, hs, .inr (.inr (.inr ⟨y, u, _, _, c, rfl, h2, h4, rfl, hc⟩))⟩
  · exact hf.elim
end

def sp_check_question (K : PySem.W.Frag) : Sp := fun vs H Q _ => ∃ (H0 : Hp) (v : V) (q : Qn), vs = [v] ∧ Ex H0 H ∧ Dp K H0 v q.d ∧ q.Ok ∧ q.parts ≤ 1000 ∧ ∀ H' : Hp, Ex H H' → Q .non H'
theorem nds_q : ∀ q : Qn, nds q.d ≤ 4 * q.parts
  | .any => by simp [Qn.d, nds, ndss, Qn.parts]
  | .no q => by have := nds_q q; simp [Qn.d, nds, ndss, Qn.parts]; omega
  | .both a b => by have := nds_q a; have := nds_q b; simp [Qn.d, nds, ndss, Qn.parts]; omega
  | .some a c b => by have := nds_q a; have := nds_q b; simp [Qn.d, nds, ndss, Qn.parts]; omega
/-- its parts, itself first, each ahead of those within it -/
def Qn.all : Qn → List Qn
  | .any => [.any]
  | .no q => .no q :: q.all
  | .both a b => .both a b :: (a.all ++ b.all)
  | .some a c b => .some a c b :: (a.all ++ b.all)
def Qn.kids : Qn → List Qn
  | .any => []
  | .no q => [q]
  | .both a b => [a, b]
  | .some a _ b => [a, b]
theorem Qn.all_kids (q : Qn) : q.all = q :: q.kids.flatMap Qn.all := by cases q <;> simp [Qn.all, Qn.kids]
theorem Qn.all_len : ∀ q : Qn, q.all.length = q.parts
  | .any => rfl
  | .no q => by simp [Qn.all, Qn.parts, Qn.all_len q]
  | .both a b => by simp [Qn.all, Qn.parts, Qn.all_len a, Qn.all_len b]
  | .some a c b => by simp [Qn.all, Qn.parts, Qn.all_len a, Qn.all_len b]
theorem Qn.form : ∀ q : Qn, q.Ok → HasForm q.d
  | .any, _ => rfl
  | .no _, _ => rfl
  | .both _ _, _ => rfl
  | .some _ c _, h => ⟨rfl, c, rfl, h.2.1⟩
theorem Qn.inner (q : Qn) : M.inner q.d = q.kids.map Qn.d := by cases q <;> rfl
theorem Qn.kids_ok {q : Qn} (h : q.Ok) : ∀ r ∈ q.kids, r.Ok := by
  cases q with
  | any => intro r hr; cases hr
  | no a => intro r hr; simp [Qn.kids] at hr; subst hr; exact h
  | both a b => intro r hr; simp [Qn.kids] at hr; rcases hr with rfl | rfl; exact h.1; exact h.2
  | some a c b => intro r hr; simp [Qn.kids] at hr; rcases hr with rfl | rfl; exact h.1; exact h.2.2
/-- values that are the questions qs -/
def Qs (K : PySem.W.Frag) (H : Hp) (xs : List V) (qs : List Qn) : Prop := Das K H xs (qs.map Qn.d)
theorem Qs.last {K : PySem.W.Frag} {H : Hp} {xs : List V} {qs : List Qn} {q : Qn} (h : Qs K H xs (qs ++ [q])) : ∃ x, xs[xs.length - 1]? = some x ∧ Da K H x q.d ∧ Qs K H xs.dropLast qs := by
  obtain ⟨x, d, e1, e2, e3, e4⟩ := Das.last h (by simp)
  rw [List.map_append, List.map_singleton] at e4 e3
  rw [List.dropLast_concat] at e4 e3
  have e5 := List.append_cancel_left e4
  cases e5
  exact ⟨x, e1, e2, e3⟩
theorem Qs.app {K : PySem.W.Frag} {H : Hp} {xs ys : List V} {qs rs : List Qn} (h : Qs K H xs qs) (h2 : Qs K H ys rs) : Qs K H (xs ++ ys) (qs ++ rs) := by
  show Das _ _ _ (List.map _ _)
  rw [List.map_append]
  exact Das.app h h2
theorem Qs.len {K : PySem.W.Frag} {H : Hp} {xs : List V} {qs : List Qn} (h : Qs K H xs qs) : xs.length = qs.length := by
  have := Das.len h
  rw [List.length_map] at this
  exact this
theorem Das.rev {K : PySem.W.Frag} {H : Hp} : ∀ {xs : List V} {ds : List PyData}, Das K H xs ds → Das K H xs.reverse ds.reverse
  | _, _, .nil => .nil
  | _, _, .cons a t => by
    rw [List.reverse_cons, List.reverse_cons]
    exact Das.app (Das.rev t) (.cons a .nil)
theorem Qs.rev {K : PySem.W.Frag} {H : Hp} {xs : List V} {qs : List Qn} (h : Qs K H xs qs) : Qs K H xs.reverse qs.reverse := by
  show Das _ _ _ (List.map _ _)
  rw [List.map_reverse]
  exact Das.rev h
/-- how many parts of all -/
def ptss (qs : List Qn) : Nat := (qs.map Qn.parts).sum
theorem ptss_app (a b : List Qn) : ptss (a ++ b) = ptss a + ptss b := by simp [ptss]
theorem ptss_rev (a : List Qn) : ptss a.reverse = ptss a := by
  induction a with
  | nil => rfl
  | cons q a ih => rw [List.reverse_cons, ptss_app, ih]; simp [ptss]; omega
theorem ptss_kids (q : Qn) : ptss q.kids + 1 = q.parts := by cases q <;> simp [ptss, Qn.kids, Qn.parts]
theorem ptss_len : ∀ a : List Qn, a.length ≤ ptss a
  | [] => Nat.le_refl _
  | q :: a => by have := ptss_len a; have := q.parts_pos; simp [ptss] at *; omega
def sp_parts_of (K : PySem.W.Frag) : Sp := fun vs H Q _ => ∃ (H0 : Hp) (v : V) (q : Qn), vs = [v] ∧ Ex H0 H ∧ Dp K H0 v q.d ∧ q.Ok ∧ q.parts ≤ 1000 ∧
  ∀ (l : Addr) (xs : List V) (H' : Hp), Ex H H' → H l = none → H' l = some (.lst xs) → Qs K H0 xs q.all → Q (.ref l) H'
theorem all_flat : ∀ l : List Qn, (l.flatMap Qn.all).length = ptss l
  | [] => rfl
  | q :: l => by simp [List.flatMap_cons, Qn.all_len, all_flat l, ptss]

/-! ### turned about -/
def Qn.turn : Qn → Qn
  | .any => .any
  | .no q => .no q.turn
  | .both a b => .both a.turn b.turn
  | .some a c b => .some b.turn c a.turn
theorem Qn.turn_turn : ∀ q : Qn, q.turn.turn = q
  | .any => rfl
  | .no q => by simp [Qn.turn, Qn.turn_turn q]
  | .both a b => by simp [Qn.turn, Qn.turn_turn a, Qn.turn_turn b]
  | .some a c b => by simp [Qn.turn, Qn.turn_turn a, Qn.turn_turn b]
theorem Qn.turn_ok : ∀ {q : Qn}, q.Ok → q.turn.Ok
  | .any, _ => trivial
  | .no q, h => Qn.turn_ok (q := q) h
  | .both _ _, h => ⟨Qn.turn_ok h.1, Qn.turn_ok h.2⟩
  | .some _ _ _, h => ⟨Qn.turn_ok h.2.2, h.2.1, Qn.turn_ok h.1⟩
theorem Qn.turn_parts : ∀ q : Qn, q.turn.parts = q.parts
  | .any => rfl
  | .no q => by simp [Qn.turn, Qn.parts, Qn.turn_parts q]
  | .both a b => by simp [Qn.turn, Qn.parts, Qn.turn_parts a, Qn.turn_parts b]
  | .some a c b => by simp [Qn.turn, Qn.parts, Qn.turn_parts a, Qn.turn_parts b]; omega
theorem Qn.turn_deep : ∀ q : Qn, q.turn.deep = q.deep
  | .any => rfl
  | .no q => by simp [Qn.turn, Qn.deep, Qn.turn_deep q]
  | .both a b => by simp [Qn.turn, Qn.deep, Qn.turn_deep a, Qn.turn_deep b]
  | .some a c b => by simp [Qn.turn, Qn.deep, Qn.turn_deep a, Qn.turn_deep b, Nat.max_comm]
theorem Qn.all_ok : ∀ {q : Qn}, q.Ok → ∀ r ∈ q.all, r.Ok
  | .any, h, r, hr => by simp [Qn.all] at hr; subst hr; exact h
  | .no q, h, r, hr => by
    simp [Qn.all] at hr
    rcases hr with rfl | hr
    · exact h
    · exact Qn.all_ok (q := q) h r hr
  | .both a b, h, r, hr => by
    simp [Qn.all] at hr
    rcases hr with rfl | hr | hr
    · exact h
    · exact Qn.all_ok h.1 r hr
    · exact Qn.all_ok h.2 r hr
  | .some a c b, h, r, hr => by
    simp [Qn.all] at hr
    rcases hr with rfl | hr | hr
    · exact h
    · exact Qn.all_ok h.1 r hr
    · exact Qn.all_ok h.2.2 r hr
/-- behind a part stand the parts of what lies within it -/
theorem flat_split : ∀ (n : Nat) (qs : List Qn), ptss qs ≤ n → ∀ pre r S, qs.flatMap Qn.all = pre ++ r :: S → ∃ S', S = r.kids.flatMap Qn.all ++ S' ∧ ∃ rest : List Qn, S' = rest.flatMap Qn.all
  | n, [], _, pre, r, S, h => by simp at h
  | 0, q :: qs, hn, pre, r, S, h => by have := q.parts_pos; simp [ptss] at hn; omega
  | n + 1, q :: qs, hn, pre, r, S, h => by
    rw [List.flatMap_cons, Qn.all_kids] at h
    have e : q :: (q.kids.flatMap Qn.all ++ qs.flatMap Qn.all) = q :: (q.kids ++ qs).flatMap Qn.all := by rw [List.flatMap_append]
    rw [List.cons_append, e] at h
    cases pre with
    | nil =>
      rw [List.nil_append] at h
      injection h with h1 h2
      subst h1
      exact ⟨qs.flatMap Qn.all, by rw [← h2, List.flatMap_append], qs, rfl⟩
    | cons p pre =>
      rw [List.cons_append] at h
      injection h with h1 h2
      refine flat_split n (q.kids ++ qs) ?_ pre r S h2
      have k := ptss_kids q
      rw [ptss_app]
      have : ptss (q :: qs) = q.parts + ptss qs := by simp [ptss]
      omega
theorem flat_inj : ∀ (a b c : List Qn) (S : List Qn), a.flatMap Qn.all = b.flatMap Qn.all ++ c.flatMap Qn.all → ∃ rest, a = b ++ rest ∧ rest.flatMap Qn.all = c.flatMap Qn.all
  | a, [], c, S, h => ⟨a, rfl, by simpa using h⟩
  | [], q :: b, c, S, h => by
    rw [List.flatMap_cons, Qn.all_kids] at h
    simp at h
  | p :: a, q :: b, c, S, h => by
    rw [List.flatMap_cons, List.flatMap_cons, List.append_assoc] at h
    have e : p = q := by
      rw [Qn.all_kids p, Qn.all_kids q] at h
      injection h
    subst e
    obtain ⟨rest, e1, e2⟩ := flat_inj a b c S (List.append_cancel_left h)
    exact ⟨rest, by rw [e1]; rfl, e2⟩
def sp_turned_part (K : PySem.W.Frag) : Sp := fun vs H Q _ => ∃ (H0 : Hp) (v : V) (r : Qn) (l : Addr) (xs : List V) (rest : List Qn), vs = [v, .ref l] ∧ Ex H0 H ∧ H0 l = none ∧ Da K H0 v r.d ∧ r.Ok ∧ H l = some (.lst xs) ∧
  Qs K H0 xs (rest ++ (r.kids.map Qn.turn).reverse) ∧
  ∀ (v' : V) (ys : List V) (H1 H' : Hp), Ex H0 H1 → Ex H1 H' → H1 l = none → Da K H1 v' r.turn.d → H' l = some (.lst ys) → Qs K H1 ys rest → (∀ b o, b ≠ l → H b = some o → H' b = some o) → Q v' H'
def sp_turned_question (K : PySem.W.Frag) : Sp := fun vs H Q _ => ∃ (H0 : Hp) (v : V) (q : Qn), vs = [v] ∧ Ex H0 H ∧ Dp K H0 v q.d ∧ q.Ok ∧ q.parts ≤ 1000 ∧
  ∀ (v' : V) (H1 H' : Hp), Ex H0 H1 → Ex H1 H' → Ex H H' → Da K H1 v' q.turn.d → Q v' H'
section
variable {K : PySem.W.Frag} {H : Hp} {v : V}
theorem da_any (h : Da K H v Qn.any.d) : ∃ a, v = .ref a ∧ SqT K H a [.str "any"] := by
  obtain ⟨a, xs, e, hs, hx⟩ := da_tup h
  obtain ⟨x, rfl, h1⟩ := das1 hx
  rw [da_str h1] at hs
  exact ⟨a, e, hs⟩
theorem da_no {r : Qn} (h : Da K H v (Qn.no r).d) : ∃ a x, v = .ref a ∧ SqT K H a [.str "not", x] ∧ Da K H x r.d := by
  obtain ⟨a, xs, e, hs, hx⟩ := da_tup h
  obtain ⟨x, y, rfl, h1, h2⟩ := das2 hx
  rw [da_str h1] at hs
  exact ⟨a, y, e, hs, h2⟩
theorem da_both {r t : Qn} (h : Da K H v (Qn.both r t).d) : ∃ a x y, v = .ref a ∧ SqT K H a [.str "both", x, y] ∧ Da K H x r.d ∧ Da K H y t.d := by
  obtain ⟨a, xs, e, hs, hx⟩ := da_tup h
  obtain ⟨x, y, z, rfl, h1, h2, h3⟩ := das3 hx
  rw [da_str h1] at hs
  exact ⟨a, y, z, e, hs, h2, h3⟩
theorem da_some {r t : Qn} {c : Nat} (h : Da K H v (Qn.some r c t).d) : ∃ a x y, v = .ref a ∧ SqT K H a [.str "some", x, .str ⟨#[c]⟩, y] ∧ Da K H x r.d ∧ Da K H y t.d := by
  obtain ⟨a, xs, e, hs, hx⟩ := da_tup h
  obtain ⟨x, y, z, u, rfl, h1, h2, h3, h4⟩ := das4 hx
  rw [da_str h1, da_str h3] at hs
  exact ⟨a, y, u, e, hs, h2, h4⟩
theorem mk_any {a : Addr} (h : H a = Option.some (.tup [.str "any"])) : Da K H (.ref a) Qn.any.d := .tup (st_of h) (.cons (.str _) .nil)
theorem mk_no {a : Addr} {x : V} {r : Qn} (h : H a = Option.some (.tup [.str "not", x])) (hx : Da K H x r.d) : Da K H (.ref a) (Qn.no r).d := .tup (st_of h) (.cons (.str _) (.cons hx .nil))
theorem mk_both {a : Addr} {x y : V} {r t : Qn} (h : H a = Option.some (.tup [.str "both", x, y])) (hx : Da K H x r.d) (hy : Da K H y t.d) : Da K H (.ref a) (Qn.both r t).d := .tup (st_of h) (.cons (.str _) (.cons hx (.cons hy .nil)))
theorem mk_some {a : Addr} {x y : V} {r t : Qn} {c : Nat} (h : H a = Option.some (.tup [.str "some", x, .str ⟨#[c]⟩, y])) (hx : Da K H x r.d) (hy : Da K H y t.d) : Da K H (.ref a) (Qn.some r c t).d := .tup (st_of h) (.cons (.str _) (.cons hx (.cons (.str _) (.cons hy .nil))))
end
theorem Das.at {K : PySem.W.Frag} {H : Hp} : ∀ {xs : List V} {ds : List PyData}, Das K H xs ds → ∀ {j : Nat} {x : V} (hj : j < ds.length), xs[j]? = some x → Da K H x ds[j]
  | _, _, .nil, j, x, hj, _ => absurd hj (Nat.not_lt_zero _)
  | _, _, .cons a _, 0, x, _, e => by
    simp only [List.getElem?_cons_zero, Option.some.injEq] at e
    subst e
    exact a
  | _, _, .cons _ t, j + 1, x, hj, e => Das.at t (Nat.lt_of_succ_lt_succ hj) e
theorem Qs.at {K : PySem.W.Frag} {H : Hp} {xs : List V} {qs : List Qn} {j : Nat} {x : V} (h : Qs K H xs qs) (hj : j < qs.length) (e : xs[j]? = some x) : Da K H x qs[j].d := by
  have := Das.at h (j := j) (by rw [List.length_map]; exact hj) e
  rw [List.getElem_map] at this
  exact this
theorem flat_one {ts : List Qn} {q : Qn} (h : q.all = ts.flatMap Qn.all) : ts = [q] := by
  obtain ⟨rest, e1, e2⟩ := flat_inj ts [q] [] [] (by rw [← h]; simp)
  cases rest with
  | nil => exact e1
  | cons r rest => rw [List.flatMap_cons, Qn.all_kids] at e2; cases e2
end M
end

section
set_option Elab.async false
set_option linter.all false
set_option maxRecDepth 100000
/-! depths and letters of questions, part by part -/
namespace M
open PySem L2 Evl
open PyProof.Rows hiding St
def Qn.word : Qn → Str
  | .any => "any"
  | .no _ => "not"
  | .both _ _ => "both"
  | .some _ _ _ => "some"
def Qn.up : Qn → Nat
  | .some _ _ _ => 1
  | _ => 0
theorem Qn.word_some {q : Qn} : (q.word = "some" → q.up = 1) ∧ (q.word ≠ "some" → q.up = 0) := by
  cases q <;> simp [Qn.word, Qn.up] <;> decide
theorem da_word {K : PySem.W.Frag} {H : Hp} {v : V} {q : Qn} (h : Da K H v q.d) : ∃ a ws, v = .ref a ∧ SqT K H a (.str q.word :: ws) := by
  cases q with
  | any => obtain ⟨a, e, s⟩ := da_any h; exact ⟨a, _, e, s⟩
  | no r => obtain ⟨a, x, e, s, _⟩ := da_no h; exact ⟨a, _, e, s⟩
  | both r t => obtain ⟨a, x, y, e, s, _⟩ := da_both h; exact ⟨a, _, e, s⟩
  | some r c t => obtain ⟨a, x, y, e, s, _⟩ := da_some h; exact ⟨a, _, e, s⟩
/-! a pile of (part, depth) -/
def pd (p : Qn × Nat) : PyData := .tuple [p.1.d, .int p.2]
def Ds (K : PySem.W.Frag) (H : Hp) (xs : List V) (ts : List (Qn × Nat)) : Prop := Das K H xs (ts.map pd)
def mx : List (Qn × Nat) → Nat
  | [] => 0
  | p :: ts => max (p.2 + p.1.deep) (mx ts)
theorem mx_app : ∀ a b : List (Qn × Nat), mx (a ++ b) = max (mx a) (mx b)
  | [], b => by simp [mx]
  | p :: a, b => by simp [mx, mx_app a b, Nat.max_assoc]
theorem mx_kids (r : Qn) (d : Nat) : max (d + r.up) (mx (r.kids.map fun k => (k, d + r.up))) = d + r.deep := by
  cases r <;> simp [Qn.kids, mx, Qn.up, Qn.deep] <;> omega
theorem Ds.last {K : PySem.W.Frag} {H : Hp} {xs : List V} {ts : List (Qn × Nat)} {r : Qn} {d : Nat} (h : Ds K H xs (ts ++ [(r, d)])) : ∃ a y, xs[xs.length - 1]? = some (.ref a) ∧ SqT K H a [y, .int d] ∧ Da K H y r.d ∧ Ds K H xs.dropLast ts := by
  obtain ⟨x, d', e1, e2, e3, e4⟩ := Das.last h (by simp)
  rw [List.map_append, List.map_singleton] at e4 e3
  rw [List.dropLast_concat] at e4 e3
  have e5 := List.append_cancel_left e4
  cases e5
  obtain ⟨a, ys, rfl, hs, hy⟩ := da_tup e2
  obtain ⟨y, z, rfl, h1, h2⟩ := das2 hy
  cases h2
  exact ⟨a, y, e1, hs, h1, e3⟩
theorem Ds.app1 {K : PySem.W.Frag} {H : Hp} {xs : List V} {ts : List (Qn × Nat)} {r : Qn} {d : Nat} {a : Addr} {y : V} (h : Ds K H xs ts) (ha : H a = some (.tup [y, .int d])) (hy : Da K H y r.d) : Ds K H (xs ++ [.ref a]) (ts ++ [(r, d)]) := by
  show Das _ _ _ (List.map _ _)
  rw [List.map_append]
  exact Das.app h (.cons (.tup (st_of ha) (.cons hy (.cons (.int _) .nil))) .nil)
theorem Ds.len {K : PySem.W.Frag} {H : Hp} {xs : List V} {ts : List (Qn × Nat)} (h : Ds K H xs ts) : xs.length = ts.length := by
  have := Das.len h
  rw [List.length_map] at this
  exact this
theorem Ds.up {K : PySem.W.Frag} {H H' : Hp} {xs : List V} {ts : List (Qn × Nat)} (h : Ds K H xs ts) (x : Ex H H') : Ds K H' xs ts := Das.up h x
/-- how many parts a pile has -/
def pts2 (ts : List (Qn × Nat)) : Nat := ptss (ts.map Prod.fst)
theorem pts2_app (a b : List (Qn × Nat)) : pts2 (a ++ b) = pts2 a + pts2 b := by simp [pts2, ptss_app]
theorem pts2_len (a : List (Qn × Nat)) : a.length ≤ pts2 a := by
  have := ptss_len (a.map Prod.fst)
  simpa [pts2] using this
theorem pts2_kids (r : Qn) (d : Nat) : pts2 (r.kids.map fun k => (k, d)) + 1 = r.parts := by
  have := ptss_kids r
  simpa [pts2, Function.comp_def] using this
def sp_depth_of (K : PySem.W.Frag) : Sp := fun vs H Q _ => ∃ (H0 : Hp) (v : V) (q : Qn), vs = [v] ∧ Ex H0 H ∧ Dp K H0 v q.d ∧ q.Ok ∧ q.parts ≤ 1000 ∧ ∀ H' : Hp, Ex H H' → Q (.int (q.deep : Nat)) H'
theorem Ex.both {A B : Hp} (x : Ex A B) (t : Addr) (o : HO) : Ex (upd A t o) (upd B t o) := by
  intro b u e
  by_cases z : b = t
  · subst z; rw [upd_same] at e ⊢; exact e
  · rw [upd_ne z] at e ⊢; exact x b u e
theorem st6 {a c x o : Option V} {i i' j j' : Int} (h1 : i = i') (h2 : j = j') : [a, some (.int i), c, x, some (.int j), o] = [a, some (.int i'), c, x, some (.int j'), o] := by rw [h1, h2]
theorem take_succ' {α : Type} {xs : List α} {i : Nat} (h : i < xs.length) : xs.take (i + 1) = xs.take i ++ [xs[i]] := by rw [List.take_append_getElem h]
end M
end

section
set_option Elab.async false
set_option linter.all false
set_option maxRecDepth 100000
set_option maxHeartbeats 2000000
/-! sets of any scanned keys whose table can be walked; sorted(set of texts) -/
namespace M
open PySem PySem.Spec PyProof.Rows L2
section
variable {κ : Type} [DecidableEq κ] {P : Program} {w : World}
/-- no two rows hold one key -/
def Apart (knd : PySem.KeyKind P w κ) (p q : Int × Value) : Prop := ∀ k, knd.is k p.2 = true → knd.is k q.2 = true → False
theorem Apart.turn {knd : PySem.KeyKind P w κ} {p q : Int × Value} (x : Apart knd p q) : Apart knd q p := fun k u v => x k v u
/-- the set at a: its members by kind, how many, its table in order -/
def OSet (knd : PySem.KeyKind P w κ) (h : Heap) (a : Addr) (S : κ → Bool) (n : Nat) : Prop :=
  ∃ (ob : Obj) (rows : Array (Int × Value)) (age : Nat) (tab : SetTable), h.get? a = some ob ∧ ob.ExactSet ∧ ob.data = .set rows age tab ∧ ElemsOf knd rows.toList ∧ rows.toList.Pairwise (Apart knd) ∧
    (∀ k, S k = true ↔ ∃ p ∈ rows.toList, knd.is k p.2 = true) ∧ rows.size < scanBound ∧ tab.fits rows.size = true ∧ rows.size = n ∧ Ris tab.place.toList ∧ (w.params.followText "set-order" = true ∨ tab.led = true)
variable {knd : PySem.KeyKind P w κ} {h h' : Heap} {a : Addr} {S : κ → Bool} {n : Nat}
theorem OSet.keep (R : OSet knd h a S n) (z : ∀ u, h.get? a = some u → h'.get? a = some u) : OSet knd h' a S n := by
  rcases R with ⟨ob, rows, age, tab, at_, rest⟩
  exact ⟨ob, rows, age, tab, z ob at_, rest⟩
theorem OSet.plain (R : OSet knd h a S n) : h.SetOf knd a S n := by
  rcases R with ⟨ob, rows, age, tab, at_, ex, dat, el, _, me, few, fit, cnt, _⟩
  exact ⟨ob, rows, age, tab, at_, ex, dat, el, me, few, fit, cnt⟩
theorem OSet.alike {S' : κ → Bool} {n' : Nat} (R : OSet knd h a S n) (x : ∀ k, S' k = S k) (y : n' = n) : OSet knd h a S' n' := by
  rw [y, funext x]; exact R
end
section
variable {κ : Type} [DecidableEq κ] {P : Program} {w : World} {knd : PySem.KeyKind P w κ} {A : Around} {E : Value → Shared → Prop} {s : Shared} {a : Addr} {S : κ → Bool} {n : Nat}
/-- what is left behind the new row: stored, relaid if too full -/
theorem oset_tail {g : Bool → Sem Unit} (hg : ∀ (b : Bool) (s1 : Shared) (Q1 : Unit → Shared → Prop), Q1 () s1 → wpAny (model P w) A (g b) Q1 E s1)
    {ob : Obj} {old : Array (Int × Value)} {age : Nat} {tab : SetTable} (at_ : s.heap.get? a = some ob) (ex : ob.ExactSet) (dat : ob.data = .set old age tab)
    {rows : Array (Int × Value)} {tab2 : SetTable} {S' : κ → Bool} (el : ElemsOf knd rows.toList) (ap : rows.toList.Pairwise (Apart knd)) (me : ∀ k, S' k = true ↔ ∃ p ∈ rows.toList, knd.is k p.2 = true)
    (few : rows.size < scanBound) (fit : tab2.fits rows.size = true) (ris : Ris tab2.place.toList) (led : w.params.followText "set-order" = true ∨ tab2.led = true) {dummy : Bool} {R : Option Bool → Shared → Prop}
    (hR : ∀ hp, Heap.SameBut a s.heap hp → OSet knd hp a S' rows.size → R (some true) { s with heap := hp }) :
    wpAny (model P w) A (do
        storeSet a rows tab2
        if (!dummy && tab2.tooFull) = true then do
            g (relayAll tab2 rows (SetTable.grown rows.size)).2.2
            storeSet a (relayAll tab2 rows (SetTable.grown rows.size)).1 (relayAll tab2 rows (SetTable.grown rows.size)).2.1
            pure (some true)
          else pure (some true)) R E s := by
  have same := Heap.SameBut.update s.heap a (Obj.putSet rows tab2)
  have now := store_at (es' := rows) (t' := tab2) at_ dat
  refine wpAny_bind (wpAny_storeSet_of at_ dat ?_ (fits_of_scanBound few))
  by_cases full : (!dummy && tab2.tooFull) = true
  · rw [if_pos full]
    have perm := relayAll_perm tab2 rows (SetTable.grown rows.size)
    have fit3 := relayAll_fits tab2 rows (SetTable.grown rows.size)
    have ris3 := relayAll_ris tab2 rows (SetTable.grown rows.size)
    have led3 := relayAll_led tab2 rows (SetTable.grown rows.size)
    generalize relayAll tab2 rows (SetTable.grown rows.size) = out at perm fit3 ris3 led3 ⊢
    rcases out with ⟨rows3, tab3, flag⟩
    dsimp only at perm fit3 ris3 led3 ⊢
    have cnt : rows3.size = rows.size := by
      have := perm.length_eq
      rwa [Array.length_toList, Array.length_toList] at this
    have few3 : rows3.size < scanBound := cnt ▸ few
    refine wpAny_bind (hg flag _ _ ?_)
    refine wpAny_bind (wpAny_storeSet_of now rfl ?_ (fits_of_scanBound few3))
    have last := store_at (es' := rows3) (t' := tab3) now rfl
    refine wpAny_pure (hR _ (same.trans (Heap.SameBut.update _ a _)) ⟨_, rows3, _, tab3, last, ex, rfl, ?_, ?_, ?_, few3, fit3, cnt, ris3, ?_⟩)
    · exact fun p hp => el p (perm.mem_iff.mp hp)
    · exact (perm.pairwise_iff fun x => Apart.turn x).mpr ap
    · intro k
      rw [me k]
      exact ⟨fun ⟨p, hp, z⟩ => ⟨p, perm.mem_iff.mpr hp, z⟩, fun ⟨p, hp, z⟩ => ⟨p, perm.mem_iff.mp hp, z⟩⟩
    · rw [led3]; exact led
  · rw [if_neg full]
    exact wpAny_pure (hR _ same ⟨_, rows, _, tab2, now, ex, rfl, el, ap, me, few, fit, rfl, ris, led⟩)
theorem oset_put {k : κ} {u : Value} {Q : Bool → Shared → Prop} (hk : knd.is k u = true) (sc : u.scannable = true) (R : OSet knd s.heap a S n) (room : n + 1 < scanBound)
    (fin : ∀ hp, Heap.SameBut a s.heap hp → OSet knd hp a (fun j => S j || decide (j = k)) (if S k = true then n else n + 1) → Q (!S k) { s with heap := hp }) :
    wpAny (model P w) A (setAddHashed a u (knd.hash k)) Q E s := by
  rcases R with ⟨ob, rows, age, tab, at_, ex, dat, el, ap, me, few, fit, cnt, ris, led⟩
  unfold setAddHashed setAddHashedIn
  refine wpAny_holding (wpAny_bind (wpAny_setState_of at_ dat fit ?_))
  dsimp only
  rw [byScan_of sc few el]
  simp only [↓reduceIte]
  unfold setAddByScan
  refine wpAny_bind ?_
  refine wpAny_bind (wpAny_rule ?_)
  refine wpAny_bind (wpAny_setScan_of hk at_ dat fit el ?_)
  cases found : List.findIdx? (fun e => knd.is k e.2) rows.toList with
  | some j =>
    obtain ⟨inside, here, _⟩ := List.findIdx?_eq_some_iff_getElem.mp found
    have yes : S k = true := (me k).mpr ⟨rows.toList[j], List.getElem_mem inside, here⟩
    dsimp only
    refine wpAny_pure (wpAny_pure ?_)
    have goal := fin s.heap (Heap.SameBut.refl a s.heap) ⟨ob, rows, age, tab, at_, ex, dat, el, ap, fun i => ?_, few, fit, by rw [if_pos yes]; exact cnt, ris, led⟩
    · rw [yes] at goal
      exact goal
    · rw [← me i, Bool.or_eq_true, decide_eq_true_eq]
      constructor
      · rintro (z | rfl)
        · exact z
        · exact yes
      · exact .inl
  | none =>
    have gone : ∀ p ∈ rows.toList, knd.is k p.2 = true → False := fun p hp z => by
      have c := List.findIdx?_eq_none_iff.mp found p hp
      rw [z] at c
      cases c
    have no : S k = false := by
      rw [Bool.eq_false_iff]
      intro z
      obtain ⟨p, hp, e⟩ := (me k).mp z
      exact gone p hp e
    dsimp only
    have perm := layNew_perm tab rows (knd.hash k) u
    have fit1 := layNew_fits tab rows (knd.hash k) u
    have ris1 := layNew_ris tab rows (knd.hash k) u ris
    have led1 := layNew_led tab rows (knd.hash k) u
    generalize layNew tab rows (knd.hash k) u = out at perm fit1 ris1 led1 ⊢
    rcases out with ⟨rows1, tab1, dummy, flag⟩
    dsimp only at perm fit1 ris1 led1 ⊢
    rw [Array.toList_push] at perm
    have pc : rows1.toList.Perm ((knd.hash k, u) :: rows.toList) := perm.trans (List.perm_append_singleton _ _)
    have el1 : ElemsOf knd rows1.toList := fun p hp => by
      rcases List.mem_cons.mp (pc.mem_iff.mp hp) with rfl | z
      · exact ⟨⟨k, hk, rfl⟩, sc⟩
      · exact el p z
    have ap1 : rows1.toList.Pairwise (Apart knd) := by
      refine (pc.pairwise_iff fun x => Apart.turn x).mpr (List.pairwise_cons.mpr ⟨fun q hq i z1 z2 => ?_, ap⟩)
      have e : i = k := knd.inj _ _ _ z1 hk
      subst e
      exact gone q hq z2
    have me1 : ∀ i, (S i || decide (i = k)) = true ↔ ∃ p ∈ rows1.toList, knd.is i p.2 = true := fun i => by
      rw [Bool.or_eq_true, decide_eq_true_eq, me i]
      constructor
      · rintro (⟨p, hp, z⟩ | rfl)
        · exact ⟨p, pc.mem_iff.mpr (List.mem_cons_of_mem _ hp), z⟩
        · exact ⟨_, pc.mem_iff.mpr List.mem_cons_self, hk⟩
      · rintro ⟨p, hp, z⟩
        rcases List.mem_cons.mp (pc.mem_iff.mp hp) with rfl | y
        · exact .inr (knd.inj _ _ _ z hk)
        · exact .inl ⟨p, y, z⟩
    have cnt1 : rows1.size = n + 1 := by
      have := pc.length_eq
      rw [Array.length_toList, List.length_cons, Array.length_toList, cnt] at this
      exact this
    have few1 : rows1.size < scanBound := cnt1 ▸ room
    have ledN : w.params.followText "set-order" = true ∨ tab1.led = true := by rw [led1]; exact led
    have done : ∀ hp, Heap.SameBut a s.heap hp → OSet knd hp a (fun j => S j || decide (j = k)) rows1.size → Q true { s with heap := hp } := fun hp sb r => by
      have q := fin hp sb
      rw [no] at q
      rw [cnt1] at r
      exact q r
    have skip : ∀ (b : Bool) (s1 : Shared) (Q1 : Unit → Shared → Prop), Q1 () s1 → wpAny (model P w) A (match b with | true => rule "set.scan.the-table-gave-way" | false => pure ()) Q1 E s1 := by
      intro b s1 Q1 q
      cases b
      · exact wpAny_pure q
      · exact wpAny_rule q
    refine wpAny_bind (skip _ _ _ ?_)
    split
    · refine wpAny_bind ?_
      rw [hashByValue_scannable 8 sc]
      refine wpAny_pure ?_
      refine oset_tail (fun b s1 Q1 q => ?_) at_ ex dat el1 ap1 me1 few1 ?_ ?_ ?_ ?_
      · cases b <;> first | exact wpAny_pure q | exact wpAny_rule q
      · first | exact fit1 | (split <;> first | exact fit1 | exact SetTable.fits_plain_off fit1)
      · first | exact ris1 | (split <;> exact ris1)
      · first | exact ledN | (split <;> exact ledN)
      · intro hp sb r
        exact wpAny_pure (done hp sb r)
    · refine wpAny_bind (wpAny_pure ?_)
      simp only [↓reduceIte]
      refine oset_tail (fun b s1 Q1 q => ?_) at_ ex dat el1 ap1 me1 few1 fit1 ris1 ledN ?_
      · cases b <;> first | exact wpAny_pure q | exact wpAny_rule q
      · intro hp sb r
        exact wpAny_pure (done hp sb r)
theorem oset_add {k : κ} {u : Value} {Q : Value → Shared → Prop} (hk : knd.is k u = true) (sc : u.scannable = true) (R : OSet knd s.heap a S n) (room : n + 1 < scanBound)
    (fin : ∀ hp, Heap.SameBut a s.heap hp → OSet knd hp a (fun j => S j || decide (j = k)) (if S k = true then n else n + 1) → Q .none { s with heap := hp, toks := s.toks + 1 }) :
    wpAny (model P w) A (call (.builtin "set.add") [.ref a, u]) Q E s := by
  refine wpAny_call_entry F.slot_set_add R.plain.typeIs F.entry_set_add ?_ (F.args_set_add_2 _ _)
  unfold Builtin.«set.add» Builtin.Frozenset.oneOther
  simp only [List.isEmpty_nil, bind_assoc]
  unfold Builtin.Frozenset.addrOf setAdd
  refine wpAny_bind (wpAny_pure ?_)
  refine wpAny_bind (wpAny_pure ?_)
  refine wpAny_bind (wpAny_holding (wpAny_bind (knd.pyHash hk ?_)))
  refine oset_put (s := { s with toks := s.toks + 1 }) hk sc R room fun hp sb r => ?_
  show wpAny _ _ (ret Value.none) _ _ _
  exact wpAny_pure ⟨_, rfl, fin hp sb r⟩
theorem oset_fresh {P : Program} {w : World} (knd : PySem.KeyKind P w κ) {h : Heap} {a : Addr} {led : Bool} (hl : w.params.followText "set-order" = true ∨ led = true)
    (at_ : h.get? a = some { cls := .type "set", dict := none, data := .set #[] 0 (.fresh 0 0 led) }) : OSet knd h a (fun _ => false) 0 := by
  refine ⟨_, #[], 0, _, at_, ⟨rfl, rfl, rfl⟩, rfl, fun p hp => ?_, .nil, fun k => ?_, by decide, rfl, rfl, .nil, hl⟩
  · cases hp
  · constructor
    · intro z; cases z
    · rintro ⟨p, hp, _⟩; cases hp
end
end M
end

section
set_option Elab.async false
set_option linter.all false
set_option maxRecDepth 100000
set_option maxHeartbeats 4000000
/-! set(list of keys), sorted(set of texts), as rules -/
namespace M
open PySem PySem.Spec PyProof.Rows L2
section
variable {κ : Type} [DecidableEq κ] {P : Program} {w : World} {knd : PySem.KeyKind P w κ} {A : Around} {E : Value → Shared → Prop} {s : Shared}
/-- the loop that puts the items of a list into a set -/
theorem oset_loop {it a : Addr} {fp wr : List Addr} {G : Array GenState → Array GenState → Prop} {m : Nat} {Pv : Nat → Value → Prop} {St : Nat → Shared → Prop} {R : Result → Shared → Prop}
    (W : WalksS P w A.in1 it fp wr G m Pv St) (na : a ∉ fp) (ks : List κ) (len : m = ks.length) (few : m < 1000) (val : ∀ i v, Pv i v → ∃ k, ks[i]? = some k ∧ knd.is k v = true ∧ v.scannable = true) :
    ∀ (left i : Nat) (s : Shared), m - i = left → i ≤ m → St i s → (∃ n, n ≤ i ∧ OSet knd s.heap a (fun k => decide (k ∈ ks.take i)) n) →
      (∀ s' n, Moved (a :: wr) G s s' → n ≤ m → OSet knd s'.heap a (fun k => decide (k ∈ ks)) n → R (.ok (.ret .none)) s') →
      codeAny (model P w) A (.builtin "set.update.loop" ⟨[.ref a, .ref it], []⟩) R s := by
  have nw : a ∉ wr := fun z => na (W.sub _ z)
  have more : ∀ b ∈ wr, b ∈ a :: wr := fun b z => List.mem_cons_of_mem _ z
  intro left
  induction left with
  | zero =>
    intro i s e le st ⟨n, ni, S0⟩ out
    obtain rfl : i = m := by omega
    refine codeAny_builtin PyProof.Rows.F.entry_set_update_loop (by
      rw [Around.under_plainId PyProof.Rows.F.plain_set_update_loop _]
      show wpAny _ A.in1 (pyNext (.ref it) >>= _) _ _ s
      refine wpAny_bind (W.done s _ _ st fun s' mv => ?_)
      show wpAny _ A.in1 (ret Value.none) _ _ s'
      refine wpAny_pure (out s' n (mv.mono more) ni ((S0.keep fun u z => mv.heap a u nw z).alike (fun k => ?_) rfl))
      rw [len, List.take_length])
  | succ left ih =>
    intro i s e le st ⟨n, ni, S0⟩ out
    have lt : i < m := by omega
    refine codeAny_builtin PyProof.Rows.F.entry_set_update_loop (by
      rw [Around.under_plainId PyProof.Rows.F.plain_set_update_loop _]
      show wpAny _ A.in1 (pyNext (.ref it) >>= _) _ _ s
      refine wpAny_bind (W.item i s _ _ lt st fun v s' pv st' mv => ?_)
      obtain ⟨k, hk, ki, ks2⟩ := val i v pv
      have S1 := S0.keep fun u z => mv.heap a u nw z
      show wpAny _ A.in1 (holding [v] (setAdd a v) >>= _) _ _ s'
      refine wpAny_bind (wpAny_holding ?_)
      unfold setAdd
      refine wpAny_holding (wpAny_bind (knd.pyHash ki ?_))
      refine oset_put (s := { s' with toks := s'.toks + 1 }) ki ks2 S1 (by unfold scanBound; omega) fun hp sb S2 => ?_
      have nx : ks.take (i + 1) = ks.take i ++ [k] := by rw [List.take_succ, hk]; rfl
      have S3 : ∃ n', n' ≤ i + 1 ∧ OSet knd hp a (fun j => decide (j ∈ ks.take (i + 1))) n' := ⟨_, (by split <;> omega), S2.alike (fun j => by
        rw [nx]
        simp only [List.mem_append, List.mem_singleton, Bool.decide_or]) rfl⟩
      refine wpAny_pure ⟨plainId_quiet PyProof.Rows.F.plain_set_update_loop _, ih (i + 1) _ (by omega) lt (W.frame _ s' _ _ st' (Nat.le_succ _) fun b hb u z => ?_) S3 fun s'' n'' mv2 le2 S4 => ?_⟩
      · rw [sb.2 b fun y : b = a => na (y ▸ hb)]; exact z
      · refine out s'' n'' (Moved.trans W.gtrans ((mv.mono more).then_heap (Nat.le_succ _) fun b u nb z => ?_) mv2) le2 S4
        rw [sb.2 b fun y : b = a => nb (y ▸ List.mem_cons_self)]; exact z)
/-- the set object that set() and set(xs) begin with -/
abbrev bareSet (w : World) : Obj := { cls := .type "set", dict := none, data := .set #[] 0 (.fresh 0 0 (!w.params.followText "set-order")) }
theorem led_bare (w : World) : w.params.followText "set-order" = true ∨ (!w.params.followText "set-order") = true := by cases w.params.followText "set-order" <;> simp
/-- set(xs), xs a list of keys -/
theorem call_oset {l : Addr} {items : Array Value} {ks : List κ} {Q : Value → Shared → Prop} (calm : A.handled = none) (hl : s.heap.IsList l items) (len : items.size = ks.length) (few : ks.length < 1000)
    (val : ∀ (i : Nat) (v : Value), items[i]? = some v → ∃ k, ks[i]? = some k ∧ knd.is k v = true ∧ v.scannable = true)
    (fin : ∀ (hp : Heap) (tk : Nat) (n : Nat), n ≤ ks.length → OSet knd hp s.heap.objs.size (fun k => decide (k ∈ ks)) n → (∀ b u, s.heap.get? b = some u → hp.get? b = some u) → Q (.ref s.heap.objs.size) { s with heap := hp, toks := tk }) :
    wpAny (model P w) A (call (.type "set") [.ref l]) Q E s := by
  have made := PySem.F.called_set.made
  have subs := PySem.F.called_set.sub
  obtain ⟨_, _, order⟩ := PySem.F.called_set.mro
  refine wpAny_call (codeAny_of_tree (by
    show wpAny _ _ (callAny (.type "set") _) _ _ _
    refine wpAny_pure ⟨Code.quiet_builtin _ (by decide +kernel), codeAny_builtin PySem.F.entry_type_call ?_⟩
    rw [Around.under_plain (weight_type_call_type "set" [.ref l] []) rfl]
    have t1 := PySem.F.called_set.notType
    have t2 := PySem.F.called_set.canCreate
    have t3 := PySem.F.typeCall_set_1 (.ref l)
    repeat (any_goals (first | assumption | wp_step))
    refine codeAny_mono (code_set_led1 (.ref l) (E := E) (Q₁ := fun x s1 => x = .ref s.heap.objs.size ∧ s1 = { s with heap := s.heap.push (bareSet w) }) ⟨rfl, rfl⟩) fun r s1 got => ?_
    cases r with
    | error e => exact got
    | ok fl =>
      cases fl with
      | ret x =>
        obtain ⟨rfl, rfl⟩ := got
        have seen : (s.heap.push (bareSet w)).get? s.heap.objs.size = some (bareSet w) := Heap.get?_push_size _ rfl
        have typ : Shared.TypeIs { s with heap := s.heap.push (bareSet w) } (.ref s.heap.objs.size) "set" := ⟨_, seen, rfl⟩
        have i1 := PySem.F.called_set.init.lookup
        have i2 := PySem.F.called_set.init.bind (.ref s.heap.objs.size)
        repeat (any_goals (first | assumption | wp_step))
        refine codeAny_mono (codeAny_call_builtin (R := wants (fun y s2 => y = .none ∧ ∃ hp tk n, s2 = { s with heap := hp, toks := tk } ∧ n ≤ ks.length ∧ OSet knd hp s.heap.objs.size (fun k => decide (k ∈ ks)) n ∧ ∀ b u, s.heap.get? b = some u → hp.get? b = some u) E)
          PySem.F.called_set.init.plain PySem.F.entry_set_init (check_set_init_1 typ ?_)) fun r2 s2 got2 => ?_
        · obtain ⟨ob, at_, cls, num, dat⟩ := hl
          obtain ⟨oc, od, ot, os⟩ := ob
          simp only at cls dat
          subst cls; subst dat
          have at1 : (s.heap.push (bareSet w)).get? l = some { cls := .type "list", dict := od, data := .seq items num, slots := os } := Heap.get?_push_of_some _ at_
          have u1 := PySem.F.sub_list_set
          have u2 := PySem.F.sub_list_frozenset
          have u3 : (Value.type "list" == Value.type "dict") = false := by decide
          have isl : (s.heap.push (bareSet w)).IsList l items := ⟨_, at1, rfl, num, rfl⟩
          unfold Builtin.«set.__init__» noKeywords Builtin.Frozenset.updateFrom
          generalize gen : pyIter = PI
          wp_walk
          subst gen
          refine wpAny_pyIter_list isl (wpAny_bind (wpAny_runValue ?_))
          have below : l < s.heap.objs.size := Heap.lt_size at_
          have calm3 : A.in1.in1.in1.handled = none := by simp [calm]
          have apart : l ≠ (s.heap.push (bareSet w)).objs.size := by rw [Heap.size_push]; exact Nat.ne_of_lt (Nat.lt_succ_of_lt below)
          have out : s.heap.objs.size ∉ [(s.heap.push (bareSet w)).objs.size, l] := by
            rw [Heap.size_push]
            intro z
            rcases List.mem_cons.mp z with z | z
            · exact Nat.ne_of_lt (Nat.lt_succ_self _) z
            · exact Nat.ne_of_gt below (List.mem_singleton.mp z)
          refine oset_loop (knd := knd) ((Walks.list calm3 _ l apart items).toS) out ks len (by omega) val (items.size - 0) 0 _ (by omega) (Nat.zero_le _)
            ⟨⟨_, Heap.get?_push_size _ rfl, rfl, rfl⟩, (isl.push _)⟩ ⟨0, Nat.le_refl _, (oset_fresh knd (led_bare w) (Heap.get?_push_of_some _ seen)).alike (fun k => by simp) rfl⟩ fun s3 n mv le S3 => ?_
          obtain ⟨hp, g3, d3, tk, os3⟩ := s3
          have g0 : g3 = s.gens := mv.gens
          have d0 : d3 = s.drawn := mv.drawn
          have o0 : os3 = s.os := mv.os
          subst g0; subst d0; subst o0
          show wpAny _ _ _ _ _ _
          refine wpAny_pure (by
            show wpAny _ _ (ret Value.none) _ _ _
            refine wpAny_pure ⟨rfl, hp, tk, n, rfl, by omega, S3, fun b u z => ?_⟩
            have lb := Heap.lt_size z
            refine mv.heap b u ?_ (Heap.get?_push_of_some _ (Heap.get?_push_of_some _ z))
            rw [Heap.size_push]
            intro y
            rcases List.mem_cons.mp y with y | y
            · exact Nat.ne_of_lt lb y
            · exact Nat.ne_of_lt (Nat.lt_succ_of_lt lb) (List.mem_singleton.mp y))
        · cases r2 with
          | error e => exact got2
          | ok fl2 =>
            cases fl2 with
            | ret y =>
              obtain ⟨rfl, hp, tk, n, rfl, le, S3, old⟩ := got2
              repeat (any_goals (first | assumption | wp_step))
              exact fin _ _ _ le S3 old
            | _ => exact got2.elim
      | _ => exact got.elim))
end
end M
end

section
set_option Elab.async false
set_option linter.all false
set_option maxRecDepth 100000
set_option maxHeartbeats 2000000
/-! sorted(set of texts); the rules -/
namespace M
open PySem PySem.Spec L2
open PyProof.Rows hiding St
theorem str_is {P : Program} {w : World} {k : Str} {v : Value} (h : (PySem.strKind P w).is k v = true) : (∃ t, v = .str k t) ∧ PyProof.Rows.strOf v = k ∧ v.scannable = true := by
  obtain ⟨t, rfl⟩ := Value.isStrOf_shape h
  exact ⟨⟨t, rfl⟩, rfl, rfl⟩
/-- the texts of a set of texts, in some order -/
theorem oset_texts {P : Program} {w : World} {h : Heap} {a : Addr} {S : Str → Bool} {n : Nat} (R : OSet (PySem.strKind P w) h a S n) :
    ∃ ob rows age tab, h.get? a = some ob ∧ ob.cls = .type "set" ∧ ob.data = .set rows age tab ∧ rows.size < scanBound ∧ tab.fits rows.size = true ∧ Ris tab.place.toList ∧ (w.params.followText "set-order" = true ∨ tab.led = true) ∧
      (∀ v ∈ rows.toList.map (·.2), ∃ x t, v = .str x t) ∧ ((rows.toList.map (·.2)).map PyProof.Rows.strOf).Nodup ∧ (∀ k, k ∈ (rows.toList.map (·.2)).map PyProof.Rows.strOf ↔ S k = true) ∧ rows.size = n := by
  rcases R with ⟨ob, rows, age, tab, at_, ex, dat, el, ap, me, few, fit, cnt, ris, led⟩
  refine ⟨ob, rows, age, tab, at_, ex.1, dat, few, fit, ris, led, fun v hv => ?_, ?_, fun k => ?_, cnt⟩
  · obtain ⟨p, hp, rfl⟩ := List.mem_map.mp hv
    obtain ⟨k, hk, _⟩ := (el p hp).1
    obtain ⟨⟨t, e⟩, _⟩ := str_is hk
    exact ⟨k, t, e⟩
  · rw [List.map_map]
    refine List.pairwise_map.mpr (List.Pairwise.imp_of_mem (fun {p q} hp hq x e => ?_) ap)
    obtain ⟨k, hk, _⟩ := (el p hp).1
    obtain ⟨j, hj, _⟩ := (el q hq).1
    have e1 : PyProof.Rows.strOf p.2 = PyProof.Rows.strOf q.2 := e
    rw [(str_is hk).2.1, (str_is hj).2.1] at e1
    subst e1
    exact x k hk hj
  · rw [me k, List.map_map]
    constructor
    · intro z
      obtain ⟨p, hp, e⟩ := List.mem_map.mp z
      obtain ⟨j, hj, _⟩ := (el p hp).1
      have e1 : PyProof.Rows.strOf p.2 = k := e
      rw [(str_is hj).2.1] at e1
      subst e1
      exact ⟨p, hp, hj⟩
    · rintro ⟨p, hp, z⟩
      exact List.mem_map.mpr ⟨p, hp, (str_is z).2.1⟩
theorem nodup_le {α : Type} [DecidableEq α] : ∀ (l L : List α), l.Nodup → (∀ x ∈ l, x ∈ L) → l.length ≤ L.length
  | [], _, _, _ => Nat.zero_le _
  | x :: l, L, d, s => by
    obtain ⟨d1, d2⟩ := List.nodup_cons.mp d
    have hx : x ∈ L := s x List.mem_cons_self
    have q := nodup_le l (L.erase x) d2 fun y hy => (List.mem_erase_of_ne fun z : y = x => d1 (by rw [← z]; exact hy)).mpr (s y (List.mem_cons_of_mem _ hy))
    rw [List.length_erase_of_mem hx] at q
    have := List.length_pos_of_mem hx
    rw [List.length_cons]
    omega
theorem oset_count {P : Program} {w : World} {h : Heap} {a : Addr} {S : Str → Bool} {n : Nat} (R : OSet (PySem.strKind P w) h a S n) {L : List Str} (z : ∀ k, S k = true → k ∈ L) : n ≤ L.length := by
  obtain ⟨ob, rows, age, tab, _, _, _, _, _, _, _, _, nd, me, cnt⟩ := oset_texts R
  have q := nodup_le _ L nd fun x hx => z x ((me x).mp hx)
  rw [List.length_map, List.length_map, Array.length_toList, cnt] at q
  exact q
section
variable {P : Program} {w : World} {A : Around} {E : Value → Shared → Prop} {s : Shared} {a : Addr} {S : Str → Bool} {n : Nat}
theorem oset_sorted {Q : Value → Shared → Prop} (R : OSet (PySem.strKind P w) s.heap a S n) (calm : A.handled = none) (few : n < 64)
    (fin : ∀ (s' : Shared) (p : Addr) (out : Array Value) (c : Nat) (ss : List Str), (∀ b u, s.heap.get? b = some u → s'.heap.get? b = some u) → s'.gens = s.gens → s'.os = s.os → s.heap.objs.size ≤ p →
      s'.heap.get? p = some (seqObj "list" out c) → StrsAre out.toList ss → sortedS ss = true → ss.Nodup → (∀ k, k ∈ ss ↔ S k = true) → ss.length = n → Q (.ref p) s') :
    wpAny (model P w) A (call (.builtin "sorted") [.ref a]) Q E s := by
  obtain ⟨ob, rows, age, tab, at_, cls, dat, small, fit, ris, led, txs, nd, me, cnt⟩ := oset_texts R
  refine Calls.call_function_entry kind_sorted plain_sorted entry_sorted (args_sorted1 _) (by
    unfold Builtin.«sorted»
    refine wpAny_bind (m := checkCount "sorted" 1 1 _) (wpAny_pure (wpAny_bind (collect_set (A := A.in1) calm ⟨ob, at_, cls, dat⟩ fit small ris led fun s1 vs old grown gens os perm => ?_)))
    have len : vs.length = n := by rw [perm.length_eq, List.length_map, Array.length_toList]; exact cnt
    have all : StrsAre vs (vs.map PyProof.Rows.strOf) := PyProof.Rows.strsAre_map vs fun v hv => txs v (perm.mem_iff.mp hv)
    have pk := perm.map PyProof.Rows.strOf
    refine wpAny_bind (wpAny_newList ?_ (by rw [len, sizeLine_eq]; omega))
    have new : (s1.heap.push (seqObj "list" vs.toArray 0)).get? s1.heap.objs.size = some (seqObj "list" vs.toArray 0) := Heap.get?_push_size _ rfl
    refine wpAny_bind (wpAny_holding (wpAny_call_entry slot_list_sort ⟨_, new, rfl⟩ entry_list_sort (list_sort_treeK strKind_oneLt new all.keysOf (fun v1 v2 rest e => keyKind_strs (e ▸ all)) (by rw [len]; exact few) fun st hp hs => ⟨_, rfl, ?_⟩) (args_list_sort _)))
    obtain ⟨ss, s3, s4, s5⟩ := sorted_out_str all hp hs
    obtain ⟨c, at2⟩ := sortedHeap_at (vs := vs) (out := (arrOf st).map (·.2)) new
    have pp := s4.trans pk
    refine wpAny_pure ⟨_, rfl, fin _ s1.heap.objs.size _ c ss (fun b u z => ?_) gens os grown at2 s3 s5 (pp.nodup_iff.mpr nd) (fun k => by rw [pp.mem_iff, me k]) ?_⟩
    · have z1 := old b u z
      have lt := Heap.lt_size z1
      exact (sortedHeap_old (h := s1.heap.push (seqObj "list" vs.toArray 0)) (Nat.ne_of_lt lt) (by rw [size_push']; exact Nat.lt_succ_of_lt lt)).trans (Heap.get?_push_of_some _ z1)
    · rw [pp.length_eq, List.length_map, List.length_map, Array.length_toList]; exact cnt)
end
/-- the set of texts at a -/
def OsO (P : Program) (w : World) (a : Addr) (S : Str → Bool) : HO := .ext fun h => ∃ n, OSet (PySem.strKind P w) h a S n
section
variable {X : Cx}
theorem osO_new {P : Program} {w : World} {H : Hp} {h : Heap} {a : Addr} {S : Str → Bool} {n : Nat} (R : OSet (PySem.strKind P w) h a S n) : ObjOk P w H h a (OsO P w a S) := by
  have ⟨ob, _, _, _, at_, _⟩ := R
  exact ⟨⟨n, R⟩, ⟨ob, at_⟩, fun h1 h2 ⟨m, p⟩ z => ⟨m, p.keep z⟩⟩
theorem osO_get {pins : List (Addr × Obj)} {σ : St} {H : Hp} {s : Shared} {a : Addr} {S : Str → Bool} (I : Inv X pins σ H s) (ha : H a = some (OsO X.prog X.w a S)) : ∃ n, OSet (PySem.strKind X.prog X.w) s.heap a S n := (I.hok a _ ha).1
/-- set() -/
def rOset0 (P : Program) (w : World) : List V → Hp → VK → Prop := fun xs H Q => xs = [] ∧ ∀ p, H p = none → Q (.ref p) (upd H p (OsO P w p fun _ => false))
theorem cr_oset0 : CallR X (.type "set") (rOset0 X.prog X.w) := by
  intro pins s σ H xs us Q I r ⟨e, q⟩
  subst e
  cases r
  refine setR_new fun _ => ⟨.ref _, upd H s.heap.objs.size (OsO X.prog X.w s.heap.objs.size fun _ => false), ?_, rfl, q _ (I.hok.fresh (Nat.le_refl _))⟩
  exact I.laid (t' := s.toks) (fun b u z => Heap.get?_push_of_some _ z) (Nat.le_refl _) (osO_new (oset_fresh (PySem.strKind X.prog X.w) (led_bare X.w) (Heap.get?_push_size _ rfl)))
/-- set(xs), xs a list of texts -/
def rOsetL (K : PySem.W.Frag) (P : Program) (w : World) : List V → Hp → VK → Prop := fun xs H Q => ∃ (l : Addr) (ks : List Str), xs = [V.ref l] ∧ SqL K H l (ks.map V.str) ∧ ks.length < 1000 ∧ ∀ p, H p = none → Q (.ref p) (upd H p (OsO P w p fun k => decide (k ∈ ks)))
theorem cr_osetL (hc : X.calm = true) : CallR X (.type "set") (rOsetL X.K X.prog X.w) := by
  intro pins s σ H xs us Q I r ⟨l, ks, e, hl, few, q⟩
  subst e
  rw [Vals.ref1 r]
  obtain ⟨its, rv, pl, hz⟩ := I.list hl
  have all := rv.strs
  have hlen : its.length = ks.length := by rw [← rv.length, List.length_map]
  refine call_oset (knd := PySem.strKind X.prog X.w) (ks := ks) (I.ok.hd hc) pl.isList (by rw [List.size_toArray]; exact hlen) few (fun i v hv => ?_) fun hp tk n le R old => ?_
  · rw [List.getElem?_toArray] at hv
    have hi : i < its.length := (List.getElem?_eq_some_iff.mp hv).1
    obtain ⟨t, e⟩ := SS.strs_at all i v hv
    have hk : ks[i]? = some ks[i] := List.getElem?_eq_getElem (by omega)
    refine ⟨_, hk, ?_⟩
    rw [List.getD_eq_getElem?_getD, hk] at e
    subst e
    exact ⟨strKind_is _ _ _ _, rfl⟩
  · exact ⟨.ref s.heap.objs.size, upd H s.heap.objs.size (OsO X.prog X.w s.heap.objs.size fun k => decide (k ∈ ks)), I.laid (t' := tk) old (Nat.le_refl _) (osO_new R), rfl, q _ (I.hok.fresh (Nat.le_refl _))⟩
/-- found.add(k) -/
def rOadd (P : Program) (w : World) : V → List V → Hp → VK → Prop := fun x xs H Q => ∃ (a : Addr) (k : Str) (S : Str → Bool) (L : List Str), x = V.ref a ∧ xs = [V.str k] ∧ H a = some (OsO P w a S) ∧ (∀ j, S j = true → j ∈ L) ∧ L.length < 1000 ∧
  Q .non (upd H a (OsO P w a fun j => S j || decide (j = k)))
theorem mt_oadd : MtR X "set.add" (rOadd X.prog X.w) := by
  intro pins s σ H x xs v us Q I rx rxs ⟨a, k, S, L, e1, e2, ha, sub, few, q⟩
  subst e1; subst e2
  cases rx
  cases rxs with
  | cons ry rt =>
    cases rt
    obtain ⟨t, rfl⟩ := ry
    obtain ⟨n, R⟩ := osO_get I ha
    have := oset_count R sub
    refine oset_add (strKind_is _ _ _ _) rfl R (by unfold scanBound; omega) fun hp sb R2 => ⟨.non, upd H a (OsO X.prog X.w a fun j => S j || decide (j = k)), ?_, rfl, q⟩
    have ⟨ob, _, _, _, at_, _⟩ := R2
    exact I.write (e := a) (t' := s.toks + 1) (by rw [ha]; trivial) (.inl rfl) (fun b u hb hu => (sb.2 b hb).trans hu) ⟨ob, at_⟩ (osO_new R2)
def tOadd (P : Program) (w : World) (to : TE) (t : TA) : TE := fun σ H Q => to σ H fun x H1 => (∃ a S, x = V.ref a ∧ H1 a = some (OsO P w a S)) ∧ t σ H1 fun xs H2 => rOadd P w x xs H2 Q
variable {o e : Expr} {es : List Expr} {to : TE} {t : TA} {apos cpos : Pos}
theorem pe_oadd (ho : PE X o to) (ha : PA X (e :: es) t) (b1 : attributeBase o "add" X.env (eval o X.env) = eval o X.env := by rfl)
    (b2 : ((backTo cpos (starEach (e :: es) X.env)).all (fun x => !x.1) && (backToKw cpos (keywordEach [] X.env)).all (fun x => x.1.isSome) && decide ((e :: es).length + ([] : List Keyword).length + (if ([] : List Keyword).isEmpty then 0 else 1) < 30)) = true := by rfl)
    (b3 : (apos.endLine == cpos.line) = true := by rfl) (b4 : starEach (e :: es) X.env = (false, eval e X.env) :: starEach es X.env := by rfl) (b5 : (backTo cpos (starEach es X.env)).any (·.1) = false := by rfl) :
    PE X (.Call (.Attribute o "add" apos) (e :: es) [] cpos) (tOadd X.prog X.w to t) := by
  refine ⟨fun pins s σ H Q I h => wpAny_Call_method_late b1 b2 b3 rfl (thn (ho.run pins s σ H _ I h) fun v s1 ⟨x, H1, I1, r1, ty, q1⟩ => ?_)⟩
  obtain ⟨a, S, rfl, hka⟩ := ty
  obtain ⟨n, R⟩ := osO_get I1 hka
  cases r1
  have sp := R.plain
  refine ⟨"set", "set.add", F.plainAttrs_set, F.slot_set_add, F.type_set_add, sp.typeIs, sp.noDict, ?_⟩
  have hA := ha.run cpos pins s1 σ H1 _ I1 q1
  rw [b4] at hA ⊢
  exact Calls.callWith_builtin (by show (false || (backTo cpos (starEach es X.env)).any (·.1)) = false; rw [b5] <;> rfl) (Calls.evalArgs_plain (thn hA fun us s2 ⟨vs, H2, I2, r2, q2⟩ => mt_oadd pins s2 σ H2 (.ref a) vs (.ref a) us Q I2 rfl r2 q2))
/-- sorted(found) -/
def rOsorted (P : Program) (w : World) : List V → Hp → VK → Prop := fun xs H Q => ∃ (a : Addr) (S : Str → Bool) (L : List Str), xs = [V.ref a] ∧ H a = some (OsO P w a S) ∧ (∀ j, S j = true → j ∈ L) ∧ L.length < 64 ∧
  ∀ (ss : List Str) (p : Addr), sortedS ss = true → ss.Nodup → (∀ k, k ∈ ss ↔ S k = true) → H p = none → Q (.ref p) (upd H p (.lst (ss.map V.str)))
theorem cr_osorted (hc : X.calm = true) : CallR X (.builtin "sorted") (rOsorted X.prog X.w) := by
  intro pins s σ H xs us Q I r ⟨a, S, L, e, ha, sub, few, q⟩
  subst e
  rw [Vals.ref1 r]
  obtain ⟨n, R⟩ := osO_get I ha
  have cn := oset_count R sub
  refine oset_sorted R (I.ok.hd hc) (by omega) fun s' p out c ss old gens os above at_ txs sor nd me len => ?_
  have fresh : H p = none := I.hok.fresh above
  have size : (ss.map V.str).length ≤ sizeLine := by rw [List.length_map, len, sizeLine_eq]; omega
  have J : Inv X pins σ (upd H p (.lst (ss.map V.str))) { s with heap := s'.heap, gens := s'.gens, drawn := s'.drawn, toks := s'.toks } :=
    I.call (ch := []) (Un.laid old above fresh) (I.hok.laid old above ⟨size, out.toList, c, vals_of_strs txs, at_⟩) (by rw [gens]; exact I.bare) fun _ z => nomatch z
  have same : s' = { s with heap := s'.heap, gens := s'.gens, drawn := s'.drawn, toks := s'.toks } := by cases s'; cases s; cases os; rfl
  rw [same]
  exact ⟨.ref p, _, J, rfl, q ss p sor nd me fresh⟩
end
end M
end

section
set_option Elab.async false
set_option linter.all false
set_option maxRecDepth 100000
/-! letters, depths and turned questions by the law's own words -/
namespace M
open PySem L2 Evl
open PyProof.Rows hiding St
/-- the letter of a part, as a text -/
def Qn.own : Qn → List Str
  | .some _ c _ => [⟨#[c]⟩]
  | _ => []
/-- all letters of a question, in the sequence of its parts -/
def Qn.lets : Qn → List Str
  | .any => []
  | .no q => q.lets
  | .both a b => a.lets ++ b.lets
  | .some a c b => ⟨#[c]⟩ :: (a.lets ++ b.lets)
theorem Qn.lets_all : ∀ q : Qn, q.all.flatMap Qn.own = q.lets
  | .any => rfl
  | .no q => by rw [Qn.all, List.flatMap_cons, Qn.lets_all q]; rfl
  | .both a b => by rw [Qn.all, List.flatMap_cons, List.flatMap_append, Qn.lets_all a, Qn.lets_all b]; rfl
  | .some a c b => by rw [Qn.all, List.flatMap_cons, List.flatMap_append, Qn.lets_all a, Qn.lets_all b]; rfl
theorem Qn.lets_parts : ∀ q : Qn, q.lets.length ≤ q.parts
  | .any => Nat.zero_le _
  | .no q => by have := q.lets_parts; simp [Qn.lets, Qn.parts]; omega
  | .both a b => by have := a.lets_parts; have := b.lets_parts; simp [Qn.lets, Qn.parts]; omega
  | .some a c b => by have := a.lets_parts; have := b.lets_parts; simp [Qn.lets, Qn.parts]; omega
theorem Qn.turn_lets : ∀ (q : Qn) (z : Str), z ∈ q.turn.lets ↔ z ∈ q.lets
  | .any, z => Iff.rfl
  | .no q, z => q.turn_lets z
  | .both a b, z => by simp [Qn.turn, Qn.lets, a.turn_lets z, b.turn_lets z]
  | .some a c b, z => by simp [Qn.turn, Qn.lets, a.turn_lets z, b.turn_lets z, or_comm]
/-- the letters from a to z -/
def abc : List Str := (List.range 26).map fun i => ⟨#[97 + i]⟩
theorem mem_abc {c : Nat} (h : 97 ≤ c ∧ c ≤ 122) : (⟨#[c]⟩ : Str) ∈ abc := List.mem_map.mpr ⟨c - 97, List.mem_range.mpr (by omega), by rw [show 97 + (c - 97) = c by omega]⟩
theorem Qn.lets_abc : ∀ {q : Qn}, q.Ok → ∀ z ∈ q.lets, z ∈ abc
  | .any, _, z, hz => by cases hz
  | .no q, h, z, hz => Qn.lets_abc (q := q) h z hz
  | .both a b, h, z, hz => by
    rcases List.mem_append.mp hz with y | y
    · exact Qn.lets_abc h.1 z y
    · exact Qn.lets_abc h.2 z y
  | .some a c b, h, z, hz => by
    rcases List.mem_cons.mp hz with y | y
    · rw [y]; exact mem_abc h.2.1
    · rcases List.mem_append.mp y with y | y
      · exact Qn.lets_abc h.1 z y
      · exact Qn.lets_abc h.2.2 z y
/-- the sorted list of the texts of a list without repeats -/
def Srt (ss : List Str) (l : List Str) : Prop := sortedS ss = true ∧ ss.Nodup ∧ ∀ k, k ∈ ss ↔ k ∈ l
def sp_letters_in (K : PySem.W.Frag) : Sp := fun vs H Q _ => ∃ (H0 : Hp) (v : V) (q : Qn), vs = [v] ∧ Ex H0 H ∧ Dp K H0 v q.d ∧ q.Ok ∧ q.parts ≤ 900 ∧
  ∀ (ss : List Str) (p : Addr) (H' : Hp), Srt ss q.lets → Ex H H' → H p = none → H' p = some (.lst (ss.map V.str)) → Q (.ref p) H'
end M
namespace M
open PySem L2 Evl
open PyProof.Rows hiding St
theorem Qn.hi_kids {q r : Qn} (h : r ∈ q.kids) : r.hi < q.hi := by
  cases q with
  | any => cases h
  | no a => simp [Qn.kids] at h; subst h; simp [Qn.hi]
  | both a b => simp [Qn.kids] at h; rcases h with rfl | rfl <;> simp [Qn.hi] <;> omega
  | some a c b => simp [Qn.kids] at h; rcases h with rfl | rfl <;> simp [Qn.hi] <;> omega
theorem Qn.hi_pos : ∀ q : Qn, 1 ≤ q.hi := fun q => by cases q <;> simp [Qn.hi]
/-- the law's own depth, to a height -/
def sp_deep (K : PySem.W.Frag) (n : Nat) : Sp := fun vs H Q _ => ∃ (H0 : Hp) (v : V) (q : Qn), vs = [v] ∧ Ex H0 H ∧ Da K H0 v q.d ∧ q.hi ≤ n ∧ ∀ H' : Hp, Ex H H' → Q (.int (q.deep : Nat)) H'
/-- the depth of a question of another kind than "some" -/
theorem Qn.deep_max {q : Qn} {m : Int} (hn : q.up = 0) (h1 : m ∈ (0 : Int) :: q.kids.map fun r => ((r.deep : Nat) : Int)) (h2 : ∀ y ∈ (0 : Int) :: q.kids.map fun r => ((r.deep : Nat) : Int), y ≤ m) : m = ((q.deep : Nat) : Int) := by
  cases q with
  | any => simp [Qn.kids] at h1; simp [h1, Qn.deep]
  | no a =>
    simp only [Qn.kids, List.map_cons, List.map_nil, List.mem_cons, List.not_mem_nil, or_false, forall_eq_or_imp, forall_eq] at h1 h2
    simp only [Qn.deep]
    omega
  | both a b =>
    simp only [Qn.kids, List.map_cons, List.map_nil, List.mem_cons, List.not_mem_nil, or_false, forall_eq_or_imp, forall_eq] at h1 h2
    simp only [Qn.deep]
    omega
  | some a c b => simp [Qn.up] at hn
end M
namespace M
open PySem L2 Evl
open PyProof.Rows hiding St
theorem Qn.up_cases : ∀ q : Qn, (∃ r c u, q = .some r c u) ∨ q.up = 0
  | .any => .inr rfl
  | .no _ => .inr rfl
  | .both _ _ => .inr rfl
  | .some r c u => .inl ⟨r, c, u, rfl⟩
theorem da_kids {K : PySem.W.Frag} {H : Hp} {v : V} {q : Qn} (h : Da K H v q.d) (hn : q.up = 0) : ∃ a ws, v = .ref a ∧ SqT K H a (.str q.word :: ws) ∧ Qs K H ws q.kids := by
  cases q with
  | any => obtain ⟨a, e, s⟩ := da_any h; exact ⟨a, _, e, s, .nil⟩
  | no r => obtain ⟨a, x, e, s, hx⟩ := da_no h; exact ⟨a, _, e, s, .cons hx .nil⟩
  | both r t => obtain ⟨a, x, y, e, s, hx, hy⟩ := da_both h; exact ⟨a, _, e, s, .cons hx (.cons hy .nil)⟩
  | some r c t => cases hn
theorem Qn.kids_few (q : Qn) : q.kids.length ≤ 2 := by cases q <;> simp [Qn.kids]
end M
namespace M
open PySem L2 Evl
open PyProof.Rows hiding St
def sp_about (K : PySem.W.Frag) (n : Nat) : Sp := fun vs H Q _ => ∃ (H0 : Hp) (v : V) (q : Qn), vs = [v] ∧ Ex H0 H ∧ Da K H0 v q.d ∧ q.hi ≤ n ∧
  ∀ (v' : V) (H1 H' : Hp), Ex H0 H1 → Ex H1 H' → Ex H H' → (∀ b, H b ≠ none → H0 b = none → H1 b = none) → Da K H1 v' q.turn.d → Q v' H'
theorem Ex.nn {H H' : Hp} (x : Ex H H') {b : Addr} (h : H b ≠ none) : H' b ≠ none := by
  cases e : H b with
  | none => exact absurd e h
  | some o => rw [x _ _ e]; exact fun z => nomatch z
theorem Qn.turn_d {q : Qn} (hn : q.up = 0) : q.turn.d = .tuple (.str q.word :: (q.kids.map Qn.turn).map Qn.d) := by
  cases q with
  | some a c b => cases hn
  | _ => rfl
end M
namespace M
open PySem L2 Evl
open PyProof.Rows hiding St
/-- what stands behind the word of a question: questions and a letter -/
def Qn.ext : Qn → List (Sum Qn Str)
  | .any => []
  | .no a => [.inl a]
  | .both a b => [.inl a, .inl b]
  | .some a c b => [.inl a, .inr ⟨#[c]⟩, .inl b]
def xd : Sum Qn Str → PyData
  | .inl q => q.d
  | .inr z => .str z
def xl : Sum Qn Str → List Str
  | .inl q => q.lets
  | .inr _ => []
theorem Qn.lets_ext (q : Qn) : q.lets = q.own ++ q.ext.flatMap xl := by cases q <;> simp [Qn.lets, Qn.own, Qn.ext, xl]
theorem Qn.ext_hi {q r : Qn} (h : Sum.inl r ∈ q.ext) : r.hi < q.hi ∧ r.lets.length ≤ q.parts := by
  have hp := r.lets_parts
  cases q with
  | any => cases h
  | no a =>
    simp [Qn.ext] at h
    subst h
    simp [Qn.hi, Qn.parts]
    omega
  | both a b =>
    simp [Qn.ext] at h
    rcases h with rfl | rfl <;> simp [Qn.hi, Qn.parts] <;> omega
  | some a c b =>
    simp [Qn.ext] at h
    rcases h with rfl | rfl <;> simp [Qn.hi, Qn.parts] <;> omega
theorem Qn.ext_few (q : Qn) : q.ext.length ≤ 3 := by cases q <;> simp [Qn.ext]
theorem da_ext {K : PySem.W.Frag} {H : Hp} {v : V} {q : Qn} (h : Da K H v q.d) : ∃ a ws, v = .ref a ∧ SqT K H a (.str q.word :: ws) ∧ Das K H ws (q.ext.map xd) ∧ (∀ r c u, q = .some r c u → ws[1]? = some (.str ⟨#[c]⟩)) := by
  cases q with
  | any => obtain ⟨a, e, s⟩ := da_any h; exact ⟨a, _, e, s, .nil, fun r c u z => nomatch z⟩
  | no r => obtain ⟨a, x, e, s, hx⟩ := da_no h; exact ⟨a, _, e, s, .cons hx .nil, fun r c u z => nomatch z⟩
  | both r t => obtain ⟨a, x, y, e, s, hx, hy⟩ := da_both h; exact ⟨a, _, e, s, .cons hx (.cons hy .nil), fun r c u z => nomatch z⟩
  | some r c t =>
    obtain ⟨a, x, y, e, s, hx, hy⟩ := da_some h
    exact ⟨a, _, e, s, .cons hx (.cons (.str _) (.cons hy .nil)), fun r' c' u z => by cases z; rfl⟩
def sp_letters (K : PySem.W.Frag) (n : Nat) : Sp := fun vs H Q _ => ∃ (H0 : Hp) (v : V) (q : Qn), vs = [v] ∧ Ex H0 H ∧ Da K H0 v q.d ∧ q.hi ≤ n ∧ q.parts ≤ 900 ∧
  ∀ (l : Addr) (H' : Hp), Ex H H' → H l = none → H' l = some (.lst (q.lets.map V.str)) → Q (.ref l) H'
theorem isTup_q (q : Qn) : tupB q.d = true := by cases q <;> rfl
theorem Qn.ext_parts {q r : Qn} (h : Sum.inl r ∈ q.ext) : r.parts ≤ q.parts := by
  cases q with
  | any => cases h
  | no a => simp [Qn.ext] at h; subst h; simp [Qn.parts]
  | both a b => simp [Qn.ext] at h; rcases h with rfl | rfl <;> simp [Qn.parts] <;> omega
  | some a c b => simp [Qn.ext] at h; rcases h with rfl | rfl <;> simp [Qn.parts] <;> omega
end M
end

section
set_option Elab.async false
set_option linter.all false
set_option maxRecDepth 100000
/-! questions and lists of letters as data that is compared and shown -/
namespace M
open PySem L2 Evl
open PyProof.Rows hiding St
theorem dp_q2 {K : PySem.W.Frag} {H : Hp} : ∀ {q : Qn} {v : V}, Da K H v q.d → Dp K H v q.d
  | .any, _, h => by
    obtain ⟨a, rfl, s⟩ := da_any h
    exact .tup s (.cons (.str _) .nil)
  | .no q, _, h => by
    obtain ⟨a, x, rfl, s, hx⟩ := da_no h
    exact .tup s (.cons (.str _) (.cons (dp_q2 hx) .nil))
  | .both q r, _, h => by
    obtain ⟨a, x, y, rfl, s, hx, hy⟩ := da_both h
    exact .tup s (.cons (.str _) (.cons (dp_q2 hx) (.cons (dp_q2 hy) .nil)))
  | .some q c r, _, h => by
    obtain ⟨a, x, y, rfl, s, hx, hy⟩ := da_some h
    exact .tup s (.cons (.str _) (.cons (dp_q2 hx) (.cons (.str _) (.cons (dp_q2 hy) .nil))))
theorem Qn.lay : ∀ {q : Qn}, q.Ok → q.d.canLay0 = true
  | .any, _ => by decide +kernel
  | .no q, h => by
    have := Qn.lay (q := q) h
    simp only [Qn.d, PyData.canLay0, PyData.canLayAll0, this]
    decide +kernel
  | .both a b, h => by
    have h1 := Qn.lay h.1
    have h2 := Qn.lay h.2
    simp only [Qn.d, PyData.canLay0, PyData.canLayAll0, h1, h2]
    decide +kernel
  | .some a c b, h => by
    have h1 := Qn.lay h.1
    have h2 := Qn.lay h.2.2
    have h3 : PyData.strOk ⟨#[c]⟩ = true := by
      have := h.2.1.2
      show (#[c].all fun x => decide (x < 0x110000)) = true
      simp
      omega
    simp only [Qn.d, PyData.canLay0, PyData.canLayAll0, h1, h2, h3]
    decide +kernel
theorem Qn.high : ∀ q : Qn, q.d.depth = q.hi
  | .any => by simp [Qn.d, PyData.depth, PyData.depthAll, Qn.hi]
  | .no q => by simp [Qn.d, PyData.depth, PyData.depthAll, Qn.hi, Qn.high q]
  | .both a b => by simp [Qn.d, PyData.depth, PyData.depthAll, Qn.hi, Qn.high a, Qn.high b]
  | .some a c b => by simp [Qn.d, PyData.depth, PyData.depthAll, Qn.hi, Qn.high a, Qn.high b]
theorem Qn.turn_hi : ∀ q : Qn, q.turn.hi = q.hi
  | .any => rfl
  | .no q => by simp [Qn.turn, Qn.hi, Qn.turn_hi q]
  | .both a b => by simp [Qn.turn, Qn.hi, Qn.turn_hi a, Qn.turn_hi b]
  | .some a c b => by simp [Qn.turn, Qn.hi, Qn.turn_hi a, Qn.turn_hi b, Nat.max_comm]
theorem Qn.shp {q : Qn} (h : q.Ok) (h2 : q.hi ≤ 64) : SeqAt.shaped q.d = true := by
  unfold SeqAt.shaped
  rw [Qn.lay h, Qn.high]
  simpa using h2
theorem Qn.same {q : Qn} (h : q.Ok) : PyData.eqv q.d q.d = true := SeqAt.eqv_refl _ (Qn.lay h)
/-! ### sorted lists without repeats are determined by their members -/
theorem rising_pair : ∀ (p : Str) (l : List Str), risingS p l = true → l.Nodup → p ∉ l → ∀ x ∈ l, p.cps.toList < x.cps.toList := by
  intro p l
  induction l generalizing p with
  | nil => intro _ _ _ x hx; cases hx
  | cons y l ih =>
    intro h nd np x hx
    have h' : (!Spec.ltCps y.cps.toList p.cps.toList && risingS y l) = true := h
    rw [Bool.and_eq_true, ltCps_eq] at h'
    obtain ⟨n1, n2⟩ := List.nodup_cons.mp nd
    have le : ¬ y.cps.toList < p.cps.toList := by simpa using h'.1
    have ne : p ≠ y := fun z => np (z ▸ List.mem_cons_self)
    have lt : p.cps.toList < y.cps.toList := by
      rcases Std.lt_trichotomy p.cps.toList y.cps.toList with z | z | z
      · exact z
      · exact absurd (by cases p; cases y; congr; exact Array.toList_inj.mp z) ne
      · exact absurd z le
    rcases List.mem_cons.mp hx with rfl | z
    · exact lt
    · exact List.lt_trans lt (ih y h'.2 n2 n1 x z)
theorem srt_head {p : Str} {l : List Str} (h : sortedS (p :: l) = true) (nd : (p :: l).Nodup) : sortedS l = true ∧ l.Nodup ∧ p ∉ l ∧ ∀ x ∈ l, p.cps.toList < x.cps.toList := by
  obtain ⟨n1, n2⟩ := List.nodup_cons.mp nd
  refine ⟨?_, n2, n1, rising_pair p l h n2 n1⟩
  cases l with
  | nil => rfl
  | cons y l =>
    have h' : (!Spec.ltCps y.cps.toList p.cps.toList && risingS y l) = true := h
    rw [Bool.and_eq_true] at h'
    exact h'.2
theorem srt_one : ∀ (a b : List Str), sortedS a = true → a.Nodup → sortedS b = true → b.Nodup → (∀ x, x ∈ a ↔ x ∈ b) → a = b
  | [], [], _, _, _, _, _ => rfl
  | [], y :: b, _, _, _, _, h => absurd ((h y).mpr List.mem_cons_self) (fun z => by cases z)
  | x :: a, [], _, _, _, _, h => absurd ((h x).mp List.mem_cons_self) (fun z => by cases z)
  | x :: a, y :: b, s1, n1, s2, n2, h => by
    obtain ⟨p1, p2, p3, p4⟩ := srt_head s1 n1
    obtain ⟨q1, q2, q3, q4⟩ := srt_head s2 n2
    have e : x = y := by
      rcases List.mem_cons.mp ((h x).mp List.mem_cons_self) with z | z
      · exact z
      · rcases List.mem_cons.mp ((h y).mpr List.mem_cons_self) with z2 | z2
        · exact z2.symm
        · exact absurd (List.lt_trans (q4 x z) (p4 y z2)) (List.lt_irrefl _)
    subst e
    rw [srt_one a b p1 p2 q1 q2 fun u => ?_]
    constructor
    · intro hu
      rcases List.mem_cons.mp ((h u).mp (List.mem_cons_of_mem _ hu)) with z | z
      · exact absurd (z ▸ hu) p3
      · exact z
    · intro hu
      rcases List.mem_cons.mp ((h u).mpr (List.mem_cons_of_mem _ hu)) with z | z
      · exact absurd (z ▸ hu) q3
      · exact z
theorem Srt.one {a b l m : List Str} (h1 : Srt a l) (h2 : Srt b m) (e : ∀ z, z ∈ l ↔ z ∈ m) : a = b := srt_one a b h1.1 h1.2.1 h2.1 h2.2.1 fun x => by rw [h1.2.2, h2.2.2, e]
theorem Srt.few {a l : List Str} (h : Srt a l) (s : ∀ z ∈ l, z ∈ abc) : a.length ≤ 26 := nodup_le a abc h.2.1 fun x hx => s x ((h.2.2 x).mp hx)
end M
namespace M
open PySem L2 Evl
open PyProof.Rows hiding St
def sp_fits : Sp := fun vs H Q _ => ∃ (H0 : Hp) (p : Addr) (m : Nat), vs = [.ref p] ∧ Pl H0 H p m ∧ m + 600 ≤ 2 ^ 20 ∧ ∀ H' : Hp, Pl H0 H' p (m + 600) → Q (.bl true) H'
theorem names4 {k : Int} (h0 : 0 ≤ k) (h4 : k < 4) : ∃ z : Str, atI [V.str "ab", V.str "a", V.str "abcdefghijklmnopqrstuvwxyz", V.str "xqz"] k = some (.str z) ∧ Names z := by
  have n1 : Names "ab" := ⟨by unfold Abc; decide +kernel, by decide +kernel, by decide +kernel⟩
  have n2 : Names "a" := ⟨by unfold Abc; decide +kernel, by decide +kernel, by decide +kernel⟩
  have n3 : Names "abcdefghijklmnopqrstuvwxyz" := ⟨by unfold Abc; decide +kernel, by decide +kernel, by decide +kernel⟩
  have n4 : Names "xqz" := ⟨by unfold Abc; decide +kernel, by decide +kernel, by decide +kernel⟩
  rcases (by omega : k = 0 ∨ k = 1 ∨ k = 2 ∨ k = 3) with rfl | rfl | rfl | rfl
  · exact ⟨_, rfl, n1⟩
  · exact ⟨_, rfl, n2⟩
  · exact ⟨_, rfl, n3⟩
  · exact ⟨_, rfl, n4⟩
end M
namespace M
open PySem L2 Evl
open PyProof.Rows hiding St
/-- data that repr shows -/
def Shw (d : PyData) : Prop := d.showable = true ∧ d.hasDict = false ∧ d.depth ≤ 50 ∧ d.shown.length ≤ sizeLine
def dd (n : Nat) : PyData := .list [.int n, .int n]
theorem shw_dd {n : Nat} (h : n ≤ 6) : Shw (dd n) := by
  rcases (by omega : n = 0 ∨ n = 1 ∨ n = 2 ∨ n = 3 ∨ n = 4 ∨ n = 5 ∨ n = 6) with rfl | rfl | rfl | rfl | rfl | rfl | rfl <;> exact ⟨by decide +kernel, by decide +kernel, by decide +kernel, by decide +kernel⟩
def dl (ss : List Str) : PyData := .list (ss.map PyData.str)
theorem dps (K : PySem.W.Frag) (H : Hp) : ∀ ss : List Str, DpAll K H (ss.map V.str) (ss.map PyData.str)
  | [] => .nil
  | s :: ss => .cons (.str s) (dps K H ss)
theorem dp_l {K : PySem.W.Frag} {H : Hp} {a : Addr} {ss : List Str} (h : H a = some (.lst (ss.map V.str))) : Dp K H (.ref a) (dl ss) := .lst (SqL.of h) (dps K H ss)
/-- short texts -/
def Sh (ss : List Str) : Prop := ss.length ≤ 26 ∧ ∀ z ∈ ss, ∃ c, z = ⟨#[c]⟩ ∧ 97 ≤ c ∧ c ≤ 122
theorem abc_sh {z : Str} (h : z ∈ abc) : ∃ c, z = ⟨#[c]⟩ ∧ 97 ≤ c ∧ c ≤ 122 := by
  obtain ⟨i, hi, rfl⟩ := List.mem_map.mp h
  have := List.mem_range.mp hi
  exact ⟨97 + i, rfl, by omega, by omega⟩
theorem Srt.sh {a l : List Str} (h : Srt a l) (s : ∀ z ∈ l, z ∈ abc) : Sh a := ⟨h.few s, fun z hz => abc_sh (s z ((h.2.2 z).mp hz))⟩
theorem sh_lay : ∀ {ss : List Str}, (∀ z ∈ ss, ∃ c, z = ⟨#[c]⟩ ∧ 97 ≤ c ∧ c ≤ 122) → PyData.canLayAll0 (ss.map PyData.str) = true ∧ PyData.depthAll (ss.map PyData.str) = 0 ∧ PyData.showableAll (ss.map PyData.str) = true ∧ PyData.hasDictAll (ss.map PyData.str) = false ∧
    PyData.leavesShortAll 8 (ss.map PyData.str) = true ∧ PyData.bulkAll (ss.map PyData.str) = 2 * ss.length
  | [], _ => ⟨rfl, rfl, rfl, rfl, rfl, rfl⟩
  | z :: ss, h => by
    obtain ⟨c, rfl, h1, h2⟩ := h z List.mem_cons_self
    obtain ⟨a1, a2, a3, a4, a5, a6⟩ := sh_lay fun y hy => h y (List.mem_cons_of_mem _ hy)
    have b1 : PyData.strOk ⟨#[c]⟩ = true := by
      show (#[c].all fun x => decide (x < 0x110000)) = true
      simp
      omega
    have b2 : PyData.leavesShort 8 (.str ⟨#[c]⟩) = true := by
      show ([c].all fun c => decide (c < 16 ^ 8)) = true
      simp
      omega
    refine ⟨?_, ?_, ?_, ?_, ?_, ?_⟩
    · simp only [List.map_cons, PyData.canLayAll0, PyData.canLay0, b1, a1]; rfl
    · simp only [List.map_cons, PyData.depthAll, PyData.depth, a2]; rfl
    · simp only [List.map_cons, PyData.showableAll, PyData.showable, a3]; rfl
    · simp only [List.map_cons, PyData.hasDictAll, PyData.hasDict, a4]; rfl
    · simp only [List.map_cons, PyData.leavesShortAll, b2, a5]; rfl
    · simp only [List.map_cons, PyData.bulkAll, PyData.bulk, a6, List.length_cons]
      simp
      omega
theorem sh_shp {ss : List Str} (h : Sh ss) : SeqAt.shaped (dl ss) = true ∧ PyData.eqv (dl ss) (dl ss) = true := by
  obtain ⟨a1, a2, _⟩ := sh_lay h.2
  have lay : (dl ss).canLay0 = true := by show PyData.canLay0 (.list _) = true; rw [PyData.canLay0]; exact a1
  refine ⟨?_, SeqAt.eqv_refl _ lay⟩
  unfold SeqAt.shaped
  rw [lay]
  show (true && decide (PyData.depth (.list _) ≤ 64)) = true
  rw [PyData.depth, a2]
  decide
theorem shw_ll {ss : List Str} (h : Sh ss) : Shw (.list [dl ss, dl ss]) := by
  obtain ⟨a1, a2, a3, a4, a5, a6⟩ := sh_lay h.2
  have few := h.1
  refine ⟨?_, ?_, ?_, ?_⟩
  · simp only [PyData.showable, PyData.showableAll, dl, a3]; rfl
  · simp only [PyData.hasDict, PyData.hasDictAll, dl, a4]; rfl
  · simp only [PyData.depth, PyData.depthAll, dl, a2]; decide
  · refine PyData.shown_fits_bulk (B := 8) (by decide) (by decide) ?_ ?_
    · simp only [PyData.leavesShort, PyData.leavesShortAll, dl, a5]; rfl
    · simp only [PyData.bulk, PyData.bulkAll, dl, a6]
      omega
end M
namespace M
open PySem L2 Evl
open PyProof.Rows hiding St
def sp_law (K : PySem.W.Frag) : Sp := fun vs H Q _ => ∃ (a : Addr) (ns : List Int), vs = [.ref a] ∧ SqL K H a (ns.map V.int) ∧ ns.length ≤ 63 ∧ ∀ H' : Hp, Q (.bl true) H'
end M
namespace M
open PySem L2 Evl
open PyProof.Rows hiding St
def entI (e : DictEntry) : Option (Str × Int) := match e.key, e.val with
  | .str x _, .int i _ => some (x, i)
  | _, _ => none
theorem kints_of {K : PySem.W.Frag} {w : World} {a : Addr} {es : Array DictEntry} {n : Nat} {kvs : List (Str × Int)} (l : K.lookup a = some ⟨.type "dict", none, .dict es n, #[]⟩) (hk : PySem.W.KeysLit w.params es.toList) (lo : (a == sysModules) = false)
    (hf : es.toList.map entI = kvs.map some) : KInts K w a (fun z => kvs.lookup z) := by
  refine ⟨es, n, ⟨l, hk, lo⟩, fun z => ?_⟩
  have e : PySem.W.nsIn K a z = (match es.toList.find? (·.key.isStr z) with
      | some e => some (some e.val)
      | none => if es.toList.any (·.refKey) then none else some none) := by
    unfold PySem.W.nsIn
    rw [l]
    rfl
  rw [e]
  clear e l hk
  generalize es.toList = L at *
  have key : ∀ (L : List DictEntry) (kvs : List (Str × Int)), L.map entI = kvs.map some → (L.any (·.refKey) = false) ∧ ((∃ i t e, kvs.lookup z = some i ∧ L.find? (·.key.isStr z) = some e ∧ e.val = .int i t) ∨ (kvs.lookup z = none ∧ L.find? (·.key.isStr z) = none)) := by
    intro L
    induction L with
    | nil =>
      intro kvs h
      cases kvs with
      | nil => exact ⟨rfl, .inr ⟨rfl, rfl⟩⟩
      | cons q r => cases h
    | cons en L ih =>
      intro kvs h
      cases kvs with
      | nil => cases h
      | cons q r =>
        rw [List.map_cons, List.map_cons] at h
        injection h with h1 h2
        obtain ⟨i1, i2⟩ := ih r h2
        unfold entI at h1
        split at h1
        · rename_i x t i u ek ev
          cases h1
          refine ⟨?_, ?_⟩
          · rw [List.any_cons, i1]
            simp [DictEntry.refKey, ek]
          · by_cases hz : x = z
            · subst hz
              refine .inl ⟨i, u, en, ?_, ?_, ev⟩
              · simp [List.lookup]
              · rw [List.find?_cons_of_pos]
                simp [ek, Value.isStr]
            · have nz : (z == x) = false := by simpa using fun y : z = x => hz y.symm
              have hl : List.lookup z ((x, i) :: r) = List.lookup z r := by simp [List.lookup, nz]
              have hfd : List.find? (fun e => e.key.isStr z) (en :: L) = List.find? (fun e => e.key.isStr z) L := by
                rw [List.find?_cons_of_neg]
                simp [ek, Value.isStr, hz]
              rw [hl, hfd]
              exact i2
        · cases h1
  obtain ⟨k1, k2⟩ := key L kvs hf
  rcases k2 with ⟨i, t, e, h1, h2, h3⟩ | ⟨h1, h2⟩
  · refine .inl ⟨i, t, h1, ?_⟩
    rw [h2, ← h3]
  · refine .inr ⟨h1, ?_⟩
    rw [h2, k1]
    rfl
end M
namespace M
open PySem L2 Evl
open PyProof.Rows hiding St
theorem kb_one {K : PySem.W.Frag} {fd : FuncData} {x : Str} (hb : ∀ (s : Shared) (u : Value), BindsTo s fd ⟨[], [(x, u)]⟩ [(x, u)]) :
    KBinds K fd [x] [x] (fun us ws => match us, ws with | [], [w0] => [w0] | _, _ => []) (fun us ws => match us, ws with | [], [w0] => [w0] | _, _ => []) := by
  refine ⟨fun s us ws _ hl => ?_, fun {vs us zs ws} r1 r2 => ?_⟩
  · rcases us with _ | ⟨u, us⟩
    · rcases ws with _ | ⟨w0, _ | ⟨w1, ws⟩⟩
      · exact nomatch hl
      · exact hb s w0
      · exact nomatch hl
    · exact nomatch hl
  · cases r1 with
    | nil =>
      cases r2 with
      | nil => exact .nil
      | cons a b =>
        cases b with
        | nil => exact .cons a .nil
        | cons c d => exact .nil
    | cons a b => exact .nil
end M
end

section
set_option Elab.async false
set_option linter.all false
set_option maxRecDepth 100000
/-! what rows let, and tables of it -/
namespace M
open PySem L2 Evl
open PyProof.Rows hiding St
/-- does the row let it -/
def lt : Qn → List Nat → Bool
  | .any, _ => true
  | .no q, r => !lt q r
  | .both a b, r => lt a r && lt b r
  | .some a c b, r => (List.range r.length).any fun i => decide (r[i]? = some c) && (lt a (r.take i) && lt b (r.drop (i + 1)))
/-- a stretch of a row -/
def st (r : List Nat) (s e : Nat) : List Nat := (r.take e).drop s
theorem st_len {r : List Nat} {s e : Nat} (h : e ≤ r.length) : (st r s e).length = e - s := by
  unfold st
  rw [List.length_drop, List.length_take, Nat.min_eq_left h]
theorem st_get {r : List Nat} {s e j : Nat} (h : s + j < e) : (st r s e)[j]? = r[s + j]? := by
  unfold st
  rw [List.getElem?_drop, List.getElem?_take, if_pos h]
theorem st_take {r : List Nat} {s e j : Nat} (h : s + j ≤ e) : (st r s e).take j = st r s (s + j) := by
  unfold st
  rw [List.take_drop, List.take_take, Nat.min_eq_left h]
theorem st_drop {r : List Nat} {s e j : Nat} : (st r s e).drop j = st r (s + j) e := by
  unfold st
  rw [List.drop_drop]
theorem st_all (r : List Nat) : st r 0 r.length = r := by
  unfold st
  simp
theorem lt_some {r : List Nat} {a b : Qn} {c s e : Nat} (h : e ≤ r.length) : lt (.some a c b) (st r s e) = true ↔ ∃ i, s ≤ i ∧ i < e ∧ r[i]? = some c ∧ lt a (st r s i) = true ∧ lt b (st r (i + 1) e) = true := by
  simp only [lt, List.any_eq_true, List.mem_range, Bool.and_eq_true, decide_eq_true_eq]
  rw [st_len h]
  constructor
  · rintro ⟨j, hj, h1, h2, h3⟩
    have hj2 : s + j < e := by omega
    rw [st_get hj2] at h1
    rw [st_take (Nat.le_of_lt hj2)] at h2
    rw [st_drop] at h3
    exact ⟨s + j, by omega, hj2, h1, h2, h3⟩
  · rintro ⟨i, h0, h1, h2, h3, h4⟩
    obtain ⟨j, rfl⟩ : ∃ j, i = s + j := ⟨i - s, by omega⟩
    refine ⟨j, by omega, ?_, ?_, ?_⟩
    · rw [st_get h1]; exact h2
    · rw [st_take (Nat.le_of_lt h1)]; exact h3
    · rw [st_drop]; exact h4
/-- the table of a question for a row: for each start the bits of the ends -/
def IsTab (r : List Nat) (q : Qn) (ts : List Nat) : Prop := ts.length = r.length + 1 ∧ ∀ s t, ts[s]? = some t → ∀ e, t.testBit e = (decide (s ≤ e ∧ e ≤ r.length) && lt q (st r s e))
def wholeT (n : Nat) : List Nat := (List.range (n + 1)).map fun s => 2 ^ (n + 1) - 2 ^ s
theorem whole_bit {n s e : Nat} (h : s ≤ n) : (2 ^ (n + 1) - 2 ^ s).testBit e = decide (s ≤ e ∧ e ≤ n) := by
  have e1 : 2 ^ (n + 1) - 2 ^ s = 2 ^ s * (2 ^ (n + 1 - s) - 1) := by
    rw [Nat.mul_sub, Nat.mul_one, ← Nat.pow_add]
    congr 2
    omega
  rw [e1, Nat.testBit_two_pow_mul, Nat.testBit_two_pow_sub_one]
  by_cases h1 : s ≤ e
  · simp only [ge_iff_le, h1, decide_true, Bool.true_and, true_and]
    congr 1
    apply propext
    omega
  · simp [h1]
theorem whole_tab (r : List Nat) : IsTab r .any (wholeT r.length) := by
  refine ⟨by simp [wholeT], fun s t h e => ?_⟩
  unfold wholeT at h
  rw [List.getElem?_map] at h
  obtain ⟨s', h1, h2⟩ := Option.map_eq_some_iff.mp h
  obtain ⟨h3, h4⟩ := List.getElem?_eq_some_iff.mp h1
  rw [List.getElem_range] at h4
  rw [List.length_range] at h3
  subst h4
  rw [← h2, whole_bit (by omega)]
  simp [lt]
theorem zip_at {f : Nat → Nat → Nat} {a b : List Nat} {s t : Nat} (h : (List.zipWith f a b)[s]? = some t) : ∃ x y, a[s]? = some x ∧ b[s]? = some y ∧ f x y = t := by
  rw [List.getElem?_zipWith] at h
  split at h
  · rename_i x y hx hy
    cases h
    exact ⟨x, y, hx, hy, rfl⟩
  · cases h
theorem not_tab {r : List Nat} {q : Qn} {ts : List Nat} (h : IsTab r q ts) : IsTab r (.no q) (List.zipWith (· ^^^ ·) (wholeT r.length) ts) := by
  obtain ⟨w1, w2⟩ := whole_tab r
  refine ⟨by rw [List.length_zipWith, w1, h.1, Nat.min_self], fun s t ht e => ?_⟩
  obtain ⟨x, y, hx, hy, rfl⟩ := zip_at ht
  rw [Nat.testBit_xor, w2 s x hx e, h.2 s y hy e]
  simp only [lt, Bool.and_true]
  cases decide (s ≤ e ∧ e ≤ r.length) <;> simp
theorem both_tab {r : List Nat} {a b : Qn} {ts us : List Nat} (h : IsTab r a ts) (g : IsTab r b us) : IsTab r (.both a b) (List.zipWith (· &&& ·) ts us) := by
  refine ⟨by rw [List.length_zipWith, h.1, g.1, Nat.min_self], fun s t ht e => ?_⟩
  obtain ⟨x, y, hx, hy, rfl⟩ := zip_at ht
  rw [Nat.testBit_and, h.2 s x hx e, g.2 s y hy e]
  simp only [lt]
  cases decide (s ≤ e ∧ e ≤ r.length) <;> simp
/-- places below p are done, and of the place p the starts below u -/
def Part (r : List Nat) (a : Qn) (c : Nat) (b : Qn) (p u : Nat) (ts : List Nat) : Prop := ts.length = r.length + 1 ∧ ∀ s t, ts[s]? = some t → ∀ e, t.testBit e = true ↔ (s ≤ e ∧ e ≤ r.length ∧ ∃ i, (i < p ∨ (i = p ∧ s < u)) ∧ s ≤ i ∧ i < e ∧ r[i]? = some c ∧ lt a (st r s i) = true ∧ lt b (st r (i + 1) e) = true)
theorem part0 (r : List Nat) (a : Qn) (c : Nat) (b : Qn) : Part r a c b 0 0 (List.replicate (r.length + 1) 0) := by
  refine ⟨by simp, fun s t h e => ?_⟩
  rw [List.getElem?_replicate] at h
  split at h
  · cases h
    simp
  · cases h
theorem part_end {r : List Nat} {a b : Qn} {c : Nat} {ts : List Nat} (h : Part r a c b r.length 0 ts) : IsTab r (.some a c b) ts := by
  refine ⟨h.1, fun s t ht e => ?_⟩
  have h1 := h.2 s t ht e
  apply Bool.eq_iff_iff.mpr
  rw [h1, Bool.and_eq_true, decide_eq_true_eq]
  constructor
  · rintro ⟨e1, e2, i, _, g1, g2, g3, g4, g5⟩
    exact ⟨⟨e1, e2⟩, (lt_some e2).mpr ⟨i, g1, g2, g3, g4, g5⟩⟩
  · rintro ⟨⟨e1, e2⟩, g⟩
    obtain ⟨i, g1, g2, g3, g4, g5⟩ := (lt_some e2).mp g
    exact ⟨e1, e2, i, .inl (by omega), g1, g2, g3, g4, g5⟩
/-- a place with another letter -/
theorem part_skip {r : List Nat} {a b : Qn} {c p : Nat} {ts : List Nat} (h : Part r a c b p 0 ts) (hp : r[p]? ≠ some c) : Part r a c b (p + 1) 0 ts := by
  refine ⟨h.1, fun s t ht e => (h.2 s t ht e).trans ?_⟩
  constructor
  · rintro ⟨e1, e2, i, hi, g⟩
    exact ⟨e1, e2, i, .inl (by omega), g⟩
  · rintro ⟨e1, e2, i, hi, g1, g2, g3, g⟩
    refine ⟨e1, e2, i, ?_, g1, g2, g3, g⟩
    by_cases z : i = p
    · subst z
      exact absurd g3 hp
    · exact .inl (by omega)
/-- all starts of a place are done -/
theorem part_next {r : List Nat} {a b : Qn} {c p : Nat} {ts : List Nat} (h : Part r a c b p (p + 1) ts) : Part r a c b (p + 1) 0 ts := by
  refine ⟨h.1, fun s t ht e => (h.2 s t ht e).trans ?_⟩
  constructor
  · rintro ⟨e1, e2, i, hi, g⟩
    exact ⟨e1, e2, i, .inl (by omega), g⟩
  · rintro ⟨e1, e2, i, hi, g1, g⟩
    refine ⟨e1, e2, i, ?_, g1, g⟩
    omega
/-- a start at which what stands ahead does not let -/
theorem part_no {r : List Nat} {a b : Qn} {c p u : Nat} {ts : List Nat} (h : Part r a c b p u ts) (hn : lt a (st r u p) = false) : Part r a c b p (u + 1) ts := by
  refine ⟨h.1, fun s t ht e => (h.2 s t ht e).trans ?_⟩
  constructor
  · rintro ⟨e1, e2, i, hi, g⟩
    exact ⟨e1, e2, i, by omega, g⟩
  · rintro ⟨e1, e2, i, hi, g1, g2, g3, g4, g5⟩
    refine ⟨e1, e2, i, ?_, g1, g2, g3, g4, g5⟩
    rcases hi with hi | ⟨rfl, hi⟩
    · exact .inl hi
    · by_cases z : s = u
      · subst z
        rw [hn] at g4; cases g4
      · exact .inr ⟨rfl, by omega⟩
theorem part_yes {r : List Nat} {a b : Qn} {c p u : Nat} {ts us : List Nat} {t y : Nat} (h : Part r a c b p u ts) (hb : IsTab r b us) (hc : r[p]? = some c) (hu : u ≤ p) (ha : lt a (st r u p) = true) (ht : ts[u]? = some t) (hy : us[p + 1]? = some y) :
    Part r a c b p (u + 1) (ts.set u (t ||| y)) := by
  refine ⟨by rw [List.length_set]; exact h.1, fun s t' ht' e => ?_⟩
  have by_ := hb.2 _ _ hy e
  have hp : p < r.length := (List.getElem?_eq_some_iff.mp hc).1
  by_cases z : s = u
  · subst z
    have e0 : t ||| y = t' := by
      rw [List.getElem?_set_self (List.getElem?_eq_some_iff.mp ht).1] at ht'
      exact Option.some.inj ht'
    subst e0
    rw [Nat.testBit_or, Bool.or_eq_true, h.2 s t ht e, by_, Bool.and_eq_true, decide_eq_true_eq]
    constructor
    · rintro (⟨e1, e2, i, hi, g⟩ | ⟨⟨e1, e2⟩, g⟩)
      · exact ⟨e1, e2, i, by omega, g⟩
      · exact ⟨by omega, e2, p, .inr ⟨rfl, by omega⟩, hu, by omega, hc, ha, g⟩
    · rintro ⟨e1, e2, i, hi, g1, g2, g3, g4, g5⟩
      rcases hi with hi | ⟨rfl, hi⟩
      · exact .inl ⟨e1, e2, i, .inl hi, g1, g2, g3, g4, g5⟩
      · exact .inr ⟨⟨by omega, e2⟩, g5⟩
  · rw [List.getElem?_set_ne (Ne.symm z)] at ht'
    refine (h.2 s t' ht' e).trans ?_
    constructor
    · rintro ⟨e1, e2, i, hi, g⟩
      exact ⟨e1, e2, i, by omega, g⟩
    · rintro ⟨e1, e2, i, hi, g⟩
      exact ⟨e1, e2, i, by omega, g⟩
theorem tab_last {r : List Nat} {q : Qn} {ts : List Nat} {t : Nat} (h : IsTab r q ts) (ht : ts[0]? = some t) : t.testBit r.length = lt q r := by
  rw [h.2 0 t ht, st_all]
  simp
end M
end

section
set_option Elab.async false
set_option linter.all false
set_option maxRecDepth 100000
/-! what the defs about tables promise -/
namespace M
open PySem L2 Evl
open PyProof.Rows hiding St
def natV (ts : List Nat) : List V := ts.map fun (t : Nat) => V.int t
theorem natV_at {ts : List Nat} {s : Nat} {t : Nat} (h : ts[s]? = some t) : (natV ts)[s]? = some (V.int t) := by
  unfold natV
  rw [List.getElem?_map, h]
  rfl
theorem natV_len (ts : List Nat) : (natV ts).length = ts.length := by simp [natV]
theorem natV_inv {ts : List Nat} {s : Nat} {x : V} (h : (natV ts)[s]? = some x) : ∃ t, ts[s]? = some t ∧ x = .int (t : Nat) := by
  unfold natV at h
  rw [List.getElem?_map] at h
  obtain ⟨t, h1, h2⟩ := Option.map_eq_some_iff.mp h
  exact ⟨t, h1, h2.symm⟩
def codes (z : Str) : List Nat := z.cps.toList
theorem codes_len (z : Str) : (codes z).length = z.length := Array.length_toList
/-- the stretches of the row z, at x -/
def SAt (C : Addr) (H : Hp) (x : Addr) (z : Str) : Prop := ∃ (dx lw : Addr), H x = some (.ins C dx [(("row" : Str), V.str z), (("whole" : Str), V.ref lw)]) ∧ H lw = some (.lst (natV (wholeT z.length)))
theorem SAt.up {C : Addr} {H H' : Hp} {x : Addr} {z : Str} (h : SAt C H x z) (e : Ex H H') : SAt C H' x z := by
  obtain ⟨dx, lw, h1, h2⟩ := h
  exact ⟨dx, lw, e _ _ h1, e _ _ h2⟩
/-- a table at v -/
def TAt (H : Hp) (r : List Nat) (v : V) (q : Qn) : Prop := ∃ l ts, v = .ref l ∧ H l = some (.lst (natV ts)) ∧ IsTab r q ts
theorem TAt.up {H H' : Hp} {r : List Nat} {v : V} {q : Qn} (h : TAt H r v q) (e : Ex H H') : TAt H' r v q := by
  obtain ⟨l, ts, h1, h2, h3⟩ := h
  exact ⟨l, ts, h1, e _ _ h2, h3⟩
def TAll (H : Hp) (r : List Nat) : List V → List Qn → Prop
  | [], [] => True
  | v :: vs, q :: qs => TAt H r v q ∧ TAll H r vs qs
  | _, _ => False
theorem TAll.up {H H' : Hp} {r : List Nat} (e : Ex H H') : ∀ {vs : List V} {qs : List Qn}, TAll H r vs qs → TAll H' r vs qs
  | [], [], h => h
  | v :: vs, q :: qs, ⟨h, t⟩ => ⟨h.up e, TAll.up e t⟩
  | [], _ :: _, h => h.elim
  | _ :: _, [], h => h.elim
theorem TAll.len {H : Hp} {r : List Nat} : ∀ {vs : List V} {qs : List Qn}, TAll H r vs qs → vs.length = qs.length
  | [], [], _ => rfl
  | v :: vs, q :: qs, ⟨_, t⟩ => by rw [List.length_cons, List.length_cons, TAll.len t]
  | [], _ :: _, h => h.elim
  | _ :: _, [], h => h.elim
theorem TAll.app {H : Hp} {r : List Nat} : ∀ {vs ws : List V} {qs rs : List Qn}, TAll H r vs qs → TAll H r ws rs → TAll H r (vs ++ ws) (qs ++ rs)
  | [], _, [], _, _, h => h
  | v :: vs, _, q :: qs, _, ⟨h, t⟩, g => ⟨h, TAll.app t g⟩
  | [], _, _ :: _, _, h, _ => h.elim
  | _ :: _, _, [], _, h, _ => h.elim
theorem TAll.last {H : Hp} {r : List Nat} {q : Qn} : ∀ {vs : List V} {qs : List Qn}, TAll H r vs (qs ++ [q]) → ∃ x, vs[vs.length - 1]? = some x ∧ TAt H r x q ∧ TAll H r vs.dropLast qs
  | [v], [], ⟨h, _⟩ => ⟨v, rfl, h, trivial⟩
  | v :: w :: vs, p :: qs, ⟨h, t⟩ => by
    obtain ⟨x, e1, e2, e3⟩ := TAll.last (vs := w :: vs) t
    refine ⟨x, by simpa using e1, e2, ?_⟩
    rw [List.dropLast_cons₂]
    exact ⟨h, e3⟩
  | [], [], h => h.elim
  | [], _ :: _, h => h.elim
  | [v], _ :: qs, ⟨_, t⟩ => by
    have := TAll.len t
    simp at this
  | _ :: _ :: _, [], ⟨_, t⟩ => t.elim
def sp_check_row : Sp := fun vs H Q _ => ∃ z : Str, vs = [.str z] ∧ Abc z ∧ z.length ≤ 1000 ∧ ∀ H', Ex H H' → Q .non H'
def sp_holds : Sp := fun vs H Q _ => ∃ (l : Addr) (ts : List Nat) (s e t : Nat), vs = [.ref l, .int s, .int e] ∧ H l = some (.lst (natV ts)) ∧ ts[s]? = some t ∧ Q (.bl (t.testBit e)) H
def sp_sinit (K : PySem.W.Frag) (C : Addr) : Sp := fun vs H Q _ => ∃ (x dx : Addr) (z : Str), vs = [.ref x, .str z] ∧ H x = some (.ins C dx []) ∧ z.length ≤ 100 ∧ ∀ H', (∀ b o, b ≠ x → H b = some o → H' b = some o) → SAt C H' x z → Q .non H'
def sp_met (C : Addr) : Sp := fun vs H Q _ => ∃ (x l1 l2 : Addr) (z : Str) (c : Nat) (a b : Qn) (ts us : List Nat), vs = [.ref x, .ref l1, .str ⟨#[c]⟩, .ref l2] ∧ SAt C H x z ∧ z.length ≤ 100 ∧
  H l1 = some (.lst (natV ts)) ∧ IsTab (codes z) a ts ∧ H l2 = some (.lst (natV us)) ∧ IsTab (codes z) b us ∧ ∀ l tt H', Ex H H' → H l = none → H' l = some (.lst (natV tt)) → IsTab (codes z) (.some a c b) tt → Q (.ref l) H'
def sp_tpart (K : PySem.W.Frag) (C : Addr) : Sp := fun vs H Q _ => ∃ (H0 : Hp) (v : V) (q : Qn) (lt x : Addr) (z : Str) (xs : List V) (rest : List Qn), vs = [v, .ref lt, .ref x] ∧ Ex H0 H ∧ H0 lt = none ∧ Da K H0 v q.d ∧ q.Ok ∧ SAt C H0 x z ∧ z.length ≤ 100 ∧
  H lt = some (.lst xs) ∧ TAll H0 (codes z) xs (rest ++ q.kids.reverse) ∧
  ∀ (v' : V) (ys : List V) (H1 H' : Hp), Ex H0 H1 → Ex H1 H' → H1 lt = none → TAt H1 (codes z) v' q → H' lt = some (.lst ys) → TAll H1 (codes z) ys rest → (∀ b o, b ≠ lt → H b = some o → H' b = some o) → Q v' H'
def sp_table_of (K : PySem.W.Frag) (C : Addr) : Sp := fun vs H Q _ => ∃ (H0 : Hp) (v : V) (q : Qn) (x : Addr) (z : Str), vs = [v, .ref x] ∧ Ex H0 H ∧ Dp K H0 v q.d ∧ q.Ok ∧ q.parts ≤ 1000 ∧ SAt C H0 x z ∧ z.length ≤ 100 ∧
  ∀ (l : Addr) (ts : List Nat) (H' : Hp), Ex H H' → H' l = some (.lst (natV ts)) → IsTab (codes z) q ts → Q (.ref l) H'
def sp_row_lets (K : PySem.W.Frag) : Sp := fun vs H Q _ => ∃ (H0 : Hp) (v : V) (q : Qn) (z : Str), vs = [.str z, v] ∧ Ex H0 H ∧ Dp K H0 v q.d ∧ q.Ok ∧ q.parts ≤ 1000 ∧ Abc z ∧ z.length ≤ 100 ∧ ∀ H', Ex H H' → Q (.bl (lt q (codes z))) H'
def sp_law_lets (K : PySem.W.Frag) (n : Nat) : Sp := fun vs H Q _ => ∃ (H0 : Hp) (v : V) (q : Qn) (z : Str), vs = [.str z, v] ∧ Ex H0 H ∧ Da K H0 v q.d ∧ q.hi ≤ n ∧ z.length ≤ 100 ∧ ∀ H', Ex H H' → Q (.bl (lt q (codes z))) H'
def sp_line : Sp := fun vs H Q _ => ∃ (H0 : Hp) (p : Addr) (m n : Nat) (z : Str), vs = [.ref p, .str z, .int n] ∧ Pl H0 H p m ∧ m + n + 2 ≤ 2 ^ 20 ∧ n ≤ 60 ∧ Names z ∧ ∀ (w : Str) (H' : Hp), Pl H0 H' p (m + n + 2) → Abc w → w.length ≤ n → (∀ c ∈ w.cps.toList, c ∈ z.cps.toList) → Q (.str w) H'
theorem kb_two {K : PySem.W.Frag} {fd : FuncData} {x y : Str} (hb : ∀ (s : Shared) (u v : Value), BindsTo s fd ⟨[], [(x, u), (y, v)]⟩ [(y, v), (x, u)]) :
    KBinds K fd [y, x] [x, y] (fun us ws => match us, ws with | [], [w0, w1] => [w1, w0] | _, _ => []) (fun us ws => match us, ws with | [], [w0, w1] => [w1, w0] | _, _ => []) := by
  refine ⟨fun s us ws _ hl => ?_, fun {vs us zs ws} r1 r2 => ?_⟩
  · rcases us with _ | ⟨u, us⟩
    · rcases ws with _ | ⟨w0, _ | ⟨w1, _ | ⟨w2, ws⟩⟩⟩
      · exact nomatch hl
      · exact nomatch hl
      · exact hb s w0 w1
      · exact nomatch hl
    · exact nomatch hl
  · cases r1 with
    | nil =>
      cases r2 with
      | nil => exact .nil
      | cons a b =>
        cases b with
        | nil => exact .nil
        | cons c d =>
          cases d with
          | nil => exact .cons c (.cons a .nil)
          | cons e f => exact .nil
    | cons a b => exact .nil
theorem and_nat (a b : Nat) : Builtin.bitAnd (a : Int) (b : Int) = ((a &&& b : Nat) : Int) := rfl
theorem or_nat (a b : Nat) : Builtin.bitOr (a : Int) (b : Int) = ((a ||| b : Nat) : Int) := by rw [Bits.bitOr_pp (Int.natCast_nonneg a) (Int.natCast_nonneg b)]; rfl
theorem xor_nat (a b : Nat) : Builtin.bitXor (a : Int) (b : Int) = ((a ^^^ b : Nat) : Int) := by rw [Bits.bitXor_pp (Int.natCast_nonneg a) (Int.natCast_nonneg b)]; rfl
/-- (t >> e) & 1 is 1 -/
theorem bit_at (t e : Nat) : decide (V.int (Builtin.bitAnd ((t : Int) / 2 ^ ((e : Nat) : Int).toNat) 1) = V.int 1) = t.testBit e := by
  have e1 : ((t : Int) / 2 ^ ((e : Nat) : Int).toNat) = ((t / 2 ^ e : Nat) : Int) := by
    rw [Int.toNat_natCast]
    exact_mod_cast rfl
  have e2 : Builtin.bitAnd ((t / 2 ^ e : Nat) : Int) 1 = (((t / 2 ^ e) &&& 1 : Nat) : Int) := and_nat (t / 2 ^ e) 1
  rw [e1, e2, Nat.testBit_eq_decide_div_mod_eq, Nat.and_one_is_mod]
  apply Bool.eq_iff_iff.mpr
  rw [decide_eq_true_eq, decide_eq_true_eq]
  constructor
  · intro h
    injection h with h
    omega
  · intro h
    rw [h]
    rfl
end M
namespace M
open PySem L2 Evl
open PyProof.Rows hiding St
theorem whole_val {n j : Nat} (h : j ≤ n) : (1 * 2 ^ ((n : Int) + 1).toNat - 1 * 2 ^ (0 + (j : Int)).toNat : Int) = ((2 ^ (n + 1) - 2 ^ j : Nat) : Int) := by
  have e1 : ((n : Int) + 1).toNat = n + 1 := by omega
  have e2 : (0 + (j : Int)).toNat = j := by omega
  have le : 2 ^ j ≤ 2 ^ (n + 1) := Nat.pow_le_pow_right (by decide) (by omega)
  rw [e1, e2, Int.one_mul, Int.one_mul, Int.ofNat_sub le]
  rfl
def wholeU (n j : Nat) : List Nat := (List.range j).map fun s => 2 ^ (n + 1) - 2 ^ s
theorem wholeU_succ (n j : Nat) : natV (wholeU n (j + 1)) = natV (wholeU n j) ++ [V.int ((2 ^ (n + 1) - 2 ^ j : Nat) : Int)] := by
  unfold natV wholeU
  rw [List.range_succ, List.map_append, List.map_append]
  rfl
theorem wholeU_all (n : Nat) : wholeU n (n + 1) = wholeT n := rfl
theorem wholeU_len (n j : Nat) : (natV (wholeU n j)).length = j := by simp [natV, wholeU]
end M
namespace M
open PySem L2 Evl
open PyProof.Rows hiding St
theorem natV_set (ts : List Nat) (u w y : Nat) : (natV ts).set u (V.int (Builtin.bitOr (w : Int) (y : Int))) = natV (ts.set u (w ||| y)) := by
  unfold natV
  rw [or_nat, List.map_set]
end M
namespace M
open PySem L2 Evl
open PyProof.Rows hiding St
theorem natV_take {L : List Nat} {j v : Nat} (h : L[j]? = some v) : natV (L.take (j + 1)) = natV (L.take j) ++ [V.int (v : Nat)] := by
  obtain ⟨hj, e⟩ := List.getElem?_eq_some_iff.mp h
  rw [take_succ' hj, e]
  unfold natV
  rw [List.map_append]
  rfl
theorem zipw_get {f : Nat → Nat → Nat} {a b : List Nat} {j x y : Nat} (h1 : a[j]? = some x) (h2 : b[j]? = some y) : (List.zipWith f a b)[j]? = some (f x y) := by
  rw [List.getElem?_zipWith, h1, h2]
end M
namespace M
open PySem L2 Evl
open PyProof.Rows hiding St
theorem codes_cut1 {z : Str} {i : Nat} (h : i ≤ z.length) : codes (cutS z none (some (i : Nat))) = (codes z).take i := by
  have e1 : HT.sIx z.length 0 none = 0 := rfl
  have e2 : HT.sIx z.length z.length (some (i : Int)) = i := by rw [HT.sIx_nat]; exact Nat.min_eq_left h
  unfold codes cutS
  rw [e1, e2]
  simp
theorem codes_cut2 {z : Str} {i : Nat} (h : i ≤ z.length) : codes (cutS z (some ((i : Nat) : Int)) none) = (codes z).drop i := by
  have e1 : HT.sIx z.length 0 (some (i : Int)) = i := by rw [HT.sIx_nat]; exact Nat.min_eq_left h
  have e2 : HT.sIx z.length z.length none = z.length := rfl
  unfold codes cutS
  rw [e1, e2]
  have hl : z.cps.toList.length = z.length := Array.length_toList
  simp only [List.toList_toArray]
  apply List.take_of_length_le
  rw [List.length_drop, hl]
  exact Nat.le_refl _
theorem cut_len {z : Str} {lo hi : Option Int} : (cutS z lo hi).length ≤ z.length := by
  show ((z.cps.toList.drop _).take _).toArray.size ≤ _
  rw [List.size_toArray, List.length_take, List.length_drop]
  have hl : z.cps.toList.length = z.length := Array.length_toList
  omega
end M
namespace M
open PySem L2 Evl
open PyProof.Rows hiding St
theorem join_one : ∀ cs : List Nat, Str.join "" (cs.map fun c => (⟨#[c]⟩ : Str)) = ⟨cs.toArray⟩
  | [] => rfl
  | [c] => rfl
  | c :: c' :: cs => by
    have ih := join_one (c' :: cs)
    show (⟨#[c]⟩ : Str) ++ "" ++ Str.join "" ((c' :: cs).map fun c => (⟨#[c]⟩ : Str)) = _
    rw [ih]
    show (⟨(#[c] ++ #[]) ++ (c' :: cs).toArray⟩ : Str) = _
    congr 1
    apply Array.toList_inj.mp
    simp
theorem txt_one (cs : List Nat) : Txt.join "" (cs.map fun c => (⟨#[c]⟩ : Str)) = ⟨cs.toArray⟩ := by
  have : Txt.join "" (cs.map fun c => (⟨#[c]⟩ : Str)) = Str.join "" (cs.map fun c => (⟨#[c]⟩ : Str)) := PySem.StrLaws.glued_eq_join _ _
  rw [this, join_one]
def oneV (cs : List Nat) : List V := (cs.map fun c => (⟨#[c]⟩ : Str)).map V.str
theorem oneV_app (cs : List Nat) (c : Nat) : oneV (cs ++ [c]) = oneV cs ++ [V.str ⟨#[c]⟩] := by simp [oneV]
theorem oneV_len (cs : List Nat) : (oneV cs).length = cs.length := by simp [oneV]
end M
namespace M
open PySem L2 Evl
open PyProof.Rows hiding St
theorem names3 {k : Int} (h0 : 0 ≤ k) (h3 : k < 3) : ∃ z : Str, atI [V.str "ab", V.str "a", V.str "abc"] k = some (.str z) ∧ Names z := by
  have n1 : Names "ab" := ⟨by unfold Abc; decide +kernel, by decide +kernel, by decide +kernel⟩
  have n2 : Names "a" := ⟨by unfold Abc; decide +kernel, by decide +kernel, by decide +kernel⟩
  have n3 : Names "abc" := ⟨by unfold Abc; decide +kernel, by decide +kernel, by decide +kernel⟩
  rcases (by omega : k = 0 ∨ k = 1 ∨ k = 2) with rfl | rfl | rfl
  · exact ⟨_, rfl, n1⟩
  · exact ⟨_, rfl, n2⟩
  · exact ⟨_, rfl, n3⟩
def dbb2 (b : Bool) : PyData := .list [.bool b, .bool b]
theorem shw_dbb (b : Bool) : Shw (dbb2 b) := by cases b <;> exact ⟨by decide +kernel, by decide +kernel, by decide +kernel, by decide +kernel⟩
end M
namespace M
open PySem L2 Evl
open PyProof.Rows hiding St
theorem op_is_bl {X : Cx} : OpR X (compareOp .Is) (fun x y H Q => ∃ a b, x = .bl a ∧ y = .bl b ∧ Q (.bl (decide (a = b))) H) := by
  intro pins s σ H x y v u Q I rx ry h
  obtain ⟨a, b, rfl, rfl, q⟩ := h
  cases rx
  cases ry
  show wpAny _ _ ((isSame (Value.bool a) (Value.bool b)) >>= fun z => pure (Value.bool z)) _ _ s
  refine wpAny_bind (wpAny_isSame_plain rfl ?_)
  have e : (Value.bool a == Value.bool b) = decide (a = b) := by cases a <;> cases b <;> rfl
  rw [e]
  exact wpAny_pure ⟨.bl _, H, I, rfl, q⟩
end M
namespace M
open PySem L2 Evl
open PyProof.Rows hiding St
theorem iteOF {c : Bool} {A B : Prop} (h : c = false) (b : B) : if c = true then A else B := by subst h; exact b
theorem iteOT {c : Bool} {A B : Prop} (h : c = true) (a : A) : if c = true then A else B := by subst h; exact a
theorem no_same (q : Qn) (r : List Nat) : decide (V.bl (lt (.no q) r) = V.bl (lt q r)) = false := by
  have h : ∀ b : Bool, ¬ (V.bl (!b) = V.bl b) := fun b e => by
    injection e with e
    cases b <;> cases e
  exact decide_eq_false (h (lt q r))
theorem lt_both (a b : Qn) (r : List Nat) : lt (.both a b) r = (lt a r && lt b r) := rfl
theorem bl_ne_self (b : Bool) : (!decide (V.bl b = V.bl b)) = false := by simp
theorem bl_eq_self (b : Bool) : decide (V.bl b = V.bl b) = true := by simp
end M
end

section
set_option Elab.async false
set_option linter.all false
set_option maxRecDepth 100000
/-! patterns of letters, rows without letters, what the texts' own words say of them -/
namespace M
open PySem L2 Evl
open PyProof.Rows hiding St
def pat (cs : List Nat) : Qn := cs.foldl (fun q c => Qn.some q c .any) .any
def bareQ (cs : List Nat) : Qn := cs.foldl (fun q c => Qn.both q (.no (.some .any c .any))) .any
theorem pat_snoc (cs : List Nat) (c : Nat) : pat (cs ++ [c]) = .some (pat cs) c .any := by simp [pat]
theorem bare_snoc (cs : List Nat) (c : Nat) : bareQ (cs ++ [c]) = .both (bareQ cs) (.no (.some .any c .any)) := by simp [bareQ]
theorem some_take {a b : Qn} {c : Nat} {r : List Nat} : lt (.some a c b) r = true ↔ ∃ i, r[i]? = some c ∧ lt a (r.take i) = true ∧ lt b (r.drop (i + 1)) = true := by
  simp only [lt, List.any_eq_true, List.mem_range, Bool.and_eq_true, decide_eq_true_eq]
  constructor
  · rintro ⟨i, _, h⟩; exact ⟨i, h⟩
  · rintro ⟨i, h⟩; exact ⟨i, (List.getElem?_eq_some_iff.mp h.1).1, h⟩
def grd (ls : List Nat) (r : List Nat) : Nat := r.foldl (fun a c => if a < ls.length ∧ ls[a]? = some c then a + 1 else a) 0
theorem grd_snoc (ls r : List Nat) (x : Nat) : grd ls (r ++ [x]) = if grd ls r < ls.length ∧ ls[grd ls r]? = some x then grd ls r + 1 else grd ls r := by
  unfold grd
  rw [List.foldl_append]
  rfl
theorem grd_le (ls : List Nat) (r : List Nat) : ∀ p, p ≤ r.length → grd ls (r.take p) ≤ ls.length
  | 0, _ => by simp [grd]
  | p + 1, h => by
    have ih := grd_le ls r p (by omega)
    rw [take_succ' (show p < r.length by omega), grd_snoc]
    split <;> omega
theorem pat_take (ls r : List Nat) : ∀ p, p ≤ r.length → ∀ k, k ≤ ls.length → (lt (pat (ls.take k)) (r.take p) = true ↔ k ≤ grd ls (r.take p))
  | p, hp, 0, _ => by simp [pat, lt]
  | 0, _, k + 1, hk => by
    rw [take_succ' (show k < ls.length by omega), pat_snoc]
    simp [lt, grd]
  | p + 1, hp, k + 1, hk => by
    have ihp := pat_take ls r p (by omega)
    have step : lt (pat (ls.take (k + 1))) (r.take (p + 1)) = true ↔ lt (pat (ls.take (k + 1))) (r.take p) = true ∨ (r[p]? = some (ls[k]'(by omega)) ∧ lt (pat (ls.take k)) (r.take p) = true) := by
      rw [take_succ' (show k < ls.length by omega), pat_snoc, some_take, some_take]
      constructor
      · rintro ⟨i, h1, h2, _⟩
        have hi : i < p + 1 := by
          have := (List.getElem?_eq_some_iff.mp h1).1
          rw [List.length_take] at this
          omega
        rw [List.getElem?_take, if_pos hi] at h1
        rw [List.take_take, Nat.min_eq_left (by omega)] at h2
        by_cases e : i = p
        · subst e; exact .inr ⟨h1, h2⟩
        · refine .inl ⟨i, ?_, ?_, rfl⟩
          · rw [List.getElem?_take, if_pos (by omega)]; exact h1
          · rw [List.take_take, Nat.min_eq_left (by omega)]; exact h2
      · rintro (⟨i, h1, h2, _⟩ | ⟨h1, h2⟩)
        · have hi : i < p := by
            have := (List.getElem?_eq_some_iff.mp h1).1
            rw [List.length_take] at this
            omega
          rw [List.getElem?_take, if_pos hi] at h1
          rw [List.take_take, Nat.min_eq_left (by omega)] at h2
          refine ⟨i, ?_, ?_, rfl⟩
          · rw [List.getElem?_take, if_pos (by omega)]; exact h1
          · rw [List.take_take, Nat.min_eq_left (by omega)]; exact h2
        · refine ⟨p, ?_, ?_, rfl⟩
          · rw [List.getElem?_take, if_pos (by omega)]; exact h1
          · rw [List.take_take, Nat.min_eq_left (by omega)]; exact h2
    have hpx : p < r.length := by omega
    rw [step, ihp (k + 1) hk, ihp k (by omega), take_succ' hpx, grd_snoc, List.getElem?_eq_getElem hpx]
    have gl := grd_le ls r p (by omega)
    generalize grd ls (r.take p) = g at *
    constructor
    · rintro (h | ⟨h1, h2⟩)
      · split <;> omega
      · by_cases e : k = g
        · subst e
          rw [if_pos ⟨by omega, by rw [List.getElem?_eq_getElem (by omega)]; exact h1.symm⟩]
          omega
        · split <;> omega
    · intro h
      split at h
      · rename_i c
        by_cases e : k = g
        · subst e
          obtain ⟨c1, c2⟩ := c
          rw [List.getElem?_eq_getElem c1] at c2
          exact .inr ⟨c2.symm, Nat.le_refl _⟩
        · exact .inl (by omega)
      · exact .inl h
theorem pat_grd (ls r : List Nat) : lt (pat ls) r = decide (grd ls r = ls.length) := by
  have h := pat_take ls r r.length (Nat.le_refl _) ls.length (Nat.le_refl _)
  have g := grd_le ls r r.length (Nat.le_refl _)
  rw [List.take_length, List.take_length] at h
  rw [List.take_length] at g
  apply Bool.eq_iff_iff.mpr
  rw [h, decide_eq_true_eq]
  omega
theorem grd_rep (n c : Nat) (r : List Nat) : ∀ p, p ≤ r.length → grd (List.replicate n c) (r.take p) = min n ((r.take p).count c)
  | 0, _ => by simp [grd]
  | p + 1, h => by
    have ih := grd_rep n c r p (by omega)
    rw [take_succ' (show p < r.length by omega), grd_snoc, ih, List.count_append, List.length_replicate]
    generalize (r.take p).count c = m
    generalize r[p] = x
    rw [List.getElem?_replicate]
    by_cases e : x = c
    · subst e
      simp only [List.count_singleton_self]
      by_cases hm : m < n
      · rw [if_pos ⟨by omega, by rw [if_pos (by omega)]⟩]; omega
      · rw [if_neg (by omega)]; omega
    · have e2 : List.count c [x] = 0 := by
        rw [List.count_cons]
        simp [e]
      rw [e2, if_neg]
      · omega
      · rintro ⟨h1, h2⟩
        rw [if_pos h1] at h2
        exact e (Option.some.inj h2).symm
theorem pat_rep (n c : Nat) (r : List Nat) : lt (pat (List.replicate n c)) r = decide (n ≤ r.count c) := by
  have g := grd_rep n c r r.length (Nat.le_refl _)
  rw [List.take_length] at g
  rw [pat_grd, g, List.length_replicate]
  apply decide_eq_decide.mpr
  omega
theorem bare_all (r : List Nat) : ∀ (cs : List Nat) (q : Qn), lt (cs.foldl (fun q c => Qn.both q (.no (.some .any c .any))) q) r = true ↔ lt q r = true ∧ ∀ c ∈ cs, c ∉ r
  | [], q => by simp
  | c :: cs, q => by
    rw [List.foldl_cons, bare_all r cs]
    have e : lt (.no (.some .any c .any)) r = true ↔ c ∉ r := by
      simp only [lt, Bool.not_eq_true', ← Bool.not_eq_true]
      apply not_congr
      have := some_take (a := .any) (b := .any) (c := c) (r := r)
      simp only [lt] at this
      rw [this, List.mem_iff_getElem?]
      simp
    have e2 : lt (.both q (.no (.some .any c .any))) r = true ↔ lt q r = true ∧ c ∉ r := by
      rw [← e]; simp only [lt, Bool.and_eq_true]
    rw [e2]
    simp only [List.mem_cons, forall_eq_or_imp, and_assoc]
theorem bare_nil {cs r : List Nat} (h : ∀ x ∈ r, x ∈ cs) : lt (bareQ cs) r = true ↔ r = [] := by
  unfold bareQ
  rw [bare_all]
  constructor
  · rintro ⟨_, h2⟩
    cases r with
    | nil => rfl
    | cons x r => exact absurd (List.mem_cons_self) (h2 x (h x List.mem_cons_self))
  · rintro rfl
    exact ⟨rfl, fun c _ => by simp⟩
theorem bare_is {cs r : List Nat} (h : ∀ x ∈ r, x ∈ cs) : lt (bareQ cs) r = decide (r = []) := by
  apply Bool.eq_iff_iff.mpr
  rw [bare_nil h, decide_eq_true_eq]
theorem starts {cs r : List Nat} {c : Nat} (h : ∀ x ∈ r, x ∈ cs) : lt (.some (bareQ cs) c .any) r = decide (r[0]? = some c) := by
  apply Bool.eq_iff_iff.mpr
  rw [some_take, decide_eq_true_eq]
  constructor
  · rintro ⟨i, h1, h2, _⟩
    rw [bare_nil (fun x hx => h x (List.mem_of_mem_take hx))] at h2
    have hi := (List.getElem?_eq_some_iff.mp h1).1
    have := congrArg List.length h2
    rw [List.length_take, List.length_nil] at this
    obtain rfl : i = 0 := by omega
    exact h1
  · intro h1
    exact ⟨0, h1, (bare_nil (fun x hx => h x (List.mem_of_mem_take hx))).mpr (by simp), rfl⟩
theorem ends_iff {cs r : List Nat} {c : Nat} (h : ∀ x ∈ r, x ∈ cs) : lt (.some .any c (bareQ cs)) r = true ↔ r[r.length - 1]? = some c := by
  rw [some_take]
  constructor
  · rintro ⟨i, h1, _, h2⟩
    rw [bare_nil (fun x hx => h x (List.mem_of_mem_drop hx))] at h2
    have hi := (List.getElem?_eq_some_iff.mp h1).1
    have := congrArg List.length h2
    rw [List.length_drop, List.length_nil] at this
    obtain rfl : i = r.length - 1 := by omega
    exact h1
  · intro h1
    have hi := (List.getElem?_eq_some_iff.mp h1).1
    refine ⟨_, h1, rfl, (bare_nil (fun x hx => h x (List.mem_of_mem_drop hx))).mpr ?_⟩
    apply List.drop_eq_nil_of_le
    omega
theorem ends_is {cs r : List Nat} {c : Nat} (h : ∀ x ∈ r, x ∈ cs) : lt (.some .any c (bareQ cs)) r = decide (r[r.length - 1]? = some c) := by
  apply Bool.eq_iff_iff.mpr
  rw [ends_iff h, decide_eq_true_eq]
theorem near_iff {cs r : List Nat} {c m : Nat} (h : ∀ x ∈ r, x ∈ cs) : lt (.some (.some .any c (bareQ cs)) m .any) r = true ↔ ∃ i, r[i]? = some c ∧ r[i + 1]? = some m := by
  rw [some_take]
  constructor
  · rintro ⟨j, h1, h2, _⟩
    rw [ends_iff (fun x hx => h x (List.mem_of_mem_take hx))] at h2
    have hj := (List.getElem?_eq_some_iff.mp h1).1
    have hl : (r.take j).length = j := by rw [List.length_take]; omega
    have hj2 := (List.getElem?_eq_some_iff.mp h2).1
    rw [hl] at h2 hj2
    rw [List.getElem?_take, if_pos hj2] at h2
    refine ⟨j - 1, h2, ?_⟩
    rw [show j - 1 + 1 = j by omega]
    exact h1
  · rintro ⟨i, h1, h2⟩
    refine ⟨i + 1, h2, ?_, rfl⟩
    have hj := (List.getElem?_eq_some_iff.mp h2).1
    rw [ends_iff (fun x hx => h x (List.mem_of_mem_take hx))]
    have hl : (r.take (i + 1)).length = i + 1 := by rw [List.length_take]; omega
    rw [hl, List.getElem?_take, if_pos (by omega)]
    exact h1
/-! ### texts -/
theorem str_starts (x : Str) (c : Nat) : Txt.startswith x ⟨#[c]⟩ = decide ((codes x)[0]? = some c) := by
  have h := PySem.StrLaws.subAt_one x c 0
  apply Bool.eq_iff_iff.mpr
  rw [decide_eq_true_eq]
  unfold codes
  rw [← h]
  unfold Txt.startswith
  rw [Bool.and_eq_true, decide_eq_true_eq]
theorem str_ends (x : Str) (c : Nat) : Txt.endswith x ⟨#[c]⟩ = decide ((codes x)[(codes x).length - 1]? = some c) := by
  have h := PySem.StrLaws.subAt_one x c (x.length - 1)
  apply Bool.eq_iff_iff.mpr
  rw [decide_eq_true_eq, codes_len]
  unfold codes
  rw [← h]
  unfold Txt.endswith
  rw [Bool.and_eq_true, decide_eq_true_eq]
  have e : (⟨#[c]⟩ : Str).length = 1 := rfl
  rw [e]
  constructor
  · rintro ⟨h1, h2⟩; exact ⟨by omega, h2⟩
  · rintro ⟨h1, h2⟩; exact ⟨by omega, h2⟩
theorem str_in2 (x : Str) (c m : Nat) : (!(Builtin.Str.occurrences x ⟨#[c, m]⟩ 0 x.length 1).isEmpty) = true ↔ ∃ i, (codes x)[i]? = some c ∧ (codes x)[i + 1]? = some m := by
  rw [PySem.StrLaws.found_iff]
  have e : (⟨#[c, m]⟩ : Str).length = 2 := rfl
  have key : ∀ i, (i + (⟨#[c, m]⟩ : Str).length ≤ x.length ∧ Builtin.Str.subAt x ⟨#[c, m]⟩ i = true) ↔ ((codes x)[i]? = some c ∧ (codes x)[i + 1]? = some m) := fun i => by
    rw [PySem.StrLaws.subAt_eq, e]
    show (_ ∧ (((codes x).drop i).take 2 == [c, m]) = true) ↔ _
    rw [beq_iff_eq, ← codes_len]
    generalize codes x = r
    have g0 : r[i]? = (r.drop i)[0]? := by rw [List.getElem?_drop]; rfl
    have g1 : r[i + 1]? = (r.drop i)[1]? := by rw [List.getElem?_drop]
    have gl : i + 2 ≤ r.length ↔ 2 ≤ (r.drop i).length := by rw [List.length_drop]; omega
    rw [g0, g1, gl]
    match r.drop i with
    | [] => simp
    | [a] => simp
    | a :: b :: l => simp
  constructor
  · rintro ⟨i, h⟩; exact ⟨i, (key i).mp h⟩
  · rintro ⟨i, h⟩; exact ⟨i, (key i).mpr h⟩
theorem none_at {r : List Nat} {c : Nat} : ∀ (n a : Nat), (∀ k, a ≤ k → k < a + n → r[k]? ≠ some c) → (r.drop a).count c = (r.drop (a + n)).count c
  | 0, a, _ => rfl
  | n + 1, a, h => by
    have ih := none_at n (a + 1) (fun k h1 h2 => h k (by omega) (by omega))
    rw [show a + (n + 1) = a + 1 + n by omega, ← ih]
    by_cases ha : a < r.length
    · rw [List.drop_eq_getElem_cons ha, List.count_cons]
      have h1 := h a (Nat.le_refl _) (by omega)
      rw [List.getElem?_eq_getElem ha] at h1
      have h2 : ¬ (r[a] == c) = true := fun z => h1 (by rw [eq_of_beq z])
      rw [if_neg h2, Nat.add_zero]
    · rw [List.drop_eq_nil_of_le (by omega), List.drop_eq_nil_of_le (by omega)]
theorem chain_count {x : Str} {c : Nat} : ∀ (os : List Nat) (a f : Nat), PySem.StrLaws.ChainG x ⟨#[c]⟩ x.length a os f → (∀ k, f ≤ k → ¬ PySem.StrLaws.At x ⟨#[c]⟩ x.length k) → os.length = ((codes x).drop a).count c
  | [], a, f, h, hn => by
    obtain rfl : f = a := h
    have z := none_at (r := codes x) (c := c) (codes x).length f (fun k h1 _ h2 => hn k h1 ((PySem.StrLaws.subAt_one x c k).mpr h2))
    rw [z, List.drop_eq_nil_of_le (by omega)]
    rfl
  | o :: os, a, f, h, hn => by
    obtain ⟨h1, h2, h3, h4⟩ := h
    have ih := chain_count os (o + 1) f h4 hn
    have hc : (codes x)[o]? = some c := (PySem.StrLaws.subAt_one x c o).mp h2
    obtain ⟨ho, e⟩ := List.getElem?_eq_some_iff.mp hc
    have z := none_at (r := codes x) (c := c) (o - a) a (fun k k1 k2 k3 => h3 k k1 (by omega) ((PySem.StrLaws.subAt_one x c k).mpr k3))
    rw [z, show a + (o - a) = o by omega, List.drop_eq_getElem_cons ho, e, List.count_cons_self, ← ih]
    rfl
theorem str_count (x : Str) (c : Nat) : Txt.count x ⟨#[c]⟩ = (((codes x).count c : Nat) : Int) := by
  obtain ⟨f, g, hn⟩ := PySem.StrLaws.occ_tight x ⟨#[c]⟩ (Nat.le_refl 1)
  have := chain_count _ 0 f g hn
  rw [List.drop_zero] at this
  unfold Txt.count
  rw [this]
theorem codes_mul (c : Nat) (n : Int) : codes (Txt.mul ⟨#[c]⟩ n) = List.replicate n.toNat c := PyProof.Rows.mul_one_list c n
end M
namespace M
open PySem L2 Evl
open PyProof.Rows hiding St
theorem for_str {x : Str} {g : TG} {tb : TS} {D : Ends} {σ : L2.St} {H : Hp} (Pv : Nat → L2.St → Hp → Prop) (h0 : Pv 0 σ H)
    (hs : ∀ i c σ H, x.cps[i]? = some c → Pv i σ H → g (.str ⟨#[c]⟩) σ H fun σ2 H2 => tb { D with nx := Pv (i + 1), ct := Pv (i + 1), bk := D.nx } σ2 H2)
    (hd : ∀ σ H, Pv x.cps.size σ H → D.nx σ H) :
    ∃ W : Nat → Nat → L2.St → Hp → Prop, (∃ m, W 0 m σ H) ∧ ∀ i m σ H, W i m σ H →
      ((Its x).stop i H ∧ D.nx σ H) ∨ ((Its x).go i H ∧ ∃ N : L2.St → Hp → Prop, (∀ σ' H', N σ' H' → ∃ m', m' < m ∧ W (i + 1) m' σ' H') ∧ ∀ v H', (Its x).yld i H v H' → g v σ H' fun σ2 H2 => tb { D with nx := N, ct := N, bk := D.nx } σ2 H2) := by
  refine ⟨fun i m σ H => m = x.cps.size - i ∧ i ≤ x.cps.size ∧ Pv i σ H, ⟨_, rfl, Nat.zero_le _, h0⟩, ?_⟩
  rintro i _ σ H ⟨rfl, le, p⟩
  rcases Nat.lt_or_ge i x.cps.size with lt | ge
  · right
    refine ⟨lt, Pv (i + 1), fun σ' H' q => ⟨_, by omega, rfl, lt, q⟩, ?_⟩
    rintro v H' ⟨rfl, c, hc, rfl⟩
    exact hs i c σ _ hc p
  · obtain rfl : i = x.cps.size := Nat.le_antisymm le ge
    exact .inl ⟨Nat.le_refl _, hd _ _ p⟩
def sp_pattern (K : PySem.W.Frag) : Sp := fun vs H Q _ => ∃ z : Str, vs = [.str z] ∧ ∀ v H', Ex H H' → Dp K H' v (pat (codes z)).d → Q v H'
def sp_bare (K : PySem.W.Frag) : Sp := fun vs H Q _ => ∃ (H0 : Hp) (p : Addr) (m : Nat) (z : Str), vs = [.str z] ∧ Pl H0 H p m ∧ ∀ v H1 H', Ex H0 H1 → Pl H1 H' p m → Dp K H1 v (bareQ (codes z)).d → Q v H'
def sp_has : Sp := fun vs H Q _ => ∃ (z y : Str), vs = [.str z, .str y] ∧ y.length ≤ 100 ∧ Q (.bl (decide (grd (codes y) (codes z) = (codes y).length))) H
theorem names2 {k : Int} (h0 : 0 ≤ k) (h3 : k < 2) : ∃ z : Str, atI [V.str "ab", V.str "abc"] k = some (.str z) ∧ Names z ∧ z.length ≤ 3 := by
  have n1 : Names "ab" := ⟨by unfold Abc; decide +kernel, by decide +kernel, by decide +kernel⟩
  have n3 : Names "abc" := ⟨by unfold Abc; decide +kernel, by decide +kernel, by decide +kernel⟩
  rcases (by omega : k = 0 ∨ k = 1) with rfl | rfl
  · exact ⟨_, rfl, n1, by decide +kernel⟩
  · exact ⟨_, rfl, n3, by decide +kernel⟩
theorem pat_ok : ∀ (cs : List Nat) (q : Qn), q.Ok → (∀ c ∈ cs, 97 ≤ c ∧ c ≤ 122) → (cs.foldl (fun q c => Qn.some q c .any) q).Ok
  | [], q, h, _ => h
  | c :: cs, q, h, g => by
    rw [List.foldl_cons]
    exact pat_ok cs _ ⟨h, g c List.mem_cons_self, trivial⟩ fun d hd => g d (List.mem_cons_of_mem _ hd)
theorem bare_ok : ∀ (cs : List Nat) (q : Qn), q.Ok → (∀ c ∈ cs, 97 ≤ c ∧ c ≤ 122) → (cs.foldl (fun q c => Qn.both q (.no (.some .any c .any))) q).Ok
  | [], q, h, _ => h
  | c :: cs, q, h, g => by
    rw [List.foldl_cons]
    exact bare_ok cs _ ⟨h, trivial, g c List.mem_cons_self, trivial⟩ fun d hd => g d (List.mem_cons_of_mem _ hd)
theorem pat_parts : ∀ (cs : List Nat) (q : Qn), (cs.foldl (fun q c => Qn.some q c .any) q).parts = q.parts + 2 * cs.length
  | [], q => rfl
  | c :: cs, q => by
    rw [List.foldl_cons, pat_parts cs]
    simp only [Qn.parts, List.length_cons]
    omega
theorem bare_parts : ∀ (cs : List Nat) (q : Qn), (cs.foldl (fun q c => Qn.both q (.no (.some .any c .any))) q).parts = q.parts + 5 * cs.length
  | [], q => rfl
  | c :: cs, q => by
    rw [List.foldl_cons, bare_parts cs]
    simp only [Qn.parts, List.length_cons]
    omega
end M
namespace M
open PySem L2 Evl
open PyProof.Rows hiding St
theorem mul6 {c : Nat} {n : Int} (h0 : 1 ≤ n) (h1 : n ≤ 6) : MulOk ⟨#[c]⟩ n := by
  have e : (⟨#[c]⟩ : Str).length = 1 := rfl
  unfold MulOk
  rw [e]
  rcases (by omega : n = 1 ∨ n = 2 ∨ n = 3 ∨ n = 4 ∨ n = 5 ∨ n = 6) with rfl | rfl | rfl | rfl | rfl | rfl <;> decide +kernel
theorem ne_F {a b : Bool} (h : a = b) : (!decide (V.bl a = V.bl b)) = false := by rw [h]; simp
theorem eq_T {a b : Bool} (h : a = b) : decide (V.bl a = V.bl b) = true := by rw [h]; simp
theorem cnt_ge {k : Nat} {n : Int} (h : 0 ≤ n) : decide (n.toNat ≤ k) = decide ((k : Int) ≥ n) := by
  apply decide_eq_decide.mpr
  omega
theorem str_nil {z : Str} : decide (V.str z = V.str "") = decide (codes z = []) := by
  apply decide_eq_decide.mpr
  constructor
  · intro h
    injection h with h
    rw [h]; rfl
  · intro h
    congr 1
    cases z with
    | mk a =>
      have : a.toList = [] := h
      have : a = #[] := Array.toList_inj.mp this
      rw [this]; rfl
end M
end

section
set_option Elab.async false
set_option linter.all false
set_option maxRecDepth 100000
namespace Lw
open PySem L2 Evl M
open PyProof.Rows hiding St
def top (i : Nat) : Stmt := PySem.Challenge.pw_pickdepths_k14_questions_of_long_rows.main.body.getD i (.Pass ⟨0, 0, 0, 0⟩)
abbrev s_is_letter : Stmt := top 5
theorem sc_is_letter : FnScope ["sign"] ["sign"] (defScope s_is_letter) := ⟨rfl, rfl, rfl, by decide +kernel, rfl, by decide +kernel, by decide +kernel⟩
abbrev s_check_row : Stmt := top 6
theorem sc_check_row : FnScope ["row", "index", "sign"] ["row"] (defScope s_check_row) := ⟨rfl, rfl, rfl, by decide +kernel, rfl, by decide +kernel, by decide +kernel⟩
abbrev s_is_question : Stmt := top 9
theorem sc_is_question : FnScope ["value", "waiting", "part"] ["value"] (defScope s_is_question) := ⟨rfl, rfl, rfl, by decide +kernel, rfl, by decide +kernel, by decide +kernel⟩
abbrev s_parts_of : Stmt := top 10
theorem sc_parts_of : FnScope ["question", "parts", "waiting", "part"] ["question"] (defScope s_parts_of) := ⟨rfl, rfl, rfl, by decide +kernel, rfl, by decide +kernel, by decide +kernel⟩
abbrev s_inner_questions : Stmt := top 11
theorem sc_inner_questions : FnScope ["part"] ["part"] (defScope s_inner_questions) := ⟨rfl, rfl, rfl, by decide +kernel, rfl, by decide +kernel, by decide +kernel⟩
abbrev s_has_form : Stmt := top 12
theorem sc_has_form : FnScope ["value", "word"] ["value"] (defScope s_has_form) := ⟨rfl, rfl, rfl, by decide +kernel, rfl, by decide +kernel, by decide +kernel⟩
abbrev s_is_one_letter : Stmt := top 13
theorem sc_is_one_letter : FnScope ["value"] ["value"] (defScope s_is_one_letter) := ⟨rfl, rfl, rfl, by decide +kernel, rfl, by decide +kernel, by decide +kernel⟩
abbrev s_check_question : Stmt := top 14
theorem sc_check_question : FnScope ["question"] ["question"] (defScope s_check_question) := ⟨rfl, rfl, rfl, by decide +kernel, rfl, by decide +kernel, by decide +kernel⟩
abbrev s_table_of : Stmt := top 16
theorem sc_table_of : FnScope ["question", "asked", "tables", "part"] ["question", "asked"] (defScope s_table_of) := ⟨rfl, rfl, rfl, by decide +kernel, rfl, by decide +kernel, by decide +kernel⟩
abbrev s_table_of_part : Stmt := top 17
theorem sc_table_of_part : FnScope ["part", "tables", "asked", "word", "first", "second", "whole", "told", "other"] ["part", "tables", "asked"] (defScope s_table_of_part) := ⟨rfl, rfl, rfl, by decide +kernel, rfl, by decide +kernel, by decide +kernel⟩
abbrev s_Stretches___init__ : Stmt := inClass (top 18) 0
theorem sc_Stretches___init__ : FnScope ["self", "row", "most", "start"] ["self", "row"] (defScope s_Stretches___init__) := ⟨rfl, rfl, rfl, by decide +kernel, rfl, by decide +kernel, by decide +kernel⟩
abbrev s_Stretches_met : Stmt := inClass (top 18) 1
theorem sc_Stretches_met : FnScope ["self", "ahead", "letter", "behind", "table", "place", "sign", "ends", "start"] ["self", "ahead", "letter", "behind"] (defScope s_Stretches_met) := ⟨rfl, rfl, rfl, by decide +kernel, rfl, by decide +kernel, by decide +kernel⟩
abbrev s_holds : Stmt := top 19
theorem sc_holds : FnScope ["table", "start", "end"] ["table", "start", "end"] (defScope s_holds) := ⟨rfl, rfl, rfl, by decide +kernel, rfl, by decide +kernel, by decide +kernel⟩
abbrev s_lets : Stmt := top 21
theorem sc_lets : FnScope ["row", "question"] ["row", "question"] (defScope s_lets) := ⟨rfl, rfl, rfl, by decide +kernel, rfl, by decide +kernel, by decide +kernel⟩
abbrev s_row_lets : Stmt := top 22
theorem sc_row_lets : FnScope ["row", "question"] ["row", "question"] (defScope s_row_lets) := ⟨rfl, rfl, rfl, by decide +kernel, rfl, by decide +kernel, by decide +kernel⟩
abbrev s__law_pool : Stmt := top 24
theorem sc__law_pool : FnScope ["script", "spot", "cell"] ["script", "spot"] (defScope s__law_pool) := ⟨rfl, rfl, rfl, by decide +kernel, rfl, by decide +kernel, by decide +kernel⟩
abbrev s__law_draw : Stmt := top 25
theorem sc__law_draw : FnScope ["pool", "span", "drawn", "mixed"] ["pool", "span"] (defScope s__law_draw) := ⟨rfl, rfl, rfl, by decide +kernel, rfl, by decide +kernel, by decide +kernel⟩
abbrev s__law_line : Stmt := top 26
theorem sc__law_line : FnScope ["pool", "names", "longest", "turn"] ["pool", "names", "longest"] (defScope s__law_line) := ⟨rfl, rfl, rfl, by decide +kernel, rfl, by decide +kernel, by decide +kernel⟩
abbrev s__law_pattern : Stmt := top 27
theorem sc__law_pattern : FnScope ["letters_here", "found", "letter"] ["letters_here"] (defScope s__law_pattern) := ⟨rfl, rfl, rfl, by decide +kernel, rfl, by decide +kernel, by decide +kernel⟩
abbrev s__law_has : Stmt := top 28
theorem sc__law_has : FnScope ["line", "letters_here", "at", "letter"] ["line", "letters_here"] (defScope s__law_has) := ⟨rfl, rfl, rfl, by decide +kernel, rfl, by decide +kernel, by decide +kernel⟩
abbrev s__law_bare : Stmt := top 29
theorem sc__law_bare : FnScope ["names", "found", "letter"] ["names"] (defScope s__law_bare) := ⟨rfl, rfl, rfl, by decide +kernel, rfl, by decide +kernel, by decide +kernel⟩
abbrev s__law_fits : Stmt := top 30
theorem sc__law_fits : FnScope ["pool", "names", "line", "bare", "letters_here", "due", "letter", "span", "mate", "near"] ["pool"] (defScope s__law_fits) := ⟨rfl, rfl, rfl, by decide +kernel, rfl, by decide +kernel, by decide +kernel⟩
abbrev s_law : Stmt := top 31
theorem sc_law : FnScope ["script", "spot", "pool", "turn"] ["script"] (defScope s_law) := ⟨rfl, rfl, rfl, by decide +kernel, rfl, by decide +kernel, by decide +kernel⟩
structure Tx (w : World) (K : PySem.W.Frag) (mg : Str → Option Value) where
  a_is_letter : Addr
  d_is_letter : FuncData
  g_is_letter : mg "is_letter" = some (.ref a_is_letter)
  F_is_letter : Fun K "is_letter" "is_letter" s_is_letter a_is_letter d_is_letter
  b_is_letter : Binds K d_is_letter ["sign"] []
  a_check_row : Addr
  d_check_row : FuncData
  g_check_row : mg "check_row" = some (.ref a_check_row)
  F_check_row : Fun K "check_row" "check_row" s_check_row a_check_row d_check_row
  b_check_row : Binds K d_check_row ["row"] []
  a_is_question : Addr
  d_is_question : FuncData
  g_is_question : mg "is_question" = some (.ref a_is_question)
  F_is_question : Fun K "is_question" "is_question" s_is_question a_is_question d_is_question
  b_is_question : Binds K d_is_question ["value"] []
  a_parts_of : Addr
  d_parts_of : FuncData
  g_parts_of : mg "parts_of" = some (.ref a_parts_of)
  F_parts_of : Fun K "parts_of" "parts_of" s_parts_of a_parts_of d_parts_of
  b_parts_of : Binds K d_parts_of ["question"] []
  a_inner_questions : Addr
  d_inner_questions : FuncData
  g_inner_questions : mg "inner_questions" = some (.ref a_inner_questions)
  F_inner_questions : Fun K "inner_questions" "inner_questions" s_inner_questions a_inner_questions d_inner_questions
  b_inner_questions : Binds K d_inner_questions ["part"] []
  a_has_form : Addr
  d_has_form : FuncData
  g_has_form : mg "has_form" = some (.ref a_has_form)
  F_has_form : Fun K "has_form" "has_form" s_has_form a_has_form d_has_form
  b_has_form : Binds K d_has_form ["value"] []
  a_is_one_letter : Addr
  d_is_one_letter : FuncData
  g_is_one_letter : mg "is_one_letter" = some (.ref a_is_one_letter)
  F_is_one_letter : Fun K "is_one_letter" "is_one_letter" s_is_one_letter a_is_one_letter d_is_one_letter
  b_is_one_letter : Binds K d_is_one_letter ["value"] []
  a_check_question : Addr
  d_check_question : FuncData
  g_check_question : mg "check_question" = some (.ref a_check_question)
  F_check_question : Fun K "check_question" "check_question" s_check_question a_check_question d_check_question
  b_check_question : Binds K d_check_question ["question"] []
  a_table_of : Addr
  d_table_of : FuncData
  g_table_of : mg "table_of" = some (.ref a_table_of)
  F_table_of : Fun K "table_of" "table_of" s_table_of a_table_of d_table_of
  b_table_of : Binds K d_table_of ["question", "asked"] []
  a_table_of_part : Addr
  d_table_of_part : FuncData
  g_table_of_part : mg "table_of_part" = some (.ref a_table_of_part)
  F_table_of_part : Fun K "table_of_part" "table_of_part" s_table_of_part a_table_of_part d_table_of_part
  b_table_of_part : Binds K d_table_of_part ["part", "tables", "asked"] []
  a_Stretches___init__ : Addr
  d_Stretches___init__ : FuncData
  F_Stretches___init__ : Fun K "__init__" "Stretches.__init__" s_Stretches___init__ a_Stretches___init__ d_Stretches___init__
  b_Stretches___init__ : Binds K d_Stretches___init__ ["self", "row"] []
  a_Stretches_met : Addr
  d_Stretches_met : FuncData
  F_Stretches_met : Fun K "met" "Stretches.met" s_Stretches_met a_Stretches_met d_Stretches_met
  b_Stretches_met : Binds K d_Stretches_met ["self", "ahead", "letter", "behind"] []
  a_holds : Addr
  d_holds : FuncData
  g_holds : mg "holds" = some (.ref a_holds)
  F_holds : Fun K "holds" "holds" s_holds a_holds d_holds
  b_holds : Binds K d_holds ["table", "start", "end"] []
  a_lets : Addr
  d_lets : FuncData
  g_lets : mg "lets" = some (.ref a_lets)
  F_lets : Fun K "lets" "lets" s_lets a_lets d_lets
  b_lets : Binds K d_lets ["row", "question"] []
  a_row_lets : Addr
  d_row_lets : FuncData
  g_row_lets : mg "row_lets" = some (.ref a_row_lets)
  F_row_lets : Fun K "row_lets" "row_lets" s_row_lets a_row_lets d_row_lets
  b_row_lets : Binds K d_row_lets ["row", "question"] []
  a__law_pool : Addr
  d__law_pool : FuncData
  g__law_pool : mg "_law_pool" = some (.ref a__law_pool)
  F__law_pool : Fun K "_law_pool" "_law_pool" s__law_pool a__law_pool d__law_pool
  b__law_pool : Binds K d__law_pool ["script", "spot"] []
  a__law_draw : Addr
  d__law_draw : FuncData
  g__law_draw : mg "_law_draw" = some (.ref a__law_draw)
  F__law_draw : Fun K "_law_draw" "_law_draw" s__law_draw a__law_draw d__law_draw
  b__law_draw : Binds K d__law_draw ["pool", "span"] []
  a__law_line : Addr
  d__law_line : FuncData
  g__law_line : mg "_law_line" = some (.ref a__law_line)
  F__law_line : Fun K "_law_line" "_law_line" s__law_line a__law_line d__law_line
  b__law_line : Binds K d__law_line ["pool", "names", "longest"] []
  a__law_pattern : Addr
  d__law_pattern : FuncData
  g__law_pattern : mg "_law_pattern" = some (.ref a__law_pattern)
  F__law_pattern : Fun K "_law_pattern" "_law_pattern" s__law_pattern a__law_pattern d__law_pattern
  b__law_pattern : Binds K d__law_pattern ["letters_here"] []
  a__law_has : Addr
  d__law_has : FuncData
  g__law_has : mg "_law_has" = some (.ref a__law_has)
  F__law_has : Fun K "_law_has" "_law_has" s__law_has a__law_has d__law_has
  b__law_has : Binds K d__law_has ["line", "letters_here"] []
  a__law_bare : Addr
  d__law_bare : FuncData
  g__law_bare : mg "_law_bare" = some (.ref a__law_bare)
  F__law_bare : Fun K "_law_bare" "_law_bare" s__law_bare a__law_bare d__law_bare
  b__law_bare : Binds K d__law_bare ["names"] []
  a__law_fits : Addr
  d__law_fits : FuncData
  g__law_fits : mg "_law_fits" = some (.ref a__law_fits)
  F__law_fits : Fun K "_law_fits" "_law_fits" s__law_fits a__law_fits d__law_fits
  b__law_fits : Binds K d__law_fits ["pool"] []
  a_law : Addr
  d_law : FuncData
  g_law : mg "law" = some (.ref a_law)
  F_law : Fun K "law" "law" s_law a_law d_law
  b_law : Binds K d_law ["script"] []
  a_Stretches : Addr
  g_Stretches : mg "Stretches" = some (.ref a_Stretches)
  C_Stretches : Cls K a_Stretches
  M_Stretches : Mk K a_Stretches a_Stretches___init__
  m_Stretches_met : Meth K a_Stretches "met" a_Stretches_met
  n_Stretches_row : NoAttr K a_Stretches "row"
  n_Stretches_whole : NoAttr K a_Stretches "whole"
  b_abs : mg "abs" = none
  b_enumerate : mg "enumerate" = none
  b_int : mg "int" = none
  b_isinstance : mg "isinstance" = none
  b_len : mg "len" = none
  b_list : mg "list" = none
  b_max : mg "max" = none
  b_min : mg "min" = none
  b_range : mg "range" = none
  b_reversed : mg "reversed" = none
  b_str : mg "str" = none
  b_tuple : mg "tuple" = none
  b_zip : mg "zip" = none
  a_SIZES : Addr
  g_SIZES : mg "SIZES" = some (.ref a_SIZES)
  ki_SIZES : KInts K w a_SIZES (fun z => List.lookup z [(("any" : Str), 1), (("not" : Str), 2), (("both" : Str), 3), (("some" : Str), 4)])
  bl : ∀ (s : Shared) (u : Value), BindsTo s d_law ⟨[u], []⟩ [("script", u)]
section
variable {P : Program} {w : World} {K : PySem.W.Frag} {mg : Str → Option Value} {base : Heap}
end
end Lw
end

section
set_option Elab.async false
set_option linter.all false
set_option maxRecDepth 100000
set_option maxHeartbeats 4000000
set_option pp.maxSteps 300
set_option pp.deepTerms false
namespace Lw
open PySem L2 Evl M
open PyProof.Rows hiding St
local macro_rules | `(tactic| walk_at "at") => `(tactic| first | assumption | exact upd_same)
local macro_rules | `(tactic| walk_at "sq") => `(tactic| first | assumption | exact SqL.of (by walk_at "at") | exact SqT.of (by walk_at "at"))
local macro_rules | `(tactic| walk_at "sd") => `(tactic| first | assumption | exact Names.size (by assumption) | omega | decide | exact Nat.le_of_ble_eq_true rfl | exact Or.inl ⟨by decide, by decide⟩ | exact wide_div (b := 200) (by first | assumption | decide) (by first | assumption | decide) (by decide) (by decide) | exact pow_w 10 (by decide) (by decide) (by decide) (by decide))
local macro_rules | `(tactic| walk_at "r1") => `(tactic| first
  | refine ⟨_, rfl, ?_⟩
  | refine ⟨_, _, rfl, rfl, ?_⟩
  | refine And.intro rfl ?_
  | refine ⟨_, _, _, _, rfl, rfl, (by walk_at "sq"), rfl, ?_⟩
  | refine ⟨_, _, _, _, rfl, rfl, (by walk_at "at"), rfl, ?_⟩
  | refine ⟨_, _, rfl, Or.inl (by walk_at "sq"), ?_⟩
  | refine ⟨_, _, rfl, Or.inr (by walk_at "sq"), ?_⟩
  | refine ⟨_, _, rfl, ?_⟩
  | refine Or.inl ⟨_, rfl, ?_⟩
  | refine And.intro (by walk_at "sd") ?_)
local macro_rules | `(tactic| walk_at "rd") => `(tactic| try (walk_at "r1"; walk_at "rd"))
section
variable {P : Program} {w : World} {K : PySem.W.Frag} {mg : Str → Option Value} {base : Heap}
theorem ok__law_draw (T : Tx w K mg) : FnOk P w K mg base CX0 1 T.a__law_draw T.d__law_draw ["pool", "span"] sp_draw := by
  refine T.F__law_draw.ok sc__law_draw (fun vs H Q E h => ?_) (fun cdv A outer s H vs Q E hr h => ?_)
  · obtain ⟨_, _, _, _, rfl, _⟩ := h
    rfl
  obtain ⟨H0, p, m, n, rfl, hP, hm, n0, nb, k⟩ := h
  obtain ⟨a, b, c, hp, a0, b0, b1, c0, c1⟩ := hP.at_
  refine ⟨_, (pss_cons (ps_if (pt_cmpR op_gt (pe_ix ix_list (pv 0) pe_int (fun _ _ => rfl)) pe_int (nomark _)) (pss_cons (ps_set (i := 2) sc__law_draw.nd rfl (Or.inl rfl) (pe_op op_mod (pe_callTy call_int1 (by rfl) T.b_int (by decide +kernel) (pa_cons (pe_ix ix_list (pv 0) pe_int (fun _ _ => rfl)) pa_nil)) (pv 1)))
   (pss_cons (ps_asg (pe_op op_fdivW (pe_ix ix_list (pv 0) pe_int (fun _ _ => rfl)) (pv 1)) (pg_sub (pv 0) pe_int set_list))
   (pss_one (ps_ret (pv 2))))) pss_nil)
   (pss_cons (ps_asg (pe_op op_add (pe_ix ix_list (pv 0) pe_int (fun _ _ => rfl)) pe_int) (pg_sub (pv 0) pe_int set_list))
   (pss_cons (ps_set (i := 3) sc__law_draw.nd rfl (Or.inl rfl) (pe_op op_mod (pe_callTy call_int1 (by rfl) T.b_int (by decide +kernel) (pa_cons (pe_op M.op_powW (pe_op op_add (pe_ix ix_list (pv 0) pe_int (fun _ _ => rfl)) (pe_op op_mul pe_int (pe_ix ix_list (pv 0) pe_int (fun _ _ => rfl)))) pe_int) pa_nil)) pe_int))
   (pss_cons (ps_set (i := 3) sc__law_draw.nd rfl (Or.inl rfl) (pe_op op_mod (pe_callTy call_int1 (by rfl) T.b_int (by decide +kernel) (pa_cons (pe_op M.op_powW (pe_op op_add (pv 3) (pe_op op_mul pe_int (pe_ix ix_list (pv 0) pe_int (fun _ _ => rfl)))) pe_int) pa_nil)) pe_int))
   (pss_one (ps_ret (pe_op op_mod (pe_callTy call_int1 (by rfl) T.b_int (by decide +kernel) (pa_cons (pe_op op_fdivW (pv 3) pe_int) pa_nil)) (pv 1)))))))), ?_⟩
  walk_at "rd"
  refine ite2 (fun q => ?_) (fun q => ?_)
  · walk_at "rd"
    have q1 : 0 < a := of_decide_eq_true q
    refine k _ _ (Int.emod_nonneg _ (by omega)) (Int.emod_lt_of_pos _ n0) ⟨hP.ex.mut hP.out, hP.out, a / n, b, c, ?_, Int.ediv_nonneg a0 (by omega), b0, b1, c0, by omega⟩ (fun b' h => upd_ne h)
    rw [upd_same]; rfl
  · walk_at "rd"
    refine ⟨pow_w 64 (by omega) (by decide) (by decide) (by decide), ?_⟩
    walk_at "rd"
    refine ⟨pow_w 128 ?_ (by decide) (by decide) (by decide), ?_⟩
    · have e := Int.emod_lt_of_pos ((b + 15485863 * (c + 1)) ^ Int.toNat 3) (show (0 : Int) < 162259276829213363391578010288127 by decide)
      have e0 := Int.emod_nonneg ((b + 15485863 * (c + 1)) ^ Int.toNat 3) (show (162259276829213363391578010288127 : Int) ≠ 0 by decide)
      generalize (b + 15485863 * (c + 1)) ^ Int.toNat 3 % 162259276829213363391578010288127 = x at e e0
      show (x + 32452843 * (c + 1)).natAbs < 2 ^ 128
      have : (2 : Nat) ^ 128 = 340282366920938463463374607431768211456 := by decide
      omega
    walk_at "rd"
    refine k _ _ (Int.emod_nonneg _ (by omega)) (Int.emod_lt_of_pos _ n0) ⟨hP.ex.mut hP.out, hP.out, a, b, c + 1, ?_, a0, b0, b1, by omega, by omega⟩ (fun b' h => upd_ne h)
    rw [upd_same]; rfl

end
end Lw
end

section
set_option Elab.async false
set_option linter.all false
set_option maxRecDepth 100000
set_option maxHeartbeats 4000000
set_option pp.maxSteps 300
set_option pp.deepTerms false
namespace Lw
open PySem L2 Evl M
open PyProof.Rows hiding St
local macro_rules | `(tactic| walk_at "at") => `(tactic| first | assumption | exact upd_same)
local macro_rules | `(tactic| walk_at "sq") => `(tactic| first | assumption | exact SqL.of (by walk_at "at") | exact SqT.of (by walk_at "at"))
local macro_rules | `(tactic| walk_at "sd") => `(tactic| first | assumption | exact Names.size (by assumption) | omega | decide | exact Nat.le_of_ble_eq_true rfl | exact Or.inl ⟨by decide, by decide⟩ | exact wide_div (b := 200) (by first | assumption | decide) (by first | assumption | decide) (by decide) (by decide) | exact pow_w 10 (by decide) (by decide) (by decide) (by decide))
local macro_rules | `(tactic| walk_at "r1") => `(tactic| first
  | refine ⟨_, rfl, ?_⟩
  | refine ⟨_, _, rfl, rfl, ?_⟩
  | refine And.intro rfl ?_
  | refine ⟨_, _, _, _, rfl, rfl, (by walk_at "sq"), rfl, ?_⟩
  | refine ⟨_, _, _, _, rfl, rfl, (by walk_at "at"), rfl, ?_⟩
  | refine ⟨_, _, rfl, Or.inl (by walk_at "sq"), ?_⟩
  | refine ⟨_, _, rfl, Or.inr (by walk_at "sq"), ?_⟩
  | refine ⟨_, _, rfl, ?_⟩
  | refine Or.inl ⟨_, rfl, ?_⟩
  | refine And.intro (by walk_at "sd") ?_)
local macro_rules | `(tactic| walk_at "rd") => `(tactic| try (walk_at "r1"; walk_at "rd"))
section
variable {P : Program} {w : World} {K : PySem.W.Frag} {mg : Str → Option Value} {base : Heap}
theorem ok_is_letter (T : Tx w K mg) : FnOk P w K mg base CX0 1 T.a_is_letter T.d_is_letter ["sign"] sp_is_letter := by
  refine T.F_is_letter.ok sc_is_letter (fun vs H Q E h => ?_) (fun cdv A outer s H vs Q E hr h => ?_)
  · obtain ⟨_, rfl, _⟩ := h
    rfl
  obtain ⟨c, rfl, k⟩ := h
  have lt : ∀ a b : Nat, (([a] : List Nat) < [b]) ↔ a < b := fun a b => by
    rw [List.cons_lt_cons_iff]
    exact ⟨fun h => h.elim id fun z => absurd z.2 (List.lt_irrefl _), Or.inl⟩
  have la : (Str.ofString "a").cps.toList = [97] := by decide +kernel
  have lz : (Str.ofString "z").cps.toList = [122] := by decide +kernel
  refine ⟨_, (pss_one (ps_ret (pe_chain op_le_str op_le_str pe_str (pv 0) pe_str))), ?_⟩
  walk_at "rd"
  rw [la]
  refine iteND (fun e1 => ?_) (fun e1 => ?_)
  · have e1 : ¬ c < 97 := fun z => e1 ((lt _ _).mpr z)
    walk_at "rd"
    show Q (V.bl (!decide ((Str.ofString "z").cps.toList < [c]))) H
    rw [lz]
    have e : (!decide (([122] : List Nat) < [c])) = decide (97 ≤ c ∧ c ≤ 122) := by
      by_cases h : 122 < c
      · rw [decide_eq_true ((lt _ _).mpr h), decide_eq_false (by omega)]; rfl
      · rw [decide_eq_false (fun z => h ((lt _ _).mp z)), decide_eq_true (by omega)]; rfl
    rw [e]
    exact k
  · have e1 : c < 97 := (lt _ _).mp e1
    show Q (V.bl false) H
    rw [← (decide_eq_false (by omega) : decide (97 ≤ c ∧ c ≤ 122) = false)]
    exact k

end
end Lw
end

section
set_option Elab.async false
set_option linter.all false
set_option maxRecDepth 100000
set_option maxHeartbeats 4000000
set_option pp.maxSteps 300
set_option pp.deepTerms false
namespace Lw
open PySem L2 Evl M
open PyProof.Rows hiding St
local macro_rules | `(tactic| walk_at "at") => `(tactic| first | assumption | exact upd_same)
local macro_rules | `(tactic| walk_at "sq") => `(tactic| first | assumption | exact SqL.of (by walk_at "at") | exact SqT.of (by walk_at "at"))
local macro_rules | `(tactic| walk_at "sd") => `(tactic| first | assumption | exact Names.size (by assumption) | omega | decide | exact Nat.le_of_ble_eq_true rfl | exact Or.inl ⟨by decide, by decide⟩ | exact wide_div (b := 200) (by first | assumption | decide) (by first | assumption | decide) (by decide) (by decide) | exact pow_w 10 (by decide) (by decide) (by decide) (by decide))
local macro_rules | `(tactic| walk_at "r1") => `(tactic| first
  | refine ⟨_, rfl, ?_⟩
  | refine ⟨_, _, rfl, rfl, ?_⟩
  | refine And.intro rfl ?_
  | refine ⟨_, _, _, _, rfl, rfl, (by walk_at "sq"), rfl, ?_⟩
  | refine ⟨_, _, _, _, rfl, rfl, (by walk_at "at"), rfl, ?_⟩
  | refine ⟨_, _, rfl, Or.inl (by walk_at "sq"), ?_⟩
  | refine ⟨_, _, rfl, Or.inr (by walk_at "sq"), ?_⟩
  | refine ⟨_, _, rfl, ?_⟩
  | refine Or.inl ⟨_, rfl, ?_⟩
  | refine And.intro (by walk_at "sd") ?_)
local macro_rules | `(tactic| walk_at "rd") => `(tactic| try (walk_at "r1"; walk_at "rd"))
section
variable {P : Program} {w : World} {K : PySem.W.Frag} {mg : Str → Option Value} {base : Heap}
theorem ok_is_one_letter (T : Tx w K mg) (G_is_letter : FnOk P w K mg base CX0 1 T.a_is_letter T.d_is_letter ["sign"] sp_is_letter) :
    FnOk P w K mg base CX0 2 T.a_is_one_letter T.d_is_one_letter ["value"] (sp_is_one_letter K) := by
  refine T.F_is_one_letter.ok sc_is_one_letter (fun vs H Q E h => ?_) (fun cdv A outer s H vs Q E hr h => ?_)
  · obtain ⟨_, _, rfl, _⟩ := h
    rfl
  obtain ⟨v, d, rfl, hd, hs, k⟩ := h
  refine ⟨_, (pss_one (ps_ret (pe_and (pe_callB M.call_isT (by rfl) T.b_isinstance (by decide +kernel) (pa_cons (pv 0) (pa_cons (pe_bltn (v := .ty "str") (by rfl) T.b_str (by decide +kernel) rfl) pa_nil))) (pe_and (pe_cmpR op_eq (pe_callB call_len_str (by rfl) T.b_len (by decide +kernel) (pa_cons (pv 0) pa_nil)) pe_int (nomark _)) (pe_one (pe_call G_is_letter (hr.mono (by omega)) (by rfl) T.g_is_letter T.F_is_letter.kp T.b_is_letter .nil pass0 (pa_cons (pv 0) pa_nil))))))), ?_⟩
  walk_at "rd"
  refine ⟨_, _, _, _, rfl, hd.ty, isStr d, ?_⟩
  walk_at "rd"
  refine iteB (fun e1 => ?_) (fun e1 => ?_)
  · cases hd with
    | str z =>
      have hz : z.length ≤ 1000 := of_decide_eq_true hs
      walk_at "rd"
      refine And.intro (Nat.le_trans hz (by decide)) ?_
      walk_at "rd"
      refine iteI (fun e2 => ?_) (fun e2 => ?_)
      · obtain ⟨c, rfl⟩ := one_cases z (by omega)
        walk_at "rd"
        refine k _ ⟨fun h => ⟨_, rfl, c, rfl, of_decide_eq_true h⟩, ?_⟩
        rintro ⟨_, e3, c', e4, h⟩
        cases e3
        cases e4
        exact decide_eq_true h
      · refine k _ ⟨(fun h => nomatch h), ?_⟩
        rintro ⟨_, e3, c', rfl, _⟩
        cases e3
        exact absurd rfl e2
    | _ => cases e1
  · refine k _ ⟨(fun h => nomatch h), ?_⟩
    rintro ⟨z, rfl, _⟩
    cases e1

end
end Lw
end

section
set_option Elab.async false
set_option linter.all false
set_option maxRecDepth 100000
set_option maxHeartbeats 4000000
set_option pp.maxSteps 300
set_option pp.deepTerms false
namespace Lw
open PySem L2 Evl M
open PyProof.Rows hiding St
local macro_rules | `(tactic| walk_at "at") => `(tactic| first | assumption | exact upd_same)
local macro_rules | `(tactic| walk_at "sq") => `(tactic| first | assumption | exact SqL.of (by walk_at "at") | exact SqT.of (by walk_at "at"))
local macro_rules | `(tactic| walk_at "sd") => `(tactic| first | assumption | exact Names.size (by assumption) | omega | decide | exact Nat.le_of_ble_eq_true rfl | exact Or.inl ⟨by decide, by decide⟩ | exact wide_div (b := 200) (by first | assumption | decide) (by first | assumption | decide) (by decide) (by decide) | exact pow_w 10 (by decide) (by decide) (by decide) (by decide))
local macro_rules | `(tactic| walk_at "r1") => `(tactic| first
  | refine ⟨_, rfl, ?_⟩
  | refine ⟨_, _, rfl, rfl, ?_⟩
  | refine And.intro rfl ?_
  | refine ⟨_, _, _, _, rfl, rfl, (by walk_at "sq"), rfl, ?_⟩
  | refine ⟨_, _, _, _, rfl, rfl, (by walk_at "at"), rfl, ?_⟩
  | refine ⟨_, _, rfl, Or.inl (by walk_at "sq"), ?_⟩
  | refine ⟨_, _, rfl, Or.inr (by walk_at "sq"), ?_⟩
  | refine ⟨_, _, rfl, ?_⟩
  | refine Or.inl ⟨_, rfl, ?_⟩
  | refine And.intro (by walk_at "sd") ?_)
local macro_rules | `(tactic| walk_at "rd") => `(tactic| try (walk_at "r1"; walk_at "rd"))
section
variable {P : Program} {w : World} {K : PySem.W.Frag} {mg : Str → Option Value} {base : Heap}
theorem ok_has_form (T : Tx w K mg) (G_is_one_letter : FnOk P w K mg base CX0 2 T.a_is_one_letter T.d_is_one_letter ["value"] (sp_is_one_letter K)) :
    FnOk P w K mg base CX0 3 T.a_has_form T.d_has_form ["value"] (sp_has_form K) := by
  refine T.F_has_form.ok sc_has_form (fun vs H Q E h => ?_) (fun cdv A outer s H vs Q E hr h => ?_)
  · obtain ⟨_, _, rfl, _⟩ := h
    rfl
  obtain ⟨v, d, rfl, hd, hs, k⟩ := h
  refine ⟨_, (pss_cons (ps_if (pw_or (pt_not (pt_val (pe_callB M.call_isT (by rfl) T.b_isinstance (by decide +kernel) (pa_cons (pv 0) (pa_cons (pe_bltn (v := .ty "tuple") (by rfl) T.b_tuple (by decide +kernel) rfl) pa_nil))))) (pw_or1 (pt_cmpR op_eq (pe_callB call_len_seq (by rfl) T.b_len (by decide +kernel) (pa_cons (pv 0) pa_nil)) pe_int (nomark _)))).pt (pss_one (ps_ret pe_bl)) pss_nil)
   (pss_cons (ps_set (i := 1) sc_has_form.nd rfl (Or.inl rfl) (pe_ix ix_tup (pv 0) pe_int (fun _ _ => rfl)))
   (pss_cons (ps_if (pw_or (pt_not (pt_val (pe_callB M.call_isT (by rfl) T.b_isinstance (by decide +kernel) (pa_cons (pv 1) (pa_cons (pe_bltn (v := .ty "str") (by rfl) T.b_str (by decide +kernel) rfl) pa_nil))))) (pw_or1 (pt_cmpR op_ne (M.pe_kget (pe_glob (v := .ref T.a_SIZES) (by rfl) T.g_SIZES rfl) (pv 1) pe_int ⟨by rfl, by rfl, by rfl, by rfl⟩) (pe_callB call_len_seq (by rfl) T.b_len (by decide +kernel) (pa_cons (pv 0) pa_nil)) (nomark _)))).pt (pss_one (ps_ret pe_bl)) pss_nil)
   (pss_one (ps_ret (pe_or (pe_cmpR op_ne (pv 1) pe_str (nomark _)) (pe_one (pe_call G_is_one_letter (hr.mono (by omega)) (by rfl) T.g_is_one_letter T.F_is_one_letter.kp T.b_is_one_letter .nil pass0 (pa_cons (pe_ix ix_tup (pv 0) pe_int (fun _ _ => rfl)) pa_nil))))))))), ?_⟩
  have no : ¬ HasForm d → Q (.bl false) H := fun h => k false ⟨(fun z => nomatch z), fun z => absurd z h⟩
  walk_at "rd"
  refine ⟨_, _, _, _, rfl, hd.ty, isTup d, ?_⟩
  walk_at "rd"
  refine iteB (fun e1 => ?_) (fun e1 => ?_)
  · walk_at "rd"
    exact no fun h => by
      obtain ⟨z, ds, rfl⟩ := form_tup h
      cases e1
  have e1 : tupB d = true := by simpa using e1
  cases hd with
  | @tup a xs ds hx hds =>
    have hl := hds.len
    walk_at "rd"
    refine iteI (fun e2 => ?_) (fun e2 => ?_)
    · walk_at "rd"
      exact no fun h => by
        obtain ⟨z, es, e⟩ := form_tup h
        cases e
        simp only [List.length_cons] at hl
        omega
    cases hds with
    | nil => exact absurd rfl e2
    | @cons x xs d0 ds hd0 hds =>
      walk_at "rd"
      refine ⟨_, _, _, x, rfl, rfl, hx, at0 _ _, ?_⟩
      walk_at "rd"
      refine ⟨_, _, _, _, rfl, hd0.ty, isStr d0, ?_⟩
      walk_at "rd"
      refine iteB (fun e3 => ?_) (fun e3 => ?_)
      · walk_at "rd"
        exact no fun h => by
          obtain ⟨z, es, e⟩ := form_tup h
          cases e
          cases e3
      have e3 : strB d0 = true := by simpa using e3
      cases hd0 with
      | str wd =>
        walk_at "rd"
        refine ⟨_, _, rfl, T.ki_SIZES, ?_⟩
        walk_at "rd"
        refine iteNI (fun e4 => ?_) (fun e4 => ?_)
        · walk_at "rd"
          refine no fun h => e4 ?_
          show (List.lookup wd _).getD 0 = _
          rw [form_size h, hl]
          rfl
        have e4 := sz_cases e4 e2
        have hl2 : xs.length = ds.length := hds.len
        simp only [List.length_cons] at e4
        walk_at "rd"
        refine iteNS (fun e5 => ?_) (fun e5 => ?_)
        · refine k true ⟨fun _ => ?_, fun _ => rfl⟩
          rcases e4 with ⟨rfl, e6⟩ | ⟨rfl, e6⟩ | ⟨rfl, e6⟩ | ⟨rfl, e6⟩
          · cases ds with
            | nil => rfl
            | cons _ _ => simp only [List.length_cons] at hl2; omega
          · match ds, hl2 with
            | [_], _ => rfl
            | [], h | _ :: _ :: _, h => simp only [List.length_cons, List.length_nil] at h; omega
          · match ds, hl2 with
            | [_, _], _ => rfl
            | [], h | [_], h | _ :: _ :: _ :: _, h => simp only [List.length_cons, List.length_nil] at h; omega
          · exact absurd rfl e5
        · subst e5
          have e6 : ((xs.length + 1 : Nat) : Int) = 4 := by
            rcases e4 with ⟨z, _⟩ | ⟨z, _⟩ | ⟨z, _⟩ | ⟨_, z⟩
            · exact absurd z (by decide +kernel)
            · exact absurd z (by decide +kernel)
            · exact absurd z (by decide +kernel)
            · exact z
          match xs, ds, hds, hl2, e6 with
          | _, _, .cons ha (.cons hc (.cons hb .nil)), _, _ =>
            walk_at "rd"
            have hs' : sm _ = true := sms_mem (ds := [_, _, _, _]) hs _ (List.mem_cons_of_mem _ (List.mem_cons_of_mem _ List.mem_cons_self))
            refine ⟨_, _, rfl, hc, hs', fun b hb' => ?_⟩
            refine k b (hb'.trans ⟨?_, ?_⟩)
            · rintro ⟨z, rfl, h⟩
              exact ⟨rfl, h⟩
            · intro h
              unfold HasForm at h
              split at h
              all_goals first
                | (rename_i e; cases e; exact ⟨_, rfl, h.2⟩)
                | (rename_i e; cases e)
                | exact h.elim
          | _, _, .nil, _, h | _, _, .cons _ .nil, _, h | _, _, .cons _ (.cons _ .nil), _, h | _, _, .cons _ (.cons _ (.cons _ (.cons _ _))), _, h => simp only [List.length_cons, List.length_nil] at h; omega
      | _ => cases e3
  | _ => cases e1

end
end Lw
end

section
set_option Elab.async false
set_option linter.all false
set_option maxRecDepth 100000
set_option maxHeartbeats 4000000
set_option pp.maxSteps 300
set_option pp.deepTerms false
namespace Lw
open PySem L2 Evl M
open PyProof.Rows hiding St
local macro_rules | `(tactic| walk_at "at") => `(tactic| first | assumption | exact upd_same)
local macro_rules | `(tactic| walk_at "sq") => `(tactic| first | assumption | exact SqL.of (by walk_at "at") | exact SqT.of (by walk_at "at"))
local macro_rules | `(tactic| walk_at "sd") => `(tactic| first | assumption | exact Names.size (by assumption) | omega | decide | exact Nat.le_of_ble_eq_true rfl | exact Or.inl ⟨by decide, by decide⟩ | exact wide_div (b := 200) (by first | assumption | decide) (by first | assumption | decide) (by decide) (by decide) | exact pow_w 10 (by decide) (by decide) (by decide) (by decide))
local macro_rules | `(tactic| walk_at "r1") => `(tactic| first
  | refine ⟨_, rfl, ?_⟩
  | refine ⟨_, _, rfl, rfl, ?_⟩
  | refine And.intro rfl ?_
  | refine ⟨_, _, _, _, rfl, rfl, (by walk_at "sq"), rfl, ?_⟩
  | refine ⟨_, _, _, _, rfl, rfl, (by walk_at "at"), rfl, ?_⟩
  | refine ⟨_, _, rfl, Or.inl (by walk_at "sq"), ?_⟩
  | refine ⟨_, _, rfl, Or.inr (by walk_at "sq"), ?_⟩
  | refine ⟨_, _, rfl, ?_⟩
  | refine Or.inl ⟨_, rfl, ?_⟩
  | refine And.intro (by walk_at "sd") ?_)
local macro_rules | `(tactic| walk_at "rd") => `(tactic| try (walk_at "r1"; walk_at "rd"))
section
variable {P : Program} {w : World} {K : PySem.W.Frag} {mg : Str → Option Value} {base : Heap}
theorem ok_inner_questions (T : Tx w K mg) : FnOk P w K mg base CX0 1 T.a_inner_questions T.d_inner_questions ["part"] (sp_inner K) := by
  refine T.F_inner_questions.ok sc_inner_questions (fun vs H Q E h => ?_) (fun cdv A outer s H vs Q E hr h => ?_)
  · obtain ⟨_, _, _, rfl, _⟩ := h
    rfl
  obtain ⟨H0, v, d, rfl, x0, hd, hf, k⟩ := h
  refine ⟨_, (pss_cons (ps_if (pt_cmpR op_eq (pe_ix ix_tup (pv 0) pe_int (fun _ _ => rfl)) pe_str (nomark _)) (pss_one (ps_ret (pe_lst (pa_cons (pe_ix ix_tup (pv 0) pe_int (fun _ _ => rfl)) (pa_cons (pe_ix ix_tup (pv 0) pe_int (fun _ _ => rfl)) pa_nil))))) pss_nil)
   (pss_one (ps_ret (pe_callTy call_list_of (by rfl) T.b_list (by decide +kernel) (pa_cons (pe_slice sl_tup (pv 0) (po_some pe_int) po_none) pa_nil))))), ?_⟩
  have tail : ∀ (x : V) (xs : List V) (ds : List PyData), inner d = ds → Das K H0 xs ds → ∀ t, H t = none → ∀ l, upd H t (.tup (cutV (x :: xs) (some 1) none)) l = none → Q (.ref l) (upd (upd H t (.tup (cutV (x :: xs) (some 1) none))) l (.lst (cutV (x :: xs) (some 1) none))) := by
    intro x xs ds e h t ht l hl
    rw [cut1] at hl ⊢
    exact k l xs _ ((Ex.new ht).trans (Ex.new hl)) (fresh_back (Ex.new ht) hl) upd_same (by rw [e]; exact h)
  obtain ⟨a, xs, rfl, hx, hc⟩ := form_cases hd hf
  have hx := ex_t x0 hx
  rcases hc with ⟨rfl, e⟩ | ⟨x, r, rfl, h1, e⟩ | ⟨x, y, r, t, rfl, h1, h2, e⟩ | ⟨x, y, r, t, c, rfl, h1, h2, e, _⟩
  · walk_at "rd"
    refine ⟨_, _, rfl, hx, cut1_not _ _, fun t ht => ?_⟩
    walk_at "rd"
    exact tail _ _ _ e .nil t ht
  · walk_at "rd"
    refine ⟨_, _, rfl, hx, cut1_not _ _, fun t ht => ?_⟩
    walk_at "rd"
    exact tail _ _ _ e (.cons h1 .nil) t ht
  · walk_at "rd"
    refine ⟨_, _, rfl, hx, cut1_not _ _, fun t ht => ?_⟩
    walk_at "rd"
    exact tail _ _ _ e (.cons h1 (.cons h2 .nil)) t ht
  · walk_at "rd"
    exact fun l hl => k l _ _ (Ex.new hl) hl upd_same (by rw [e]; exact .cons h1 (.cons h2 .nil))

end
end Lw
end

section
set_option Elab.async false
set_option linter.all false
set_option maxRecDepth 100000
set_option maxHeartbeats 4000000
set_option pp.maxSteps 300
set_option pp.deepTerms false
namespace Lw
open PySem L2 Evl M
open PyProof.Rows hiding St
local macro_rules | `(tactic| walk_at "at") => `(tactic| first | assumption | exact upd_same)
local macro_rules | `(tactic| walk_at "sq") => `(tactic| first | assumption | exact SqL.of (by walk_at "at") | exact SqT.of (by walk_at "at"))
local macro_rules | `(tactic| walk_at "sd") => `(tactic| first | assumption | exact Names.size (by assumption) | omega | decide | exact Nat.le_of_ble_eq_true rfl | exact Or.inl ⟨by decide, by decide⟩ | exact wide_div (b := 200) (by first | assumption | decide) (by first | assumption | decide) (by decide) (by decide) | exact pow_w 10 (by decide) (by decide) (by decide) (by decide))
local macro_rules | `(tactic| walk_at "r1") => `(tactic| first
  | refine ⟨_, rfl, ?_⟩
  | refine ⟨_, _, rfl, rfl, ?_⟩
  | refine And.intro rfl ?_
  | refine ⟨_, _, _, _, rfl, rfl, (by walk_at "sq"), rfl, ?_⟩
  | refine ⟨_, _, _, _, rfl, rfl, (by walk_at "at"), rfl, ?_⟩
  | refine ⟨_, _, rfl, Or.inl (by walk_at "sq"), ?_⟩
  | refine ⟨_, _, rfl, Or.inr (by walk_at "sq"), ?_⟩
  | refine ⟨_, _, rfl, ?_⟩
  | refine Or.inl ⟨_, rfl, ?_⟩
  | refine And.intro (by walk_at "sd") ?_)
local macro_rules | `(tactic| walk_at "rd") => `(tactic| try (walk_at "r1"; walk_at "rd"))
section
variable {P : Program} {w : World} {K : PySem.W.Frag} {mg : Str → Option Value} {base : Heap}
theorem ok_is_question (T : Tx w K mg) (G_has_form : FnOk P w K mg base CX0 3 T.a_has_form T.d_has_form ["value"] (sp_has_form K))
    (G_inner_questions : FnOk P w K mg base CX0 1 T.a_inner_questions T.d_inner_questions ["part"] (sp_inner K)) :
    FnOk P w K mg base CX0 4 T.a_is_question T.d_is_question ["value"] (sp_is_question K) := by
  refine T.F_is_question.ok sc_is_question (fun vs H Q E h => ?_) (fun cdv A outer s H vs Q E hr h => ?_)
  · obtain ⟨_, _, _, rfl, _⟩ := h
    rfl
  obtain ⟨H0, v, d, rfl, x0, hd, hs, hz, k⟩ := h
  refine ⟨_, (pss_cons (ps_set (i := 1) sc_is_question.nd rfl (Or.inl rfl) (pe_lst (pa_cons (pv 0) pa_nil)))
   (pss_cons (ps_while PassesOwn.never (pt_truth (pv 1) (by intro _; rfl)) (pss_cons (ps_set (i := 2) sc_is_question.nd rfl (Or.inl rfl) (pe_bm0 PySem.F.plainAttrs_list PySem.F.slot_list_pop PySem.F.type_list_pop mt_pop (pv 1)))
   (pss_cons (ps_if (pt_not (pt_val (pe_call G_has_form (hr.mono (by omega)) (by rfl) T.g_has_form T.F_has_form.kp T.b_has_form .nil pass0 (pa_cons (pv 2) pa_nil)))) (pss_one (ps_ret pe_bl)) pss_nil)
   (pss_one (ps_expr (pe_bm PySem.F.plainAttrs_list PySem.F.slot_list_extend PySem.F.type_list_extend mt_extend (pv 1) (pa_cons (pe_call G_inner_questions (hr.mono (by omega)) (by rfl) T.g_inner_questions T.F_inner_questions.kp T.b_inner_questions .nil pass0 (pa_cons (pv 2) pa_nil)) pa_nil)))))))
   (pss_one (ps_ret pe_bl)))), ?_⟩
  walk_at "rd"
  intro l hl
  refine ⟨fun m σ H' => ∃ (xs : List V) (ds : List PyData) (o : Option V), σ = [some v, some (.ref l), o] ∧ m = ndss ds ∧ Ex H H' ∧ H' l = some (.lst xs) ∧ Das K H0 xs ds ∧ sms ds = true ∧ ndss ds ≤ 10000 ∧ (IsQ d ↔ ∀ x ∈ ds, IsQ x),
    ⟨_, [v], [d], _, rfl, rfl, Ex.new hl, upd_same, .cons hd .nil, by rw [sms, hs]; rfl, by simp only [ndss]; omega, by simp⟩, ?_⟩
  rintro m σ H' ⟨xs, ds, o, rfl, rfl, x1, hL, hds, hsm, hn, hq⟩
  refine ⟨_, rfl, _, .inl ⟨xs, SqL.of hL, rfl⟩, ?_⟩
  rw [hds.ne]
  cases ds with
  | nil =>
    refine iteF ?_
    walk_at "rd"
    exact k true H' x1 ⟨fun _ => hq.mpr (by simp), fun _ => rfl⟩
  | cons d1 ds1 =>
  refine iteT ?_
  obtain ⟨x, dl, e1, hx, hdl, e2⟩ := hds.last (by simp)
  generalize d1 :: ds1 = ds at *
  have hlen := hds.len
  have hl0 : H0 l = none := fresh_back x0 hl
  have n0 : ndss ds.dropLast + nds dl = ndss ds := by
    conv => rhs; rw [e2, ndss_app]
    simp [ndss]
  have mem : ∀ y, y ∈ ds ↔ y ∈ ds.dropLast ∨ y = dl := fun y => by
    conv => lhs; rw [e2]
    simp
  have sm1 : sm dl = true := sms_mem hsm _ ((mem dl).mpr (.inr rfl))
  refine ⟨fun σ' G => ∃ m', m' < ndss ds ∧ ∃ (xs : List V) (ds : List PyData) (o : Option V), σ' = [some v, some (.ref l), o] ∧ m' = ndss ds ∧ Ex H G ∧ G l = some (.lst xs) ∧ Das K H0 xs ds ∧ sms ds = true ∧ ndss ds ≤ 10000 ∧ (IsQ d ↔ ∀ x ∈ ds, IsQ x), fun _ _ h => h, ?_⟩
  refine ⟨_, rfl, .inl ⟨rfl, _, SqL.of hL⟩, l, xs, x, rfl, rfl, hL, e1, ?_⟩
  have ex1 : Ex H (upd H' l (.lst xs.dropLast)) := x1.mut hl
  have hx1 : Da K (upd H' l (.lst xs.dropLast)) x dl := hx.up (x0.trans ex1)
  walk_at "rd"
  refine ⟨x, dl, rfl, hx1, sm1, fun b hb => ?_⟩
  walk_at "rd"
  cases b with
  | false =>
    refine iteT ?_
    walk_at "rd"
    refine k false _ ex1 ⟨(fun h => nomatch h), fun h => ?_⟩
    exact hb.mpr (isQ_form.mp (hq.mp h dl ((mem dl).mpr (.inr rfl)))).1
  | true =>
    refine iteF ?_
    have hf : HasForm dl := hb.mp rfl
    walk_at "rd"
    refine ⟨.inl ⟨rfl, _, SqL.of upd_same⟩, ?_⟩
    refine ⟨_, rfl, ?_⟩
    refine ⟨H0, x, dl, rfl, x0.trans ex1, hx, hf, fun l2 ys G xg f2 g2 hys => ?_⟩
    have ln : l2 ≠ l := fun z => by rw [z, upd_same] at f2; cases f2
    have b1 := ndss_len ds.dropLast
    have b2 := ndss_len (inner dl)
    have b3 := inner_nds dl
    have b4 := hdl.len
    have b5 := hys.len
    refine ⟨l, l2, xs.dropLast, ys, rfl, rfl, xg _ _ upd_same, g2, Nat.le_trans (by omega : _ ≤ 20000) (by decide), ?_⟩
    refine ⟨ndss (ds.dropLast ++ inner dl), by rw [ndss_app]; omega, _, _, _, rfl, rfl, ?_, upd_same, hdl.app hys, sms_app ?_ (sms_of (sm_inner sm1)), by rw [ndss_app]; omega, hq.trans ⟨fun h y hy => ?_, fun h y hy => ?_⟩⟩
    · exact (ex1.trans xg).mut hl
    · exact sms_of fun y hy => sms_mem hsm y ((mem y).mpr (.inl hy))
    · rcases List.mem_append.mp hy with z | z
      · exact h y ((mem y).mpr (.inl z))
      · exact (isQ_form.mp (h dl ((mem dl).mpr (.inr rfl)))).2 y z
    · rcases (mem y).mp hy with z | rfl
      · exact h y (List.mem_append.mpr (.inl z))
      · exact isQ_form.mpr ⟨hf, fun y' hy' => h y' (List.mem_append.mpr (.inr hy'))⟩

end
end Lw
end

section
set_option Elab.async false
set_option linter.all false
set_option maxRecDepth 100000
set_option maxHeartbeats 4000000
set_option pp.maxSteps 300
set_option pp.deepTerms false
namespace Lw
open PySem L2 Evl M
open PyProof.Rows hiding St
local macro_rules | `(tactic| walk_at "at") => `(tactic| first | assumption | exact upd_same)
local macro_rules | `(tactic| walk_at "sq") => `(tactic| first | assumption | exact SqL.of (by walk_at "at") | exact SqT.of (by walk_at "at"))
local macro_rules | `(tactic| walk_at "sd") => `(tactic| first | assumption | exact Names.size (by assumption) | omega | decide | exact Nat.le_of_ble_eq_true rfl | exact Or.inl ⟨by decide, by decide⟩ | exact wide_div (b := 200) (by first | assumption | decide) (by first | assumption | decide) (by decide) (by decide) | exact pow_w 10 (by decide) (by decide) (by decide) (by decide))
local macro_rules | `(tactic| walk_at "r1") => `(tactic| first
  | refine ⟨_, rfl, ?_⟩
  | refine ⟨_, _, rfl, rfl, ?_⟩
  | refine And.intro rfl ?_
  | refine ⟨_, _, _, _, rfl, rfl, (by walk_at "sq"), rfl, ?_⟩
  | refine ⟨_, _, _, _, rfl, rfl, (by walk_at "at"), rfl, ?_⟩
  | refine ⟨_, _, rfl, Or.inl (by walk_at "sq"), ?_⟩
  | refine ⟨_, _, rfl, Or.inr (by walk_at "sq"), ?_⟩
  | refine ⟨_, _, rfl, ?_⟩
  | refine Or.inl ⟨_, rfl, ?_⟩
  | refine And.intro (by walk_at "sd") ?_)
local macro_rules | `(tactic| walk_at "rd") => `(tactic| try (walk_at "r1"; walk_at "rd"))
section
variable {P : Program} {w : World} {K : PySem.W.Frag} {mg : Str → Option Value} {base : Heap}
theorem ok_check_question (T : Tx w K mg) (G_is_question : FnOk P w K mg base CX0 4 T.a_is_question T.d_is_question ["value"] (sp_is_question K)) :
    FnOk P w K mg base CX0 5 T.a_check_question T.d_check_question ["question"] (sp_check_question K) := by
  refine T.F_check_question.ok sc_check_question (fun vs H Q E h => ?_) (fun cdv A outer s H vs Q E hr h => ?_)
  · obtain ⟨_, _, _, rfl, _⟩ := h
    rfl
  obtain ⟨H0, v, q, rfl, x0, hd, hq, hp, k⟩ := h
  refine ⟨_, (pss_one (ps_if (pt_not (pt_val (pe_call G_is_question (hr.mono (by omega)) (by rfl) T.g_is_question T.F_is_question.kp T.b_is_question .nil pass0 (pa_cons (pv 0) pa_nil)))) (pss_one ps_never) pss_nil)), ?_⟩
  refine ⟨_, rfl, H0, v, q.d, rfl, x0, da_of _ _ hd, sm_q q, by have := nds_q q; omega, fun b H' x1 hb => ?_⟩
  obtain rfl : b = true := hb.mpr ⟨q, hq, rfl⟩
  refine ⟨_, rfl, ?_⟩
  exact k H' x1

end
end Lw
end

section
set_option Elab.async false
set_option linter.all false
set_option maxRecDepth 100000
set_option maxHeartbeats 4000000
set_option pp.maxSteps 300
set_option pp.deepTerms false
namespace Lw
open PySem L2 Evl M
open PyProof.Rows hiding St
local macro_rules | `(tactic| walk_at "at") => `(tactic| first | assumption | exact upd_same)
local macro_rules | `(tactic| walk_at "sq") => `(tactic| first | assumption | exact SqL.of (by walk_at "at") | exact SqT.of (by walk_at "at"))
local macro_rules | `(tactic| walk_at "sd") => `(tactic| first | assumption | exact Names.size (by assumption) | omega | decide | exact Nat.le_of_ble_eq_true rfl | exact Or.inl ⟨by decide, by decide⟩ | exact wide_div (b := 200) (by first | assumption | decide) (by first | assumption | decide) (by decide) (by decide) | exact pow_w 10 (by decide) (by decide) (by decide) (by decide))
local macro_rules | `(tactic| walk_at "r1") => `(tactic| first
  | refine ⟨_, rfl, ?_⟩
  | refine ⟨_, _, rfl, rfl, ?_⟩
  | refine And.intro rfl ?_
  | refine ⟨_, _, _, _, rfl, rfl, (by walk_at "sq"), rfl, ?_⟩
  | refine ⟨_, _, _, _, rfl, rfl, (by walk_at "at"), rfl, ?_⟩
  | refine ⟨_, _, rfl, Or.inl (by walk_at "sq"), ?_⟩
  | refine ⟨_, _, rfl, Or.inr (by walk_at "sq"), ?_⟩
  | refine ⟨_, _, rfl, ?_⟩
  | refine Or.inl ⟨_, rfl, ?_⟩
  | refine And.intro (by walk_at "sd") ?_)
local macro_rules | `(tactic| walk_at "rd") => `(tactic| try (walk_at "r1"; walk_at "rd"))
section
variable {P : Program} {w : World} {K : PySem.W.Frag} {mg : Str → Option Value} {base : Heap}
theorem ok_parts_of (T : Tx w K mg) (G_inner_questions : FnOk P w K mg base CX0 1 T.a_inner_questions T.d_inner_questions ["part"] (sp_inner K)) :
    FnOk P w K mg base CX0 2 T.a_parts_of T.d_parts_of ["question"] (sp_parts_of K) := by
  refine T.F_parts_of.ok sc_parts_of (fun vs H Q E h => ?_) (fun cdv A outer s H vs Q E hr h => ?_)
  · obtain ⟨_, _, _, rfl, _⟩ := h
    rfl
  obtain ⟨H0, v, q, rfl, x0, hd, hq, hp, k⟩ := h
  refine ⟨_, (pss_cons (ps_set (i := 1) sc_parts_of.nd rfl (Or.inl rfl) (pe_lst pa_nil))
   (pss_cons (ps_set (i := 2) sc_parts_of.nd rfl (Or.inl rfl) (pe_lst (pa_cons (pv 0) pa_nil)))
   (pss_cons (ps_while PassesOwn.never (pt_truth (pv 2) (by intro _; rfl)) (pss_cons (ps_set (i := 3) sc_parts_of.nd rfl (Or.inl rfl) (pe_bm0 PySem.F.plainAttrs_list PySem.F.slot_list_pop PySem.F.type_list_pop mt_pop (pv 2)))
   (pss_cons (ps_expr (pe_bm PySem.F.plainAttrs_list PySem.F.slot_list_append PySem.F.type_list_append mt_append (pv 1) (pa_cons (pv 3) pa_nil)))
   (pss_one (ps_expr (pe_bm PySem.F.plainAttrs_list PySem.F.slot_list_extend PySem.F.type_list_extend mt_extend (pv 2) (pa_cons (pe_revL (pe_call G_inner_questions (hr.mono (by omega)) (by rfl) T.g_inner_questions T.F_inner_questions.kp T.b_inner_questions .nil pass0 (pa_cons (pv 3) pa_nil))) pa_nil)))))))
   (pss_one (ps_ret (pv 1)))))), ?_⟩
  walk_at "rd"
  intro lp hlp
  walk_at "rd"
  intro l hl
  have nl : l ≠ lp := fun z => by rw [z, upd_same] at hl; cases hl
  have hl' : H l = none := by rw [upd_ne nl] at hl; exact hl
  refine ⟨fun m σ H' => ∃ (ps xs : List V) (done todo : List Qn) (o : Option V), σ = [some v, some (.ref lp), some (.ref l), o] ∧ m = ptss todo ∧ Ex H H' ∧ H' lp = some (.lst ps) ∧ H' l = some (.lst xs) ∧ Qs K H0 ps done ∧ Qs K H0 xs todo ∧
    (∀ r ∈ todo, r.Ok) ∧ q.all = done ++ todo.reverse.flatMap Qn.all,
    ⟨_, [], [v], [], [q], _, rfl, rfl, (Ex.new hlp).trans (Ex.new hl), by rw [upd_ne (Ne.symm nl), upd_same], upd_same, .nil, .cons (da_of _ _ hd) .nil, by simpa using hq, by simp⟩, ?_⟩
  rintro m σ H' ⟨ps, xs, done, todo, o, rfl, rfl, x1, hLp, hL, hps, hxs, hok, hall⟩
  refine ⟨_, rfl, _, .inl ⟨xs, SqL.of hL, rfl⟩, ?_⟩
  have tot : done.length + ptss todo = q.parts := by
    rw [← Qn.all_len, hall, List.length_append, all_flat, ptss_rev]
  have emp : xs.isEmpty = todo.isEmpty := by
    have := hxs.len
    cases xs <;> cases todo <;> simp at this ⊢
  rw [emp]
  rcases List.eq_nil_or_concat todo with rfl | ⟨rest, dl, rfl⟩
  · refine iteF ?_
    walk_at "rd"
    refine k lp ps H' x1 hlp hLp (by rw [hall]; simpa using hps)
  have ne : (rest.concat dl).isEmpty = false := by cases rest <;> rfl
  rw [ne]
  rw [List.concat_eq_append] at *
  refine iteT ?_
  obtain ⟨x, e1, hx, hrest⟩ := hxs.last
  have hLL : l ≠ lp := nl
  have hlen := hps.len
  have hlen2 := hxs.len
  have tl := ptss_len (rest ++ [dl])
  rw [ptss_app] at tl tot
  have dl1 : ptss [dl] = dl.parts := by simp [ptss]
  have kk := ptss_kids dl
  have hdl : dl.Ok := hok dl (by simp)
  refine ⟨fun σ' G => ∃ m', m' < ptss (rest ++ [dl]) ∧ ∃ (ps xs : List V) (done todo : List Qn) (o : Option V), σ' = [some v, some (.ref lp), some (.ref l), o] ∧ m' = ptss todo ∧ Ex H G ∧ G lp = some (.lst ps) ∧ G l = some (.lst xs) ∧ Qs K H0 ps done ∧ Qs K H0 xs todo ∧
    (∀ r ∈ todo, r.Ok) ∧ q.all = done ++ todo.reverse.flatMap Qn.all, fun _ _ h => h, ?_⟩
  refine ⟨_, rfl, .inl ⟨rfl, _, SqL.of hL⟩, l, xs, x, rfl, rfl, hL, e1, ?_⟩
  refine ⟨_, rfl, .inl ⟨rfl, _, SqL.of (by rw [upd_ne (Ne.symm nl)]; exact hLp)⟩, _, rfl, lp, ps, x, rfl, rfl, by rw [upd_ne (Ne.symm nl)]; exact hLp, Nat.lt_of_le_of_lt (by omega : ps.length ≤ 1000) (by decide), ?_⟩
  have ex1 : Ex H (upd (upd H' l (.lst xs.dropLast)) lp (.lst (ps ++ [x]))) := (x1.mut hl').mut hlp
  have gl : upd (upd H' l (.lst xs.dropLast)) lp (.lst (ps ++ [x])) l = some (.lst xs.dropLast) := by rw [upd_ne nl, upd_same]
  have gp : upd (upd H' l (.lst xs.dropLast)) lp (.lst (ps ++ [x])) lp = some (.lst (ps ++ [x])) := upd_same
  generalize upd (upd H' l (.lst xs.dropLast)) lp (.lst (ps ++ [x])) = G at *
  refine ⟨_, rfl, .inl ⟨rfl, _, SqL.of gl⟩, _, rfl, ?_⟩
  refine ⟨H0, x, dl.d, rfl, x0.trans ex1, hx, dl.form hdl, fun l2 ys G2 xg f2 g2 hys => ?_⟩
  rw [Qn.inner] at hys
  have hys : Qs K H0 ys dl.kids := hys
  refine ⟨_, _, rfl, SqL.of g2, fun l3 f3 => ?_⟩
  have l3l : l3 ≠ l := fun z => by rw [z, xg _ _ gl] at f3; cases f3
  have l3p : l3 ≠ lp := fun z => by rw [z, xg _ _ gp] at f3; cases f3
  have hyl := hys.len
  have kl := ptss_len dl.kids
  refine ⟨l, l3, xs.dropLast, ys.reverse, rfl, rfl, by rw [upd_ne (Ne.symm l3l)]; exact xg _ _ gl, upd_same, Nat.le_trans (by simp only [List.length_dropLast, List.length_reverse]; omega : _ ≤ 3000) (by decide), ?_⟩
  refine ⟨ptss (rest ++ dl.kids.reverse), by rw [ptss_app, ptss_app, ptss_rev]; omega, ps ++ [x], _, done ++ [dl], rest ++ dl.kids.reverse, _, rfl, rfl, ?_, ?_, upd_same, hps.app (.cons hx .nil), hrest.app hys.rev, ?_, ?_⟩
  · exact ((ex1.trans xg).trans (Ex.new f3)).mut hl'
  · rw [upd_ne (Ne.symm nl), upd_ne (Ne.symm l3p)]
    exact xg _ _ gp
  · intro r hr
    rcases List.mem_append.mp hr with z | z
    · exact hok r (List.mem_append.mpr (.inl z))
    · exact Qn.kids_ok hdl r (List.mem_reverse.mp z)
  · rw [hall]
    simp [List.flatMap_append, Qn.all_kids dl]

end
end Lw
end

section
set_option Elab.async false
set_option linter.all false
set_option maxRecDepth 100000
set_option maxHeartbeats 4000000
set_option pp.maxSteps 300
set_option pp.deepTerms false
namespace Lw
open PySem L2 Evl M
open PyProof.Rows hiding St
local macro_rules | `(tactic| walk_at "at") => `(tactic| first | assumption | exact upd_same)
local macro_rules | `(tactic| walk_at "sq") => `(tactic| first | assumption | exact SqL.of (by walk_at "at") | exact SqT.of (by walk_at "at"))
local macro_rules | `(tactic| walk_at "sd") => `(tactic| first | assumption | exact Names.size (by assumption) | omega | decide | exact Nat.le_of_ble_eq_true rfl | exact Or.inl ⟨by decide, by decide⟩ | exact wide_div (b := 200) (by first | assumption | decide) (by first | assumption | decide) (by decide) (by decide) | exact pow_w 10 (by decide) (by decide) (by decide) (by decide))
local macro_rules | `(tactic| walk_at "r1") => `(tactic| first
  | refine ⟨_, rfl, ?_⟩
  | refine ⟨_, _, rfl, rfl, ?_⟩
  | refine And.intro rfl ?_
  | refine ⟨_, _, _, _, rfl, rfl, (by walk_at "sq"), rfl, ?_⟩
  | refine ⟨_, _, _, _, rfl, rfl, (by walk_at "at"), rfl, ?_⟩
  | refine ⟨_, _, rfl, Or.inl (by walk_at "sq"), ?_⟩
  | refine ⟨_, _, rfl, Or.inr (by walk_at "sq"), ?_⟩
  | refine ⟨_, _, rfl, ?_⟩
  | refine Or.inl ⟨_, rfl, ?_⟩
  | refine And.intro (by walk_at "sd") ?_)
local macro_rules | `(tactic| walk_at "rd") => `(tactic| try (walk_at "r1"; walk_at "rd"))
section
variable {P : Program} {w : World} {K : PySem.W.Frag} {mg : Str → Option Value} {base : Heap}
theorem ok_check_row (T : Tx w K mg) (G_is_letter : FnOk P w K mg base CX0 1 T.a_is_letter T.d_is_letter ["sign"] sp_is_letter) : FnOk P w K mg base CX0 2 T.a_check_row T.d_check_row ["row"] sp_check_row := by
  refine T.F_check_row.ok sc_check_row (fun vs H Q E h => ?_) (fun cdv A outer s H vs Q E hr h => ?_)
  · obtain ⟨_, rfl, _⟩ := h
    rfl
  obtain ⟨z, rfl, hz, hl, k⟩ := h
  refine ⟨_, (pss_one (ps_for PassesOwn.never (by rfl) (M.pi_enumS (by rfl) T.b_enumerate (pa_cons (pv 0) pa_nil)) (pg_tup (by rfl) (pgs_cons (pg_name (i := 1) sc_check_row.nd rfl (Or.inl rfl)) (pgs_cons (pg_name (i := 2) sc_check_row.nd rfl (Or.inl rfl)) pgs_nil))) (pss_one (ps_if (pt_not (pt_val (pe_call G_is_letter (hr.mono (by omega)) (by rfl) T.g_is_letter T.F_is_letter.kp T.b_is_letter .nil pass0 (pa_cons (pv 2) pa_nil)))) (pss_one ps_never) pss_nil)))), ?_⟩
  walk_at "rd"
  obtain ⟨Pv, hPv⟩ : ∃ Pv : Nat → L2.St → Hp → Prop, ∀ i σ G, Pv i σ G ↔ ∃ o1 o2 : Option V, σ = [some (.str z), o1, o2] ∧ Ex H G := ⟨_, fun _ _ _ => Iff.rfl⟩
  refine for_enumS Pv ((hPv _ _ _).mpr ⟨_, _, rfl, Ex.refl _⟩) (fun i c t σ G hc hT h => ?_) (fun σ G h => ?_)
  · obtain ⟨o1, o2, rfl, xg⟩ := (hPv _ _ _).mp h
    have hc2 := hz c (List.mem_of_getElem? (by rw [Array.getElem?_toList]; exact hc))
    walk_at "rd"
    refine ⟨_, _, rfl, SqT.of upd_same, rfl, ?_⟩
    walk_at "rd"
    refine iteND (fun h => absurd hc2 h) (fun _ => ?_)
    exact (hPv _ _ _).mpr ⟨_, _, rfl, xg.trans (Ex.new hT)⟩
  · obtain ⟨o1, o2, rfl, xg⟩ := (hPv _ _ _).mp h
    walk_at "rd"
    exact k G xg

end
end Lw
end

section
set_option Elab.async false
set_option linter.all false
set_option maxRecDepth 100000
set_option maxHeartbeats 4000000
set_option pp.maxSteps 300
set_option pp.deepTerms false
namespace Lw
open PySem L2 Evl M
open PyProof.Rows hiding St
local macro_rules | `(tactic| walk_at "at") => `(tactic| first | assumption | exact upd_same)
local macro_rules | `(tactic| walk_at "sq") => `(tactic| first | assumption | exact SqL.of (by walk_at "at") | exact SqT.of (by walk_at "at"))
local macro_rules | `(tactic| walk_at "sd") => `(tactic| first | assumption | exact Names.size (by assumption) | omega | decide | exact Nat.le_of_ble_eq_true rfl | exact Or.inl ⟨by decide, by decide⟩ | exact wide_div (b := 200) (by first | assumption | decide) (by first | assumption | decide) (by decide) (by decide) | exact pow_w 10 (by decide) (by decide) (by decide) (by decide))
local macro_rules | `(tactic| walk_at "r1") => `(tactic| first
  | refine ⟨_, rfl, ?_⟩
  | refine ⟨_, _, rfl, rfl, ?_⟩
  | refine And.intro rfl ?_
  | refine ⟨_, _, _, _, rfl, rfl, (by walk_at "sq"), rfl, ?_⟩
  | refine ⟨_, _, _, _, rfl, rfl, (by walk_at "at"), rfl, ?_⟩
  | refine ⟨_, _, rfl, Or.inl (by walk_at "sq"), ?_⟩
  | refine ⟨_, _, rfl, Or.inr (by walk_at "sq"), ?_⟩
  | refine ⟨_, _, rfl, ?_⟩
  | refine Or.inl ⟨_, rfl, ?_⟩
  | refine And.intro (by walk_at "sd") ?_)
local macro_rules | `(tactic| walk_at "rd") => `(tactic| try (walk_at "r1"; walk_at "rd"))
section
variable {P : Program} {w : World} {K : PySem.W.Frag} {mg : Str → Option Value} {base : Heap}
theorem ok_holds (T : Tx w K mg) : FnOk P w K mg base CX0 1 T.a_holds T.d_holds ["table", "start", "end"] sp_holds := by
  refine T.F_holds.ok sc_holds (fun vs H Q E h => ?_) (fun cdv A outer s H vs Q E hr h => ?_)
  · obtain ⟨_, _, _, _, _, rfl, _⟩ := h
    rfl
  obtain ⟨l, ts, s, e, t, rfl, hl, ht, k⟩ := h
  refine ⟨_, (pss_one (ps_ret (pe_cmpR op_eq (pe_op op_and (pe_op op_shr (pe_ix ix_list (pv 0) (pv 1) (fun _ _ => rfl)) (pv 2)) pe_int) pe_int (nomark _)))), ?_⟩
  walk_at "rd"
  refine ⟨_, _, _, _, rfl, rfl, SqL.of hl, atI_nat (natV_at ht), ?_⟩
  walk_at "rd"
  show Q (V.bl (decide (V.int (Builtin.bitAnd ((t : Int) / 2 ^ ((e : Nat) : Int).toNat) 1) = V.int 1))) H
  rw [bit_at]
  exact k

end
end Lw
end

section
set_option Elab.async false
set_option linter.all false
set_option maxRecDepth 100000
set_option maxHeartbeats 4000000
set_option pp.maxSteps 300
set_option pp.deepTerms false
namespace Lw
open PySem L2 Evl M
open PyProof.Rows hiding St
local macro_rules | `(tactic| walk_at "at") => `(tactic| first | assumption | exact upd_same)
local macro_rules | `(tactic| walk_at "sq") => `(tactic| first | assumption | exact SqL.of (by walk_at "at") | exact SqT.of (by walk_at "at"))
local macro_rules | `(tactic| walk_at "sd") => `(tactic| first | assumption | exact Names.size (by assumption) | omega | decide | exact Nat.le_of_ble_eq_true rfl | exact Or.inl ⟨by decide, by decide⟩ | exact wide_div (b := 200) (by first | assumption | decide) (by first | assumption | decide) (by decide) (by decide) | exact pow_w 10 (by decide) (by decide) (by decide) (by decide))
local macro_rules | `(tactic| walk_at "r1") => `(tactic| first
  | refine ⟨_, rfl, ?_⟩
  | refine ⟨_, _, rfl, rfl, ?_⟩
  | refine And.intro rfl ?_
  | refine ⟨_, _, _, _, rfl, rfl, (by walk_at "sq"), rfl, ?_⟩
  | refine ⟨_, _, _, _, rfl, rfl, (by walk_at "at"), rfl, ?_⟩
  | refine ⟨_, _, rfl, Or.inl (by walk_at "sq"), ?_⟩
  | refine ⟨_, _, rfl, Or.inr (by walk_at "sq"), ?_⟩
  | refine ⟨_, _, rfl, ?_⟩
  | refine Or.inl ⟨_, rfl, ?_⟩
  | refine And.intro (by walk_at "sd") ?_)
local macro_rules | `(tactic| walk_at "rd") => `(tactic| try (walk_at "r1"; walk_at "rd"))
section
variable {P : Program} {w : World} {K : PySem.W.Frag} {mg : Str → Option Value} {base : Heap}
theorem ok_Stretches___init__ (T : Tx w K mg) : FnOk P w K mg base CX0 1 T.a_Stretches___init__ T.d_Stretches___init__ ["self", "row"] (sp_sinit K T.a_Stretches) := by
  refine T.F_Stretches___init__.ok sc_Stretches___init__ (fun vs H Q E h => ?_) (fun cdv A outer s H vs Q E hr h => ?_)
  · obtain ⟨_, _, _, rfl, _⟩ := h
    rfl
  obtain ⟨x, dx, z, rfl, hx, hz, k⟩ := h
  refine ⟨_, (pss_cons (ps_fld (pv 0) (pv 1) rfl)
   (pss_cons (ps_set (i := 2) sc_Stretches___init__.nd rfl (Or.inr rfl) (pe_op op_shl pe_int (pe_op op_add (pe_callB call_len_str (by rfl) T.b_len (by decide +kernel) (pa_cons (pv 1) pa_nil)) pe_int)))
   (pss_one (ps_fld (pv 0) (pe_lc (own := [("start", 3)]) (g := gName 3) (tt := tYes) (by rfl) sc_Stretches___init__.nd (pi_range1 (by rfl) T.b_range (pa_cons (pe_op op_add (pe_callB call_len_str (by rfl) T.b_len (by decide +kernel) (pa_cons (pv 1) pa_nil)) pe_int) pa_nil)) (blkOk_by (own := [("start", 3)]) (N := ["self", "row", "most", "start"]) (sc := defScope s_Stretches___init__) (by decide +kernel)) (fun _ _ _ _ _ => (pg_name (i := 3) sc_Stretches___init__.nd rfl (Or.inl rfl))) (fun _ _ _ _ _ => pts_nil) (fun _ _ _ _ _ => (pe_op op_sub (pv 2) (pe_op op_shl pe_int (pv 3))))) rfl)))), ?_⟩
  walk_at "rd"
  refine ⟨x, T.a_Stretches, dx, [], rfl, hx, T.C_Stretches, T.n_Stretches_row, by decide, ?_⟩
  walk_at "rd"
  refine And.intro (Nat.le_trans hz (by decide)) ?_
  walk_at "rd"
  refine And.intro ⟨by omega, by omega, by decide⟩ ?_
  walk_at "rd"
  have hx1 : upd H x (.ins T.a_Stretches dx (putF "row" (.str z) [])) x = some (.ins T.a_Stretches dx [(("row" : Str), V.str z)]) := upd_same
  have old1 : ∀ b o, b ≠ x → H b = some o → upd H x (.ins T.a_Stretches dx (putF "row" (.str z) [])) b = some o := fun b o nb e => by rw [upd_ne nb]; exact e
  generalize upd H x (.ins T.a_Stretches dx (putF "row" (.str z) [])) = H1 at *
  refine ⟨Nat.le_trans hz (by decide), ?_⟩
  walk_at "rd"
  intro D nD
  have nx : D ≠ x := fun z => by rw [z, hx1] at nD; cases nD
  have htop : ((z.length : Int) + 1).toNat = z.length + 1 := by omega
  obtain ⟨Pv, hPv⟩ : ∃ Pv : Nat → Hp → Prop, ∀ j J, Pv j J ↔ Ex H1 J ∧ J D = some (.lst (natV (wholeU z.length j))) := ⟨_, fun _ _ => Iff.rfl⟩
  refine lc_range Pv ((hPv _ _).mpr ⟨Ex.new nD, upd_same⟩) (fun j J hj hJ => ?_) (fun J hJ => ?_)
  · obtain ⟨xj, ej⟩ := (hPv _ _).mp hJ
    have hj2 : j ≤ z.length := by omega
    walk_at "rd"
    refine And.intro ⟨by omega, by omega, by decide⟩ ?_
    refine ⟨_, _, rfl, rfl, ?_⟩
    refine ⟨_, ej, by rw [wholeU_len]; exact Nat.lt_of_le_of_lt (by omega : j ≤ 100) (by decide), (hPv _ _).mpr ⟨xj.mut nD, ?_⟩⟩
    rw [upd_same, wholeU_succ]
    have e1 := whole_val hj2
    show some (HO.lst (_ ++ [V.int (1 * 2 ^ ((z.length : Int) + 1).toNat - 1 * 2 ^ (0 + (j : Int)).toNat)])) = _
    rw [e1]
  · obtain ⟨xj, ej⟩ := (hPv _ _).mp hJ
    rw [htop, wholeU_all] at ej
    walk_at "rd"
    refine ⟨x, T.a_Stretches, dx, _, rfl, xj _ _ hx1, T.C_Stretches, T.n_Stretches_whole, Nat.lt_of_lt_of_le (Nat.lt_succ_self 1) (by decide), ?_⟩
    refine k _ (fun b o nb e => ?_) ⟨dx, D, upd_same, by rw [upd_ne nx]; exact ej⟩
    rw [upd_ne nb]
    exact xj _ _ (old1 b o nb e)

end
end Lw
end

section
set_option Elab.async false
set_option linter.all false
set_option maxRecDepth 100000
set_option maxHeartbeats 4000000
set_option pp.maxSteps 300
set_option pp.deepTerms false
namespace Lw
open PySem L2 Evl M
open PyProof.Rows hiding St
local macro_rules | `(tactic| walk_at "at") => `(tactic| first | assumption | exact upd_same)
local macro_rules | `(tactic| walk_at "sq") => `(tactic| first | assumption | exact SqL.of (by walk_at "at") | exact SqT.of (by walk_at "at"))
local macro_rules | `(tactic| walk_at "sd") => `(tactic| first | assumption | exact Names.size (by assumption) | omega | decide | exact Nat.le_of_ble_eq_true rfl | exact Or.inl ⟨by decide, by decide⟩ | exact wide_div (b := 200) (by first | assumption | decide) (by first | assumption | decide) (by decide) (by decide) | exact pow_w 10 (by decide) (by decide) (by decide) (by decide))
local macro_rules | `(tactic| walk_at "r1") => `(tactic| first
  | refine ⟨_, rfl, ?_⟩
  | refine ⟨_, _, rfl, rfl, ?_⟩
  | refine And.intro rfl ?_
  | refine ⟨_, _, _, _, rfl, rfl, (by walk_at "sq"), rfl, ?_⟩
  | refine ⟨_, _, _, _, rfl, rfl, (by walk_at "at"), rfl, ?_⟩
  | refine ⟨_, _, rfl, Or.inl (by walk_at "sq"), ?_⟩
  | refine ⟨_, _, rfl, Or.inr (by walk_at "sq"), ?_⟩
  | refine ⟨_, _, rfl, ?_⟩
  | refine Or.inl ⟨_, rfl, ?_⟩
  | refine And.intro (by walk_at "sd") ?_)
local macro_rules | `(tactic| walk_at "rd") => `(tactic| try (walk_at "r1"; walk_at "rd"))
section
variable {P : Program} {w : World} {K : PySem.W.Frag} {mg : Str → Option Value} {base : Heap}
theorem ok_Stretches_met (T : Tx w K mg) (G_holds : FnOk P w K mg base CX0 1 T.a_holds T.d_holds ["table", "start", "end"] sp_holds) :
    FnOk P w K mg base CX0 2 T.a_Stretches_met T.d_Stretches_met ["self", "ahead", "letter", "behind"] (sp_met T.a_Stretches) := by
  refine T.F_Stretches_met.ok sc_Stretches_met (fun vs H Q E h => ?_) (fun cdv A outer s H vs Q E hr h => ?_)
  · obtain ⟨_, _, _, _, _, _, _, _, _, rfl, _⟩ := h
    rfl
  obtain ⟨x, l1, l2, z, c, a, b, ts, us, rfl, hx, hz, e1, t1, e2, t2, k⟩ := h
  refine ⟨_, (pss_cons (ps_set (i := 4) sc_Stretches_met.nd rfl (Or.inl rfl) (pe_op op_rep (pe_lst (pa_cons pe_int pa_nil)) (pe_callB call_len_seq (by rfl) T.b_len (by decide +kernel) (pa_cons (pe_fld (pv 0) rfl) pa_nil))))
   (pss_cons (ps_for PassesOwn.never (by rfl) (M.pi_enumS (by rfl) T.b_enumerate (pa_cons (pe_fld (pv 0) rfl) pa_nil)) (pg_tup (by rfl) (pgs_cons (pg_name (i := 5) sc_Stretches_met.nd rfl (Or.inl rfl)) (pgs_cons (pg_name (i := 6) sc_Stretches_met.nd rfl (Or.inl rfl)) pgs_nil))) (pss_one (ps_if (pt_cmpR op_eq (pv 6) (pv 2) (nomark _)) (pss_cons (ps_set (i := 7) sc_Stretches_met.nd rfl (Or.inl rfl) (pe_ix ix_list (pv 3) (pe_op op_add (pv 5) pe_int) (fun _ _ => rfl)))
   (pss_one (ps_for PassesOwn.never (by rfl) (pi_range1 (by rfl) T.b_range (pa_cons (pe_op op_add (pv 5) pe_int) pa_nil)) (pg_name (i := 8) sc_Stretches_met.nd rfl (Or.inl rfl)) (pss_one (ps_if (pt_val (pe_call G_holds (hr.mono (by omega)) (by rfl) T.g_holds T.F_holds.kp T.b_holds .nil pass0 (pa_cons (pv 1) (pa_cons (pv 8) (pa_cons (pv 5) pa_nil))))) (pss_one (ps_asg (pe_op op_or (pe_ix ix_list (pv 4) (pv 8) (fun _ _ => rfl)) (pv 7)) (pg_sub (pv 4) (pv 8) set_list))) pss_nil))))) pss_nil)))
   (pss_one (ps_ret (pv 4))))), ?_⟩
  obtain ⟨dx, lw, hx1, hw1⟩ := hx
  walk_at "rd"
  intro l0 n0
  have x0 : Ex H (upd H l0 (.lst [.int 0])) := Ex.new n0
  have g0 : upd H l0 (.lst [.int 0]) l0 = some (.lst [.int 0]) := upd_same
  generalize upd H l0 (.lst [.int 0]) = H0 at *
  walk_at "rd"
  refine ⟨x, T.a_Stretches, dx, _, _, rfl, x0 _ _ hx1, T.C_Stretches, T.n_Stretches_whole, rfl, ?_⟩
  walk_at "rd"
  refine ⟨lw, _, rfl, .inl (SqL.of (x0 _ _ hw1)), ?_⟩
  have hwl : (natV (wholeT z.length)).length = z.length + 1 := by rw [natV_len]; simp [wholeT]
  rw [hwl]
  refine ⟨l0, _, _, rfl, rfl, g0, by omega, by omega, ?_, fun lt nlt => ?_⟩
  · have e3 : (((z.length + 1 : Nat) : Int)).toNat = z.length + 1 := by omega
    rw [e3]
    exact Nat.le_trans (by simp; omega : _ ≤ 200) (by decide)
  have e3 : (((z.length + 1 : Nat) : Int)).toNat = z.length + 1 := by omega
  have e4 : (List.replicate (((z.length + 1 : Nat) : Int)).toNat [V.int 0]).flatten = natV (List.replicate (z.length + 1) 0) := by
    rw [e3]
    simp [natV]
  rw [e4]
  have nltH : H lt = none := fresh_back x0 nlt
  have x1 : Ex H (upd H0 lt (.lst (natV (List.replicate (z.length + 1) 0)))) := x0.trans (Ex.new nlt)
  have g1 : upd H0 lt (.lst (natV (List.replicate (z.length + 1) 0))) lt = some (.lst (natV (List.replicate (z.length + 1) 0))) := upd_same
  generalize upd H0 lt (.lst (natV (List.replicate (z.length + 1) 0))) = H1 at *
  have pt0 : Part (codes z) a c b 0 0 (List.replicate (z.length + 1) 0) := by
    have := part0 (codes z) a c b
    rw [codes_len] at this
    exact this
  walk_at "rd"
  refine ⟨x, T.a_Stretches, dx, _, _, rfl, x1 _ _ hx1, T.C_Stretches, T.n_Stretches_row, rfl, ?_⟩
  walk_at "rd"
  obtain ⟨Pv, hPv⟩ : ∃ Pv : Nat → L2.St → Hp → Prop, ∀ i σ G, Pv i σ G ↔ ∃ (o5 o6 o7 o8 : Option V) (tt : List Nat), σ = [some (.ref x), some (.ref l1), some (.str ⟨#[c]⟩), some (.ref l2), some (.ref lt), o5, o6, o7, o8] ∧ Ex H G ∧ G lt = some (.lst (natV tt)) ∧ Part (codes z) a c b i 0 tt := ⟨_, fun _ _ _ => Iff.rfl⟩
  refine for_enumS Pv ((hPv _ _ _).mpr ⟨_, _, _, _, _, rfl, x1, g1, pt0⟩) (fun i c' t σ G hc hT h => ?_) (fun σ G h => ?_)
  · obtain ⟨o5, o6, o7, o8, tt, rfl, xg, gt, pt⟩ := (hPv _ _ _).mp h
    have hcc : (codes z)[i]? = some c' := by unfold codes; rw [Array.getElem?_toList]; exact hc
    have hin : i < z.length := by rw [← codes_len]; exact (List.getElem?_eq_some_iff.mp hcc).1
    have ntl : lt ≠ t := ne_of_none gt hT
    walk_at "rd"
    refine ⟨_, _, rfl, SqT.of upd_same, rfl, ?_⟩
    have xg2 : Ex H (upd G t (.tup [.int (i : Nat), .str ⟨#[c']⟩])) := xg.trans (Ex.new hT)
    have gt2 : upd G t (.tup [.int (i : Nat), .str ⟨#[c']⟩]) lt = some (.lst (natV tt)) := by rw [upd_ne ntl]; exact gt
    generalize upd G t (.tup [.int (i : Nat), .str ⟨#[c']⟩]) = G2 at *
    walk_at "rd"
    refine iteS (fun q1 => ?_) (fun q1 => ?_)
    · have hcx : c' = c := by
        injection q1 with q1
        have := congrArg Array.toList q1
        simpa using this
      subst hcx
      have hus : i + 1 < us.length := by rw [t2.1, codes_len]; omega
      obtain ⟨y, hy⟩ : ∃ y, us[i + 1]? = some y := ⟨_, List.getElem?_eq_getElem hus⟩
      walk_at "rd"
      refine ⟨l2, _, _, _, rfl, rfl, SqL.of (xg2 _ _ e2), (by rw [show ((i : Int) + 1) = ((i + 1 : Nat) : Int) by omega]; exact atI_nat (natV_at hy)), ?_⟩
      walk_at "rd"
      have htop : ((i : Int) + 1).toNat = i + 1 := by omega
      obtain ⟨Pw, hPw⟩ : ∃ Pw : Nat → L2.St → Hp → Prop, ∀ u σ G, Pw u σ G ↔ ∃ (o8 : Option V) (tt : List Nat), σ = [some (.ref x), some (.ref l1), some (.str ⟨#[c']⟩), some (.ref l2), some (.ref lt), some (.int (i : Nat)), some (.str ⟨#[c']⟩), some (.int (y : Nat)), o8] ∧ Ex H G ∧ G lt = some (.lst (natV tt)) ∧ Part (codes z) a c' b i u tt := ⟨_, fun _ _ _ => Iff.rfl⟩
      refine for_range Pw ((hPw _ _ _).mpr ⟨_, tt, rfl, xg2, gt2, pt⟩) (fun u σ G hu h => ?_) (fun σ G h => ?_)
      · obtain ⟨o8', tt', rfl, xg3, gt3, pt3⟩ := (hPw _ _ _).mp h
        have hui : u ≤ i := by omega
        have h0 : (0 + (u : Int)) = ((u : Nat) : Int) := by omega
        have hul : u < ts.length := by rw [t1.1, codes_len]; omega
        obtain ⟨t', ht'⟩ : ∃ t', ts[u]? = some t' := ⟨_, List.getElem?_eq_getElem hul⟩
        have bit := t1.2 u t' ht' i
        have hb1 : decide (u ≤ i ∧ i ≤ (codes z).length) = true := decide_eq_true ⟨hui, by rw [codes_len]; omega⟩
        rw [hb1, Bool.true_and] at bit
        walk_at "rd"
        refine ⟨l1, ts, u, i, t', by rw [h0]; rfl, xg3 _ _ e1, ht', ?_⟩
        rw [bit]
        walk_at "rd"
        refine iteB (fun q2 => ?_) (fun q2 => ?_)
        · have htl : u < tt'.length := by rw [pt3.1, codes_len]; omega
          obtain ⟨w, hw⟩ : ∃ w, tt'[u]? = some w := ⟨_, List.getElem?_eq_getElem htl⟩
          walk_at "rd"
          refine ⟨lt, _, _, _, rfl, rfl, SqL.of gt3, (by rw [h0]; exact atI_nat (natV_at hw)), ?_⟩
          walk_at "rd"
          refine ⟨lt, _, _, u, rfl, rfl, gt3, (by rw [h0]; exact ixN_nat (by rw [natV_len]; exact htl)), ?_⟩
          have e9 := natV_set tt' u w y
          refine (hPw _ _ _).mpr ⟨_, tt'.set u (w ||| y), rfl, xg3.mut nltH, ?_, part_yes pt3 t2 hcc hui q2 hw hy⟩
          rw [upd_same]
          exact congrArg (fun q => some (HO.lst q)) e9
        · walk_at "rd"
          exact (hPw _ _ _).mpr ⟨_, tt', rfl, xg3, gt3, part_no pt3 q2⟩
      · obtain ⟨o8', tt', rfl, xg3, gt3, pt3⟩ := (hPw _ _ _).mp h
        rw [htop] at pt3
        exact (hPv _ _ _).mpr ⟨_, _, _, _, tt', rfl, xg3, gt3, part_next pt3⟩
    · walk_at "rd"
      refine (hPv _ _ _).mpr ⟨_, _, _, _, tt, rfl, xg2, gt2, part_skip pt fun q2 => q1 ?_⟩
      rw [hcc] at q2
      injection q2 with q2
      rw [q2]
  · obtain ⟨o5, o6, o7, o8, tt, rfl, xg, gt, pt⟩ := (hPv _ _ _).mp h
    walk_at "rd"
    have e5 : z.cps.size = (codes z).length := (codes_len z).symm
    rw [e5] at pt
    exact k lt tt G xg nltH gt (part_end pt)

end
end Lw
end

section
set_option Elab.async false
set_option linter.all false
set_option maxRecDepth 100000
set_option maxHeartbeats 4000000
set_option pp.maxSteps 300
set_option pp.deepTerms false
namespace Lw
open PySem L2 Evl M
open PyProof.Rows hiding St
local macro_rules | `(tactic| walk_at "at") => `(tactic| first | assumption | exact upd_same)
local macro_rules | `(tactic| walk_at "sq") => `(tactic| first | assumption | exact SqL.of (by walk_at "at") | exact SqT.of (by walk_at "at"))
local macro_rules | `(tactic| walk_at "sd") => `(tactic| first | assumption | exact Names.size (by assumption) | omega | decide | exact Nat.le_of_ble_eq_true rfl | exact Or.inl ⟨by decide, by decide⟩ | exact wide_div (b := 200) (by first | assumption | decide) (by first | assumption | decide) (by decide) (by decide) | exact pow_w 10 (by decide) (by decide) (by decide) (by decide))
local macro_rules | `(tactic| walk_at "r1") => `(tactic| first
  | refine ⟨_, rfl, ?_⟩
  | refine ⟨_, _, rfl, rfl, ?_⟩
  | refine And.intro rfl ?_
  | refine ⟨_, _, _, _, rfl, rfl, (by walk_at "sq"), rfl, ?_⟩
  | refine ⟨_, _, _, _, rfl, rfl, (by walk_at "at"), rfl, ?_⟩
  | refine ⟨_, _, rfl, Or.inl (by walk_at "sq"), ?_⟩
  | refine ⟨_, _, rfl, Or.inr (by walk_at "sq"), ?_⟩
  | refine ⟨_, _, rfl, ?_⟩
  | refine Or.inl ⟨_, rfl, ?_⟩
  | refine And.intro (by walk_at "sd") ?_)
local macro_rules | `(tactic| walk_at "rd") => `(tactic| try (walk_at "r1"; walk_at "rd"))
section
variable {P : Program} {w : World} {K : PySem.W.Frag} {mg : Str → Option Value} {base : Heap}
theorem ok_table_of_part (T : Tx w K mg) (G_Stretches_met : FnOk P w K mg base CX0 2 T.a_Stretches_met T.d_Stretches_met ["self", "ahead", "letter", "behind"] (sp_met T.a_Stretches)) :
    FnOk P w K mg base CX0 3 T.a_table_of_part T.d_table_of_part ["part", "tables", "asked"] (sp_tpart K T.a_Stretches) := by
  refine T.F_table_of_part.ok sc_table_of_part (fun vs H Q E h => ?_) (fun cdv A outer s H vs Q E hr h => ?_)
  · obtain ⟨_, _, _, _, _, _, _, _, rfl, _⟩ := h
    rfl
  obtain ⟨H0, v, q, l, x, z, xs, rest, rfl, x0, hl0, hd, hok, hS, hz, hL, hxs, k⟩ := h
  refine ⟨_, (pss_cons (ps_set (i := 3) sc_table_of_part.nd rfl (Or.inl rfl) (pe_ix ix_tup (pv 0) pe_int (fun _ _ => rfl)))
   (pss_cons (ps_if (pt_cmpR op_eq (pv 3) pe_str (nomark _)) (pss_one (ps_ret (pe_fld (pv 2) rfl))) pss_nil)
   (pss_cons (ps_set (i := 4) sc_table_of_part.nd rfl (Or.inl rfl) (pe_bm0 PySem.F.plainAttrs_list PySem.F.slot_list_pop PySem.F.type_list_pop mt_pop (pv 1)))
   (pss_cons (ps_if (pt_cmpR op_eq (pv 3) pe_str (nomark _)) (pss_one (ps_ret (pe_lc (own := [("whole", 6), ("told", 7)]) (g := gTup K 2 (gCons (gName 6) (gCons (gName 7) gNil))) (tt := tYes) (by rfl) sc_table_of_part.nd (pi_zip (by rfl) T.b_zip (pa_cons (pe_fld (pv 2) rfl) (pa_cons (pv 4) pa_nil))) (blkOk_by (own := [("whole", 6), ("told", 7)]) (N := ["part", "tables", "asked", "word", "first", "second", "whole", "told", "other"]) (sc := defScope s_table_of_part) (by decide +kernel)) (fun _ _ _ _ _ => (pg_tup (by rfl) (pgs_cons (pg_name (i := 6) sc_table_of_part.nd rfl (Or.inl rfl)) (pgs_cons (pg_name (i := 7) sc_table_of_part.nd rfl (Or.inl rfl)) pgs_nil)))) (fun _ _ _ _ _ => pts_nil) (fun _ _ _ _ _ => (pe_op op_xor (pv 6) (pv 7)))))) pss_nil)
   (pss_cons (ps_set (i := 5) sc_table_of_part.nd rfl (Or.inl rfl) (pe_bm0 PySem.F.plainAttrs_list PySem.F.slot_list_pop PySem.F.type_list_pop mt_pop (pv 1)))
   (pss_cons (ps_if (pt_cmpR op_eq (pv 3) pe_str (nomark _)) (pss_one (ps_ret (pe_lc (own := [("told", 7), ("other", 8)]) (g := gTup K 2 (gCons (gName 7) (gCons (gName 8) gNil))) (tt := tYes) (by rfl) sc_table_of_part.nd (pi_zip (by rfl) T.b_zip (pa_cons (pv 4) (pa_cons (pv 5) pa_nil))) (blkOk_by (own := [("told", 7), ("other", 8)]) (N := ["part", "tables", "asked", "word", "first", "second", "whole", "told", "other"]) (sc := defScope s_table_of_part) (by decide +kernel)) (fun _ _ _ _ _ => (pg_tup (by rfl) (pgs_cons (pg_name (i := 7) sc_table_of_part.nd rfl (Or.inl rfl)) (pgs_cons (pg_name (i := 8) sc_table_of_part.nd rfl (Or.inl rfl)) pgs_nil)))) (fun _ _ _ _ _ => pts_nil) (fun _ _ _ _ _ => (pe_op op_and (pv 7) (pv 8)))))) pss_nil)
   (pss_one (ps_ret (pe_meth (pv 2) T.C_Stretches T.m_Stretches_met G_Stretches_met (hr.mono (by omega)) T.b_Stretches_met .nil pass0 (pa_cons (pv 4) (pa_cons (pe_ix ix_tup (pv 0) pe_int (fun _ _ => rfl)) (pa_cons (pv 5) pa_nil)))))))))))), ?_⟩
  -- a new table at D
  have fin : ∀ (G : Hp) (ys : List V) (D : Addr) (tt : List Nat), Ex H0 G → H0 D = none → G D = some (.lst (natV tt)) → D ≠ l → G l = some (.lst ys) → TAll H0 (codes z) ys rest → (∀ b o, b ≠ l → H b = some o → G b = some o) → IsTab (codes z) q tt → Q (.ref D) G := by
    intro G ys D tt xg hD eD nD gl hys old tab
    refine k _ ys (upd H0 D (.lst (natV tt))) G (Ex.new hD) ?_ (by rw [upd_ne (Ne.symm nD)]; exact hl0) ⟨D, tt, rfl, upd_same, tab⟩ gl (hys.up (Ex.new hD)) old
    intro b o e
    by_cases y : b = D
    · subst y; rw [upd_same] at e; rw [← e]; exact eD
    · rw [upd_ne y] at e; exact xg b o e
  have hS1 := hS.up x0
  obtain ⟨dx, lw, hx1, hw1⟩ := hS1
  have hw0 : ∃ dx, H0 x = some (.ins T.a_Stretches dx [(("row" : Str), V.str z), (("whole" : Str), V.ref lw)]) ∧ H0 lw = some (.lst (natV (wholeT z.length))) := by
    obtain ⟨dx', lw', h1, h2⟩ := hS
    have e := x0 _ _ h1
    rw [hx1] at e
    cases e
    exact ⟨_, h1, h2⟩
  obtain ⟨dx', hx0, hww0⟩ := hw0
  have old1 : ∀ (ys : List V) (b : Addr) (o : HO), b ≠ l → H b = some o → upd H l (.lst ys) b = some o := fun ys b o nb e => by rw [upd_ne nb]; exact e
  have nxl : x ≠ l := ne_of_none hx0 hl0
  have nwl : lw ≠ l := ne_of_none hww0 hl0
  cases q with
  | any =>
    obtain ⟨a, rfl, hx⟩ := da_any hd
    have hx := ex_t x0 hx
    walk_at "rd"
    refine ⟨x, T.a_Stretches, dx, _, _, rfl, hx1, T.C_Stretches, T.n_Stretches_whole, rfl, ?_⟩
    refine k _ xs H0 H (Ex.refl _) x0 hl0 ⟨lw, wholeT z.length, rfl, hww0, ?_⟩ hL (by simpa [Qn.kids] using hxs) (fun b o _ e => e)
    rw [← codes_len]
    exact whole_tab _
  | no r =>
    obtain ⟨a, x', rfl, hx, _⟩ := da_no hd
    have hx := ex_t x0 hx
    have hxs : TAll H0 (codes z) xs (rest ++ [r]) := hxs
    obtain ⟨y, e1, hy, hr1⟩ := hxs.last
    obtain ⟨l1, ts, rfl, f1, t1⟩ := hy
    walk_at "rd"
    refine ⟨.inl ⟨rfl, _, SqL.of hL⟩, l, xs, _, rfl, rfl, hL, e1, ?_⟩
    have xp : Ex H0 (upd H l (.lst xs.dropLast)) := x0.mut hl0
    have gl : upd H l (.lst xs.dropLast) l = some (.lst xs.dropLast) := upd_same
    have oldp := old1 xs.dropLast
    generalize upd H l (.lst xs.dropLast) = H1 at *
    have hx2 := ex_t xp (by assumption : SqT K H0 a _)
    walk_at "rd"
    refine ⟨x, T.a_Stretches, dx', _, _, rfl, xp _ _ hx0, T.C_Stretches, T.n_Stretches_whole, rfl, ?_⟩
    walk_at "rd"
    refine ⟨lw, l1, _, _, rfl, SqL.of (xp _ _ hww0), SqL.of (xp _ _ f1), ?_⟩
    have hwz : IsTab (codes z) (.no r) (List.zipWith (· ^^^ ·) (wholeT z.length) ts) := by rw [← codes_len]; exact not_tab t1
    intro D nD
    have nD0 : H0 D = none := fresh_back xp nD
    have nDl : D ≠ l := fun y => by rw [y, gl] at nD; cases nD
    have lenz : (List.zipWith (· ^^^ ·) (wholeT z.length) ts).length = z.length + 1 := by rw [(hwz).1, codes_len]
    obtain ⟨Pv, hPv⟩ : ∃ Pv : Nat → Hp → Prop, ∀ j J, Pv j J ↔ Ex H1 J ∧ J D = some (.lst (natV ((List.zipWith (· ^^^ ·) (wholeT z.length) ts).take j))) := ⟨_, fun _ _ => Iff.rfl⟩
    refine lc_it (walk_zip (xs := natV ((wholeT z.length))) (ys := natV ts) rfl) Pv ((hPv _ _).mpr ⟨Ex.new nD, upd_same⟩) (fun j J _ hJ => ?_) (fun j y J J' hj hJ hy => ?_) (fun J hJ => ?_)
    · obtain ⟨xj, ej⟩ := (hPv _ _).mp hJ
      exact ⟨SqL.of (xj _ _ (xp _ _ hww0)), SqL.of (xj _ _ (xp _ _ f1))⟩
    · obtain ⟨xj, ej⟩ := (hPv _ _).mp hJ
      obtain ⟨tt, y1, y2, rfl, nt, rfl, h1, h2⟩ := hy
      obtain ⟨n1, g1, rfl⟩ := natV_inv h1
      obtain ⟨n2, g2, rfl⟩ := natV_inv h2
      have ntD : D ≠ tt := ne_of_none ej nt
      have zg := zipw_get (f := fun p q => p ^^^ q) g1 g2
      walk_at "rd"
      refine ⟨_, _, rfl, SqT.of upd_same, rfl, ?_⟩
      walk_at "rd"
      refine ⟨_, (by rw [upd_ne ntD]; exact ej), ?_, (hPv _ _).mpr ⟨(xj.trans (Ex.new nt)).mut nD, ?_⟩⟩
      · rw [natV_len, List.length_take, lenz]
        exact Nat.lt_of_le_of_lt (Nat.le_trans (Nat.min_le_right _ _) (by omega : _ ≤ 200)) (by decide)
      · rw [upd_same, natV_take zg]
        show some (HO.lst (_ ++ [V.int (Builtin.bitXor (n1 : Int) (n2 : Int))])) = _
        rw [xor_nat]
    · obtain ⟨xj, ej⟩ := (hPv _ _).mp hJ
      have full : (List.zipWith (· ^^^ ·) (wholeT z.length) ts).take (min (natV ((wholeT z.length))).length (natV ts).length) = List.zipWith (· ^^^ ·) (wholeT z.length) ts := by
        apply List.take_of_length_le
        rw [List.length_zipWith, natV_len, natV_len]
        exact Nat.le_refl _
      rw [full] at ej
      walk_at "rd"
      exact fin J _ D _ (xp.trans xj) nD0 ej nDl (xj _ _ gl) hr1 (fun b o nb e => xj _ _ (oldp b o nb e)) (hwz)
  | both r t =>
    obtain ⟨a, x', x'', rfl, hx, _⟩ := da_both hd
    have hx := ex_t x0 hx
    have hxs : TAll H0 (codes z) xs ((rest ++ [t]) ++ [r]) := by simpa [Qn.kids] using hxs
    obtain ⟨y, e1, hy, hr1⟩ := hxs.last
    obtain ⟨w2, e2, hw2, hr2⟩ := hr1.last
    obtain ⟨l1, ts, rfl, f1, t1⟩ := hy
    obtain ⟨l2, us, rfl, f2, t2⟩ := hw2
    walk_at "rd"
    refine ⟨.inl ⟨rfl, _, SqL.of hL⟩, l, xs, _, rfl, rfl, hL, e1, ?_⟩
    walk_at "rd"
    refine ⟨.inl ⟨rfl, _, SqL.of upd_same⟩, l, _, _, rfl, rfl, upd_same, e2, ?_⟩
    rw [upd_upd]
    have xp : Ex H0 (upd H l (.lst xs.dropLast.dropLast)) := x0.mut hl0
    have gl : upd H l (.lst xs.dropLast.dropLast) l = some (.lst xs.dropLast.dropLast) := upd_same
    have oldp := old1 xs.dropLast.dropLast
    generalize upd H l (.lst xs.dropLast.dropLast) = H1 at *
    walk_at "rd"
    refine ⟨l1, l2, _, _, rfl, SqL.of (xp _ _ f1), SqL.of (xp _ _ f2), ?_⟩
    have hbz : IsTab (codes z) (.both r t) (List.zipWith (· &&& ·) ts us) := both_tab t1 t2
    intro D nD
    have nD0 : H0 D = none := fresh_back xp nD
    have nDl : D ≠ l := fun y => by rw [y, gl] at nD; cases nD
    have lenz : (List.zipWith (· &&& ·) ts us).length = z.length + 1 := by rw [(hbz).1, codes_len]
    obtain ⟨Pv, hPv⟩ : ∃ Pv : Nat → Hp → Prop, ∀ j J, Pv j J ↔ Ex H1 J ∧ J D = some (.lst (natV ((List.zipWith (· &&& ·) ts us).take j))) := ⟨_, fun _ _ => Iff.rfl⟩
    refine lc_it (walk_zip (xs := natV ts) (ys := natV us) rfl) Pv ((hPv _ _).mpr ⟨Ex.new nD, upd_same⟩) (fun j J _ hJ => ?_) (fun j y J J' hj hJ hy => ?_) (fun J hJ => ?_)
    · obtain ⟨xj, ej⟩ := (hPv _ _).mp hJ
      exact ⟨SqL.of (xj _ _ (xp _ _ f1)), SqL.of (xj _ _ (xp _ _ f2))⟩
    · obtain ⟨xj, ej⟩ := (hPv _ _).mp hJ
      obtain ⟨tt, y1, y2, rfl, nt, rfl, h1, h2⟩ := hy
      obtain ⟨n1, g1, rfl⟩ := natV_inv h1
      obtain ⟨n2, g2, rfl⟩ := natV_inv h2
      have ntD : D ≠ tt := ne_of_none ej nt
      have zg := zipw_get (f := fun p q => p &&& q) g1 g2
      walk_at "rd"
      refine ⟨_, _, rfl, SqT.of upd_same, rfl, ?_⟩
      walk_at "rd"
      refine ⟨_, (by rw [upd_ne ntD]; exact ej), ?_, (hPv _ _).mpr ⟨(xj.trans (Ex.new nt)).mut nD, ?_⟩⟩
      · rw [natV_len, List.length_take, lenz]
        exact Nat.lt_of_le_of_lt (Nat.le_trans (Nat.min_le_right _ _) (by omega : _ ≤ 200)) (by decide)
      · rw [upd_same, natV_take zg]
        show some (HO.lst (_ ++ [V.int (Builtin.bitAnd (n1 : Int) (n2 : Int))])) = _
        rw [and_nat]
    · obtain ⟨xj, ej⟩ := (hPv _ _).mp hJ
      have full : (List.zipWith (· &&& ·) ts us).take (min (natV ts).length (natV us).length) = List.zipWith (· &&& ·) ts us := by
        apply List.take_of_length_le
        rw [List.length_zipWith, natV_len, natV_len]
        exact Nat.le_refl _
      rw [full] at ej
      walk_at "rd"
      exact fin J _ D _ (xp.trans xj) nD0 ej nDl (xj _ _ gl) hr2 (fun b o nb e => xj _ _ (oldp b o nb e)) (hbz)

  | some r c t =>
    obtain ⟨a, x', x'', rfl, hx, _⟩ := da_some hd
    have hx := ex_t x0 hx
    have hxs : TAll H0 (codes z) xs ((rest ++ [t]) ++ [r]) := by simpa [Qn.kids] using hxs
    obtain ⟨y, e1, hy, hr1⟩ := hxs.last
    obtain ⟨w2, e2, hw2, hr2⟩ := hr1.last
    obtain ⟨l1, ts, rfl, f1, t1⟩ := hy
    obtain ⟨l2, us, rfl, f2, t2⟩ := hw2
    walk_at "rd"
    refine ⟨.inl ⟨rfl, _, SqL.of hL⟩, l, xs, _, rfl, rfl, hL, e1, ?_⟩
    walk_at "rd"
    refine ⟨.inl ⟨rfl, _, SqL.of upd_same⟩, l, _, _, rfl, rfl, upd_same, e2, ?_⟩
    rw [upd_upd]
    have xp : Ex H0 (upd H l (.lst xs.dropLast.dropLast)) := x0.mut hl0
    have gl : upd H l (.lst xs.dropLast.dropLast) l = some (.lst xs.dropLast.dropLast) := upd_same
    have oldp := old1 xs.dropLast.dropLast
    have hx2 : SqT K (upd H l (.lst xs.dropLast.dropLast)) a [.str "some", x', .str ⟨#[c]⟩, x''] := ex_t xp (by assumption)
    generalize upd H l (.lst xs.dropLast.dropLast) = H1 at *
    walk_at "rd"
    refine ⟨x, dx', _, rfl, xp _ _ hx0, rfl, ?_⟩
    walk_at "rd"
    refine ⟨x, l1, l2, z, c, r, t, ts, us, rfl, hS.up xp, hz, xp _ _ f1, t1, xp _ _ f2, t2, fun D tt H2 x2 nD eD tab => ?_⟩
    have nDl : D ≠ l := fun y => by rw [y, gl] at nD; cases nD
    exact fin H2 _ D tt (xp.trans x2) (fresh_back xp nD) eD nDl (x2 _ _ gl) hr2 (fun b o nb e => x2 _ _ (oldp b o nb e)) tab

end
end Lw
end

section
set_option Elab.async false
set_option linter.all false
set_option maxRecDepth 100000
set_option maxHeartbeats 4000000
set_option pp.maxSteps 300
set_option pp.deepTerms false
namespace Lw
open PySem L2 Evl M
open PyProof.Rows hiding St
local macro_rules | `(tactic| walk_at "at") => `(tactic| first | assumption | exact upd_same)
local macro_rules | `(tactic| walk_at "sq") => `(tactic| first | assumption | exact SqL.of (by walk_at "at") | exact SqT.of (by walk_at "at"))
local macro_rules | `(tactic| walk_at "sd") => `(tactic| first | assumption | exact Names.size (by assumption) | omega | decide | exact Nat.le_of_ble_eq_true rfl | exact Or.inl ⟨by decide, by decide⟩ | exact wide_div (b := 200) (by first | assumption | decide) (by first | assumption | decide) (by decide) (by decide) | exact pow_w 10 (by decide) (by decide) (by decide) (by decide))
local macro_rules | `(tactic| walk_at "r1") => `(tactic| first
  | refine ⟨_, rfl, ?_⟩
  | refine ⟨_, _, rfl, rfl, ?_⟩
  | refine And.intro rfl ?_
  | refine ⟨_, _, _, _, rfl, rfl, (by walk_at "sq"), rfl, ?_⟩
  | refine ⟨_, _, _, _, rfl, rfl, (by walk_at "at"), rfl, ?_⟩
  | refine ⟨_, _, rfl, Or.inl (by walk_at "sq"), ?_⟩
  | refine ⟨_, _, rfl, Or.inr (by walk_at "sq"), ?_⟩
  | refine ⟨_, _, rfl, ?_⟩
  | refine Or.inl ⟨_, rfl, ?_⟩
  | refine And.intro (by walk_at "sd") ?_)
local macro_rules | `(tactic| walk_at "rd") => `(tactic| try (walk_at "r1"; walk_at "rd"))
section
variable {P : Program} {w : World} {K : PySem.W.Frag} {mg : Str → Option Value} {base : Heap}
theorem ok_table_of (T : Tx w K mg)
    (G_parts_of : FnOk P w K mg base CX0 2 T.a_parts_of T.d_parts_of ["question"] (sp_parts_of K))
    (G_table_of_part : FnOk P w K mg base CX0 3 T.a_table_of_part T.d_table_of_part ["part", "tables", "asked"] (sp_tpart K T.a_Stretches)) :
    FnOk P w K mg base CX0 6 T.a_table_of T.d_table_of ["question", "asked"] (sp_table_of K T.a_Stretches) := by
  refine T.F_table_of.ok sc_table_of (fun vs H Q E h => ?_) (fun cdv A outer s H vs Q E hr h => ?_)
  · obtain ⟨_, _, _, _, _, rfl, _⟩ := h
    rfl
  obtain ⟨H0, v, q, x, z, rfl, x0, hd, hq, hp, hS, hz, k⟩ := h
  refine ⟨_, (pss_cons (ps_set (i := 2) sc_table_of.nd rfl (Or.inl rfl) (pe_lst pa_nil))
   (pss_cons (ps_for PassesOwn.never (by rfl) (pi_reversed (by rfl) T.b_reversed (pa_cons (pe_call G_parts_of (hr.mono (by omega)) (by rfl) T.g_parts_of T.F_parts_of.kp T.b_parts_of .nil pass0 (pa_cons (pv 0) pa_nil)) pa_nil)) (pg_name (i := 3) sc_table_of.nd rfl (Or.inl rfl)) (pss_one (ps_expr (pe_bm PySem.F.plainAttrs_list PySem.F.slot_list_append PySem.F.type_list_append mt_append (pv 2) (pa_cons (pe_call G_table_of_part (hr.mono (by omega)) (by rfl) T.g_table_of_part T.F_table_of_part.kp T.b_table_of_part .nil pass0 (pa_cons (pv 3) (pa_cons (pv 2) (pa_cons (pv 1) pa_nil)))) pa_nil)))))
   (pss_one (ps_ret (pe_bm0 PySem.F.plainAttrs_list PySem.F.slot_list_pop PySem.F.type_list_pop mt_pop (pv 2)))))), ?_⟩
  walk_at "rd"
  intro lt hlt
  have nlt : H lt = none := hlt
  refine ⟨_, rfl, H0, v, q, rfl, x0.trans (Ex.new hlt), hd, hq, hp, fun lp xs H2 x2 hlp e2 hxs => ?_⟩
  have hlt0 : H0 lt = none := fresh_back x0 nlt
  have np : lp ≠ lt := fun z => by rw [z, upd_same] at hlp; cases hlp
  have e3 : H2 lt = some (.lst []) := x2 _ _ upd_same
  have x3 : Ex H H2 := (Ex.new hlt).trans x2
  have hlen := hxs.len
  have hall := Qn.all_len q
  refine ⟨lp, xs, rfl, SqL.of e2, ?_⟩
  refine RT.for_Itv (fun i σ G => ∃ (Hb : Hp) (ys : List V) (ts : List Qn) (o : Option V), σ = [some v, some (.ref x), some (.ref lt), o] ∧ Ex H0 Hb ∧ Ex Hb G ∧ Ex H G ∧ Hb lt = none ∧ G lt = some (.lst ys) ∧ G lp = some (.lst xs) ∧ TAll Hb (codes z) ys ts.reverse ∧
    q.all.drop (xs.length - i) = ts.flatMap Qn.all) ⟨H0, [], [], _, rfl, Ex.refl _, x0.trans x3, x3, hlt0, e3, e2, trivial, by simp [hlen]⟩ (fun i σ G h => ?_) (fun i y σ G hi hx h => ?_) (fun σ G h => ?_)
  · obtain ⟨_, _, _, _, _, _, _, _, _, _, h, _⟩ := h
    exact SqL.of h
  · obtain ⟨Hb, ys, ts, o, rfl, xb, xg, xh, nb, gt, gp, hys, hdrop⟩ := h
    have hj : xs.length - 1 - i < q.all.length := by omega
    have hr2 : q.all.drop (xs.length - (i + 1)) = q.all[xs.length - 1 - i] :: ts.flatMap Qn.all := by
      rw [← hdrop, show xs.length - (i + 1) = xs.length - 1 - i by omega, List.drop_eq_getElem_cons hj, show xs.length - 1 - i + 1 = xs.length - i by omega]
    have hx2 := Qs.at hxs hj hx
    have hmem : q.all[xs.length - 1 - i] ∈ q.all := List.getElem_mem hj
    generalize q.all[xs.length - 1 - i] = r at *
    have hrok := Qn.all_ok hq r hmem
    have hspl : [q].flatMap Qn.all = q.all.take (xs.length - (i + 1)) ++ r :: ts.flatMap Qn.all := by
      rw [← hr2, List.take_append_drop]
      simp
    obtain ⟨S', eS, rest, rfl⟩ := flat_split _ [q] (Nat.le_refl _) _ _ _ hspl
    obtain ⟨rest2, rfl, e5⟩ := flat_inj ts r.kids rest [] eS
    have hys2 : TAll Hb (codes z) ys (rest2.reverse ++ r.kids.reverse) := by simpa using hys
    have hcnt : (rest2.flatMap Qn.all).length + 1 ≤ q.parts := by
      have := congrArg List.length hr2
      simp only [List.length_drop, List.length_cons, List.flatMap_append, List.length_append] at this
      omega
    rw [all_flat] at hcnt
    have hc2 := ptss_len rest2
    walk_at "rd"
    refine ⟨.inl ⟨rfl, _, SqL.of gt⟩, ?_⟩
    walk_at "rd"
    refine ⟨Hb, y, r, lt, x, z, ys, rest2.reverse, rfl, xg, nb, hx2.up xb, hrok, hS.up xb, hz, gt, hys2, fun v' ys' H1' G' xb2 xg2 nb2 hv gt2 hys3 old => ?_⟩
    walk_at "rd"
    have hyl := hys3.len
    refine ⟨lt, ys', v', rfl, rfl, gt2, Nat.lt_of_le_of_lt (by simp at hyl; omega : ys'.length ≤ 1000) (by decide), ?_⟩
    refine ⟨H1', ys' ++ [v'], r :: rest2, _, rfl, xb.trans xb2, xg2.mut nb2, ?_, nb2, upd_same, ?_, ?_, ?_⟩
    · intro b o e
      have nb3 : b ≠ lt := ne_of_none e nlt
      rw [upd_ne nb3]
      exact old b o nb3 (xh b o e)
    · rw [upd_ne np]
      exact old _ _ np gp
    · rw [List.reverse_cons]
      exact hys3.app ⟨hv, trivial⟩
    · rw [hr2, List.flatMap_cons, Qn.all_kids r]
      rw [List.flatMap_append]
      rfl
  · obtain ⟨Hb, ys, ts, o, rfl, xb, xg, xh, nb, gt, gp, hys, hdrop⟩ := h
    have e6 : ts = [q] := flat_one (by rw [← hdrop]; simp)
    subst e6
    obtain ⟨y, f1, f2, f3⟩ := TAll.last (qs := []) (q := q) hys
    obtain ⟨l, tt, rfl, g1, g2⟩ := f2
    walk_at "rd"
    refine ⟨.inl ⟨rfl, _, SqL.of gt⟩, lt, ys, _, rfl, rfl, gt, f1, ?_⟩
    have nl : l ≠ lt := ne_of_none g1 nb
    exact k l tt _ (xh.mut nlt) (by rw [upd_ne nl]; exact xg _ _ g1) g2

end
end Lw
end

section
set_option Elab.async false
set_option linter.all false
set_option maxRecDepth 100000
set_option maxHeartbeats 4000000
set_option pp.maxSteps 300
set_option pp.deepTerms false
namespace Lw
open PySem L2 Evl M
open PyProof.Rows hiding St
local macro_rules | `(tactic| walk_at "at") => `(tactic| first | assumption | exact upd_same)
local macro_rules | `(tactic| walk_at "sq") => `(tactic| first | assumption | exact SqL.of (by walk_at "at") | exact SqT.of (by walk_at "at"))
local macro_rules | `(tactic| walk_at "sd") => `(tactic| first | assumption | exact Names.size (by assumption) | omega | decide | exact Nat.le_of_ble_eq_true rfl | exact Or.inl ⟨by decide, by decide⟩ | exact wide_div (b := 200) (by first | assumption | decide) (by first | assumption | decide) (by decide) (by decide) | exact pow_w 10 (by decide) (by decide) (by decide) (by decide))
local macro_rules | `(tactic| walk_at "r1") => `(tactic| first
  | refine ⟨_, rfl, ?_⟩
  | refine ⟨_, _, rfl, rfl, ?_⟩
  | refine And.intro rfl ?_
  | refine ⟨_, _, _, _, rfl, rfl, (by walk_at "sq"), rfl, ?_⟩
  | refine ⟨_, _, _, _, rfl, rfl, (by walk_at "at"), rfl, ?_⟩
  | refine ⟨_, _, rfl, Or.inl (by walk_at "sq"), ?_⟩
  | refine ⟨_, _, rfl, Or.inr (by walk_at "sq"), ?_⟩
  | refine ⟨_, _, rfl, ?_⟩
  | refine Or.inl ⟨_, rfl, ?_⟩
  | refine And.intro (by walk_at "sd") ?_)
local macro_rules | `(tactic| walk_at "rd") => `(tactic| try (walk_at "r1"; walk_at "rd"))
section
variable {P : Program} {w : World} {K : PySem.W.Frag} {mg : Str → Option Value} {base : Heap}
theorem ok_row_lets (T : Tx w K mg)
    (G_holds : FnOk P w K mg base CX0 1 T.a_holds T.d_holds ["table", "start", "end"] sp_holds)
    (G_Stretches___init__ : FnOk P w K mg base CX0 1 T.a_Stretches___init__ T.d_Stretches___init__ ["self", "row"] (sp_sinit K T.a_Stretches))
    (G_table_of : FnOk P w K mg base CX0 6 T.a_table_of T.d_table_of ["question", "asked"] (sp_table_of K T.a_Stretches)) :
    FnOk P w K mg base CX0 7 T.a_row_lets T.d_row_lets ["row", "question"] (sp_row_lets K) := by
  refine T.F_row_lets.ok sc_row_lets (fun vs H Q E h => ?_) (fun cdv A outer s H vs Q E hr h => ?_)
  · obtain ⟨_, _, _, _, rfl, _⟩ := h
    rfl
  obtain ⟨H0, v, q, z, rfl, x0, hd, hq, hp, hz, hl, k⟩ := h
  refine ⟨_, (pss_one (ps_ret (pe_call G_holds (hr.mono (by omega)) (by rfl) T.g_holds T.F_holds.kp T.b_holds .nil pass0 (pa_cons (pe_call G_table_of (hr.mono (by omega)) (by rfl) T.g_table_of T.F_table_of.kp T.b_table_of .nil pass0 (pa_cons (pv 1) (pa_cons (pe_make T.M_Stretches G_Stretches___init__ (hr.mono (by omega)) (by rfl) T.g_Stretches T.b_Stretches___init__ .nil pass0 (pa_cons (pv 0) pa_nil)) pa_nil))) (pa_cons pe_int (pa_cons (pe_callB call_len_str (by rfl) T.b_len (by decide +kernel) (pa_cons (pv 0) pa_nil)) pa_nil)))))), ?_⟩
  walk_at "rd"
  intro x dx nx ndx hne
  have hx1 : upd (upd H dx (.own x)) x (.ins T.a_Stretches dx []) x = some (.ins T.a_Stretches dx []) := upd_same
  have old1 : ∀ b o, H b = some o → b ≠ x ∧ upd (upd H dx (.own x)) x (.ins T.a_Stretches dx []) b = some o := fun b o e => by
    have n1 : b ≠ x := ne_of_none e nx
    have n2 : b ≠ dx := ne_of_none e ndx
    exact ⟨n1, by rw [upd_ne n1, upd_ne n2]; exact e⟩
  generalize upd (upd H dx (.own x)) x (.ins T.a_Stretches dx []) = H1 at *
  refine ⟨x, dx, z, rfl, hx1, hl, fun H2 old hS => ⟨rfl, ?_⟩⟩
  have x2 : Ex H H2 := fun b o e => by
    obtain ⟨n1, e1⟩ := old1 b o e
    exact old b o n1 e1
  walk_at "rd"
  refine ⟨H2, v, q, x, z, rfl, Ex.refl _, hd.up (x0.trans x2), hq, hp, hS, hl, fun l ts H3 x3 e3 t3 => ?_⟩
  walk_at "rd"
  refine And.intro (Nat.le_trans hl (by decide)) ?_
  have h0 : 0 < ts.length := by rw [t3.1]; omega
  obtain ⟨t, ht⟩ : ∃ t, ts[0]? = some t := ⟨_, List.getElem?_eq_getElem h0⟩
  have last := tab_last t3 ht
  rw [codes_len] at last
  walk_at "rd"
  refine ⟨l, ts, 0, z.length, t, rfl, e3, ht, ?_⟩
  rw [last]
  exact k H3 (x2.trans x3)

end
end Lw
end

section
set_option Elab.async false
set_option linter.all false
set_option maxRecDepth 100000
set_option maxHeartbeats 4000000
set_option pp.maxSteps 300
set_option pp.deepTerms false
namespace Lw
open PySem L2 Evl M
open PyProof.Rows hiding St
local macro_rules | `(tactic| walk_at "at") => `(tactic| first | assumption | exact upd_same)
local macro_rules | `(tactic| walk_at "sq") => `(tactic| first | assumption | exact SqL.of (by walk_at "at") | exact SqT.of (by walk_at "at"))
local macro_rules | `(tactic| walk_at "sd") => `(tactic| first | assumption | exact Names.size (by assumption) | omega | decide | exact Nat.le_of_ble_eq_true rfl | exact Or.inl ⟨by decide, by decide⟩ | exact wide_div (b := 200) (by first | assumption | decide) (by first | assumption | decide) (by decide) (by decide) | exact pow_w 10 (by decide) (by decide) (by decide) (by decide))
local macro_rules | `(tactic| walk_at "r1") => `(tactic| first
  | refine ⟨_, rfl, ?_⟩
  | refine ⟨_, _, rfl, rfl, ?_⟩
  | refine And.intro rfl ?_
  | refine ⟨_, _, _, _, rfl, rfl, (by walk_at "sq"), rfl, ?_⟩
  | refine ⟨_, _, _, _, rfl, rfl, (by walk_at "at"), rfl, ?_⟩
  | refine ⟨_, _, rfl, Or.inl (by walk_at "sq"), ?_⟩
  | refine ⟨_, _, rfl, Or.inr (by walk_at "sq"), ?_⟩
  | refine ⟨_, _, rfl, ?_⟩
  | refine Or.inl ⟨_, rfl, ?_⟩
  | refine And.intro (by walk_at "sd") ?_)
local macro_rules | `(tactic| walk_at "rd") => `(tactic| try (walk_at "r1"; walk_at "rd"))
section
variable {P : Program} {w : World} {K : PySem.W.Frag} {mg : Str → Option Value} {base : Heap}
theorem ok_lets (T : Tx w K mg) (G_check_row : FnOk P w K mg base CX0 2 T.a_check_row T.d_check_row ["row"] sp_check_row)
    (G_check_question : FnOk P w K mg base CX0 5 T.a_check_question T.d_check_question ["question"] (sp_check_question K))
    (G_row_lets : FnOk P w K mg base CX0 7 T.a_row_lets T.d_row_lets ["row", "question"] (sp_row_lets K)) :
    FnOk P w K mg base CX0 8 T.a_lets T.d_lets ["row", "question"] (sp_row_lets K) := by
  refine T.F_lets.ok sc_lets (fun vs H Q E h => ?_) (fun cdv A outer s H vs Q E hr h => ?_)
  · obtain ⟨_, _, _, _, rfl, _⟩ := h
    rfl
  obtain ⟨H0, v, q, z, rfl, x0, hd, hq, hp, hz, hl, k⟩ := h
  refine ⟨_, (pss_cons (ps_expr (pe_call G_check_row (hr.mono (by omega)) (by rfl) T.g_check_row T.F_check_row.kp T.b_check_row .nil pass0 (pa_cons (pv 0) pa_nil)))
   (pss_cons (ps_expr (pe_call G_check_question (hr.mono (by omega)) (by rfl) T.g_check_question T.F_check_question.kp T.b_check_question .nil pass0 (pa_cons (pv 1) pa_nil)))
   (pss_one (ps_ret (pe_call G_row_lets (hr.mono (by omega)) (by rfl) T.g_row_lets T.F_row_lets.kp T.b_row_lets .nil pass0 (pa_cons (pv 0) (pa_cons (pv 1) pa_nil))))))), ?_⟩
  walk_at "rd"
  intro H1 x1
  walk_at "rd"
  refine ⟨H0, v, q, rfl, x0.trans x1, hd, hq, hp, fun H2 x2 => ?_⟩
  walk_at "rd"
  refine ⟨H0, v, q, z, rfl, (x0.trans x1).trans x2, hd, hq, hp, hz, hl, fun H3 x3 => ?_⟩
  exact k H3 ((x1.trans x2).trans x3)

end
end Lw
end

section
set_option Elab.async false
set_option linter.all false
set_option maxRecDepth 100000
set_option maxHeartbeats 4000000
set_option pp.maxSteps 300
set_option pp.deepTerms false
namespace Lw
open PySem L2 Evl M
open PyProof.Rows hiding St
local macro_rules | `(tactic| walk_at "at") => `(tactic| first | assumption | exact upd_same)
local macro_rules | `(tactic| walk_at "sq") => `(tactic| first | assumption | exact SqL.of (by walk_at "at") | exact SqT.of (by walk_at "at"))
local macro_rules | `(tactic| walk_at "sd") => `(tactic| first | assumption | exact Names.size (by assumption) | omega | decide | exact Nat.le_of_ble_eq_true rfl | exact Or.inl ⟨by decide, by decide⟩ | exact wide_div (b := 200) (by first | assumption | decide) (by first | assumption | decide) (by decide) (by decide) | exact pow_w 10 (by decide) (by decide) (by decide) (by decide))
local macro_rules | `(tactic| walk_at "r1") => `(tactic| first
  | refine ⟨_, rfl, ?_⟩
  | refine ⟨_, _, rfl, rfl, ?_⟩
  | refine And.intro rfl ?_
  | refine ⟨_, _, _, _, rfl, rfl, (by walk_at "sq"), rfl, ?_⟩
  | refine ⟨_, _, _, _, rfl, rfl, (by walk_at "at"), rfl, ?_⟩
  | refine ⟨_, _, rfl, Or.inl (by walk_at "sq"), ?_⟩
  | refine ⟨_, _, rfl, Or.inr (by walk_at "sq"), ?_⟩
  | refine ⟨_, _, rfl, ?_⟩
  | refine Or.inl ⟨_, rfl, ?_⟩
  | refine And.intro (by walk_at "sd") ?_)
local macro_rules | `(tactic| walk_at "rd") => `(tactic| try (walk_at "r1"; walk_at "rd"))
section
variable {P : Program} {w : World} {K : PySem.W.Frag} {mg : Str → Option Value} {base : Heap}
theorem ok__law_pool (T : Tx w K mg) : FnOk P w K mg base CX0 1 T.a__law_pool T.d__law_pool ["script", "spot"] (sp_pool K) := by
  refine T.F__law_pool.ok sc__law_pool (fun vs H Q E h => ?_) (fun cdv A outer s H vs Q E hr h => ?_)
  · obtain ⟨_, _, _, rfl, _⟩ := h
    rfl
  obtain ⟨a, ns, i, rfl, hS, i0, i1, k⟩ := h
  have fin : ∀ (c : Int) (p : Addr), H p = none → Pl H (upd H p (.lst [.int (if c.natAbs - 10 ^ 18 > (0 : Int) then c.natAbs - 10 ^ 18 else 0), .int (c % 2305843009213693951 + 7368787 * (i + 1)), .int 0])) p 0 := by
    intro c p hp
    have e := Int.emod_lt_of_pos c (show (0 : Int) < 2305843009213693951 by decide)
    have e0 := Int.emod_nonneg c (show (2305843009213693951 : Int) ≠ 0 by decide)
    refine ⟨Ex.new hp, hp, _, _, _, upd_same, ?_, by omega, ?_, by omega, by omega⟩
    · split <;> omega
    · have : (2 : Int) ^ 62 = 4611686018427387904 := by decide
      omega
  refine ⟨_, (pss_cons (ps_set (i := 2) sc__law_pool.nd rfl (Or.inl rfl) pe_int)
   (pss_cons (ps_if (pt_cmpR op_lt (pv 1) (pe_callB call_len_seq (by rfl) T.b_len (by decide +kernel) (pa_cons (pv 0) pa_nil)) (nomark _)) (pss_one (ps_set (i := 2) sc__law_pool.nd rfl (Or.inl rfl) (pe_ix ix_list (pv 0) (pv 1) (fun _ _ => rfl)))) pss_nil)
   (pss_one (ps_ret (pe_lst (pa_cons (pe_callB (call_max2 (by rfl)) (by rfl) T.b_max (by decide +kernel) (pa_cons pe_int (pa_cons (pe_op op_sub (pe_callB call_abs (by rfl) T.b_abs (by decide +kernel) (pa_cons (pv 2) pa_nil)) (pe_op M.op_powW pe_int pe_int)) pa_nil))) (pa_cons (pe_op op_add (pe_op op_mod (pe_callTy call_int1 (by rfl) T.b_int (by decide +kernel) (pa_cons (pv 2) pa_nil)) pe_int) (pe_op op_mul pe_int (pe_op op_add (pv 1) pe_int))) (pa_cons pe_int pa_nil)))))))), ?_⟩
  walk_at "rd"
  refine ite2 (fun q => ?_) (fun q => ?_)
  · have q1 : i < ns.length := by
      have q0 := of_decide_eq_true q
      rw [List.length_map] at q0
      exact q0
    obtain ⟨j, rfl⟩ : ∃ j : Nat, i = j := ⟨i.toNat, by omega⟩
    have q2 : j < ns.length := by omega
    walk_at "rd"
    refine ⟨_, _, _, V.int ns[j], rfl, rfl, hS, atI_nat (by simp [q2]), ?_⟩
    walk_at "rd"
    intro p hp
    refine k p _ ?_
    have e := fin ns[j] p hp
    have e2 : (if ns[j] < 0 then -ns[j] else ns[j]) = (ns[j].natAbs : Int) := by split <;> omega
    rw [← e2] at e
    exact e
  · walk_at "rd"
    exact fun p hp => k p _ (fin 0 p hp)

end
end Lw
end

section
set_option Elab.async false
set_option linter.all false
set_option maxRecDepth 100000
set_option maxHeartbeats 4000000
set_option pp.maxSteps 300
set_option pp.deepTerms false
namespace Lw
open PySem L2 Evl M
open PyProof.Rows hiding St
local macro_rules | `(tactic| walk_at "at") => `(tactic| first | assumption | exact upd_same)
local macro_rules | `(tactic| walk_at "sq") => `(tactic| first | assumption | exact SqL.of (by walk_at "at") | exact SqT.of (by walk_at "at"))
local macro_rules | `(tactic| walk_at "sd") => `(tactic| first | assumption | exact Names.size (by assumption) | omega | decide | exact Nat.le_of_ble_eq_true rfl | exact Or.inl ⟨by decide, by decide⟩ | exact wide_div (b := 200) (by first | assumption | decide) (by first | assumption | decide) (by decide) (by decide) | exact pow_w 10 (by decide) (by decide) (by decide) (by decide))
local macro_rules | `(tactic| walk_at "r1") => `(tactic| first
  | refine ⟨_, rfl, ?_⟩
  | refine ⟨_, _, rfl, rfl, ?_⟩
  | refine And.intro rfl ?_
  | refine ⟨_, _, _, _, rfl, rfl, (by walk_at "sq"), rfl, ?_⟩
  | refine ⟨_, _, _, _, rfl, rfl, (by walk_at "at"), rfl, ?_⟩
  | refine ⟨_, _, rfl, Or.inl (by walk_at "sq"), ?_⟩
  | refine ⟨_, _, rfl, Or.inr (by walk_at "sq"), ?_⟩
  | refine ⟨_, _, rfl, ?_⟩
  | refine Or.inl ⟨_, rfl, ?_⟩
  | refine And.intro (by walk_at "sd") ?_)
local macro_rules | `(tactic| walk_at "rd") => `(tactic| try (walk_at "r1"; walk_at "rd"))
section
variable {P : Program} {w : World} {K : PySem.W.Frag} {mg : Str → Option Value} {base : Heap}
theorem ok__law_line (T : Tx w K mg) (G__law_draw : FnOk P w K mg base CX0 1 T.a__law_draw T.d__law_draw ["pool", "span"] sp_draw) : FnOk P w K mg base CX0 2 T.a__law_line T.d__law_line ["pool", "names", "longest"] sp_line := by
  refine T.F__law_line.ok sc__law_line (fun vs H Q E h => ?_) (fun cdv A outer s H vs Q E hr h => ?_)
  · obtain ⟨_, _, _, _, _, rfl, _⟩ := h
    rfl
  obtain ⟨H0, p, m, n, z, rfl, hP, hm, hn, hz, k⟩ := h
  refine ⟨_, (pss_one (ps_ret (pe_join pe_str (pe_lc (own := [("turn", 3)]) (g := gName 3) (tt := tYes) (by rfl) sc__law_line.nd (pi_range1 (by rfl) T.b_range (pa_cons (pe_call G__law_draw (hr.mono (by omega)) (by rfl) T.g__law_draw T.F__law_draw.kp T.b__law_draw .nil pass0 (pa_cons (pv 0) (pa_cons (pe_op op_add (pv 2) pe_int) pa_nil))) pa_nil)) (blkOk_by (own := [("turn", 3)]) (N := ["pool", "names", "longest", "turn"]) (sc := defScope s__law_line) (by decide +kernel)) (fun _ _ _ _ _ => (pg_name (i := 3) sc__law_line.nd rfl (Or.inl rfl))) (fun _ _ _ _ _ => pts_nil) (fun _ _ _ _ _ => (pe_ix ix_str (pv 1) (pe_call G__law_draw (hr.mono (by omega)) (by rfl) T.g__law_draw T.F__law_draw.kp T.b__law_draw .nil pass0 (pa_cons (pv 0) (pa_cons (pe_callB call_len_str (by rfl) T.b_len (by decide +kernel) (pa_cons (pv 1) pa_nil)) pa_nil))) (fun _ _ => rfl))))))), ?_⟩
  walk_at "rd"
  walk_at "rd"
  refine And.intro ⟨_, rfl⟩ ?_
  walk_at "rd"
  refine ⟨H0, p, m, (n : Int) + 1, rfl, hP, by omega, by omega, Nat.lt_of_le_of_lt (by omega : _ ≤ 100) (by decide), fun len H1 k0 k1 hP1 _ => ?_⟩
  walk_at "rd"
  intro D nD
  have hDp : D ≠ p := by
    obtain ⟨a, b, c, e, _⟩ := hP1.at_
    exact Ne.symm (ne_of_none e nD)
  have nD0 : H0 D = none := fresh_back hP1.ex nD
  obtain ⟨Pv, hPv⟩ : ∃ Pv : Nat → Hp → Prop, ∀ j J, Pv j J ↔ ∃ cs : List Nat, cs.length = j ∧ (∀ c ∈ cs, c ∈ z.cps.toList) ∧ Pl H0 J p (m + 1 + j) ∧ J D = some (.lst (oneV cs)) := ⟨_, fun _ _ => Iff.rfl⟩
  refine lc_range Pv ((hPv _ _).mpr ⟨[], rfl, (fun c h => nomatch h), hP1.mine nD, upd_same⟩) (fun j J hj hJ => ?_) (fun J hJ => ?_)
  · obtain ⟨cs, e1, e2, hPJ, eD⟩ := (hPv _ _).mp hJ
    walk_at "rd"
    refine ⟨H0, p, _, z.length, rfl, hPJ, by omega, (by have := hz.2.1; omega), (by have := hz.2.2; omega), fun kc J2 c0 c1 hPJ2 keep => ?_⟩
    obtain ⟨c, hc, hcz⟩ := hz.get c0 c1
    refine ⟨_, _, _, rfl, rfl, hz.size, hc, ?_⟩
    have eD2 := (keep D hDp).trans eD
    refine ⟨_, eD2, by rw [oneV_len, e1]; exact Nat.lt_of_le_of_lt (by omega : j ≤ 100) (by decide), (hPv _ _).mpr ⟨cs ++ [c], by simp [e1], fun d hd => ?_, ?_, ?_⟩⟩
    · rcases List.mem_append.mp hd with hd | hd
      · exact e2 d hd
      · rw [List.mem_singleton.mp hd]; exact hcz
    · exact (hPJ2.touch nD0 hDp).mono (by omega)
    · rw [upd_same, oneV_app]
  · obtain ⟨cs, e1, e2, hPJ, eD⟩ := (hPv _ _).mp hJ
    refine ⟨"", D, cs.map fun c => (⟨#[c]⟩ : Str), rfl, rfl, .inl (SqL.of eD), ?_, ?_⟩
    · have h1 : ((cs.map fun c => (⟨#[c]⟩ : Str)).map (·.length)).sum = cs.length := by
        clear e1 e2 eD
        induction cs with
        | nil => rfl
        | cons c cs ih => simp only [List.map_cons, List.sum_cons, List.length_cons, ih]; show 1 + _ = _; omega
      have h2 : ("" : Str).length = 0 := rfl
      rw [h1, h2]
      omega
    · rw [txt_one]
      have hl : (⟨cs.toArray⟩ : Str).length = cs.length := by show cs.toArray.size = _; simp
      refine k _ J (hPJ.mono (by omega)) (fun c hc => hz.1 c (e2 c (by simpa using hc))) (by rw [hl]; omega) (fun c hc => e2 c (by simpa using hc))

end
end Lw
end

section
set_option Elab.async false
set_option linter.all false
set_option maxRecDepth 100000
set_option maxHeartbeats 4000000
set_option pp.maxSteps 300
set_option pp.deepTerms false
namespace Lw
open PySem L2 Evl M
open PyProof.Rows hiding St
local macro_rules | `(tactic| walk_at "at") => `(tactic| first | assumption | exact upd_same)
local macro_rules | `(tactic| walk_at "sq") => `(tactic| first | assumption | exact SqL.of (by walk_at "at") | exact SqT.of (by walk_at "at"))
local macro_rules | `(tactic| walk_at "sd") => `(tactic| first | assumption | exact Names.size (by assumption) | omega | decide | exact Nat.le_of_ble_eq_true rfl | exact Or.inl ⟨by decide, by decide⟩ | exact wide_div (b := 200) (by first | assumption | decide) (by first | assumption | decide) (by decide) (by decide) | exact pow_w 10 (by decide) (by decide) (by decide) (by decide))
local macro_rules | `(tactic| walk_at "r1") => `(tactic| first
  | refine ⟨_, rfl, ?_⟩
  | refine ⟨_, _, rfl, rfl, ?_⟩
  | refine And.intro rfl ?_
  | refine ⟨_, _, _, _, rfl, rfl, (by walk_at "sq"), rfl, ?_⟩
  | refine ⟨_, _, _, _, rfl, rfl, (by walk_at "at"), rfl, ?_⟩
  | refine ⟨_, _, rfl, Or.inl (by walk_at "sq"), ?_⟩
  | refine ⟨_, _, rfl, Or.inr (by walk_at "sq"), ?_⟩
  | refine ⟨_, _, rfl, ?_⟩
  | refine Or.inl ⟨_, rfl, ?_⟩
  | refine And.intro (by walk_at "sd") ?_)
local macro_rules | `(tactic| walk_at "rd") => `(tactic| try (walk_at "r1"; walk_at "rd"))
section
variable {P : Program} {w : World} {K : PySem.W.Frag} {mg : Str → Option Value} {base : Heap}
theorem ok__law_pattern (T : Tx w K mg) : FnOk P w K mg base CX0 1 T.a__law_pattern T.d__law_pattern ["letters_here"] (sp_pattern K) := by
  refine T.F__law_pattern.ok sc__law_pattern (fun vs H Q E h => ?_) (fun cdv A outer s H vs Q E hr h => ?_)
  · obtain ⟨_, rfl, _⟩ := h
    rfl
  obtain ⟨z, rfl, k⟩ := h
  refine ⟨_, (pss_cons (ps_set (i := 1) sc__law_pattern.nd rfl (Or.inl rfl) (pe_tup (pa_cons pe_str pa_nil)))
   (pss_cons (ps_for PassesOwn.never (by rfl) (pi_str (pv 0)) (pg_name (i := 2) sc__law_pattern.nd rfl (Or.inl rfl)) (pss_one (ps_set (i := 1) sc__law_pattern.nd rfl (Or.inl rfl) (pe_tup (pa_cons pe_str (pa_cons (pv 1) (pa_cons (pv 2) (pa_cons (pe_tup (pa_cons pe_str pa_nil)) pa_nil))))))))
   (pss_one (ps_ret (pv 1))))), ?_⟩
  walk_at "rd"
  intro t0 n0
  have x0 : Ex H (upd H t0 (.tup [.str "any"])) := Ex.new n0
  have g0 : upd H t0 (.tup [.str "any"]) t0 = some (.tup [.str "any"]) := upd_same
  generalize upd H t0 (.tup [.str "any"]) = H0 at *
  walk_at "rd"
  obtain ⟨Pv, hPv⟩ : ∃ Pv : Nat → L2.St → Hp → Prop, ∀ i σ G, Pv i σ G ↔ ∃ (v : V) (o : Option V), σ = [some (.str z), some v, o] ∧ Ex H G ∧ Dp K G v (pat ((codes z).take i)).d := ⟨_, fun _ _ _ => Iff.rfl⟩
  refine for_str Pv ((hPv _ _ _).mpr ⟨_, _, rfl, x0, q_any g0⟩) (fun i c σ G hc h => ?_) (fun σ G h => ?_)
  · obtain ⟨v, o, rfl, xg, hv⟩ := (hPv _ _ _).mp h
    have hcc : (codes z)[i]? = some c := by unfold codes; rw [Array.getElem?_toList]; exact hc
    walk_at "rd"
    intro t1 n1
    have x1 : Ex G (upd G t1 (.tup [.str "any"])) := Ex.new n1
    have g1 : upd G t1 (.tup [.str "any"]) t1 = some (.tup [.str "any"]) := upd_same
    generalize upd G t1 (.tup [.str "any"]) = G1 at *
    walk_at "rd"
    intro t2 n2
    have x2 : Ex G1 (upd G1 t2 (.tup [.str "some", v, .str ⟨#[c]⟩, .ref t1])) := Ex.new n2
    have g2 : upd G1 t2 (.tup [.str "some", v, .str ⟨#[c]⟩, .ref t1]) t2 = some (.tup [.str "some", v, .str ⟨#[c]⟩, .ref t1]) := upd_same
    generalize upd G1 t2 (.tup [.str "some", v, .str ⟨#[c]⟩, .ref t1]) = G2 at *
    refine (hPv _ _ _).mpr ⟨_, _, rfl, xg.trans (x1.trans x2), ?_⟩
    obtain ⟨hi, e⟩ := List.getElem?_eq_some_iff.mp hcc
    rw [take_succ' hi, e, pat_snoc]
    exact q_some g2 (hv.up (x1.trans x2)) ((q_any g1).up x2)
  · obtain ⟨v, o, rfl, xg, hv⟩ := (hPv _ _ _).mp h
    walk_at "rd"
    have e : (codes z).take z.cps.size = codes z := List.take_of_length_le (by rw [codes_len]; exact Nat.le_refl _)
    rw [e] at hv
    exact k v G xg hv

end
end Lw
end

section
set_option Elab.async false
set_option linter.all false
set_option maxRecDepth 100000
set_option maxHeartbeats 4000000
set_option pp.maxSteps 300
set_option pp.deepTerms false
namespace Lw
open PySem L2 Evl M
open PyProof.Rows hiding St
local macro_rules | `(tactic| walk_at "at") => `(tactic| first | assumption | exact upd_same)
local macro_rules | `(tactic| walk_at "sq") => `(tactic| first | assumption | exact SqL.of (by walk_at "at") | exact SqT.of (by walk_at "at"))
local macro_rules | `(tactic| walk_at "sd") => `(tactic| first | assumption | exact Names.size (by assumption) | omega | decide | exact Nat.le_of_ble_eq_true rfl | exact Or.inl ⟨by decide, by decide⟩ | exact wide_div (b := 200) (by first | assumption | decide) (by first | assumption | decide) (by decide) (by decide) | exact pow_w 10 (by decide) (by decide) (by decide) (by decide))
local macro_rules | `(tactic| walk_at "r1") => `(tactic| first
  | refine ⟨_, rfl, ?_⟩
  | refine ⟨_, _, rfl, rfl, ?_⟩
  | refine And.intro rfl ?_
  | refine ⟨_, _, _, _, rfl, rfl, (by walk_at "sq"), rfl, ?_⟩
  | refine ⟨_, _, _, _, rfl, rfl, (by walk_at "at"), rfl, ?_⟩
  | refine ⟨_, _, rfl, Or.inl (by walk_at "sq"), ?_⟩
  | refine ⟨_, _, rfl, Or.inr (by walk_at "sq"), ?_⟩
  | refine ⟨_, _, rfl, ?_⟩
  | refine Or.inl ⟨_, rfl, ?_⟩
  | refine And.intro (by walk_at "sd") ?_)
local macro_rules | `(tactic| walk_at "rd") => `(tactic| try (walk_at "r1"; walk_at "rd"))
section
variable {P : Program} {w : World} {K : PySem.W.Frag} {mg : Str → Option Value} {base : Heap}
theorem ok__law_has (T : Tx w K mg) : FnOk P w K mg base CX0 1 T.a__law_has T.d__law_has ["line", "letters_here"] sp_has := by
  refine T.F__law_has.ok sc__law_has (fun vs H Q E h => ?_) (fun cdv A outer s H vs Q E hr h => ?_)
  · obtain ⟨_, _, rfl, _⟩ := h
    rfl
  obtain ⟨z, y, rfl, hy, k⟩ := h
  refine ⟨_, (pss_cons (ps_set (i := 2) sc__law_has.nd rfl (Or.inl rfl) pe_int)
   (pss_cons (ps_for PassesOwn.never (by rfl) (pi_str (pv 0)) (pg_name (i := 3) sc__law_has.nd rfl (Or.inl rfl)) (pss_one (ps_if (pw_and (pt_cmpR op_lt (pv 2) (pe_callB call_len_str (by rfl) T.b_len (by decide +kernel) (pa_cons (pv 1) pa_nil)) (nomark _)) (pw_and1 (pt_cmpR op_eq (pv 3) (pe_ix ix_str (pv 1) (pv 2) (fun _ _ => rfl)) (nomark _)))).pt (pss_one (ps_set (i := 2) sc__law_has.nd rfl (Or.inl rfl) (pe_op op_add (pv 2) pe_int))) pss_nil)))
   (pss_one (ps_ret (pe_cmpR op_eq (pv 2) (pe_callB call_len_str (by rfl) T.b_len (by decide +kernel) (pa_cons (pv 1) pa_nil)) (nomark _)))))), ?_⟩
  walk_at "rd"
  obtain ⟨Pv, hPv⟩ : ∃ Pv : Nat → L2.St → Hp → Prop, ∀ i σ G, Pv i σ G ↔ ∃ (o : Option V), σ = [some (.str z), some (.str y), some (.int (grd (codes y) ((codes z).take i) : Nat)), o] ∧ G = H := ⟨_, fun _ _ _ => Iff.rfl⟩
  refine for_str Pv ((hPv _ _ _).mpr ⟨_, rfl, rfl⟩) (fun i c σ G hc h => ?_) (fun σ G h => ?_)
  · obtain ⟨o, rfl, rfl⟩ := (hPv _ _ _).mp h
    have hcc : (codes z)[i]? = some c := by unfold codes; rw [Array.getElem?_toList]; exact hc
    obtain ⟨hi, e⟩ := List.getElem?_eq_some_iff.mp hcc
    have st : grd (codes y) ((codes z).take (i + 1)) = if grd (codes y) ((codes z).take i) < (codes y).length ∧ (codes y)[grd (codes y) ((codes z).take i)]? = some c then grd (codes y) ((codes z).take i) + 1 else grd (codes y) ((codes z).take i) := by
      rw [take_succ' hi, e, grd_snoc]
    have gl := grd_le (codes y) (codes z) i (by omega)
    rw [codes_len] at gl st
    have next : Pv (i + 1) [some (.str z), some (.str y), some (.int (grd (codes y) ((codes z).take (i + 1)) : Nat)), some (.str ⟨#[c]⟩)] G := (hPv _ _ _).mpr ⟨_, rfl, rfl⟩
    rw [st] at next
    clear h hPv
    generalize grd (codes y) ((codes z).take i) = g at *
    walk_at "rd"
    refine And.intro (Nat.le_trans hy (by decide)) ?_
    walk_at "rd"
    refine ite2 (fun q => ?_) (fun q => ?_)
    · have q1 : g < y.length := by
        have q0 := of_decide_eq_true q
        omega
      have g1 : g < (codes y).length := by rw [codes_len]; exact q1
      walk_at "rd"
      have gc : (codes y)[g]? = some ((codes y)[g]) := List.getElem?_eq_getElem g1
      generalize (codes y)[g] = d at gc
      refine ⟨y, (g : Nat), d, rfl, rfl, Nat.le_trans hy (by decide), atI_nat gc, ?_⟩
      walk_at "rd"
      refine iteS (fun qs => ?_) (fun qs => ?_)
      · have hcd : c = d := by
          injection qs with qs
          have := congrArg Array.toList qs
          simpa using this
        walk_at "rd"
        rw [if_pos ⟨q1, by rw [gc, hcd]⟩] at next
        exact next
      · walk_at "rd"
        rw [if_neg (fun h => qs (by
          have h2 := h.2
          rw [gc] at h2
          injection h2 with h2
          rw [h2]))] at next
        exact next
    · have q1 : ¬ g < y.length := fun h => q (decide_eq_true (by omega))
      walk_at "rd"
      rw [if_neg (fun h => q1 h.1)] at next
      exact next
  · obtain ⟨o, rfl, rfl⟩ := (hPv _ _ _).mp h
    walk_at "rd"
    refine And.intro (Nat.le_trans hy (by decide)) ?_
    walk_at "rd"
    have e : (codes z).take z.cps.size = codes z := List.take_of_length_le (by rw [codes_len]; exact Nat.le_refl _)
    rw [e]
    rw [codes_len] at k
    have e2 : decide (V.int (grd (codes y) (codes z) : Nat) = V.int (y.length : Nat)) = decide (grd (codes y) (codes z) = y.length) := by
      apply decide_eq_decide.mpr
      constructor
      · intro h
        injection h with h
        omega
      · intro h
        rw [h]
    rw [e2]
    exact k

end
end Lw
end

section
set_option Elab.async false
set_option linter.all false
set_option maxRecDepth 100000
set_option maxHeartbeats 4000000
set_option pp.maxSteps 300
set_option pp.deepTerms false
namespace Lw
open PySem L2 Evl M
open PyProof.Rows hiding St
local macro_rules | `(tactic| walk_at "at") => `(tactic| first | assumption | exact upd_same)
local macro_rules | `(tactic| walk_at "sq") => `(tactic| first | assumption | exact SqL.of (by walk_at "at") | exact SqT.of (by walk_at "at"))
local macro_rules | `(tactic| walk_at "sd") => `(tactic| first | assumption | exact Names.size (by assumption) | omega | decide | exact Nat.le_of_ble_eq_true rfl | exact Or.inl ⟨by decide, by decide⟩ | exact wide_div (b := 200) (by first | assumption | decide) (by first | assumption | decide) (by decide) (by decide) | exact pow_w 10 (by decide) (by decide) (by decide) (by decide))
local macro_rules | `(tactic| walk_at "r1") => `(tactic| first
  | refine ⟨_, rfl, ?_⟩
  | refine ⟨_, _, rfl, rfl, ?_⟩
  | refine And.intro rfl ?_
  | refine ⟨_, _, _, _, rfl, rfl, (by walk_at "sq"), rfl, ?_⟩
  | refine ⟨_, _, _, _, rfl, rfl, (by walk_at "at"), rfl, ?_⟩
  | refine ⟨_, _, rfl, Or.inl (by walk_at "sq"), ?_⟩
  | refine ⟨_, _, rfl, Or.inr (by walk_at "sq"), ?_⟩
  | refine ⟨_, _, rfl, ?_⟩
  | refine Or.inl ⟨_, rfl, ?_⟩
  | refine And.intro (by walk_at "sd") ?_)
local macro_rules | `(tactic| walk_at "rd") => `(tactic| try (walk_at "r1"; walk_at "rd"))
section
variable {P : Program} {w : World} {K : PySem.W.Frag} {mg : Str → Option Value} {base : Heap}
theorem ok__law_bare (T : Tx w K mg) : FnOk P w K mg base CX0 1 T.a__law_bare T.d__law_bare ["names"] (sp_bare K) := by
  refine T.F__law_bare.ok sc__law_bare (fun vs H Q E h => ?_) (fun cdv A outer s H vs Q E hr h => ?_)
  · obtain ⟨_, _, _, _, rfl, _⟩ := h
    rfl
  obtain ⟨H0, p, m, z, rfl, hP, k⟩ := h
  refine ⟨_, (pss_cons (ps_set (i := 1) sc__law_bare.nd rfl (Or.inl rfl) (pe_tup (pa_cons pe_str pa_nil)))
   (pss_cons (ps_for PassesOwn.never (by rfl) (pi_str (pv 0)) (pg_name (i := 2) sc__law_bare.nd rfl (Or.inl rfl)) (pss_one (ps_set (i := 1) sc__law_bare.nd rfl (Or.inl rfl) (pe_tup (pa_cons pe_str (pa_cons (pv 1) (pa_cons (pe_tup (pa_cons pe_str (pa_cons (pe_tup (pa_cons pe_str (pa_cons (pe_tup (pa_cons pe_str pa_nil)) (pa_cons (pv 2) (pa_cons (pe_tup (pa_cons pe_str pa_nil)) pa_nil))))) pa_nil))) pa_nil)))))))
   (pss_one (ps_ret (pv 1))))), ?_⟩
  walk_at "rd"
  intro t0 n0
  obtain ⟨hP0, x0, g0⟩ := hP.new (o := .tup [.str "any"]) n0
  generalize upd H0 t0 (.tup [.str "any"]) = B0 at *
  generalize upd H t0 (.tup [.str "any"]) = G0 at *
  walk_at "rd"
  obtain ⟨Pv, hPv⟩ : ∃ Pv : Nat → L2.St → Hp → Prop, ∀ i σ G, Pv i σ G ↔ ∃ (B : Hp) (v : V) (o : Option V), σ = [some (.str z), some v, o] ∧ Ex H0 B ∧ Pl B G p m ∧ Dp K B v (bareQ ((codes z).take i)).d := ⟨_, fun _ _ _ => Iff.rfl⟩
  refine for_str Pv ((hPv _ _ _).mpr ⟨B0, _, _, rfl, x0, hP0, q_any g0⟩) (fun i c σ G hc h => ?_) (fun σ G h => ?_)
  · obtain ⟨B, v, o, rfl, xb, hPg, hv⟩ := (hPv _ _ _).mp h
    have hcc : (codes z)[i]? = some c := by unfold codes; rw [Array.getElem?_toList]; exact hc
    walk_at "rd"
    intro t1 n1
    obtain ⟨hP1, x1, g1⟩ := hPg.new (o := .tup [.str "any"]) n1
    generalize upd B t1 (.tup [.str "any"]) = B1 at *
    generalize upd G t1 (.tup [.str "any"]) = G1 at *
    walk_at "rd"
    intro t2 n2
    obtain ⟨hP2, x2, g2⟩ := hP1.new (o := .tup [.str "any"]) n2
    generalize upd B1 t2 (.tup [.str "any"]) = B2 at *
    generalize upd G1 t2 (.tup [.str "any"]) = G2 at *
    walk_at "rd"
    intro t3 n3
    obtain ⟨hP3, x3, g3⟩ := hP2.new (o := .tup [.str "some", .ref t1, .str ⟨#[c]⟩, .ref t2]) n3
    generalize upd B2 t3 (.tup [.str "some", .ref t1, .str ⟨#[c]⟩, .ref t2]) = B3 at *
    generalize upd G2 t3 (.tup [.str "some", .ref t1, .str ⟨#[c]⟩, .ref t2]) = G3 at *
    walk_at "rd"
    intro t4 n4
    obtain ⟨hP4, x4, g4⟩ := hP3.new (o := .tup [.str "not", .ref t3]) n4
    generalize upd B3 t4 (.tup [.str "not", .ref t3]) = B4 at *
    generalize upd G3 t4 (.tup [.str "not", .ref t3]) = G4 at *
    walk_at "rd"
    intro t5 n5
    obtain ⟨hP5, x5, g5⟩ := hP4.new (o := .tup [.str "both", v, .ref t4]) n5
    generalize upd B4 t5 (.tup [.str "both", v, .ref t4]) = B5 at *
    generalize upd G4 t5 (.tup [.str "both", v, .ref t4]) = G5 at *
    refine (hPv _ _ _).mpr ⟨B5, _, _, rfl, xb.trans (x1.trans (x2.trans (x3.trans (x4.trans x5)))), hP5, ?_⟩
    obtain ⟨hi, e⟩ := List.getElem?_eq_some_iff.mp hcc
    rw [take_succ' hi, e, bare_snoc]
    have w3 : Dp K B3 (.ref t3) (Qn.some .any c .any).d := q_some g3 ((q_any g1).up (x2.trans x3)) ((q_any g2).up x3)
    exact q_both g5 (hv.up (x1.trans (x2.trans (x3.trans (x4.trans x5))))) ((q_no g4 (w3.up x4)).up x5)
  · obtain ⟨B, v, o, rfl, xb, hPg, hv⟩ := (hPv _ _ _).mp h
    walk_at "rd"
    have e : (codes z).take z.cps.size = codes z := List.take_of_length_le (by rw [codes_len]; exact Nat.le_refl _)
    rw [e] at hv
    exact k v B G xb hPg hv

end
end Lw
end

section
set_option Elab.async false
set_option linter.all false
set_option maxRecDepth 100000
set_option maxHeartbeats 4000000
set_option pp.maxSteps 300
set_option pp.deepTerms false
namespace Lw
open PySem L2 Evl M
open PyProof.Rows hiding St
local macro_rules | `(tactic| walk_at "at") => `(tactic| first | assumption | exact upd_same)
local macro_rules | `(tactic| walk_at "sq") => `(tactic| first | assumption | exact SqL.of (by walk_at "at") | exact SqT.of (by walk_at "at"))
local macro_rules | `(tactic| walk_at "sd") => `(tactic| first | assumption | exact Names.size (by assumption) | omega | decide | exact Nat.le_of_ble_eq_true rfl | exact Or.inl ⟨by decide, by decide⟩ | exact wide_div (b := 200) (by first | assumption | decide) (by first | assumption | decide) (by decide) (by decide) | exact pow_w 10 (by decide) (by decide) (by decide) (by decide))
local macro_rules | `(tactic| walk_at "r1") => `(tactic| first
  | refine ⟨_, rfl, ?_⟩
  | refine ⟨_, _, rfl, rfl, ?_⟩
  | refine And.intro rfl ?_
  | refine ⟨_, _, _, _, rfl, rfl, (by walk_at "sq"), rfl, ?_⟩
  | refine ⟨_, _, _, _, rfl, rfl, (by walk_at "at"), rfl, ?_⟩
  | refine ⟨_, _, rfl, Or.inl (by walk_at "sq"), ?_⟩
  | refine ⟨_, _, rfl, Or.inr (by walk_at "sq"), ?_⟩
  | refine ⟨_, _, rfl, ?_⟩
  | refine Or.inl ⟨_, rfl, ?_⟩
  | refine And.intro (by walk_at "sd") ?_)
local macro_rules | `(tactic| walk_at "rd") => `(tactic| try (walk_at "r1"; walk_at "rd"))
section
variable {P : Program} {w : World} {K : PySem.W.Frag} {mg : Str → Option Value} {base : Heap}
theorem ok__law_fits (T : Tx w K mg) (G__law_draw : FnOk P w K mg base CX0 1 T.a__law_draw T.d__law_draw ["pool", "span"] sp_draw)
    (G__law_line : FnOk P w K mg base CX0 2 T.a__law_line T.d__law_line ["pool", "names", "longest"] sp_line)
    (G__law_pattern : FnOk P w K mg base CX0 1 T.a__law_pattern T.d__law_pattern ["letters_here"] (sp_pattern K))
    (G__law_has : FnOk P w K mg base CX0 1 T.a__law_has T.d__law_has ["line", "letters_here"] sp_has)
    (G__law_bare : FnOk P w K mg base CX0 1 T.a__law_bare T.d__law_bare ["names"] (sp_bare K))
    (G_lets : FnOk P w K mg base CX0 8 T.a_lets T.d_lets ["row", "question"] (sp_row_lets K)) :
    FnG P w K mg base CX0 64 T.a__law_fits T.d__law_fits ["pool"] sp_fits := by
  refine M.Fun.okG T.F__law_fits sc__law_fits (fun vs H Q E h => ?_) (fun cdv A hg outer s H vs Q E hr h => ?_)
  · obtain ⟨_, _, _, rfl, _⟩ := h
    rfl
  obtain ⟨H0, p, m, rfl, hP, hm, k⟩ := h
  refine ⟨_, (pss_cons (ps_set (i := 1) sc__law_fits.nd rfl (Or.inl rfl) (pe_ix ix_list (pe_lst (pa_cons pe_str (pa_cons pe_str pa_nil))) (pe_call G__law_draw (hr.mono (by omega)) (by rfl) T.g__law_draw T.F__law_draw.kp T.b__law_draw .nil pass0 (pa_cons (pv 0) (pa_cons pe_int pa_nil))) (fun _ _ => rfl)))
   (pss_cons (ps_par (i := 2) (j := 3) (by rfl) sc__law_fits.nd rfl rfl (by decide) rfl rfl (pa_cons (pe_call G__law_line (hr.mono (by omega)) (by rfl) T.g__law_line T.F__law_line.kp T.b__law_line .nil pass0 (pa_cons (pv 0) (pa_cons (pv 1) (pa_cons pe_int pa_nil)))) (pa_cons (pe_call G__law_bare (hr.mono (by omega)) (by rfl) T.g__law_bare T.F__law_bare.kp T.b__law_bare .nil pass0 (pa_cons (pv 1) pa_nil)) pa_nil)) (by rfl))
   (pss_cons (ps_set (i := 4) sc__law_fits.nd rfl (Or.inl rfl) (pe_call G__law_line (hr.mono (by omega)) (by rfl) T.g__law_line T.F__law_line.kp T.b__law_line .nil pass0 (pa_cons (pv 0) (pa_cons (pv 1) (pa_cons pe_int pa_nil)))))
   (pss_cons (ps_set (i := 5) sc__law_fits.nd rfl (Or.inl rfl) (pe_call G__law_has (hr.mono (by omega)) (by rfl) T.g__law_has T.F__law_has.kp T.b__law_has .nil pass0 (pa_cons (pv 2) (pa_cons (pv 4) pa_nil))))
   (pss_cons (ps_if (pw_or (pt_cmpR op_ne (pe_call G_lets (hr.mono (by omega)) (by rfl) T.g_lets T.F_lets.kp T.b_lets .nil pass0 (pa_cons (pv 2) (pa_cons (pe_call G__law_pattern (hr.mono (by omega)) (by rfl) T.g__law_pattern T.F__law_pattern.kp T.b__law_pattern .nil pass0 (pa_cons (pv 4) pa_nil)) pa_nil))) (pv 5) (nomark _)) (pw_or1 (pt_cmpR op_eq (pe_call G_lets (hr.mono (by omega)) (by rfl) T.g_lets T.F_lets.kp T.b_lets .nil pass0 (pa_cons (pv 2) (pa_cons (pe_tup (pa_cons pe_str (pa_cons (pe_call G__law_pattern (hr.mono (by omega)) (by rfl) T.g__law_pattern T.F__law_pattern.kp T.b__law_pattern .nil pass0 (pa_cons (pv 4) pa_nil)) pa_nil))) pa_nil))) (pv 5) (nomark _)))).pt (pss_one (ps_ret pe_bl)) pss_nil)
   (pss_cons (ps_par (i := 6) (j := 7) (by rfl) sc__law_fits.nd rfl rfl (by decide) rfl rfl (pa_cons (pe_ix ix_str (pv 1) (pe_call G__law_draw (hr.mono (by omega)) (by rfl) T.g__law_draw T.F__law_draw.kp T.b__law_draw .nil pass0 (pa_cons (pv 0) (pa_cons (pe_callB call_len_str (by rfl) T.b_len (by decide +kernel) (pa_cons (pv 1) pa_nil)) pa_nil))) (fun _ _ => rfl)) (pa_cons (pe_op op_add pe_int (pe_call G__law_draw (hr.mono (by omega)) (by rfl) T.g__law_draw T.F__law_draw.kp T.b__law_draw .nil pass0 (pa_cons (pv 0) (pa_cons pe_int pa_nil)))) pa_nil)) (by rfl))
   (pss_cons (ps_if (pt_cmpR op_ne (pe_call G_lets (hr.mono (by omega)) (by rfl) T.g_lets T.F_lets.kp T.b_lets .nil pass0 (pa_cons (pv 2) (pa_cons (pe_call G__law_pattern (hr.mono (by omega)) (by rfl) T.g__law_pattern T.F__law_pattern.kp T.b__law_pattern .nil pass0 (pa_cons (pe_op M.op_mul_str (pv 6) (pv 7)) pa_nil)) pa_nil))) (pe_cmpR op_ge (pe_m1 PySem.F.slot_str_count PySem.F.type_str_count mt_count (pv 2) (pv 6)) (pv 7) (nomark _)) (nomark _)) (pss_one (ps_ret pe_bl)) pss_nil)
   (pss_cons (ps_if (pt_cmpR op_ne (pe_call G_lets (hr.mono (by omega)) (by rfl) T.g_lets T.F_lets.kp T.b_lets .nil pass0 (pa_cons (pv 2) (pa_cons (pe_tup (pa_cons pe_str (pa_cons (pv 3) (pa_cons (pv 6) (pa_cons (pe_tup (pa_cons pe_str pa_nil)) pa_nil))))) pa_nil))) (pe_m1 PySem.F.slot_str_startswith PySem.F.type_str_startswith mt_startswith (pv 2) (pv 6)) (nomark _)) (pss_one (ps_ret pe_bl)) pss_nil)
   (pss_cons (ps_if (pt_cmpR op_ne (pe_call G_lets (hr.mono (by omega)) (by rfl) T.g_lets T.F_lets.kp T.b_lets .nil pass0 (pa_cons (pv 2) (pa_cons (pe_tup (pa_cons pe_str (pa_cons (pe_tup (pa_cons pe_str pa_nil)) (pa_cons (pv 6) (pa_cons (pv 3) pa_nil))))) pa_nil))) (pe_m1 PySem.F.slot_str_endswith PySem.F.type_str_endswith mt_endswith (pv 2) (pv 6)) (nomark _)) (pss_one (ps_ret pe_bl)) pss_nil)
   (pss_cons (ps_set (i := 8) sc__law_fits.nd rfl (Or.inl rfl) (pe_ix ix_str (pv 1) (pe_call G__law_draw (hr.mono (by omega)) (by rfl) T.g__law_draw T.F__law_draw.kp T.b__law_draw .nil pass0 (pa_cons (pv 0) (pa_cons (pe_callB call_len_str (by rfl) T.b_len (by decide +kernel) (pa_cons (pv 1) pa_nil)) pa_nil))) (fun _ _ => rfl)))
   (pss_cons (ps_set (i := 9) sc__law_fits.nd rfl (Or.inl rfl) (pe_tup (pa_cons pe_str (pa_cons (pe_tup (pa_cons pe_str (pa_cons (pe_tup (pa_cons pe_str pa_nil)) (pa_cons (pv 6) (pa_cons (pv 3) pa_nil))))) (pa_cons (pv 8) (pa_cons (pe_tup (pa_cons pe_str pa_nil)) pa_nil))))))
   (pss_one (ps_ret (pe_and (pe_cmpR op_eq (pe_call G_lets (hr.mono (by omega)) (by rfl) T.g_lets T.F_lets.kp T.b_lets .nil pass0 (pa_cons (pv 2) (pa_cons (pv 9) pa_nil))) (pe_cmpR op_in_str (pe_op op_add_str (pv 6) (pv 8)) (pv 2) (by rfl)) (nomark _)) (pe_one (pe_cmpR op_eq (pe_call G_lets (hr.mono (by omega)) (by rfl) T.g_lets T.F_lets.kp T.b_lets .nil pass0 (pa_cons (pv 2) (pa_cons (pv 3) pa_nil))) (pe_cmpR op_eq (pv 2) pe_str (nomark _)) (nomark _))))))))))))))))), ?_⟩
  walk_at "rd"
  intro l hl
  have hP1 := hP.mine (o := .lst [.str "ab", .str "abc"]) hl
  have gl : upd H l (.lst [.str "ab", .str "abc"]) l = some (.lst [.str "ab", .str "abc"]) := upd_same
  have hlp : l ≠ p := by
    obtain ⟨a, b, c, e, _⟩ := hP.at_
    exact Ne.symm (ne_of_none e hl)
  generalize upd H l (.lst [.str "ab", .str "abc"]) = H1 at *
  walk_at "rd"
  refine ⟨H0, p, m, 2, rfl, hP1, by omega, by decide, by decide, fun kd H2 k0 k1 hP2 keep => ?_⟩
  have gl2 : H2 l = _ := (keep l hlp).trans gl
  obtain ⟨z, hz, hn, hn3⟩ := names2 k0 k1
  refine ⟨l, _, kd, .str z, rfl, rfl, SqL.of gl2, hz, ?_⟩
  walk_at "rd"
  refine ⟨H0, p, m + 1, 40, z, rfl, hP2, by omega, by decide, hn, fun ln H3 hP3 abc hlen sub => ?_⟩
  walk_at "rd"
  refine ⟨H0, p, _, z, rfl, hP3, fun v B H4 x4 hP4 hv => ?_⟩
  walk_at "rd"
  refine ⟨B, p, _, 4, z, rfl, hP4, by omega, by decide, hn, fun y H5 hP5 abc5 hlen5 sub5 => ?_⟩
  have hl100 : ln.length ≤ 100 := by omega
  have sub' : ∀ c ∈ codes ln, c ∈ codes z := sub
  have okb : (bareQ (codes z)).Ok := bare_ok (codes z) _ trivial hn.1
  have pb : (bareQ (codes z)).parts ≤ 20 := by
    have := bare_parts (codes z) .any
    rw [codes_len] at this
    unfold bareQ
    rw [this]
    simp only [Qn.parts]
    omega
  have oky : (pat (codes y)).Ok := pat_ok (codes y) _ trivial abc5
  have py : (pat (codes y)).parts ≤ 20 := by
    have := pat_parts (codes y) .any
    rw [codes_len] at this
    unfold pat
    rw [this]
    simp only [Qn.parts]
    omega
  walk_at "rd"
  intro vp H6 x6 hvp
  walk_at "rd"
  refine ⟨H6, vp, pat (codes y), ln, rfl, Ex.refl _, hvp, oky, by omega, abc, hl100, fun H7 x7 => ?_⟩
  walk_at "rd"
  refine iteOF (ne_F (pat_grd _ _)) ?_
  walk_at "rd"
  intro vq H8 x8 hvq
  walk_at "rd"
  intro t9 n9
  have x9 : Ex H8 (upd H8 t9 (.tup [.str "not", vq])) := Ex.new n9
  have g9 : upd H8 t9 (.tup [.str "not", vq]) t9 = some (.tup [.str "not", vq]) := upd_same
  generalize upd H8 t9 (.tup [.str "not", vq]) = H9 at *
  walk_at "rd"
  refine ⟨H9, .ref t9, .no (pat (codes y)), ln, rfl, Ex.refl _, q_no g9 (hvq.up x9), oky, by simp only [Qn.parts]; omega, abc, hl100, fun H10 x10 => ?_⟩
  walk_at "rd"
  refine iteOF (by rw [← pat_grd]; exact no_same _ _) ?_
  walk_at "rd"
  have hP10 := hP5.keep (x6.trans (x7.trans (x8.trans (x9.trans x10))))
  refine ⟨B, p, _, z.length, rfl, hP10, by omega, (by have := hn.2.1; omega), (by have := hn.2.2; omega), fun kc H11 c0 c1 hP11 _ => ?_⟩
  obtain ⟨c, hc, hcz⟩ := hn.get c0 c1
  refine ⟨_, _, _, rfl, rfl, hn.size, hc, ?_⟩
  have hc2 := hn.1 c hcz
  walk_at "rd"
  refine ⟨B, p, _, 6, rfl, hP11, by omega, by decide, by decide, fun ks H12 s0 s1 hP12 _ => ?_⟩
  walk_at "rd"
  have oks : (1 : Int) ≤ 1 + ks ∧ 1 + ks ≤ 6 := by omega
  refine And.intro (mul6 oks.1 oks.2) ?_
  walk_at "rd"
  intro vr H13 x13 hvr
  rw [codes_mul] at hvr
  have okr : (pat (List.replicate (1 + ks).toNat c)).Ok := pat_ok _ _ trivial fun d hd => by rw [(List.mem_replicate.mp hd).2]; exact hc2
  have pr : (pat (List.replicate (1 + ks).toNat c)).parts ≤ 20 := by
    have := pat_parts (List.replicate (1 + ks).toNat c) .any
    rw [List.length_replicate] at this
    unfold pat
    rw [this]
    simp only [Qn.parts]
    omega
  walk_at "rd"
  refine ⟨H13, vr, _, ln, rfl, Ex.refl _, hvr, okr, by omega, abc, hl100, fun H14 x14 => ?_⟩
  walk_at "rd"
  refine And.intro ⟨_, rfl⟩ ?_
  walk_at "rd"
  refine iteOF (ne_F ?_) ?_
  · rw [pat_rep, str_count]
    exact cnt_ge (by omega)
  have hP14 := hP12.keep (x13.trans x14)
  walk_at "rd"
  intro t15 n15
  obtain ⟨hP15, x15, g15⟩ := hP14.new (o := .tup [.str "any"]) n15
  generalize upd B t15 (.tup [.str "any"]) = B15 at *
  generalize upd H14 t15 (.tup [.str "any"]) = H15 at *
  walk_at "rd"
  intro t16 n16
  obtain ⟨hP16, x16, g16⟩ := hP15.new (o := .tup [.str "some", v, .str ⟨#[c]⟩, .ref t15]) n16
  generalize upd B15 t16 (.tup [.str "some", v, .str ⟨#[c]⟩, .ref t15]) = B16 at *
  generalize upd H15 t16 (.tup [.str "some", v, .str ⟨#[c]⟩, .ref t15]) = H16 at *
  have w16 : Dp K B16 (.ref t16) (Qn.some (bareQ (codes z)) c .any).d := q_some g16 (hv.up (x15.trans x16)) ((q_any g15).up x16)
  refine ⟨B16, .ref t16, _, ln, rfl, hP16.ex, w16, ⟨okb, hc2, trivial⟩, by simp only [Qn.parts]; omega, abc, hl100, fun H17 x17 => ?_⟩
  walk_at "rd"
  refine And.intro ⟨_, rfl⟩ ?_
  walk_at "rd"
  refine iteOF (ne_F ?_) ?_
  · rw [starts sub', str_starts]
  have hP17 := hP16.keep x17
  have hv17 := hv.up (x15.trans x16)
  walk_at "rd"
  intro t18 n18
  obtain ⟨hP18, x18, g18⟩ := hP17.new (o := .tup [.str "any"]) n18
  generalize upd B16 t18 (.tup [.str "any"]) = B18 at *
  generalize upd H17 t18 (.tup [.str "any"]) = H18 at *
  walk_at "rd"
  intro t19 n19
  obtain ⟨hP19, x19, g19⟩ := hP18.new (o := .tup [.str "some", .ref t18, .str ⟨#[c]⟩, v]) n19
  generalize upd B18 t19 (.tup [.str "some", .ref t18, .str ⟨#[c]⟩, v]) = B19 at *
  generalize upd H18 t19 (.tup [.str "some", .ref t18, .str ⟨#[c]⟩, v]) = H19 at *
  have w19 : Dp K B19 (.ref t19) (Qn.some .any c (bareQ (codes z))).d := q_some g19 ((q_any g18).up x19) (hv17.up (x18.trans x19))
  refine ⟨B19, .ref t19, _, ln, rfl, hP19.ex, w19, ⟨trivial, hc2, okb⟩, by simp only [Qn.parts]; omega, abc, hl100, fun H20 x20 => ?_⟩
  walk_at "rd"
  refine And.intro ⟨_, rfl⟩ ?_
  walk_at "rd"
  refine iteOF (ne_F ?_) ?_
  · rw [ends_is sub', str_ends]
  have hP20 := hP19.keep x20
  have hv20 := hv17.up (x18.trans x19)
  walk_at "rd"
  refine ⟨B19, p, _, z.length, rfl, hP20, by omega, (by have := hn.2.1; omega), (by have := hn.2.2; omega), fun kc2 H21 c20 c21 hP21 _ => ?_⟩
  obtain ⟨c2, hcc2, hcz2⟩ := hn.get c20 c21
  refine ⟨_, _, _, rfl, rfl, hn.size, hcc2, ?_⟩
  have hc22 := hn.1 c2 hcz2
  walk_at "rd"
  intro t22 n22
  obtain ⟨hP22, x22, g22⟩ := hP21.new (o := .tup [.str "any"]) n22
  generalize upd B19 t22 (.tup [.str "any"]) = B22 at *
  generalize upd H21 t22 (.tup [.str "any"]) = H22 at *
  walk_at "rd"
  intro t23 n23
  obtain ⟨hP23, x23, g23⟩ := hP22.new (o := .tup [.str "some", .ref t22, .str ⟨#[c]⟩, v]) n23
  generalize upd B22 t23 (.tup [.str "some", .ref t22, .str ⟨#[c]⟩, v]) = B23 at *
  generalize upd H22 t23 (.tup [.str "some", .ref t22, .str ⟨#[c]⟩, v]) = H23 at *
  have w23 : Dp K B23 (.ref t23) (Qn.some .any c (bareQ (codes z))).d := q_some g23 ((q_any g22).up x23) (hv20.up (x22.trans x23))
  walk_at "rd"
  intro t24 n24
  obtain ⟨hP24, x24, g24⟩ := hP23.new (o := .tup [.str "any"]) n24
  generalize upd B23 t24 (.tup [.str "any"]) = B24 at *
  generalize upd H23 t24 (.tup [.str "any"]) = H24 at *
  walk_at "rd"
  intro t25 n25
  obtain ⟨hP25, x25, g25⟩ := hP24.new (o := .tup [.str "some", .ref t23, .str ⟨#[c2]⟩, .ref t24]) n25
  generalize upd B24 t25 (.tup [.str "some", .ref t23, .str ⟨#[c2]⟩, .ref t24]) = B25 at *
  generalize upd H24 t25 (.tup [.str "some", .ref t23, .str ⟨#[c2]⟩, .ref t24]) = H25 at *
  have w25 : Dp K B25 (.ref t25) (Qn.some (Qn.some .any c (bareQ (codes z))) c2 .any).d := q_some g25 (w23.up (x24.trans x25)) ((q_any g24).up x25)
  walk_at "rd"
  refine ⟨B25, .ref t25, _, ln, rfl, hP25.ex, w25, ⟨⟨trivial, hc2, okb⟩, hc22, trivial⟩, by simp only [Qn.parts]; omega, abc, hl100, fun H26 x26 => ?_⟩
  walk_at "rd"
  refine iteOT (eq_T ?_) ?_
  · apply Bool.eq_iff_iff.mpr
    rw [near_iff sub']
    exact (str_in2 ln c c2).symm
  walk_at "rd"
  refine ⟨B25, v, _, ln, rfl, hP25.ex.trans x26, hv20.up (x22.trans (x23.trans (x24.trans x25))), okb, by omega, abc, hl100, fun H27 x27 => ?_⟩
  walk_at "rd"
  have fin : decide (V.bl (lt (bareQ (codes z)) (codes ln)) = V.bl (decide (V.str ln = V.str ""))) = true := eq_T (by rw [bare_is sub', str_nil])
  have done := k H27 (Pl.mono ⟨((x4.trans (x15.trans x16)).trans (x18.trans x19)).trans ((x22.trans (x23.trans (x24.trans x25))).trans (hP25.ex.trans (x26.trans x27))), hP.out, (hP25.keep (x26.trans x27)).at_⟩ (by omega))
  rw [← fin] at done
  exact done

end
end Lw
end

section
set_option Elab.async false
set_option linter.all false
set_option maxRecDepth 100000
set_option maxHeartbeats 4000000
set_option pp.maxSteps 300
set_option pp.deepTerms false
namespace Lw
open PySem L2 Evl M
open PyProof.Rows hiding St
local macro_rules | `(tactic| walk_at "at") => `(tactic| first | assumption | exact upd_same)
local macro_rules | `(tactic| walk_at "sq") => `(tactic| first | assumption | exact SqL.of (by walk_at "at") | exact SqT.of (by walk_at "at"))
local macro_rules | `(tactic| walk_at "sd") => `(tactic| first | assumption | exact Names.size (by assumption) | omega | decide | exact Nat.le_of_ble_eq_true rfl | exact Or.inl ⟨by decide, by decide⟩ | exact wide_div (b := 200) (by first | assumption | decide) (by first | assumption | decide) (by decide) (by decide) | exact pow_w 10 (by decide) (by decide) (by decide) (by decide))
local macro_rules | `(tactic| walk_at "r1") => `(tactic| first
  | refine ⟨_, rfl, ?_⟩
  | refine ⟨_, _, rfl, rfl, ?_⟩
  | refine And.intro rfl ?_
  | refine ⟨_, _, _, _, rfl, rfl, (by walk_at "sq"), rfl, ?_⟩
  | refine ⟨_, _, _, _, rfl, rfl, (by walk_at "at"), rfl, ?_⟩
  | refine ⟨_, _, rfl, Or.inl (by walk_at "sq"), ?_⟩
  | refine ⟨_, _, rfl, Or.inr (by walk_at "sq"), ?_⟩
  | refine ⟨_, _, rfl, ?_⟩
  | refine Or.inl ⟨_, rfl, ?_⟩
  | refine And.intro (by walk_at "sd") ?_)
local macro_rules | `(tactic| walk_at "rd") => `(tactic| try (walk_at "r1"; walk_at "rd"))
section
variable {P : Program} {w : World} {K : PySem.W.Frag} {mg : Str → Option Value} {base : Heap}
theorem ok_law (T : Tx w K mg) (G__law_pool : FnOk P w K mg base CX0 1 T.a__law_pool T.d__law_pool ["script", "spot"] (sp_pool K))
    (G__law_fits : FnG P w K mg base CX0 64 T.a__law_fits T.d__law_fits ["pool"] sp_fits) :
    FnG P w K mg base CX0 65 T.a_law T.d_law ["script"] (sp_law K) := by
  refine M.Fun.okG T.F_law sc_law (fun vs H Q E h => ?_) (fun cdv A hg outer s H vs Q E hr h => ?_)
  · obtain ⟨_, _, rfl, _⟩ := h
    rfl
  obtain ⟨a, ns, rfl, hs, hl, k⟩ := h
  refine ⟨_, (pss_cons (ps_for PassesOwn.never (by rfl) (pi_range1 (by rfl) T.b_range (pa_cons (pe_callB (call_max2 (by rfl)) (by rfl) T.b_max (by decide +kernel) (pa_cons pe_int (pa_cons (pe_callB (call_min2 (by rfl)) (by rfl) T.b_min (by decide +kernel) (pa_cons pe_int (pa_cons (pe_callB call_len_seq (by rfl) T.b_len (by decide +kernel) (pa_cons (pv 0) pa_nil)) pa_nil))) pa_nil))) pa_nil)) (pg_name (i := 1) sc_law.nd rfl (Or.inl rfl)) (pss_cons (ps_set (i := 2) sc_law.nd rfl (Or.inl rfl) (pe_call G__law_pool (hr.mono (by omega)) (by rfl) T.g__law_pool T.F__law_pool.kp T.b__law_pool .nil pass0 (pa_cons (pv 0) (pa_cons (pv 1) pa_nil))))
   (pss_one (ps_for PassesOwn.never (by rfl) (pi_range1 (by rfl) T.b_range (pa_cons pe_int pa_nil)) (pg_name (i := 3) sc_law.nd rfl (Or.inl rfl)) (pss_one (ps_if (pt_not (pt_val (M.pe_callG G__law_fits hg (hr.mono (by omega)) (by rfl) T.g__law_fits T.F__law_fits.kp T.b__law_fits .nil pass0 (pa_cons (pv 2) pa_nil)))) (pss_one (ps_ret pe_bl)) pss_nil))))))
   (pss_one (ps_ret pe_bl))), ?_⟩
  walk_at "rd"
  have hb : (if (if (((ns.map V.int).length : Nat) : Int) < 5 then (((ns.map V.int).length : Nat) : Int) else 5) > 1 then (if (((ns.map V.int).length : Nat) : Int) < 5 then (((ns.map V.int).length : Nat) : Int) else 5) else 1).toNat ≤ 5 := by
    split <;> split <;> omega
  generalize Int.toNat _ = top at *
  obtain ⟨Po, hPo⟩ : ∃ Po : Nat → L2.St → Hp → Prop, ∀ i σ G, Po i σ G ↔ ∃ (o1 o2 o3 : Option V), σ = [some (.ref a), o1, o2, o3] ∧ Ex H G := ⟨_, fun _ _ _ => Iff.rfl⟩
  refine for_range Po ((hPo _ _ _).mpr ⟨_, _, _, rfl, Ex.refl _⟩) (fun i σ G hi h => ?_) (fun σ G h => ?_)
  · obtain ⟨o1, o2, o3, rfl, xg⟩ := (hPo _ _ _).mp h
    have hs1 := ex_l xg hs
    walk_at "rd"
    refine ⟨a, ns, _, rfl, hs1, by omega, by omega, fun p G2 hP => ?_⟩
    walk_at "rd"
    obtain ⟨Pi, hPi⟩ : ∃ Pi : Nat → L2.St → Hp → Prop, ∀ i σ G3, Pi i σ G3 ↔ ∃ (o1 o3 : Option V), σ = [some (.ref a), o1, some (.ref p), o3] ∧ Pl G G3 p (600 * i) := ⟨_, fun _ _ _ => Iff.rfl⟩
    refine for_range Pi ((hPi _ _ _).mpr ⟨_, _, rfl, hP⟩) (fun j σ G3 hj h => ?_) (fun σ G3 h => ?_)
    · obtain ⟨o1, o3, rfl, hP3⟩ := (hPi _ _ _).mp h
      have hj5 : j < 3 := hj
      walk_at "rd"
      refine ⟨G, p, 600 * j, rfl, hP3, by omega, fun G4 hP4 => ?_⟩
      walk_at "rd"
      exact (hPi _ _ _).mpr ⟨_, _, rfl, hP4.mono (by omega)⟩
    · obtain ⟨o1, o3, rfl, hP3⟩ := (hPi _ _ _).mp h
      exact (hPo _ _ _).mpr ⟨_, _, _, rfl, xg.trans hP3.ex⟩
  · obtain ⟨o1, o2, o3, rfl, xg⟩ := (hPo _ _ _).mp h
    walk_at "rd"
    exact k G

end
end Lw
end

section
set_option Elab.async false
set_option linter.all false
set_option maxRecDepth 100000
set_option maxHeartbeats 4000000
namespace Lw
open PySem L2 Evl M
open PyProof.Rows hiding St
theorem all_mk {P : Program} {w : World} {K : PySem.W.Frag} {h : Heap} {mg : Str → Option Value} {fa : Addr} (X : K.In h) (G : h.Ns mainGlobals mg) (hfa : mg "law" = some (.ref fa))
  {f_is_letter : Addr} {od_is_letter an_is_letter : Option Addr} {sl_is_letter : Array (Option Value)} {oc_is_letter kV_is_letter dc_is_letter pm_is_letter cd_is_letter ct_is_letter : Value}
  {f_check_row : Addr} {od_check_row an_check_row : Option Addr} {sl_check_row : Array (Option Value)} {oc_check_row kV_check_row dc_check_row pm_check_row cd_check_row ct_check_row : Value}
  {f_is_question : Addr} {od_is_question an_is_question : Option Addr} {sl_is_question : Array (Option Value)} {oc_is_question kV_is_question dc_is_question pm_is_question cd_is_question ct_is_question : Value}
  {f_parts_of : Addr} {od_parts_of an_parts_of : Option Addr} {sl_parts_of : Array (Option Value)} {oc_parts_of kV_parts_of dc_parts_of pm_parts_of cd_parts_of ct_parts_of : Value}
  {f_inner_questions : Addr} {od_inner_questions an_inner_questions : Option Addr} {sl_inner_questions : Array (Option Value)} {oc_inner_questions kV_inner_questions dc_inner_questions pm_inner_questions cd_inner_questions ct_inner_questions : Value}
  {f_has_form : Addr} {od_has_form an_has_form : Option Addr} {sl_has_form : Array (Option Value)} {oc_has_form kV_has_form dc_has_form pm_has_form cd_has_form ct_has_form : Value}
  {f_is_one_letter : Addr} {od_is_one_letter an_is_one_letter : Option Addr} {sl_is_one_letter : Array (Option Value)} {oc_is_one_letter kV_is_one_letter dc_is_one_letter pm_is_one_letter cd_is_one_letter ct_is_one_letter : Value}
  {f_check_question : Addr} {od_check_question an_check_question : Option Addr} {sl_check_question : Array (Option Value)} {oc_check_question kV_check_question dc_check_question pm_check_question cd_check_question ct_check_question : Value}
  {f_table_of : Addr} {od_table_of an_table_of : Option Addr} {sl_table_of : Array (Option Value)} {oc_table_of kV_table_of dc_table_of pm_table_of cd_table_of ct_table_of : Value}
  {f_table_of_part : Addr} {od_table_of_part an_table_of_part : Option Addr} {sl_table_of_part : Array (Option Value)} {oc_table_of_part kV_table_of_part dc_table_of_part pm_table_of_part cd_table_of_part ct_table_of_part : Value}
  {f_Stretches___init__ : Addr} {od_Stretches___init__ an_Stretches___init__ : Option Addr} {sl_Stretches___init__ : Array (Option Value)} {oc_Stretches___init__ kV_Stretches___init__ dc_Stretches___init__ pm_Stretches___init__ cd_Stretches___init__ ct_Stretches___init__ : Value}
  {f_Stretches : Addr}
  {f_Stretches_met : Addr} {od_Stretches_met an_Stretches_met : Option Addr} {sl_Stretches_met : Array (Option Value)} {oc_Stretches_met kV_Stretches_met dc_Stretches_met pm_Stretches_met cd_Stretches_met ct_Stretches_met : Value}
  {f_holds : Addr} {od_holds an_holds : Option Addr} {sl_holds : Array (Option Value)} {oc_holds kV_holds dc_holds pm_holds cd_holds ct_holds : Value}
  {f_lets : Addr} {od_lets an_lets : Option Addr} {sl_lets : Array (Option Value)} {oc_lets kV_lets dc_lets pm_lets cd_lets ct_lets : Value}
  {f_row_lets : Addr} {od_row_lets an_row_lets : Option Addr} {sl_row_lets : Array (Option Value)} {oc_row_lets kV_row_lets dc_row_lets pm_row_lets cd_row_lets ct_row_lets : Value}
  {f__law_pool : Addr} {od__law_pool an__law_pool : Option Addr} {sl__law_pool : Array (Option Value)} {oc__law_pool kV__law_pool dc__law_pool pm__law_pool cd__law_pool ct__law_pool : Value}
  {f__law_draw : Addr} {od__law_draw an__law_draw : Option Addr} {sl__law_draw : Array (Option Value)} {oc__law_draw kV__law_draw dc__law_draw pm__law_draw cd__law_draw ct__law_draw : Value}
  {f__law_line : Addr} {od__law_line an__law_line : Option Addr} {sl__law_line : Array (Option Value)} {oc__law_line kV__law_line dc__law_line pm__law_line cd__law_line ct__law_line : Value}
  {f__law_pattern : Addr} {od__law_pattern an__law_pattern : Option Addr} {sl__law_pattern : Array (Option Value)} {oc__law_pattern kV__law_pattern dc__law_pattern pm__law_pattern cd__law_pattern ct__law_pattern : Value}
  {f__law_has : Addr} {od__law_has an__law_has : Option Addr} {sl__law_has : Array (Option Value)} {oc__law_has kV__law_has dc__law_has pm__law_has cd__law_has ct__law_has : Value}
  {f__law_bare : Addr} {od__law_bare an__law_bare : Option Addr} {sl__law_bare : Array (Option Value)} {oc__law_bare kV__law_bare dc__law_bare pm__law_bare cd__law_bare ct__law_bare : Value}
  {f__law_fits : Addr} {od__law_fits an__law_fits : Option Addr} {sl__law_fits : Array (Option Value)} {oc__law_fits kV__law_fits dc__law_fits pm__law_fits cd__law_fits ct__law_fits : Value}
  {f_law : Addr} {od_law an_law : Option Addr} {sl_law : Array (Option Value)} {oc_law kV_law dc_law pm_law cd_law ct_law : Value}
  {f_SIZES : Addr} {es_SIZES : Array DictEntry} {n_SIZES : Nat}
  (g_is_letter : PySem.W.nsIn K mainGlobals "is_letter" = some (some (.ref f_is_letter)))
  (l_is_letter : K.lookup f_is_letter = some ⟨oc_is_letter, od_is_letter, .func (PySem.W.fnOf "is_letter" "is_letter" (defArgs s_is_letter) (defBody s_is_letter) (defScope s_is_letter) .none kV_is_letter dc_is_letter pm_is_letter an_is_letter cd_is_letter ct_is_letter), sl_is_letter⟩)
  (c_is_letter : PySem.W.codeIn K cd_is_letter "is_letter" = true)
  (k_is_letter : PySem.W.keepIn K (.ref f_is_letter) = true)
  (g_check_row : PySem.W.nsIn K mainGlobals "check_row" = some (some (.ref f_check_row)))
  (l_check_row : K.lookup f_check_row = some ⟨oc_check_row, od_check_row, .func (PySem.W.fnOf "check_row" "check_row" (defArgs s_check_row) (defBody s_check_row) (defScope s_check_row) .none kV_check_row dc_check_row pm_check_row an_check_row cd_check_row ct_check_row), sl_check_row⟩)
  (c_check_row : PySem.W.codeIn K cd_check_row "check_row" = true)
  (k_check_row : PySem.W.keepIn K (.ref f_check_row) = true)
  (g_is_question : PySem.W.nsIn K mainGlobals "is_question" = some (some (.ref f_is_question)))
  (l_is_question : K.lookup f_is_question = some ⟨oc_is_question, od_is_question, .func (PySem.W.fnOf "is_question" "is_question" (defArgs s_is_question) (defBody s_is_question) (defScope s_is_question) .none kV_is_question dc_is_question pm_is_question an_is_question cd_is_question ct_is_question), sl_is_question⟩)
  (c_is_question : PySem.W.codeIn K cd_is_question "is_question" = true)
  (k_is_question : PySem.W.keepIn K (.ref f_is_question) = true)
  (g_parts_of : PySem.W.nsIn K mainGlobals "parts_of" = some (some (.ref f_parts_of)))
  (l_parts_of : K.lookup f_parts_of = some ⟨oc_parts_of, od_parts_of, .func (PySem.W.fnOf "parts_of" "parts_of" (defArgs s_parts_of) (defBody s_parts_of) (defScope s_parts_of) .none kV_parts_of dc_parts_of pm_parts_of an_parts_of cd_parts_of ct_parts_of), sl_parts_of⟩)
  (c_parts_of : PySem.W.codeIn K cd_parts_of "parts_of" = true)
  (k_parts_of : PySem.W.keepIn K (.ref f_parts_of) = true)
  (g_inner_questions : PySem.W.nsIn K mainGlobals "inner_questions" = some (some (.ref f_inner_questions)))
  (l_inner_questions : K.lookup f_inner_questions = some ⟨oc_inner_questions, od_inner_questions, .func (PySem.W.fnOf "inner_questions" "inner_questions" (defArgs s_inner_questions) (defBody s_inner_questions) (defScope s_inner_questions) .none kV_inner_questions dc_inner_questions pm_inner_questions an_inner_questions cd_inner_questions ct_inner_questions), sl_inner_questions⟩)
  (c_inner_questions : PySem.W.codeIn K cd_inner_questions "inner_questions" = true)
  (k_inner_questions : PySem.W.keepIn K (.ref f_inner_questions) = true)
  (g_has_form : PySem.W.nsIn K mainGlobals "has_form" = some (some (.ref f_has_form)))
  (l_has_form : K.lookup f_has_form = some ⟨oc_has_form, od_has_form, .func (PySem.W.fnOf "has_form" "has_form" (defArgs s_has_form) (defBody s_has_form) (defScope s_has_form) .none kV_has_form dc_has_form pm_has_form an_has_form cd_has_form ct_has_form), sl_has_form⟩)
  (c_has_form : PySem.W.codeIn K cd_has_form "has_form" = true)
  (k_has_form : PySem.W.keepIn K (.ref f_has_form) = true)
  (g_is_one_letter : PySem.W.nsIn K mainGlobals "is_one_letter" = some (some (.ref f_is_one_letter)))
  (l_is_one_letter : K.lookup f_is_one_letter = some ⟨oc_is_one_letter, od_is_one_letter, .func (PySem.W.fnOf "is_one_letter" "is_one_letter" (defArgs s_is_one_letter) (defBody s_is_one_letter) (defScope s_is_one_letter) .none kV_is_one_letter dc_is_one_letter pm_is_one_letter an_is_one_letter cd_is_one_letter ct_is_one_letter), sl_is_one_letter⟩)
  (c_is_one_letter : PySem.W.codeIn K cd_is_one_letter "is_one_letter" = true)
  (k_is_one_letter : PySem.W.keepIn K (.ref f_is_one_letter) = true)
  (g_check_question : PySem.W.nsIn K mainGlobals "check_question" = some (some (.ref f_check_question)))
  (l_check_question : K.lookup f_check_question = some ⟨oc_check_question, od_check_question, .func (PySem.W.fnOf "check_question" "check_question" (defArgs s_check_question) (defBody s_check_question) (defScope s_check_question) .none kV_check_question dc_check_question pm_check_question an_check_question cd_check_question ct_check_question), sl_check_question⟩)
  (c_check_question : PySem.W.codeIn K cd_check_question "check_question" = true)
  (k_check_question : PySem.W.keepIn K (.ref f_check_question) = true)
  (g_table_of : PySem.W.nsIn K mainGlobals "table_of" = some (some (.ref f_table_of)))
  (l_table_of : K.lookup f_table_of = some ⟨oc_table_of, od_table_of, .func (PySem.W.fnOf "table_of" "table_of" (defArgs s_table_of) (defBody s_table_of) (defScope s_table_of) .none kV_table_of dc_table_of pm_table_of an_table_of cd_table_of ct_table_of), sl_table_of⟩)
  (c_table_of : PySem.W.codeIn K cd_table_of "table_of" = true)
  (k_table_of : PySem.W.keepIn K (.ref f_table_of) = true)
  (g_table_of_part : PySem.W.nsIn K mainGlobals "table_of_part" = some (some (.ref f_table_of_part)))
  (l_table_of_part : K.lookup f_table_of_part = some ⟨oc_table_of_part, od_table_of_part, .func (PySem.W.fnOf "table_of_part" "table_of_part" (defArgs s_table_of_part) (defBody s_table_of_part) (defScope s_table_of_part) .none kV_table_of_part dc_table_of_part pm_table_of_part an_table_of_part cd_table_of_part ct_table_of_part), sl_table_of_part⟩)
  (c_table_of_part : PySem.W.codeIn K cd_table_of_part "table_of_part" = true)
  (k_table_of_part : PySem.W.keepIn K (.ref f_table_of_part) = true)
  (g_Stretches : PySem.W.nsIn K mainGlobals "Stretches" = some (some (.ref f_Stretches)))
  (pg_Stretches : PySem.W.plainGet K f_Stretches Str.empty = true)
  (hd_Stretches : PySem.W.hasDictIn K f_Stretches = true)
  (po_Stretches : PySem.W.plainOver K f_Stretches = true)
  (sa_Stretches : PySem.W.findIn K (.ref f_Stretches) "__setattr__" = some (some (.builtin "object.__setattr__")))
  (mk_Stretches : PySem.W.makesIn K f_Stretches = true)
  (kk_Stretches : PySem.W.keepIn K (.ref f_Stretches) = true)
  (n_Stretches_row : PySem.W.findIn K (.ref f_Stretches) "row" = some none)
  (n_Stretches_whole : PySem.W.findIn K (.ref f_Stretches) "whole" = some none)
  (g_Stretches___init__ : PySem.W.findIn K (.ref f_Stretches) "__init__" = some (some (.ref f_Stretches___init__)))
  (l_Stretches___init__ : K.lookup f_Stretches___init__ = some ⟨oc_Stretches___init__, od_Stretches___init__, .func (PySem.W.fnOf "__init__" "Stretches.__init__" (defArgs s_Stretches___init__) (defBody s_Stretches___init__) (defScope s_Stretches___init__) .none kV_Stretches___init__ dc_Stretches___init__ pm_Stretches___init__ an_Stretches___init__ cd_Stretches___init__ ct_Stretches___init__), sl_Stretches___init__⟩)
  (c_Stretches___init__ : PySem.W.codeIn K cd_Stretches___init__ "Stretches.__init__" = true)
  (k_Stretches___init__ : PySem.W.keepIn K (.ref f_Stretches___init__) = true)
  (fn_Stretches___init__ : PySem.W.isFn K (.ref f_Stretches___init__) = true)
  (g_Stretches_met : PySem.W.findIn K (.ref f_Stretches) "met" = some (some (.ref f_Stretches_met)))
  (l_Stretches_met : K.lookup f_Stretches_met = some ⟨oc_Stretches_met, od_Stretches_met, .func (PySem.W.fnOf "met" "Stretches.met" (defArgs s_Stretches_met) (defBody s_Stretches_met) (defScope s_Stretches_met) .none kV_Stretches_met dc_Stretches_met pm_Stretches_met an_Stretches_met cd_Stretches_met ct_Stretches_met), sl_Stretches_met⟩)
  (c_Stretches_met : PySem.W.codeIn K cd_Stretches_met "Stretches.met" = true)
  (k_Stretches_met : PySem.W.keepIn K (.ref f_Stretches_met) = true)
  (fn_Stretches_met : PySem.W.isFn K (.ref f_Stretches_met) = true)
  (g_holds : PySem.W.nsIn K mainGlobals "holds" = some (some (.ref f_holds)))
  (l_holds : K.lookup f_holds = some ⟨oc_holds, od_holds, .func (PySem.W.fnOf "holds" "holds" (defArgs s_holds) (defBody s_holds) (defScope s_holds) .none kV_holds dc_holds pm_holds an_holds cd_holds ct_holds), sl_holds⟩)
  (c_holds : PySem.W.codeIn K cd_holds "holds" = true)
  (k_holds : PySem.W.keepIn K (.ref f_holds) = true)
  (g_lets : PySem.W.nsIn K mainGlobals "lets" = some (some (.ref f_lets)))
  (l_lets : K.lookup f_lets = some ⟨oc_lets, od_lets, .func (PySem.W.fnOf "lets" "lets" (defArgs s_lets) (defBody s_lets) (defScope s_lets) .none kV_lets dc_lets pm_lets an_lets cd_lets ct_lets), sl_lets⟩)
  (c_lets : PySem.W.codeIn K cd_lets "lets" = true)
  (k_lets : PySem.W.keepIn K (.ref f_lets) = true)
  (g_row_lets : PySem.W.nsIn K mainGlobals "row_lets" = some (some (.ref f_row_lets)))
  (l_row_lets : K.lookup f_row_lets = some ⟨oc_row_lets, od_row_lets, .func (PySem.W.fnOf "row_lets" "row_lets" (defArgs s_row_lets) (defBody s_row_lets) (defScope s_row_lets) .none kV_row_lets dc_row_lets pm_row_lets an_row_lets cd_row_lets ct_row_lets), sl_row_lets⟩)
  (c_row_lets : PySem.W.codeIn K cd_row_lets "row_lets" = true)
  (k_row_lets : PySem.W.keepIn K (.ref f_row_lets) = true)
  (g__law_pool : PySem.W.nsIn K mainGlobals "_law_pool" = some (some (.ref f__law_pool)))
  (l__law_pool : K.lookup f__law_pool = some ⟨oc__law_pool, od__law_pool, .func (PySem.W.fnOf "_law_pool" "_law_pool" (defArgs s__law_pool) (defBody s__law_pool) (defScope s__law_pool) .none kV__law_pool dc__law_pool pm__law_pool an__law_pool cd__law_pool ct__law_pool), sl__law_pool⟩)
  (c__law_pool : PySem.W.codeIn K cd__law_pool "_law_pool" = true)
  (k__law_pool : PySem.W.keepIn K (.ref f__law_pool) = true)
  (g__law_draw : PySem.W.nsIn K mainGlobals "_law_draw" = some (some (.ref f__law_draw)))
  (l__law_draw : K.lookup f__law_draw = some ⟨oc__law_draw, od__law_draw, .func (PySem.W.fnOf "_law_draw" "_law_draw" (defArgs s__law_draw) (defBody s__law_draw) (defScope s__law_draw) .none kV__law_draw dc__law_draw pm__law_draw an__law_draw cd__law_draw ct__law_draw), sl__law_draw⟩)
  (c__law_draw : PySem.W.codeIn K cd__law_draw "_law_draw" = true)
  (k__law_draw : PySem.W.keepIn K (.ref f__law_draw) = true)
  (g__law_line : PySem.W.nsIn K mainGlobals "_law_line" = some (some (.ref f__law_line)))
  (l__law_line : K.lookup f__law_line = some ⟨oc__law_line, od__law_line, .func (PySem.W.fnOf "_law_line" "_law_line" (defArgs s__law_line) (defBody s__law_line) (defScope s__law_line) .none kV__law_line dc__law_line pm__law_line an__law_line cd__law_line ct__law_line), sl__law_line⟩)
  (c__law_line : PySem.W.codeIn K cd__law_line "_law_line" = true)
  (k__law_line : PySem.W.keepIn K (.ref f__law_line) = true)
  (g__law_pattern : PySem.W.nsIn K mainGlobals "_law_pattern" = some (some (.ref f__law_pattern)))
  (l__law_pattern : K.lookup f__law_pattern = some ⟨oc__law_pattern, od__law_pattern, .func (PySem.W.fnOf "_law_pattern" "_law_pattern" (defArgs s__law_pattern) (defBody s__law_pattern) (defScope s__law_pattern) .none kV__law_pattern dc__law_pattern pm__law_pattern an__law_pattern cd__law_pattern ct__law_pattern), sl__law_pattern⟩)
  (c__law_pattern : PySem.W.codeIn K cd__law_pattern "_law_pattern" = true)
  (k__law_pattern : PySem.W.keepIn K (.ref f__law_pattern) = true)
  (g__law_has : PySem.W.nsIn K mainGlobals "_law_has" = some (some (.ref f__law_has)))
  (l__law_has : K.lookup f__law_has = some ⟨oc__law_has, od__law_has, .func (PySem.W.fnOf "_law_has" "_law_has" (defArgs s__law_has) (defBody s__law_has) (defScope s__law_has) .none kV__law_has dc__law_has pm__law_has an__law_has cd__law_has ct__law_has), sl__law_has⟩)
  (c__law_has : PySem.W.codeIn K cd__law_has "_law_has" = true)
  (k__law_has : PySem.W.keepIn K (.ref f__law_has) = true)
  (g__law_bare : PySem.W.nsIn K mainGlobals "_law_bare" = some (some (.ref f__law_bare)))
  (l__law_bare : K.lookup f__law_bare = some ⟨oc__law_bare, od__law_bare, .func (PySem.W.fnOf "_law_bare" "_law_bare" (defArgs s__law_bare) (defBody s__law_bare) (defScope s__law_bare) .none kV__law_bare dc__law_bare pm__law_bare an__law_bare cd__law_bare ct__law_bare), sl__law_bare⟩)
  (c__law_bare : PySem.W.codeIn K cd__law_bare "_law_bare" = true)
  (k__law_bare : PySem.W.keepIn K (.ref f__law_bare) = true)
  (g__law_fits : PySem.W.nsIn K mainGlobals "_law_fits" = some (some (.ref f__law_fits)))
  (l__law_fits : K.lookup f__law_fits = some ⟨oc__law_fits, od__law_fits, .func (PySem.W.fnOf "_law_fits" "_law_fits" (defArgs s__law_fits) (defBody s__law_fits) (defScope s__law_fits) .none kV__law_fits dc__law_fits pm__law_fits an__law_fits cd__law_fits ct__law_fits), sl__law_fits⟩)
  (c__law_fits : PySem.W.codeIn K cd__law_fits "_law_fits" = true)
  (k__law_fits : PySem.W.keepIn K (.ref f__law_fits) = true)
  (g_law : PySem.W.nsIn K mainGlobals "law" = some (some (.ref f_law)))
  (l_law : K.lookup f_law = some ⟨oc_law, od_law, .func (PySem.W.fnOf "law" "law" (defArgs s_law) (defBody s_law) (defScope s_law) .none kV_law dc_law pm_law an_law cd_law ct_law), sl_law⟩)
  (c_law : PySem.W.codeIn K cd_law "law" = true)
  (k_law : PySem.W.keepIn K (.ref f_law) = true)
  (z_abs : PySem.W.nsIn K mainGlobals "abs" = some none)
  (z_enumerate : PySem.W.nsIn K mainGlobals "enumerate" = some none)
  (z_int : PySem.W.nsIn K mainGlobals "int" = some none)
  (z_isinstance : PySem.W.nsIn K mainGlobals "isinstance" = some none)
  (z_len : PySem.W.nsIn K mainGlobals "len" = some none)
  (z_list : PySem.W.nsIn K mainGlobals "list" = some none)
  (z_max : PySem.W.nsIn K mainGlobals "max" = some none)
  (z_min : PySem.W.nsIn K mainGlobals "min" = some none)
  (z_range : PySem.W.nsIn K mainGlobals "range" = some none)
  (z_reversed : PySem.W.nsIn K mainGlobals "reversed" = some none)
  (z_str : PySem.W.nsIn K mainGlobals "str" = some none)
  (z_tuple : PySem.W.nsIn K mainGlobals "tuple" = some none)
  (z_zip : PySem.W.nsIn K mainGlobals "zip" = some none)
  (g_SIZES : PySem.W.nsIn K mainGlobals "SIZES" = some (some (.ref f_SIZES)))
  (l_SIZES : K.lookup f_SIZES = some ⟨.type "dict", none, .dict es_SIZES n_SIZES, #[]⟩)
  (h_SIZES : PySem.W.KeysLit w.params es_SIZES.toList)
  (o_SIZES : (f_SIZES == sysModules) = false)
  (v_SIZES : es_SIZES.toList.map entI = ([(("any" : Str), (1 : Int)), (("not" : Str), (2 : Int)), (("both" : Str), (3 : Int)), (("some" : Str), (4 : Int))]).map some) :
  ∃ fd : FuncData, (∀ (s : Shared) (u : Value), BindsTo s fd ⟨[u], []⟩ [("script", u)]) ∧ ∀ base : Heap, K.In base → base.Ns mainGlobals mg → FnG P w K mg base CX0 65 fa fd ["script"] (sp_law K) := by
  have e : f_law = fa := by
    have e1 := hfa.symm.trans (PySem.W.mg_of X G g_law)
    injection e1 with e1
    injection e1 with e1
    exact e1.symm
  subst e
  let T : Tx w K mg := {
    a_is_letter := f_is_letter,
    d_is_letter := PySem.W.fnOf "is_letter" "is_letter" (defArgs s_is_letter) (defBody s_is_letter) (defScope s_is_letter) .none kV_is_letter dc_is_letter pm_is_letter an_is_letter cd_is_letter ct_is_letter,
    g_is_letter := PySem.W.mg_of X G g_is_letter,
    F_is_letter := fun_mk (st := s_is_letter) l_is_letter c_is_letter k_is_letter,
    b_is_letter := (fun_mk (st := s_is_letter) l_is_letter c_is_letter k_is_letter).binds (ps := ["sign"]) fun _ _ _ _ _ _ us hl => match us, hl with | [_], _ => rfl,
    a_check_row := f_check_row,
    d_check_row := PySem.W.fnOf "check_row" "check_row" (defArgs s_check_row) (defBody s_check_row) (defScope s_check_row) .none kV_check_row dc_check_row pm_check_row an_check_row cd_check_row ct_check_row,
    g_check_row := PySem.W.mg_of X G g_check_row,
    F_check_row := fun_mk (st := s_check_row) l_check_row c_check_row k_check_row,
    b_check_row := (fun_mk (st := s_check_row) l_check_row c_check_row k_check_row).binds (ps := ["row"]) fun _ _ _ _ _ _ us hl => match us, hl with | [_], _ => rfl,
    a_is_question := f_is_question,
    d_is_question := PySem.W.fnOf "is_question" "is_question" (defArgs s_is_question) (defBody s_is_question) (defScope s_is_question) .none kV_is_question dc_is_question pm_is_question an_is_question cd_is_question ct_is_question,
    g_is_question := PySem.W.mg_of X G g_is_question,
    F_is_question := fun_mk (st := s_is_question) l_is_question c_is_question k_is_question,
    b_is_question := (fun_mk (st := s_is_question) l_is_question c_is_question k_is_question).binds (ps := ["value"]) fun _ _ _ _ _ _ us hl => match us, hl with | [_], _ => rfl,
    a_parts_of := f_parts_of,
    d_parts_of := PySem.W.fnOf "parts_of" "parts_of" (defArgs s_parts_of) (defBody s_parts_of) (defScope s_parts_of) .none kV_parts_of dc_parts_of pm_parts_of an_parts_of cd_parts_of ct_parts_of,
    g_parts_of := PySem.W.mg_of X G g_parts_of,
    F_parts_of := fun_mk (st := s_parts_of) l_parts_of c_parts_of k_parts_of,
    b_parts_of := (fun_mk (st := s_parts_of) l_parts_of c_parts_of k_parts_of).binds (ps := ["question"]) fun _ _ _ _ _ _ us hl => match us, hl with | [_], _ => rfl,
    a_inner_questions := f_inner_questions,
    d_inner_questions := PySem.W.fnOf "inner_questions" "inner_questions" (defArgs s_inner_questions) (defBody s_inner_questions) (defScope s_inner_questions) .none kV_inner_questions dc_inner_questions pm_inner_questions an_inner_questions cd_inner_questions ct_inner_questions,
    g_inner_questions := PySem.W.mg_of X G g_inner_questions,
    F_inner_questions := fun_mk (st := s_inner_questions) l_inner_questions c_inner_questions k_inner_questions,
    b_inner_questions := (fun_mk (st := s_inner_questions) l_inner_questions c_inner_questions k_inner_questions).binds (ps := ["part"]) fun _ _ _ _ _ _ us hl => match us, hl with | [_], _ => rfl,
    a_has_form := f_has_form,
    d_has_form := PySem.W.fnOf "has_form" "has_form" (defArgs s_has_form) (defBody s_has_form) (defScope s_has_form) .none kV_has_form dc_has_form pm_has_form an_has_form cd_has_form ct_has_form,
    g_has_form := PySem.W.mg_of X G g_has_form,
    F_has_form := fun_mk (st := s_has_form) l_has_form c_has_form k_has_form,
    b_has_form := (fun_mk (st := s_has_form) l_has_form c_has_form k_has_form).binds (ps := ["value"]) fun _ _ _ _ _ _ us hl => match us, hl with | [_], _ => rfl,
    a_is_one_letter := f_is_one_letter,
    d_is_one_letter := PySem.W.fnOf "is_one_letter" "is_one_letter" (defArgs s_is_one_letter) (defBody s_is_one_letter) (defScope s_is_one_letter) .none kV_is_one_letter dc_is_one_letter pm_is_one_letter an_is_one_letter cd_is_one_letter ct_is_one_letter,
    g_is_one_letter := PySem.W.mg_of X G g_is_one_letter,
    F_is_one_letter := fun_mk (st := s_is_one_letter) l_is_one_letter c_is_one_letter k_is_one_letter,
    b_is_one_letter := (fun_mk (st := s_is_one_letter) l_is_one_letter c_is_one_letter k_is_one_letter).binds (ps := ["value"]) fun _ _ _ _ _ _ us hl => match us, hl with | [_], _ => rfl,
    a_check_question := f_check_question,
    d_check_question := PySem.W.fnOf "check_question" "check_question" (defArgs s_check_question) (defBody s_check_question) (defScope s_check_question) .none kV_check_question dc_check_question pm_check_question an_check_question cd_check_question ct_check_question,
    g_check_question := PySem.W.mg_of X G g_check_question,
    F_check_question := fun_mk (st := s_check_question) l_check_question c_check_question k_check_question,
    b_check_question := (fun_mk (st := s_check_question) l_check_question c_check_question k_check_question).binds (ps := ["question"]) fun _ _ _ _ _ _ us hl => match us, hl with | [_], _ => rfl,
    a_table_of := f_table_of,
    d_table_of := PySem.W.fnOf "table_of" "table_of" (defArgs s_table_of) (defBody s_table_of) (defScope s_table_of) .none kV_table_of dc_table_of pm_table_of an_table_of cd_table_of ct_table_of,
    g_table_of := PySem.W.mg_of X G g_table_of,
    F_table_of := fun_mk (st := s_table_of) l_table_of c_table_of k_table_of,
    b_table_of := (fun_mk (st := s_table_of) l_table_of c_table_of k_table_of).binds (ps := ["question", "asked"]) fun _ _ _ _ _ _ us hl => match us, hl with | [_, _], _ => rfl,
    a_table_of_part := f_table_of_part,
    d_table_of_part := PySem.W.fnOf "table_of_part" "table_of_part" (defArgs s_table_of_part) (defBody s_table_of_part) (defScope s_table_of_part) .none kV_table_of_part dc_table_of_part pm_table_of_part an_table_of_part cd_table_of_part ct_table_of_part,
    g_table_of_part := PySem.W.mg_of X G g_table_of_part,
    F_table_of_part := fun_mk (st := s_table_of_part) l_table_of_part c_table_of_part k_table_of_part,
    b_table_of_part := (fun_mk (st := s_table_of_part) l_table_of_part c_table_of_part k_table_of_part).binds (ps := ["part", "tables", "asked"]) fun _ _ _ _ _ _ us hl => match us, hl with | [_, _, _], _ => rfl,
    a_Stretches := f_Stretches,
    g_Stretches := PySem.W.mg_of X G g_Stretches,
    C_Stretches := ⟨pg_Stretches, hd_Stretches, po_Stretches, sa_Stretches⟩,
    n_Stretches_row := n_Stretches_row,
    n_Stretches_whole := n_Stretches_whole,
    a_Stretches___init__ := f_Stretches___init__,
    d_Stretches___init__ := PySem.W.fnOf "__init__" "Stretches.__init__" (defArgs s_Stretches___init__) (defBody s_Stretches___init__) (defScope s_Stretches___init__) .none kV_Stretches___init__ dc_Stretches___init__ pm_Stretches___init__ an_Stretches___init__ cd_Stretches___init__ ct_Stretches___init__,
    M_Stretches := ⟨mk_Stretches, g_Stretches___init__, fn_Stretches___init__, kk_Stretches⟩,
    F_Stretches___init__ := fun_mk (st := s_Stretches___init__) l_Stretches___init__ c_Stretches___init__ k_Stretches___init__,
    b_Stretches___init__ := (fun_mk (st := s_Stretches___init__) l_Stretches___init__ c_Stretches___init__ k_Stretches___init__).binds (ps := ["self", "row"]) fun _ _ _ _ _ _ us hl => match us, hl with | [_, _], _ => rfl,
    a_Stretches_met := f_Stretches_met,
    d_Stretches_met := PySem.W.fnOf "met" "Stretches.met" (defArgs s_Stretches_met) (defBody s_Stretches_met) (defScope s_Stretches_met) .none kV_Stretches_met dc_Stretches_met pm_Stretches_met an_Stretches_met cd_Stretches_met ct_Stretches_met,
    m_Stretches_met := ⟨g_Stretches_met, fn_Stretches_met, k_Stretches_met⟩,
    F_Stretches_met := fun_mk (st := s_Stretches_met) l_Stretches_met c_Stretches_met k_Stretches_met,
    b_Stretches_met := (fun_mk (st := s_Stretches_met) l_Stretches_met c_Stretches_met k_Stretches_met).binds (ps := ["self", "ahead", "letter", "behind"]) fun _ _ _ _ _ _ us hl => match us, hl with | [_, _, _, _], _ => rfl,
    a_holds := f_holds,
    d_holds := PySem.W.fnOf "holds" "holds" (defArgs s_holds) (defBody s_holds) (defScope s_holds) .none kV_holds dc_holds pm_holds an_holds cd_holds ct_holds,
    g_holds := PySem.W.mg_of X G g_holds,
    F_holds := fun_mk (st := s_holds) l_holds c_holds k_holds,
    b_holds := (fun_mk (st := s_holds) l_holds c_holds k_holds).binds (ps := ["table", "start", "end"]) fun _ _ _ _ _ _ us hl => match us, hl with | [_, _, _], _ => rfl,
    a_lets := f_lets,
    d_lets := PySem.W.fnOf "lets" "lets" (defArgs s_lets) (defBody s_lets) (defScope s_lets) .none kV_lets dc_lets pm_lets an_lets cd_lets ct_lets,
    g_lets := PySem.W.mg_of X G g_lets,
    F_lets := fun_mk (st := s_lets) l_lets c_lets k_lets,
    b_lets := (fun_mk (st := s_lets) l_lets c_lets k_lets).binds (ps := ["row", "question"]) fun _ _ _ _ _ _ us hl => match us, hl with | [_, _], _ => rfl,
    a_row_lets := f_row_lets,
    d_row_lets := PySem.W.fnOf "row_lets" "row_lets" (defArgs s_row_lets) (defBody s_row_lets) (defScope s_row_lets) .none kV_row_lets dc_row_lets pm_row_lets an_row_lets cd_row_lets ct_row_lets,
    g_row_lets := PySem.W.mg_of X G g_row_lets,
    F_row_lets := fun_mk (st := s_row_lets) l_row_lets c_row_lets k_row_lets,
    b_row_lets := (fun_mk (st := s_row_lets) l_row_lets c_row_lets k_row_lets).binds (ps := ["row", "question"]) fun _ _ _ _ _ _ us hl => match us, hl with | [_, _], _ => rfl,
    a__law_pool := f__law_pool,
    d__law_pool := PySem.W.fnOf "_law_pool" "_law_pool" (defArgs s__law_pool) (defBody s__law_pool) (defScope s__law_pool) .none kV__law_pool dc__law_pool pm__law_pool an__law_pool cd__law_pool ct__law_pool,
    g__law_pool := PySem.W.mg_of X G g__law_pool,
    F__law_pool := fun_mk (st := s__law_pool) l__law_pool c__law_pool k__law_pool,
    b__law_pool := (fun_mk (st := s__law_pool) l__law_pool c__law_pool k__law_pool).binds (ps := ["script", "spot"]) fun _ _ _ _ _ _ us hl => match us, hl with | [_, _], _ => rfl,
    a__law_draw := f__law_draw,
    d__law_draw := PySem.W.fnOf "_law_draw" "_law_draw" (defArgs s__law_draw) (defBody s__law_draw) (defScope s__law_draw) .none kV__law_draw dc__law_draw pm__law_draw an__law_draw cd__law_draw ct__law_draw,
    g__law_draw := PySem.W.mg_of X G g__law_draw,
    F__law_draw := fun_mk (st := s__law_draw) l__law_draw c__law_draw k__law_draw,
    b__law_draw := (fun_mk (st := s__law_draw) l__law_draw c__law_draw k__law_draw).binds (ps := ["pool", "span"]) fun _ _ _ _ _ _ us hl => match us, hl with | [_, _], _ => rfl,
    a__law_line := f__law_line,
    d__law_line := PySem.W.fnOf "_law_line" "_law_line" (defArgs s__law_line) (defBody s__law_line) (defScope s__law_line) .none kV__law_line dc__law_line pm__law_line an__law_line cd__law_line ct__law_line,
    g__law_line := PySem.W.mg_of X G g__law_line,
    F__law_line := fun_mk (st := s__law_line) l__law_line c__law_line k__law_line,
    b__law_line := (fun_mk (st := s__law_line) l__law_line c__law_line k__law_line).binds (ps := ["pool", "names", "longest"]) fun _ _ _ _ _ _ us hl => match us, hl with | [_, _, _], _ => rfl,
    a__law_pattern := f__law_pattern,
    d__law_pattern := PySem.W.fnOf "_law_pattern" "_law_pattern" (defArgs s__law_pattern) (defBody s__law_pattern) (defScope s__law_pattern) .none kV__law_pattern dc__law_pattern pm__law_pattern an__law_pattern cd__law_pattern ct__law_pattern,
    g__law_pattern := PySem.W.mg_of X G g__law_pattern,
    F__law_pattern := fun_mk (st := s__law_pattern) l__law_pattern c__law_pattern k__law_pattern,
    b__law_pattern := (fun_mk (st := s__law_pattern) l__law_pattern c__law_pattern k__law_pattern).binds (ps := ["letters_here"]) fun _ _ _ _ _ _ us hl => match us, hl with | [_], _ => rfl,
    a__law_has := f__law_has,
    d__law_has := PySem.W.fnOf "_law_has" "_law_has" (defArgs s__law_has) (defBody s__law_has) (defScope s__law_has) .none kV__law_has dc__law_has pm__law_has an__law_has cd__law_has ct__law_has,
    g__law_has := PySem.W.mg_of X G g__law_has,
    F__law_has := fun_mk (st := s__law_has) l__law_has c__law_has k__law_has,
    b__law_has := (fun_mk (st := s__law_has) l__law_has c__law_has k__law_has).binds (ps := ["line", "letters_here"]) fun _ _ _ _ _ _ us hl => match us, hl with | [_, _], _ => rfl,
    a__law_bare := f__law_bare,
    d__law_bare := PySem.W.fnOf "_law_bare" "_law_bare" (defArgs s__law_bare) (defBody s__law_bare) (defScope s__law_bare) .none kV__law_bare dc__law_bare pm__law_bare an__law_bare cd__law_bare ct__law_bare,
    g__law_bare := PySem.W.mg_of X G g__law_bare,
    F__law_bare := fun_mk (st := s__law_bare) l__law_bare c__law_bare k__law_bare,
    b__law_bare := (fun_mk (st := s__law_bare) l__law_bare c__law_bare k__law_bare).binds (ps := ["names"]) fun _ _ _ _ _ _ us hl => match us, hl with | [_], _ => rfl,
    a__law_fits := f__law_fits,
    d__law_fits := PySem.W.fnOf "_law_fits" "_law_fits" (defArgs s__law_fits) (defBody s__law_fits) (defScope s__law_fits) .none kV__law_fits dc__law_fits pm__law_fits an__law_fits cd__law_fits ct__law_fits,
    g__law_fits := PySem.W.mg_of X G g__law_fits,
    F__law_fits := fun_mk (st := s__law_fits) l__law_fits c__law_fits k__law_fits,
    b__law_fits := (fun_mk (st := s__law_fits) l__law_fits c__law_fits k__law_fits).binds (ps := ["pool"]) fun _ _ _ _ _ _ us hl => match us, hl with | [_], _ => rfl,
    a_law := f_law,
    d_law := PySem.W.fnOf "law" "law" (defArgs s_law) (defBody s_law) (defScope s_law) .none kV_law dc_law pm_law an_law cd_law ct_law,
    g_law := PySem.W.mg_of X G g_law,
    F_law := fun_mk (st := s_law) l_law c_law k_law,
    b_law := (fun_mk (st := s_law) l_law c_law k_law).binds (ps := ["script"]) fun _ _ _ _ _ _ us hl => match us, hl with | [_], _ => rfl,
    b_abs := PySem.W.mg_none_of X G z_abs,
    b_enumerate := PySem.W.mg_none_of X G z_enumerate,
    b_int := PySem.W.mg_none_of X G z_int,
    b_isinstance := PySem.W.mg_none_of X G z_isinstance,
    b_len := PySem.W.mg_none_of X G z_len,
    b_list := PySem.W.mg_none_of X G z_list,
    b_max := PySem.W.mg_none_of X G z_max,
    b_min := PySem.W.mg_none_of X G z_min,
    b_range := PySem.W.mg_none_of X G z_range,
    b_reversed := PySem.W.mg_none_of X G z_reversed,
    b_str := PySem.W.mg_none_of X G z_str,
    b_tuple := PySem.W.mg_none_of X G z_tuple,
    b_zip := PySem.W.mg_none_of X G z_zip,
    a_SIZES := f_SIZES,
    g_SIZES := PySem.W.mg_of X G g_SIZES,
    ki_SIZES := kints_of l_SIZES h_SIZES o_SIZES v_SIZES,
    bl := fun s v => .of_eq rfl }
  refine ⟨PySem.W.fnOf "law" "law" (defArgs s_law) (defBody s_law) (defScope s_law) .none kV_law dc_law pm_law an_law cd_law ct_law, fun s v => .of_eq rfl, fun base _ _ => ?_⟩
  have G__law_draw := ok__law_draw (P := P) (base := base) T
  have G_is_letter := ok_is_letter (P := P) (base := base) T
  have G_is_one_letter := ok_is_one_letter T G_is_letter
  have G_has_form := ok_has_form T G_is_one_letter
  have G_inner_questions := ok_inner_questions (P := P) (base := base) T
  have G_is_question := ok_is_question T G_has_form G_inner_questions
  have G_check_question := ok_check_question T G_is_question
  have G_parts_of := ok_parts_of T G_inner_questions
  have G_check_row := ok_check_row T G_is_letter
  have G_holds := ok_holds (P := P) (base := base) T
  have G_Stretches___init__ := ok_Stretches___init__ (P := P) (base := base) T
  have G_Stretches_met := ok_Stretches_met T G_holds
  have G_table_of_part := ok_table_of_part T G_Stretches_met
  have G_table_of := ok_table_of T G_parts_of G_table_of_part
  have G_row_lets := ok_row_lets T G_holds G_Stretches___init__ G_table_of
  have G_lets := ok_lets T G_check_row G_check_question G_row_lets
  have G__law_pool := ok__law_pool (P := P) (base := base) T
  have G__law_line := ok__law_line T G__law_draw
  have G__law_pattern := ok__law_pattern (P := P) (base := base) T
  have G__law_has := ok__law_has (P := P) (base := base) T
  have G__law_bare := ok__law_bare (P := P) (base := base) T
  have G__law_fits := ok__law_fits T G__law_draw G__law_line G__law_pattern G__law_has G__law_bare G_lets
  have G_law := ok_law T G__law_pool G__law_fits
  exact G_law
end Lw
open PySem PySem.W PyProof.Rows in
set_option maxRecDepth 100000 in
set_option maxHeartbeats 0 in
theorem PySem.Challenge.cw_pickdepths_k14_questions_of_long_rows_holds : PySem.Challenge.rw_pickdepths_k14_questions_of_long_rows.Holds := by
  w_on; o_law; k_head; (case hw => w_witness2)
  k_fill
  refine M.walk_ofG (l := PySem.Challenge.rw_pickdepths_k14_questions_of_long_rows) (n := 63) (k := 65) (x := "script") (sp := fun K => M.sp_law K) rfl (by decide) rfl ⟨rfl, by decide, by decide⟩ (fun w h Y => PySem.W.kIn_of Y) ?F (fun K H a ns hl _ hS => ⟨a, ns, rfl, hS, hl, fun _ => rfl⟩)
  case F =>
    intro w mg fa h KX G hmg
    refine' Lw.all_mk KX G hmg ?g_is_letter ?l_is_letter ?c_is_letter ?k_is_letter ?g_check_row ?l_check_row ?c_check_row ?k_check_row ?g_is_question ?l_is_question ?c_is_question ?k_is_question ?g_parts_of ?l_parts_of ?c_parts_of ?k_parts_of ?g_inner_questions ?l_inner_questions ?c_inner_questions ?k_inner_questions ?g_has_form ?l_has_form ?c_has_form ?k_has_form ?g_is_one_letter ?l_is_one_letter ?c_is_one_letter ?k_is_one_letter ?g_check_question ?l_check_question ?c_check_question ?k_check_question ?g_table_of ?l_table_of ?c_table_of ?k_table_of ?g_table_of_part ?l_table_of_part ?c_table_of_part ?k_table_of_part ?g_Stretches ?pg_Stretches ?hd_Stretches ?po_Stretches ?sa_Stretches ?mk_Stretches ?kk_Stretches ?n_Stretches_row ?n_Stretches_whole ?g_Stretches___init__ ?l_Stretches___init__ ?c_Stretches___init__ ?k_Stretches___init__ ?fn_Stretches___init__ ?g_Stretches_met ?l_Stretches_met ?c_Stretches_met ?k_Stretches_met ?fn_Stretches_met ?g_holds ?l_holds ?c_holds ?k_holds ?g_lets ?l_lets ?c_lets ?k_lets ?g_row_lets ?l_row_lets ?c_row_lets ?k_row_lets ?g__law_pool ?l__law_pool ?c__law_pool ?k__law_pool ?g__law_draw ?l__law_draw ?c__law_draw ?k__law_draw ?g__law_line ?l__law_line ?c__law_line ?k__law_line ?g__law_pattern ?l__law_pattern ?c__law_pattern ?k__law_pattern ?g__law_has ?l__law_has ?c__law_has ?k__law_has ?g__law_bare ?l__law_bare ?c__law_bare ?k__law_bare ?g__law_fits ?l__law_fits ?c__law_fits ?k__law_fits ?g_law ?l_law ?c_law ?k_law ?z_abs ?z_enumerate ?z_int ?z_isinstance ?z_len ?z_list ?z_max ?z_min ?z_range ?z_reversed ?z_str ?z_tuple ?z_zip ?g_SIZES ?l_SIZES ?h_SIZES ?o_SIZES ?v_SIZES
    (case g_is_letter => k_is)
    (case l_is_letter => k_is)
    (case c_is_letter => k_is)
    (case k_is_letter => k_is)
    (case g_check_row => k_is)
    (case l_check_row => k_is)
    (case c_check_row => k_is)
    (case k_check_row => k_is)
    (case g_is_question => k_is)
    (case l_is_question => k_is)
    (case c_is_question => k_is)
    (case k_is_question => k_is)
    (case g_parts_of => k_is)
    (case l_parts_of => k_is)
    (case c_parts_of => k_is)
    (case k_parts_of => k_is)
    (case g_inner_questions => k_is)
    (case l_inner_questions => k_is)
    (case c_inner_questions => k_is)
    (case k_inner_questions => k_is)
    (case g_has_form => k_is)
    (case l_has_form => k_is)
    (case c_has_form => k_is)
    (case k_has_form => k_is)
    (case g_is_one_letter => k_is)
    (case l_is_one_letter => k_is)
    (case c_is_one_letter => k_is)
    (case k_is_one_letter => k_is)
    (case g_check_question => k_is)
    (case l_check_question => k_is)
    (case c_check_question => k_is)
    (case k_check_question => k_is)
    (case g_table_of => k_is)
    (case l_table_of => k_is)
    (case c_table_of => k_is)
    (case k_table_of => k_is)
    (case g_table_of_part => k_is)
    (case l_table_of_part => k_is)
    (case c_table_of_part => k_is)
    (case k_table_of_part => k_is)
    (case g_Stretches => k_is)
    (case pg_Stretches => k_is)
    (case hd_Stretches => k_is)
    (case po_Stretches => k_is)
    (case sa_Stretches => k_is)
    (case mk_Stretches => k_is)
    (case kk_Stretches => k_is)
    (case n_Stretches_row => k_is)
    (case n_Stretches_whole => k_is)
    (case g_Stretches___init__ => k_is)
    (case l_Stretches___init__ => k_is)
    (case c_Stretches___init__ => k_is)
    (case k_Stretches___init__ => k_is)
    (case fn_Stretches___init__ => k_is)
    (case g_Stretches_met => k_is)
    (case l_Stretches_met => k_is)
    (case c_Stretches_met => k_is)
    (case k_Stretches_met => k_is)
    (case fn_Stretches_met => k_is)
    (case g_holds => k_is)
    (case l_holds => k_is)
    (case c_holds => k_is)
    (case k_holds => k_is)
    (case g_lets => k_is)
    (case l_lets => k_is)
    (case c_lets => k_is)
    (case k_lets => k_is)
    (case g_row_lets => k_is)
    (case l_row_lets => k_is)
    (case c_row_lets => k_is)
    (case k_row_lets => k_is)
    (case g__law_pool => k_is)
    (case l__law_pool => k_is)
    (case c__law_pool => k_is)
    (case k__law_pool => k_is)
    (case g__law_draw => k_is)
    (case l__law_draw => k_is)
    (case c__law_draw => k_is)
    (case k__law_draw => k_is)
    (case g__law_line => k_is)
    (case l__law_line => k_is)
    (case c__law_line => k_is)
    (case k__law_line => k_is)
    (case g__law_pattern => k_is)
    (case l__law_pattern => k_is)
    (case c__law_pattern => k_is)
    (case k__law_pattern => k_is)
    (case g__law_has => k_is)
    (case l__law_has => k_is)
    (case c__law_has => k_is)
    (case k__law_has => k_is)
    (case g__law_bare => k_is)
    (case l__law_bare => k_is)
    (case c__law_bare => k_is)
    (case k__law_bare => k_is)
    (case g__law_fits => k_is)
    (case l__law_fits => k_is)
    (case c__law_fits => k_is)
    (case k__law_fits => k_is)
    (case g_law => k_is)
    (case l_law => k_is)
    (case c_law => k_is)
    (case k_law => k_is)
    (case z_abs => k_is)
    (case z_enumerate => k_is)
    (case z_int => k_is)
    (case z_isinstance => k_is)
    (case z_len => k_is)
    (case z_list => k_is)
    (case z_max => k_is)
    (case z_min => k_is)
    (case z_range => k_is)
    (case z_reversed => k_is)
    (case z_str => k_is)
    (case z_tuple => k_is)
    (case z_zip => k_is)
    (case g_SIZES => k_is)
    (case l_SIZES => k_is)
    (case h_SIZES => repeat (first | exact trivial | refine ⟨⟨_, _, rfl, rfl⟩, ?_⟩))
    (case o_SIZES => first | rfl | decide +kernel | k_is)
    (case v_SIZES => rfl)
end
