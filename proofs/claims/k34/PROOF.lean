import PyProof.Rows.All
import Wide.All
import OpenK.AllK
import Wide.FinOn
import HandS.ForMost
import HandS.IsInst
import HandS.More
import HandS.Strs
import HandS.Wide
import HandS.SortInts
import HandS.Style
import HandS.Conv
import PyProof.TypeEq
import PyProof.ReprRoads
import HandS.ForExc
import HandS.Evl
import HandS.Zip
import HandS.SetFor
import HandS.Walk
import PyProof.Rows.CountFlat
import HandS.DictComp
import PyProof.Rows.SeqMore
import HandS.Text
import HandS.WideBits
import HandS.Gcd
import HandS.Defaults
import PyProof.Rows.RegReprOcc
import PyProof.StrOps2
import HandS.NamedTupSort
import KE.LtSeq
import KE.KMathG
import PyProof.Walk
import PyProof.WalkLemmas
import PyProof.Pure
import PyProof.TableTree
import PyProof.FactsTree
import HandS.Rev
import HandS.FStr
import KE.KxField
import PyProof.FString3
import PyProof.Rows.StrIntSpec
import PyProof.StrLawsChain
import PyProof.StrLawsTight
import PyProof.Rows.StrItems
import HandS.Property
import HandS.ExcOwn
import HandS.TryMany
import HandS.WordsExc
import HandS.MakeKwOnly
import HandS.GenList
import HandS.ExcIs
import HandS.ExcValue
import HandS.HotCalls
import OpenK.KMeth
import KE.KCallOwn
import HandS.DictTup
import KE.KDictList
import PyProof.InstNe
import HandS.RaiseMore
import PyProof.CallFns
import PyProof.ReprReads
import PyProof.EqKinds
import HandS.Comp
import PyProof.Rows.TupIter
import HandS.ClsMeth
import HandS.Nested
import HandS.NestedK
import KE.KSuper
import HandS.ExcCtx
import PySem.Challenge.RW_latepatches_k34_whole_long_settings
set_option Elab.async false
set_option linter.all false
set_option maxRecDepth 100000
namespace Lp
open PySem PySem.Spec PyProof.Rows L2

/-! ### operators that the layer lacks -/
def CPowW (i j : Int) : Prop := 0 ≤ j ∧ (Builtin.Int.intBits i : Int) * j ≤ 2 ^ 27
section
variable {X : Cx}
theorem op_powW : OpR X (binaryOp .Pow) (rI CPowW fun i j => .int (i ^ j.toNat)) := opI fun _ _ _ _ _ _ _ hc q => pow_int hc.1 hc.2 q
end
theorem powW_ok {i : Int} {n : Nat} {j : Int} (h : i.natAbs < 2 ^ n) (hj : 0 ≤ j) (hn : (n : Int) * j ≤ 100000000) : CPowW i j := by
  refine ⟨hj, ?_⟩
  have b := PyProof.Rows.intBits_le h
  have e : (2 : Int) ^ 27 = 134217728 := by decide
  rw [e]
  have h1 : (Builtin.Int.intBits i : Int) ≤ (n : Int) := by omega
  have h2 := Int.mul_le_mul_of_nonneg_right h1 hj
  omega

/-! ### repr -/
def rRepr (K : PySem.W.Frag) : List V → Hp → VK → Prop := fun xs H Q => ∃ (a : Addr) (d : PyData), xs = [.ref a] ∧ Dp K H (.ref a) d ∧ d.showable = true ∧ d.hasDict = false ∧ d.depth ≤ 60 ∧ d.shown.length ≤ sizeLine ∧ Q (.str d.shown) H
theorem call_repr {X : Cx} (hg : X.A.guards = some []) (hu : X.A.units + 64 < cLine) : CallR X (.builtin "repr") (rRepr X.K) := by
  intro pins s σ H xs us Q I r h
  obtain ⟨a, d, rfl, hd, h1, h2, h3, h4, q⟩ := h
  obtain ⟨u, rfl, rx⟩ := vals1 r
  obtain ⟨as, hr⟩ := Dp.reads I d _ u hd rx
  cases (show u = Value.ref a from rx)
  exact PySem.repr_of_reads' hr h1 (PyData.noDict_hsm h2) hg (by omega) (fun _ _ e => e) (fun h' t tk hk => ⟨.str d.shown, H, I.kept hk, ⟨t, rfl⟩, q⟩) h4
end Lp
set_option Elab.async false
set_option linter.all false
set_option maxRecDepth 100000
namespace Lp
open PySem PySem.Spec PyProof.Rows L2

/-! ### defs that are called where no repr is under way (guards = some []) -/
structure FnG (P : Program) (w : World) (K : PySem.W.Frag) (mg : Str → Option Value) (base : Heap) (CX : CXT) (k : Nat) (f : Addr) (fd : FuncData) (ps : List Str) (sp : Sp) : Prop where
  len : ∀ vs H Q E, sp vs H Q E → vs.length = ps.length
  runG : ∀ (A : Around) (out : List Env) (s : Shared) (H : Hp) (ar : Args) (us : List Value) (vs : List V) (Q : VK) (E : XK), A.guards = some [] → Room k A → Env0 P w K mg base A out s H →
    BindsTo s fd ar (ps.zip us) → Vals vs us → sp vs H Q E → codeAny (model P w) A (.call (.ref f) ar) (CR CX out P w H s Q E) s
section
variable {P : Program} {w : World} {K : PySem.W.Frag} {mg : Str → Option Value} {base : Heap}
theorem FnG.of {CX : CXT} {k : Nat} {f : Addr} {fd : FuncData} {ps : List Str} {sp : Sp} (F : FnOk P w K mg base CX k f fd ps sp) : FnG P w K mg base CX k f fd ps sp :=
  ⟨F.len, fun A out s H ar us vs Q E _ hr => F.run A out s H ar us vs Q E hr⟩
theorem fnG_of {CX : CXT} {k : Nat} {f : Addr} {name qual : Str} {params : Arguments} {body : List Stmt} {scope : Scope} {dV kV doc pm cdv ct oc : Value} {an od : Option Addr}
    {osl : Array (Option Value)} {N ps : List Str} {sp : Sp} (lk : K.lookup f = some ⟨oc, od, .func (PySem.W.fnOf name qual params body scope dV kV doc pm an cdv ct), osl⟩) (hcd : PySem.W.codeIn K cdv qual = true) (S : FnScope N ps scope)
    (ln : ∀ vs H Q E, sp vs H Q E → vs.length = ps.length)
    (hb : ∀ (A : Around) (out : List Env) (s : Shared) (H : Hp) (vs : List V) (Q : VK) (E : XK), A.guards = some [] → Room k (A.deeper (envOfC qual scope s.heap.objs.size f cdv)) → sp vs H Q E →
      ∃ t, PSs (cxOf CX P w K mg base N qual scope f cdv A out s H E) body t ∧ t { nx := fun _ H' => Q .non H', rt := Q } (start N vs) H) :
    FnG P w K mg base CX (k + 1) f (PySem.W.fnOf name qual params body scope dV kV doc pm an cdv ct) ps sp := by
  refine ⟨ln, fun A out s H ar us vs Q E hG room en bd rv hs => ?_⟩
  have KX : K.In s.heap := en.mod.kin.keeps fun b o e => (en.bs b o e).1
  have nl : s.heap.NoLimit := en.mod.nolimit.keeps fun b o e => (en.bs b o e).1
  have kd : ∀ y ∈ ps.zip us, scope.names.lookup y.1 = some .local ∨ (scope.names.lookup y.1 = some .cell ∧ ((cellsFrom (s.heap.objs.size + 1) scope.names []).lookup y.1).isSome = true) := by
    rintro ⟨n, v⟩ hy
    have hm := (List.of_mem_zip hy).1
    exact (S.par n hm).elim (fun q => .inl q) fun q => .inr ⟨q, PySem.W.cellsFrom_some _ _ _ (.inl q)⟩
  refine codeAny_call_function room.depth (KX _ _ lk) rfl S.co S.gen rfl (PySem.W.codeRec_of KX hcd) (bd _ _ _ _ ?_)
  refine wpAny_newFunctionEnv_cells S.kind kd fun e1 he s1 x => ?_
  subst he
  refine ⟨nl.keeps x.toInCall.keep, codeAny_func ?_⟩
  obtain ⟨t, ht, hq⟩ := hb A out s H vs Q E hG (room.deeper _) hs
  have J0 : Inv (cxOf CX P w K mg base N qual scope f cdv A out s H E) [] (start N vs) H s1 := inv_start S room.hd en (ln _ _ _ _ hs) rv x
  refine wpAny_mono (ht.run [] s1 (start N vs) H _ J0 hq) (fun fl s' h3 => ?_) fun _ _ h3 => h3
  cases fl with
  | ret u => exact let ⟨v, _, H', J, r2, q⟩ := h3; ⟨v, H', J.os, J.bare, J.base, J.hok, r2, q⟩
  | next => exact let ⟨_, H', J, q⟩ := h3; ⟨.non, H', J.os, J.bare, J.base, J.hok, rfl, q⟩
  | brk => exact (let ⟨_, _, _, q⟩ := h3; q : False).elim
  | cont => exact (let ⟨_, _, _, q⟩ := h3; q : False).elim
theorem okG {x qual : Str} {st : Stmt} {f : Addr} {fd : FuncData} {N ps : List Str} {k : Nat} {sp : Sp} (F : Fun K x qual st f fd) (S : FnScope N ps (defScope st)) (ln : ∀ vs H Q E, sp vs H Q E → vs.length = ps.length)
    (hb : ∀ (cdv : Value) (A : Around) (out : List Env) (s : Shared) (H : Hp) (vs : List V) (Q : VK) (E : XK), A.guards = some [] → Room k (A.deeper (envOfC qual (defScope st) s.heap.objs.size f cdv)) → sp vs H Q E →
      ∃ t, PSs (cxOf CX0 P w K mg base N qual (defScope st) f cdv A out s H E).nox (defBody st) t ∧ t { nx := fun _ H' => Q .non H', rt := Q } (start N vs) H) : FnG P w K mg base CX0 (k + 1) f fd ps sp := by
  obtain ⟨oc, od, kV, doc, pm, an, cdv, ct, osl, rfl, lk, hcd⟩ := F.ex
  refine fnG_of lk hcd S ln fun A out s H vs Q E hG room h => ?_
  obtain ⟨t, ht, q⟩ := hb cdv A out s H vs Q E hG room h
  exact ⟨t, ht.nox, q⟩
end
section
variable {X : Cx} {CX : CXT} {k : Nat} {f : Addr} {fd : FuncData} {ps : List Str} {sp : Sp} {dvs : List V} {ds : List Value} {E : XK} {x : Str} {p pos : Pos} {e : Expr} {es : List Expr} {t : TA}
theorem pe_callG (F : FnG X.prog X.w X.K X.mg X.base CX k f fd ps sp) (hG : X.A.guards = some []) (hr : Room k X.A) (hg : Gl X x) (hm : X.mg x = some (.ref f)) (hk : PySem.W.keepIn X.K (.ref f) = true) (hb : Binds X.K fd ps ds) (hd : Vals dvs ds) (hx : Passes CX X E)
    (ha : PA X (e :: es) t) (hdb : (x == ("__debug__" : Str)) = false := by decide) (he : starEach (e :: es) X.env = (false, eval e X.env) :: starEach es X.env := by rfl) (hpl : (backTo pos (starEach es X.env)).any (·.1) = false := by rfl) :
    PE X (.Call (.Name x p) (e :: es) [] pos) (tCall sp dvs E t) := by
  refine ⟨fun pins s σ H Q I h => wpAny_Call_Name_kw (ld_glob I hg hm ?_ hdb)⟩
  refine PySem.W.callWith_K (h₀ := X.base) I.ok.mod.kin hk (thn (ha.run pos pins s σ H _ I h) fun us s1 ⟨vs, H1, I1, r, q⟩ => ⟨I1.kIn, ?_⟩) he hpl
  have rr : Vals (vs ++ dvs) (us ++ ds) := r.append hd
  have hl : (us ++ ds).length = ps.length := rr.length.symm.trans (F.len _ _ _ _ q)
  refine wpAny_call (codeAny_mono (F.runG X.A X.stack s1 H1 ⟨us, []⟩ (us ++ ds) (vs ++ dvs) Q E hG hr I1.env0 (hb s1 us I1.kIn hl) rr q) fun r s' hq => ?_)
  cases r with
  | error e => exact hx pins σ H1 s1 e s' I1 hq
  | ok fl =>
    cases fl with
    | ret u => exact I1.after hq
    | next => exact False.elim hq
    | brk => exact False.elim hq
    | cont => exact False.elim hq
end

/-! ### the end of a law's row, for such a law -/
theorem law_callG {P : Program} {w : World} {K : PySem.W.Frag} {mg mb : Str → Option Value} {CX : CXT} {k : Nat} {fa a : Addr} {fd : FuncData} {x : Str} {sp : Sp} {s₁ : Shared} {vs : List Value} {ns : List Int}
    (KX : K.In s₁.heap) (hns : s₁.heap.Ns mainGlobals mg) (hb : s₁.heap.Ns builtinsNs mb) (hbb : ∀ x : Str, x ≠ "__name__" → mb x = bootBuiltins x) (hlim : s₁.heap.NoLimit) (hg : s₁.gens = #[])
    (ha : s₁.heap.get? a = some { cls := .type "list", data := .seq vs.toArray }) (hi : IntsAre vs ns) (hl : ns.length ≤ sizeLine) (hr : Room k callerA)
    (F : ∀ base : Heap, K.In base → base.Ns mainGlobals mg → FnG P w K mg base CX k fa fd [x] sp) (hbind : ∀ (s : Shared) (u : Value), BindsTo s fd ⟨[u], []⟩ [(x, u)])
    (hsp : ∀ H : Hp, Only H → SqL K H a (ns.map V.int) → sp [.ref a] H (fun v _ => v = .bl true) fun _ _ _ => False)
    (hCX : ∀ H e s', CX [] H s₁ (fun _ _ _ => False) e s' → False) :
    codeAny (model P w) callerA (.call (.ref fa) ⟨[.ref a], []⟩) (fun r s' => r = .ok (.ret (.bool true)) ∧ OldK s₁.heap s'.heap ∧ s'.os = s₁.os ∧ AllBare s'.gens) s₁ := by
  have rv := vals_ints hi
  have szV := hi.length
  have main : ∀ H : Hp, Only H → SqL K H a (ns.map V.int) → HOk P w H s₁.heap → (∀ b, H b ≠ none → b = a) → (H a ≠ none → K.lookup a = none) →
      codeAny (model P w) callerA (.call (.ref fa) ⟨[.ref a], []⟩) (fun r s' => r = .ok (.ret (.bool true)) ∧ OldK s₁.heap s'.heap ∧ s'.os = s₁.os ∧ AllBare s'.gens) s₁ := by
    intro H hO hS ok hA hK
    have free : ∀ {b : Addr}, b ≠ a → H b = none := fun {b} hb => by
      cases q : H b with
      | none => rfl
      | some u => exact absurd (hA b (by rw [q]; simp)) hb
    have nsK : ∀ {b : Addr} {m : Str → Option Value}, s₁.heap.Ns b m → (hidT s₁.heap H).Ns b m := by
      rintro b m ⟨o, es, ep, e, d, r⟩
      refine ⟨o, es, ep, hidT_get e (free fun z => ?_), d, r⟩
      subst z
      rw [ha] at e
      cases e
      exact nomatch (show Data.seq vs.toArray _ = Data.dict es ep from d)
    have hKb : K.In (hidT s₁.heap H) := by
      intro b o e
      refine hidT_get (KX b o e) ?_
      cases q : H b with
      | none => rfl
      | some u =>
        have z := hA b (by rw [q]; simp)
        subst z
        rw [hK (by rw [q]; simp)] at e
        cases e
    have hM : Mod K mg (hidT s₁.heap H) := ⟨hKb, nsK hns, ⟨mb, nsK hb, hbb⟩, let ⟨mc, h1, h2⟩ := hlim; ⟨mc, nsK h1, h2⟩⟩
    have e0 : Env0 P w K mg (hidT s₁.heap H) callerA [] s₁ H := ⟨rfl, hM, fun b o e => of_hidT e, Nat.le_of_eq (hidT_size _ _), trivial, fun b hb => absurd (show b ∈ ([] : List Addr) from hb) (by simp), ok, .of_eq hg⟩
    refine codeAny_mono ((F _ hKb (nsK hns)).runG callerA [] s₁ H ⟨[.ref a], []⟩ [.ref a] [.ref a] _ _ rfl hr e0 (hbind s₁ (.ref a)) (.cons rfl .nil) (hsp H hO hS)) fun r s' h => ?_
    cases r with
    | error e => exact (hCX H e s' h).elim
    | ok fl =>
      cases fl with
      | next => exact False.elim h
      | brk => exact False.elim h
      | cont => exact False.elim h
      | ret u =>
        obtain ⟨v, H', os, bare, un, hok', r', q⟩ := h
        cases (show v = .bl true from q)
        cases (show u = Value.bool true from r')
        refine ⟨rfl, OldK.of_keep fun b o e => ?_, os, bare⟩
        rcases hO b with z | ⟨ob, xs, z⟩
        · exact un.keep b o e z (fun z => absurd (show b ∈ ([] : List Addr) from z) (by simp)) (by simp)
        · obtain ⟨e1, _⟩ := ok b _ z
          obtain ⟨e2, _⟩ := hok' b _ (un.frzs b ob _ z)
          rw [e] at e1; cases e1
          exact e2
  cases hk : K.lookup a with
  | some o =>
    have e := KX a o hk
    rw [ha] at e
    cases e
    exact main (fun _ => none) (fun _ => .inl rfl) (.inr ⟨_, vs.toArray, _, hk, rfl, rfl, rfl, by rw [List.size_toArray, szV]; exact hl, by simpa using rv⟩) (fun b u z => nomatch z) (fun b z => absurd rfl z) fun z => absurd rfl z
  | none =>
    refine main (fun b => if b = a then some (.frz { cls := .type "list", data := .seq vs.toArray } (.lst (ns.map V.int))) else none) (fun b => ?_) (.inl (.inr ⟨{ cls := .type "list", data := .seq vs.toArray }, if_pos rfl⟩)) (fun b u z => ?_) (fun b z => ?_) fun _ => hk
    · by_cases h : b = a
      · exact .inr ⟨_, _, if_pos h⟩
      · exact .inl (if_neg h)
    · by_cases h : b = a
      · cases (if_pos h).symm.trans z
        subst h
        exact ⟨ha, by rw [List.length_map]; exact hl, vs, _, rv, ha⟩
      · cases (if_neg h).symm.trans z
    · by_cases h : b = a
      · exact h
      · exact absurd (if_neg h) z
theorem walk_ofG {l : PySem.W.OpenLaw} {n k : Nat} {q : Program} {loose : List Str} {XP : (Str → Option Value) → Heap → Prop} {YP : World → Heap → Prop} {d : DefRec} {K : Params → PySem.W.Frag} {CX : World → CXT} {sp : World → Sp} {x : Str}
    (hn : l.most = some n) (hn2 : n ≤ sizeLine) (hdf : d.params.defaults = []) (hr : Room k callerA)
    (hY : ∀ (w : World) (h : Heap), YP w h → (K w.params).In h)
    (F : ∀ (w : World) (mg : Str → Option Value) (fa : Addr) (h : Heap), (K w.params).In h → h.Ns mainGlobals mg → mg d.name = some (.ref fa) →
      ∃ fd : FuncData, (∀ (s : Shared) (u : Value), BindsTo s fd ⟨[u], []⟩ [(x, u)]) ∧
        ∀ base : Heap, (K w.params).In base → base.Ns mainGlobals mg → FnG l.prog w (K w.params) mg base (CX w) k fa fd [x] (sp w))
    (hsp : ∀ (w : World) (H : Hp) (a : Addr) (ns : List Int), ns.length ≤ n → Only H → SqL (K w.params) H a (ns.map V.int) → sp w [.ref a] H (fun v _ => v = .bl true) fun _ _ _ => False)
    (hCX : ∀ (w : World) (H : Hp) (s : Shared) (e : Value) (s' : Shared), CX w [] H s (fun _ _ _ => False) e s' → False) :
    PySem.W.WalkO q loose XP YP l.row.toRowW d [] (fun f vs => PySem.call f vs) := by
  refine Att.attach_call hn hdf fun w _ s₁ mg _ fa _ _ _ _ a vs ns G Y _ _ _ hmg hobj hints hlen hg => ?_
  obtain ⟨fd, hb, hF⟩ := F w mg fa _ (hY w _ Y) G.T.g hmg
  exact law_callG (hY w _ Y) G.T.g G.T.b G.T.builtins G.T.nolimit hg hobj hints (Nat.le_trans hlen hn2) hr hF hb (fun H hO hS => hsp w H a ns hlen hO hS) fun H e s' => hCX w H s₁ e s'
end Lp
set_option Elab.async false
set_option linter.all false
set_option maxRecDepth 100000
namespace Lp
open PySem PySem.Spec PyProof.Rows L2

/-- the names of the built-ins that the text leaves alone -/
structure NoB (mg : Str → Option Value) : Prop where
  len : mg "len" = none
  list : mg "list" = none
  int : mg "int" = none
  bool : mg "bool" = none
  str : mg "str" = none
  tuple : mg "tuple" = none
  max : mg "max" = none
  min : mg "min" = none
  range : mg "range" = none
  repr : mg "repr" = none
  isinstance : mg "isinstance" = none
  type : mg "type" = none
  all : mg "all" = none
  set : mg "set" = none
  zip : mg "zip" = none
  enumerate : mg "enumerate" = none
  sorted : mg "sorted" = none
  abs : mg "abs" = none

/-- a def that may be called by its name -/
structure Gc (P : Program) (w : World) (K : PySem.W.Frag) (mg : Str → Option Value) (base : Heap) (k : Nat) (x : Str) (sp : Sp) : Prop where
  ex : ∃ (f : Addr) (fd : FuncData) (ps : List Str), FnG P w K mg base CX0 k f fd ps sp ∧ mg x = some (.ref f) ∧ PySem.W.keepIn K (.ref f) = true ∧ Binds K fd ps []
theorem FnG.mono {P : Program} {w : World} {K : PySem.W.Frag} {mg : Str → Option Value} {base : Heap} {CX : CXT} {j k : Nat} {f : Addr} {fd : FuncData} {ps : List Str} {sp : Sp} (F : FnG P w K mg base CX j f fd ps sp) (h : j ≤ k) : FnG P w K mg base CX k f fd ps sp :=
  ⟨F.len, fun A out s H ar us vs Q E hG hr => F.runG A out s H ar us vs Q E hG (hr.mono h)⟩
section
variable {X : Cx} {k j : Nat} {x : Str} {sp : Sp} {p pos : Pos} {e : Expr} {es : List Expr} {t : TA}
theorem pe_g (c : Gc X.prog X.w X.K X.mg X.base k x sp) (hG : X.A.guards = some []) (hr : Room j X.A) (hk : k ≤ j) (hg : Gl X x) (ha : PA X (e :: es) t)
    (hdb : (x == ("__debug__" : Str)) = false := by decide) (he : starEach (e :: es) X.env = (false, eval e X.env) :: starEach es X.env := by rfl) (hpl : (backTo pos (starEach es X.env)).any (·.1) = false := by rfl) :
    PE X (.Call (.Name x p) (e :: es) [] pos) (tCall sp [] E0 t) := by
  obtain ⟨f, fd, ps, F, hm, kp, b⟩ := c.ex
  exact pe_callG F hG (hr.mono hk) hg hm kp b .nil pass0 ha hdb he hpl
end

/-! ### == and != of types -/
def rEqTy : R2 := fun x y H Q => ∃ a b, x = .ty a ∧ y = .ty b ∧ (∀ s' : Shared, s'.TypeIs (.type a) "type") ∧ (∀ s' : Shared, s'.TypeIs (.type b) "type") ∧ Q (.bl (decide (a = b))) H
def rNeTy : R2 := fun x y H Q => ∃ a b, x = .ty a ∧ y = .ty b ∧ (∀ s' : Shared, s'.TypeIs (.type a) "type") ∧ (∀ s' : Shared, s'.TypeIs (.type b) "type") ∧ Q (.bl (!decide (a = b))) H
section
variable {X : Cx}
theorem op_eqTy : OpR X (compareOp .Eq) rEqTy := by
  intro pins s σ H x y v u Q I rx ry h
  obtain ⟨a, b, rfl, rfl, ha, hb, q⟩ := h
  cases (show v = Value.type a from rx)
  cases (show u = Value.type b from ry)
  by_cases e : a = b
  · subst e
    exact PySem.TypeEq.eq_type_same ha ⟨.bl true, H, I, rfl, by simpa using q⟩
  · exact PySem.TypeEq.eq_type_other ha hb (by rw [ty_beq]; exact decide_eq_false e) ⟨.bl false, H, I, rfl, by simpa [e] using q⟩
end

open PySem.TypeEq
theorem slot_type_ne : Slot "type" (cmpInfo .NotEq).2.1 "object.__ne__" :=
  .of (owner := "object") (n := "__ne__") (by rw [typeLookup_type, builtinLookup_eq_fast]; kernel_rfl) (by decide +kernel) (by decide +kernel) (by decide +kernel)
    (by first | exact .inl (by decide +kernel) | exact .inr (by decide +kernel)) (by rw [isSubtype_type]; kernel_rfl)
section
variable {prog : Program} {w : World} {A : Around} {E : Value → Shared → Prop} {s : Shared} {Q : Value → Shared → Prop}
theorem ne_type_same {X : String} (hX : ∀ s' : Shared, s'.TypeIs (.type X) "type") (h : Q (.bool false) s) : wpAny (model prog w) A (compareOp .NotEq (.type X) (.type X)) Q E s := by
  show wpAny _ A (richCompare .NotEq _ _) Q E s
  refine PySem.wpAny_richCompare_same (T := "type") (hX s) (hX s) slot_type_ne (wpAny_call_entry slot_type_ne (hX s) F.entry_object_ne ?_ (F.args_object_ne_2 _ _))
  unfold Builtin.«object.__ne__»
  refine wpAny_bind (m := slotArgs "__ne__" 1 _) (wpAny_of_eq (a := ((Value.type X : Value), [Value.type X])) (by first | rfl | (simp only [slotArgs]; rfl)) ?_)
  refine wpAny_bind (wpAny_cRoomFor_or (.inl rfl) ?_)
  refine wpAny_bind (m := callSpecialIfBound? (.type X) (Str.ofString "__eq__") [.type X]) (wpAny_callSpecialIfBound?_slot (hX s) slot_type_eq
    (call_gives slot_type_eq (hX s) F.entry_object_eq (F.args_object_eq_2 _ _) (object_eq_same rfl (by simp)) ?_))
  show wpAny (model prog w) A.in1 (truthy (.bool true) >>= fun b => ret (Value.bool !b)) _ E s
  exact wpAny_bind (wpAny_of_eq (a := true) (by first | rfl | simp [truthy]) (wpAny_pure ⟨_, rfl, (by intro e; cases e), h⟩))
end

/-- a != b of the same built-in type -/
def rNeTyS : R2 := fun x y H Q => ∃ a, x = .ty a ∧ y = .ty a ∧ (∀ s' : Shared, s'.TypeIs (.type a) "type") ∧ Q (.bl false) H
theorem op_neTy {X : Cx} : OpR X (compareOp .NotEq) rNeTyS := by
  intro pins s σ H x y v u Q I rx ry h
  obtain ⟨a, rfl, rfl, ha, q⟩ := h
  cases (show v = Value.type a from rx)
  cases (show u = Value.type a from ry)
  exact ne_type_same ha ⟨.bl false, H, I, rfl, q⟩
/-! ### heaps -/
theorem same_new {H : Hp} {p : Addr} {o : HO} (h : H p = none) : Same H (upd H p o) := fun b x e => by
  rw [upd_ne (ne_of_none e h)]
  exact e
/-- all but what stands at a is as it was -/
def But (a : Addr) (H H' : Hp) : Prop := ∀ b, b ≠ a → ∀ o, H b = some o → H' b = some o
end Lp
set_option Elab.async false
set_option linter.all false
set_option maxRecDepth 100000
namespace Lp
open PySem PySem.Spec PyProof.Rows L2

/-! ### comprehensions that only add -/
def LcP (H1 : Hp) (D : Addr) (acc : Nat → List V) (i : Nat) (H : Hp) : Prop := H1 D = none ∧ Same H1 H ∧ H D = some (.lst (acc i))
section
variable {H1 H H4 : Hp} {D : Addr} {acc : Nat → List V} {i : Nat} {y : V}
theorem LcP.init (h : H1 D = none) (e : acc 0 = []) : LcP H1 D acc 0 (upd H1 D (.lst [])) := ⟨h, same_new h, by rw [upd_same, e]⟩
theorem LcP.put (p : LcP H1 D acc i H) (s : Same H H4) (e : acc (i + 1) = acc i ++ [y]) (hz : (acc i).length < 100000) :
    ∃ l, H4 D = some (.lst l) ∧ l.length < sizeLine ∧ LcP H1 D acc (i + 1) (upd H4 D (.lst (l ++ [y]))) := by
  obtain ⟨p1, p2, p3⟩ := p
  refine ⟨acc i, s _ _ p3, Nat.lt_of_lt_of_le hz (by decide), p1, fun b o h => ?_, by rw [upd_same, e]⟩
  rw [upd_ne (ne_of_none h p1)]
  exact s _ _ (p2 _ _ h)
theorem LcP.skip (p : LcP H1 D acc i H) (s : Same H H4) (e : acc (i + 1) = acc i) : LcP H1 D acc (i + 1) H4 := ⟨p.1, p.2.1.trans s, by rw [e]; exact s _ _ p.2.2⟩
end
theorem get_int {ns : List Int} {i : Nat} {x : V} (h : (ns.map V.int)[i]? = some x) : ∃ n, x = .int n ∧ ns[i]? = some n := by
  rw [List.getElem?_map] at h
  cases e : ns[i]? with
  | none => rw [e] at h; cases h
  | some n => rw [e] at h; cases h; exact ⟨n, rfl, rfl⟩
theorem mem_get {α : Type} {l : List α} {i : Nat} {x : α} (h : l[i]? = some x) : x ∈ l := List.mem_of_getElem? h
theorem lt_get {α : Type} {l : List α} {i : Nat} {x : α} (h : l[i]? = some x) : i < l.length := (List.getElem?_eq_some_iff.mp h).1
theorem take_get {α : Type} {l : List α} {i : Nat} {x : α} (h : l[i]? = some x) : l.take (i + 1) = l.take i ++ [x] := by
  rw [List.take_add_one, h]
  rfl
theorem zs {n : Nat} (h : n ≤ 100000) : n ≤ sizeLine := Nat.le_trans h (by decide)
theorem zl {n : Nat} (h : n < 100000) : n < sizeLine := Nat.lt_of_lt_of_le h (by decide)
theorem at0 {x : V} {r : List V} : atI (x :: r) 0 = some x := atI_nat (j := 0) rfl
theorem at1 {x y : V} {r : List V} : atI (x :: y :: r) 1 = some y := atI_nat (j := 1) rfl
theorem at2 {x y z : V} {r : List V} : atI (x :: y :: z :: r) 2 = some z := atI_nat (j := 2) rfl
theorem at_last {xs : List V} {y : V} : atI (xs ++ [y]) (-1) = some y := atI_last _ _
theorem dT {p : Prop} [Decidable p] (h : p) : V.bl (decide p) = V.bl true := congrArg V.bl (decide_eq_true h)
theorem dF {p : Prop} [Decidable p] (h : ¬ p) : V.bl (decide p) = V.bl false := congrArg V.bl (decide_eq_false h)
theorem nT {p : Prop} [Decidable p] (h : ¬ p) : V.bl (!decide p) = V.bl true := by rw [decide_eq_false h]; rfl
theorem nF {p : Prop} [Decidable p] (h : p) : V.bl (!decide p) = V.bl false := by rw [decide_eq_true h]; rfl
theorem vne {i j : Int} (h : i ≠ j) : ¬ V.int i = V.int j := fun e => h (V.int.inj e)

/-! ### a word behind a test, a value -/
def tMid (t : TT) : TT := fun σ H Q => ∃ M : Bool → Hp → Prop, t σ H M ∧ ∀ b H', M b H' → Q b H'
theorem pt_mid {X : Cx} {e : Expr} {t : TT} (h : PT X e t) : PT X e (tMid t) := ⟨fun pins s σ H _ I ⟨M, hm, hq⟩ => thn (h.run pins s σ H M I hm) fun b _ ⟨H', I', m⟩ => ⟨H', I', hq b H' m⟩⟩
def tMidE (t : TE) : TE := fun σ H Q => ∃ M : VK, t σ H M ∧ ∀ v H', M v H' → Q v H'
theorem pe_mid {X : Cx} {e : Expr} {t : TE} (h : PE X e t) : PE X e (tMidE t) := ⟨fun pins s σ H _ I ⟨M, hm, hq⟩ => thn (h.run pins s σ H M I hm) fun _ _ ⟨v, H', I', r, m⟩ => ⟨v, H', I', r, hq v H' m⟩⟩
/-! ### all but what stands at a is as it was -/
def Bt (a : Addr) (H H' : Hp) : Prop := ∀ b o, b ≠ a → H b = some o → H' b = some o
section
variable {a b p : Addr} {H H1 H2 H' : Hp} {o : HO}
theorem Bt.refl (a : Addr) (H : Hp) : Bt a H H := fun _ _ _ e => e
theorem Bt.trans (x : Bt a H H1) (y : Bt a H1 H2) : Bt a H H2 := fun b o n e => y b o n (x b o n e)
theorem Bt.of (x : Same H H') : Bt a H H' := fun b o _ e => x b o e
theorem Bt.at_ (a : Addr) (H : Hp) (o : HO) : Bt a H (upd H a o) := fun b u n e => by rw [upd_ne n]; exact e
theorem Bt.new (h : H p = none) : Bt a H (upd H p o) := .of (same_new h)
theorem Bt.mut (x : Bt a H H') (h : H p = none) : Bt a H (upd H' p o) := fun b u n e => by rw [upd_ne (ne_of_none e h)]; exact x b u n e
theorem Bt.add (x : Bt a H H') (h : H' p = none) : Bt a H (upd H' p o) := x.trans (.new h)
theorem Same.mut (x : Same H H') (h : H p = none) : Same H (upd H' p o) := fun b u e => by rw [upd_ne (ne_of_none e h)]; exact x b u e
theorem Same.add (x : Same H H') (h : H' p = none) : Same H (upd H' p o) := x.trans (same_new h)
theorem Bt.seq {K : PySem.W.Frag} {xs : List V} (x : Bt a H H') (n : b ≠ a) (h : SqL K H b xs) : SqL K H' b xs := by
  rcases h with (h | ⟨o, h⟩) | h
  · exact .inl (.inl (x _ _ n h))
  · exact .inl (.inr ⟨o, x _ _ n h⟩)
  · exact .inr h
end

/-! ### rules that name the written part outright: for the inside of comprehensions -/
section
variable {X : Cx} {K : PySem.W.Frag} {o e : Expr} {es : List Expr} {to : TE} {t : TA} {name : Str} {apos cpos : Pos} {T id : String} {r : V → List V → Hp → VK → Prop}
theorem k_bm (hK : X.K = K) (pa : PlainAttrs T) (slot : Slot T name id) (hty : typeOf (.builtin id) = pure (.type "method_descriptor")) (hm : MtR X id r) (ho : PE X o to) (ha : PA X (e :: es) t)
    (hbase : attributeBase o name X.env (eval o X.env) = eval o X.env := by rfl)
    (hfew : ((backTo cpos (starEach (e :: es) X.env)).all (fun x => !x.1) && (backToKw cpos (keywordEach [] X.env)).all (fun x => x.1.isSome)
      && decide ((e :: es).length + ([] : List Keyword).length + (if ([] : List Keyword).isEmpty then 0 else 1) < 30)) = true := by rfl)
    (hline : (apos.endLine == cpos.line) = true := by rfl) (hs : starEach (e :: es) X.env = (false, eval e X.env) :: starEach es X.env := by rfl) (hplain : (backTo cpos (starEach es X.env)).any (·.1) = false := by rfl) :
    PE X (.Call (.Attribute o name apos) (e :: es) [] cpos) (tBM K T r to t) := by
  subst hK
  exact pe_bm pa slot hty hm ho ha hbase hfew hline hs hplain
def rLenK (K : PySem.W.Frag) : List V → Hp → VK → Prop := fun xs H Q => ∃ p ys, xs = [.ref p] ∧ (SqL K H p ys ∨ SqT K H p ys) ∧ Q (.int ys.length) H
theorem k_len (hK : X.K = K) : CallR X (.builtin "len") (rLenK K) := by
  subst hK
  exact call_len_seq
theorem k_ix (hK : X.K = K) : IxR X (rIxL K) := by
  subst hK
  exact ix_list
theorem k_ixT (hK : X.K = K) : IxR X (rIxT K) := by
  subst hK
  exact ix_tup
theorem k_in (hK : X.K = K) : OpR X (compareOp .In) (rIn K false) := by
  subst hK
  exact op_in_seq
theorem k_notin (hK : X.K = K) : OpR X (compareOp .NotIn) (rIn K true) := by
  subst hK
  exact op_notIn_seq
theorem k_isi (hK : X.K = K) : CallR X (.builtin "isinstance") (rIsi K) := by
  subst hK
  exact call_isi
end
end Lp
set_option Elab.async false
set_option linter.all false
set_option maxRecDepth 100000
namespace Lp
open PySem PySem.Spec PyProof.Rows L2
/-! ### lists of ints as data -/
abbrev dI (ns : List Int) : PyData := .list (ns.map PyData.int)
theorem lay_ints : ∀ ns : List Int, PyData.canLayAll0 (ns.map PyData.int) = true
  | [] => rfl
  | _ :: r => by
    show (PyData.canLay0 (.int _) && PyData.canLayAll0 (r.map PyData.int)) = true
    rw [lay_ints r]
    rfl
theorem depth_ints : ∀ ns : List Int, PyData.depthAll (ns.map PyData.int) = 0
  | [] => rfl
  | _ :: r => by
    show max (PyData.depth (.int _)) (PyData.depthAll (r.map PyData.int)) = 0
    rw [depth_ints r]
    rfl
theorem shaped_ints (ns : List Int) : SeqAt.shaped (dI ns) = true := by
  show (PyData.canLayAll0 (ns.map PyData.int) && decide (PyData.depthAll (ns.map PyData.int) + 1 ≤ 64)) = true
  rw [lay_ints, depth_ints]
  rfl
theorem noDict_ints : ∀ ns : List Int, PyData.hasDictAll (ns.map PyData.int) = false
  | [] => rfl
  | _ :: r => by
    show (PyData.hasDict (.int _) || PyData.hasDictAll (r.map PyData.int)) = false
    rw [noDict_ints r]
    rfl
theorem show_ints : ∀ ns : List Int, (∀ n ∈ ns, n.natAbs.log2 < 1920) → PyData.showableAll (ns.map PyData.int) = true
  | [], _ => rfl
  | n :: r, h => by
    show (decide (n.natAbs.log2 < 1920) && PyData.showableAll (r.map PyData.int)) = true
    rw [show_ints r (fun m hm => h m (List.mem_cons_of_mem _ hm)), decide_eq_true (h n List.mem_cons_self)]
    rfl
theorem dpAll_ints {K : PySem.W.Frag} {H : Hp} : ∀ ns : List Int, DpAll K H (ns.map V.int) (ns.map PyData.int)
  | [] => .nil
  | n :: r => .cons (.int n) (dpAll_ints r)
theorem dp_ints {K : PySem.W.Frag} {H : Hp} {a : Addr} {ns : List Int} (h : SqL K H a (ns.map V.int)) : Dp K H (.ref a) (dI ns) := .lst h (dpAll_ints ns)
theorem eqvAll_ints : ∀ xs ys : List Int, PyData.eqvAll (xs.map PyData.int) (ys.map PyData.int) = decide (xs = ys)
  | [], [] => rfl
  | [], _ :: _ => rfl
  | _ :: _, [] => rfl
  | x :: r, y :: s => by
    show (PyData.eqv (.int x) (.int y) && PyData.eqvAll (r.map PyData.int) (s.map PyData.int)) = decide (x :: r = y :: s)
    rw [eqvAll_ints r s]
    show ((x == y) && decide (r = s)) = decide (x :: r = y :: s)
    by_cases e : x = y <;> by_cases e' : r = s <;> simp [e, e']
theorem eqv_ints (xs ys : List Int) : PyData.eqv (dI xs) (dI ys) = decide (xs = ys) := by
  show PyData.eqvAll (xs.map PyData.int) (ys.map PyData.int) = _
  exact eqvAll_ints xs ys
/-- [] == [], by the reading of == -/
theorem textFrom_le : ∀ (ts : List Str) (k : Nat) (acc : Str) (m : Nat), (∀ t ∈ ts, t.length ≤ m) → (textFrom k acc ts).length ≤ acc.length + ts.length * (m + 2)
  | [], k, acc, m, _ => by
    show acc.length ≤ _
    simp
  | t :: r, k, acc, m, h => by
    have ih := fun k' acc' => textFrom_le r k' acc' m (fun x hx => h x (List.mem_cons_of_mem _ hx))
    have ht := h t List.mem_cons_self
    have z := ih (k + 1) (acc ++ (if k > 0 then ", " else "" : String) ++ t)
    have e : (acc ++ (if k > 0 then ", " else "" : String) ++ t).length ≤ acc.length + 2 + t.length := by
      rw [Str.length_append, Str.length_append]
      by_cases hk : k > 0
      · rw [if_pos hk]
        exact Nat.le_refl _
      · rw [if_neg hk]
        show acc.length + 0 + t.length ≤ _
        omega
    show (textFrom (k + 1) (acc ++ (if k > 0 then ", " else "" : String) ++ t) r).length ≤ acc.length + (r.length + 1) * (m + 2)
    rw [Nat.succ_mul]
    omega
theorem num_len : ∀ n : Int, -100 ≤ n → n ≤ 100 → (Str.ofString (toString n)).length ≤ 4 := by
  intro n h0 h1
  have key : ∀ i : Fin 201, (Str.ofString (toString ((i.val : Int) - 100))).length ≤ 4 := by decide +kernel
  have e := key ⟨(n + 100).toNat, by omega⟩
  have e2 : (((n + 100).toNat : Nat) : Int) - 100 = n := by omega
  rw [e2] at e
  exact e
theorem shownAll_mem : ∀ (ns : List Int) (t : Str), t ∈ PyData.shownAll (ns.map PyData.int) → ∃ n ∈ ns, t = Str.ofString (toString n)
  | [], t, h => by
    have h' : t ∈ ([] : List Str) := h
    cases h'
  | n :: r, t, h => by
    have h' : t ∈ Str.ofString (toString n) :: PyData.shownAll (r.map PyData.int) := h
    rcases List.mem_cons.mp h' with e | e
    · exact ⟨n, List.mem_cons_self, e⟩
    · obtain ⟨m, hm, e⟩ := shownAll_mem r t e
      exact ⟨m, List.mem_cons_of_mem _ hm, e⟩
theorem shownAll_len : ∀ ns : List Int, (PyData.shownAll (ns.map PyData.int)).length = ns.length
  | [] => rfl
  | n :: r => congrArg (· + 1) (shownAll_len r)
theorem shown_ints {ns : List Int} (hb : ∀ n ∈ ns, -100 ≤ n ∧ n ≤ 100) (hl : ns.length ≤ 1000) : (dI ns).shown.length ≤ sizeLine := by
  show (textFrom 0 "[" (PyData.shownAll (ns.map PyData.int)) ++ ("]" : Str)).length ≤ sizeLine
  rw [Str.length_append]
  have z := textFrom_le (PyData.shownAll (ns.map PyData.int)) 0 "[" 4 (fun t ht => by
    obtain ⟨n, hn, e⟩ := shownAll_mem ns t ht
    rw [e]
    exact num_len n (hb n hn).1 (hb n hn).2)
  rw [shownAll_len] at z
  have e1 : ("[" : Str).length = 1 := rfl
  have e2 : ("]" : Str).length = 1 := rfl
  rw [e1] at z
  rw [e2]
  exact zs (by omega)
theorem log2_small {n : Int} (h0 : -100 ≤ n) (h1 : n ≤ 100) : n.natAbs.log2 < 1920 := by
  have h : n.natAbs < 2 ^ 7 := by omega
  exact Nat.lt_trans (PySem.Flt.log2_lt_of (by decide : 0 < 7) h) (by decide)
theorem rrepr_ints {K : PySem.W.Frag} {H : Hp} {a : Addr} {ns : List Int} {Q : VK} (hS : SqL K H a (ns.map V.int)) (hb : ∀ n ∈ ns, -100 ≤ n ∧ n ≤ 100) (hl : ns.length ≤ 1000) (q : Q (.str (dI ns).shown) H) : rRepr K [.ref a] H Q :=
  ⟨a, dI ns, rfl, dp_ints hS, show_ints ns (fun n hn => log2_small (hb n hn).1 (hb n hn).2), noDict_ints ns, by
    show PyData.depthAll (ns.map PyData.int) + 1 ≤ 60
    rw [depth_ints]
    decide, shown_ints hb hl, q⟩

/-! ### places -/
theorem erase_map {α β : Type} (f : α → β) : ∀ (l : List α) (j : Nat), (l.map f).eraseIdx j = (l.eraseIdx j).map f
  | [], _ => by simp
  | x :: r, 0 => rfl
  | x :: r, j + 1 => congrArg (f x :: ·) (erase_map f r j)
theorem get_at {al : List Int} {j : Nat} (h : j < al.length) : (al.map V.int)[j]? = some (.int al[j]) := by
  rw [List.getElem?_map, List.getElem?_eq_getElem h]
  rfl
theorem ix_at {j n : Nat} (h : j < n) : seqIndex? (j : Int) n = some j := (ixN_seq (Evl.ixN_nat h)).1
theorem nat_of {r : Int} (h : 0 ≤ r) : ∃ j : Nat, r = (j : Int) := ⟨r.toNat, by omega⟩
theorem nm {k : Nat} (h : k ≤ 100000) : -(2 ^ 63) ≤ (k : Int) ∧ (k : Int) < 2 ^ 63 := by omega
theorem free_of {a p : Addr} {H H' : Hp} (b : Bt a H H') (n : p ≠ a) (h : H' p = none) : H p = none := by
  cases e : H p with
  | none => rfl
  | some o =>
    rw [b _ _ n e] at h
    cases h
theorem erase_perm : ∀ (l : List Int) (j : Nat) (h : j < l.length), (l[j] :: l.eraseIdx j).Perm l
  | x :: r, 0, _ => .refl _
  | x :: r, j + 1, h => by
    have h' : j < r.length := Nat.lt_of_succ_lt_succ h
    exact (List.Perm.swap x (r[j]'h') (r.eraseIdx j)).trans ((erase_perm r j h').cons x)
end Lp
set_option Elab.async false
set_option linter.all false
set_option maxRecDepth 100000
namespace Lp
open PySem PySem.Spec PyProof.Rows L2
theorem lc_enum {K : PySem.W.Frag} {a : Addr} {xs : List V} {g : TG} {tt : TT} {te : TE} {vs : List Nat} {σ : L2.St} {H1 : Hp} {D : Addr} {Qd : Hp → Prop} (Pv : Nat → Hp → Prop) (h0 : Pv 0 (upd H1 D (.lst []))) (hl : ∀ i H, i ≤ xs.length → Pv i H → SqL K H a xs)
    (hs : ∀ (i : Nat) (x : V) (T : Addr) (H : Hp), xs[i]? = some x → H T = none → Pv i H → g (.ref T) (wipe σ vs) (upd H T (.tup [.int (i : Nat), x])) fun σ2 H2 => wipe σ2 vs = wipe σ vs ∧ tt σ2 H2 fun b H3 =>
      if b = true then te σ2 H3 fun y H4 => ∃ acc, H4 D = some (.lst acc) ∧ acc.length < sizeLine ∧ Pv (i + 1) (upd H4 D (.lst (acc ++ [y]))) else Pv (i + 1) H3) (hd : ∀ H, Pv xs.length H → Qd H) :
    ∃ W : Nat → Nat → Hp → Prop, (∃ m, W 0 m (upd H1 D (.lst []))) ∧ ∀ i m H, W i m H →
      ((Ite K a).stop i H ∧ Qd H) ∨ ((Ite K a).go i H ∧ ∃ Nx : Hp → Prop, (∀ H', Nx H' → ∃ m', m' < m ∧ W (i + 1) m' H') ∧ ∀ x H', (Ite K a).yld i H x H' → g x (wipe σ vs) H' fun σ2 H2 => wipe σ2 vs = wipe σ vs ∧ tt σ2 H2 fun b H3 =>
        if b = true then te σ2 H3 fun y H4 => ∃ acc, H4 D = some (.lst acc) ∧ acc.length < sizeLine ∧ Nx (upd H4 D (.lst (acc ++ [y]))) else Nx H3) := by
  refine ⟨fun i m H => m = xs.length - i ∧ i ≤ xs.length ∧ Pv i H, ⟨xs.length, by simp, Nat.zero_le _, h0⟩, ?_⟩
  rintro i m H ⟨rfl, hi, pv⟩
  have sq := hl i H hi pv
  rcases Nat.lt_or_ge i xs.length with hlt | hge
  · refine .inr ⟨⟨xs, xs[i], sq, List.getElem?_eq_getElem hlt⟩, Pv (i + 1), fun H' p' => ⟨xs.length - (i + 1), by omega, rfl, hlt, p'⟩, fun x H' y => ?_⟩
    obtain ⟨T, z, rfl, nT, rfl, ez⟩ := y
    exact hs i z T H (ez xs sq) nT pv
  · have e : i = xs.length := by omega
    subst e
    exact .inl ⟨⟨xs, sq, Nat.le_refl _⟩, hd H pv⟩
theorem cut_take (xs : List V) (k : Nat) (h : k ≤ xs.length) : cutV xs none (some (k : Int)) = xs.take k := by
  unfold cutV
  rw [HT.sIx_none, HT.sIx_nat, List.drop_zero, Nat.sub_zero, Nat.min_eq_left h]
theorem decV (i j : Int) : decide (V.int i = V.int j) = decide (i = j) := decide_eq_decide.mpr ⟨fun z => V.int.inj z, fun z => congrArg V.int z⟩
theorem k_sl {X : Cx} {K : PySem.W.Frag} (hK : X.K = K) : SlR X (rSlL K) := by
  subst hK
  exact sl_list
theorem k_tup {X : Cx} {K : PySem.W.Frag} {es : List Expr} {k : Nat} {pos : Pos} {t : TGs} {n : Nat} (hK : X.K = K) (hc : X.calm = true) (h : PGs X es t)
    (hn : (assignEach es X.env).length = n := by rfl) (hst : (assignEach es X.env).findIdx? (·.1) = none := by rfl) : PG X (.Tuple es k pos) (gTup K n t) := by
  subst hK
  exact pg_tup hc h hn hst
theorem seqN {K : PySem.W.Frag} {xs : List V} {H H1 H' : Hp} {a b : Addr} (h : SqL K H b xs) (n : H a = none) (s : Same H H1) (x : Bt a H1 H') : SqL K H' b xs := by
  rcases h with (h | ⟨o, h⟩) | h
  · exact .inl (.inl (x _ _ (ne_of_none h n) (s _ _ h)))
  · exact .inl (.inr ⟨o, x _ _ (ne_of_none h n) (s _ _ h)⟩)
  · exact .inr h
theorem rI1 {ns : List Int} (hb : ∀ n ∈ ns, -100 ≤ n ∧ n ≤ 100) : (dI ns).showable = true := show_ints ns (fun n hn => log2_small (hb n hn).1 (hb n hn).2)
theorem rI2 (ns : List Int) : (dI ns).depth ≤ 60 := by
  show PyData.depthAll (ns.map PyData.int) + 1 ≤ 60
  rw [depth_ints]
  decide
end Lp
set_option Elab.async false
set_option linter.all false
set_option maxRecDepth 100000
namespace Lp
open PySem PySem.Spec PyProof.Rows L2
theorem lc_zipL {K : PySem.W.Frag} {a b : Addr} {xs ys : List V} {g : TG} {tt : TT} {te : TE} {vs : List Nat} {σ : L2.St} {H1 : Hp} {D : Addr} {Qd : Hp → Prop} (le : xs.length = ys.length) (Pv : Nat → Hp → Prop) (h0 : Pv 0 (upd H1 D (.lst []))) (hl : ∀ i H, i ≤ xs.length → Pv i H → SqL K H a xs ∧ SqL K H b ys)
    (hs : ∀ (i : Nat) (x y : V) (T : Addr) (H : Hp), xs[i]? = some x → ys[i]? = some y → H T = none → Pv i H → g (.ref T) (wipe σ vs) (upd H T (.tup [x, y])) fun σ2 H2 => wipe σ2 vs = wipe σ vs ∧ tt σ2 H2 fun b H3 =>
      if b = true then te σ2 H3 fun y H4 => ∃ acc, H4 D = some (.lst acc) ∧ acc.length < sizeLine ∧ Pv (i + 1) (upd H4 D (.lst (acc ++ [y]))) else Pv (i + 1) H3) (hd : ∀ H, Pv xs.length H → Qd H) :
    ∃ W : Nat → Nat → Hp → Prop, (∃ m, W 0 m (upd H1 D (.lst []))) ∧ ∀ i m H, W i m H →
      ((Itz K a b).stop i H ∧ Qd H) ∨ ((Itz K a b).go i H ∧ ∃ Nx : Hp → Prop, (∀ H', Nx H' → ∃ m', m' < m ∧ W (i + 1) m' H') ∧ ∀ x H', (Itz K a b).yld i H x H' → g x (wipe σ vs) H' fun σ2 H2 => wipe σ2 vs = wipe σ vs ∧ tt σ2 H2 fun b H3 =>
        if b = true then te σ2 H3 fun y H4 => ∃ acc, H4 D = some (.lst acc) ∧ acc.length < sizeLine ∧ Nx (upd H4 D (.lst (acc ++ [y]))) else Nx H3) := by
  refine ⟨fun i m H => m = xs.length - i ∧ i ≤ xs.length ∧ Pv i H, ⟨xs.length, by simp, Nat.zero_le _, h0⟩, ?_⟩
  rintro i m H ⟨rfl, hi, pv⟩
  obtain ⟨sa, sb⟩ := hl i H hi pv
  rcases Nat.lt_or_ge i xs.length with hlt | hge
  · refine .inr ⟨⟨xs, ys, xs[i], ys[i]'(by omega), sa, sb, List.getElem?_eq_getElem hlt, List.getElem?_eq_getElem (by omega)⟩, Pv (i + 1), fun H' p' => ⟨xs.length - (i + 1), by omega, rfl, hlt, p'⟩, fun x H' y => ?_⟩
    obtain ⟨T, z1, z2, rfl, nT, rfl, e1, e2⟩ := y
    exact hs i z1 z2 T H (e1 xs sa) (e2 ys sb) nT pv
  · have e : i = xs.length := by omega
    subst e
    exact .inl ⟨⟨xs, ys, sa, sb, .inl (Nat.le_refl _)⟩, hd H pv⟩
theorem lc_zipT {K : PySem.W.Frag} {a b : Addr} {xs ys : List V} {g : TG} {tt : TT} {te : TE} {vs : List Nat} {σ : L2.St} {H1 : Hp} {D : Addr} {Qd : Hp → Prop} (le : xs.length = ys.length) (Pv : Nat → Hp → Prop) (h0 : Pv 0 (upd H1 D (.lst []))) (hl : ∀ i H, i ≤ xs.length → Pv i H → SqT K H a xs ∧ SqT K H b ys)
    (hs : ∀ (i : Nat) (x y : V) (T : Addr) (H : Hp), xs[i]? = some x → ys[i]? = some y → H T = none → Pv i H → g (.ref T) (wipe σ vs) (upd H T (.tup [x, y])) fun σ2 H2 => wipe σ2 vs = wipe σ vs ∧ tt σ2 H2 fun b H3 =>
      if b = true then te σ2 H3 fun y H4 => ∃ acc, H4 D = some (.lst acc) ∧ acc.length < sizeLine ∧ Pv (i + 1) (upd H4 D (.lst (acc ++ [y]))) else Pv (i + 1) H3) (hd : ∀ H, Pv xs.length H → Qd H) :
    ∃ W : Nat → Nat → Hp → Prop, (∃ m, W 0 m (upd H1 D (.lst []))) ∧ ∀ i m H, W i m H →
      ((RZ.ItzT K a b).stop i H ∧ Qd H) ∨ ((RZ.ItzT K a b).go i H ∧ ∃ Nx : Hp → Prop, (∀ H', Nx H' → ∃ m', m' < m ∧ W (i + 1) m' H') ∧ ∀ x H', (RZ.ItzT K a b).yld i H x H' → g x (wipe σ vs) H' fun σ2 H2 => wipe σ2 vs = wipe σ vs ∧ tt σ2 H2 fun b H3 =>
        if b = true then te σ2 H3 fun y H4 => ∃ acc, H4 D = some (.lst acc) ∧ acc.length < sizeLine ∧ Nx (upd H4 D (.lst (acc ++ [y]))) else Nx H3) := by
  refine ⟨fun i m H => m = xs.length - i ∧ i ≤ xs.length ∧ Pv i H, ⟨xs.length, by simp, Nat.zero_le _, h0⟩, ?_⟩
  rintro i m H ⟨rfl, hi, pv⟩
  obtain ⟨sa, sb⟩ := hl i H hi pv
  rcases Nat.lt_or_ge i xs.length with hlt | hge
  · refine .inr ⟨⟨xs, ys, xs[i], ys[i]'(by omega), sa, sb, List.getElem?_eq_getElem hlt, List.getElem?_eq_getElem (by omega)⟩, Pv (i + 1), fun H' p' => ⟨xs.length - (i + 1), by omega, rfl, hlt, p'⟩, fun x H' y => ?_⟩
    obtain ⟨T, z1, z2, rfl, nT, rfl, e1, e2⟩ := y
    exact hs i z1 z2 T H (e1 xs sa) (e2 ys sb) nT pv
  · have e : i = xs.length := by omega
    subst e
    exact .inl ⟨⟨xs, ys, sa, sb, .inl (Nat.le_refl _)⟩, hd H pv⟩
theorem tyx_l {K : PySem.W.Frag} {H : Hp} {a : Addr} {xs : List V} (h : SqL K H a xs) : TyX K H (.ref a) (.type "list") := by
  rcases h with (h | ⟨o, h⟩) | ⟨o, its, n, h, c, _⟩
  · exact .base (.lst h)
  · exact .base (.frz h)
  · exact .kList h c
theorem tyx_t {K : PySem.W.Frag} {H : Hp} {a : Addr} {xs : List V} (h : SqT K H a xs) : TyX K H (.ref a) (.type "tuple") := by
  rcases h with (h | ⟨o, h⟩) | ⟨o, its, n, h, c, _⟩
  · exact .base (.tup h)
  · exact .fTuple h
  · exact .kTuple h c
theorem seqT {K : PySem.W.Frag} {H H' : Hp} {a : Addr} {xs : List V} (e : Same H H') (h : SqT K H a xs) : SqT K H' a xs := by
  rcases h with (h | ⟨o, h⟩) | h
  · exact .inl (.inl (e _ _ h))
  · exact .inl (.inr ⟨o, e _ _ h⟩)
  · exact .inr h
mutual
theorem dp_same {K : PySem.W.Frag} {H H' : Hp} (s : Same H H') : ∀ {v : V} {d : PyData}, Dp K H v d → Dp K H' v d
  | _, _, .non => .non
  | _, _, .bl b => .bl b
  | _, _, .int i => .int i
  | _, _, .str x => .str x
  | _, _, .lst h1 h2 => .lst (s.seq h1) (dpAll_same s h2)
  | _, _, .tup h1 h2 => .tup (seqT s h1) (dpAll_same s h2)
theorem dpAll_same {K : PySem.W.Frag} {H H' : Hp} (s : Same H H') : ∀ {vs : List V} {ds : List PyData}, DpAll K H vs ds → DpAll K H' vs ds
  | _, _, .nil => .nil
  | _, _, .cons h1 h2 => .cons (dp_same s h1) (dpAll_same s h2)
end
theorem dpAll_len {K : PySem.W.Frag} {H : Hp} : ∀ {vs : List V} {ds : List PyData}, DpAll K H vs ds → vs.length = ds.length
  | _, _, .nil => rfl
  | _, _, .cons _ h => congrArg (· + 1) (dpAll_len h)
theorem dpAll_get {K : PySem.W.Frag} {H : Hp} : ∀ {vs : List V} {ds : List PyData} {i : Nat} {v : V}, DpAll K H vs ds → vs[i]? = some v → ∃ d, ds[i]? = some d ∧ Dp K H v d
  | _, _, 0, _, .cons h _, e => by cases e; exact ⟨_, rfl, h⟩
  | _, _, i + 1, _, .cons _ h, e => dpAll_get (i := i) h e
theorem depth_get : ∀ {ds : List PyData} {i : Nat} {d : PyData}, ds[i]? = some d → d.depth ≤ PyData.depthAll ds
  | x :: r, 0, d, e => by cases e; exact Nat.le_max_left _ _
  | x :: r, i + 1, d, e => Nat.le_trans (depth_get (ds := r) (i := i) e) (Nat.le_max_right _ _)
theorem kitA {K : PySem.W.Frag} {t c1 c2 : Value} {b : Bool} (h1 : PySem.W.kitOne K t c1 = some false) (h2 : PySem.W.kitOne K t c2 = some b) : PySem.W.kitAny K t [c1, c2] = some b := by
  unfold PySem.W.kitAny
  rw [h1]
  show PySem.W.kitAny K t [c2] = _
  unfold PySem.W.kitAny
  rw [h2]
  cases b <;> rfl
theorem kitT {K : PySem.W.Frag} {t c1 : Value} {cs : List Value} (h1 : PySem.W.kitOne K t c1 = some true) : PySem.W.kitAny K t (c1 :: cs) = some true := by
  unfold PySem.W.kitAny
  rw [h1]
/-! ### list(range(a, b, c)) -/
def tList3 (ta : TA) : TE := fun σ H Q => ta σ H fun vs H1 => ∃ (i j c : Int) (n : Nat), vs = [.int i, .int j, .int c] ∧ RgC i j c n ∧ n ≤ 100000 ∧ ∀ q, H1 q = none → Q (.ref q) (upd H1 q (.lst ((List.range n).map fun k : Nat => V.int (i + (k : Int) * c))))
theorem vals_rg3 {a c : Int} {n : Nat} {acc : Array Value} (h : ItemsOf (fun i v => ∃ t, v = .int (a + i * c) t) acc n) : Vals ((List.range n).map fun k : Nat => V.int (a + (k : Int) * c)) acc.toList := by
  have e : acc.toList.length = n := by rw [Array.length_toList]; exact h.1
  rw [← e]
  refine vals_of_get acc.toList _ fun j u hj => ?_
  obtain ⟨t, rfl⟩ := h.2 j u (by rw [← hj, Array.getElem?_toList])
  exact ⟨t, rfl⟩
theorem pe_list3 {X : Cx} {a b c : Expr} {ta : TA} {p p2 pos pos2 : Pos} (hc : X.calm = true) (hg : Gl X "list") (hm : X.mg "list" = none) (hg2 : Gl X "range") (hm2 : X.mg "range" = none) (ha : PA X [a, b, c] ta)
    (hs : starEach [a, b, c] X.env = (false, eval a X.env) :: starEach [b, c] X.env := by rfl) (hpl : (backTo pos2 (starEach [b, c] X.env)).any (·.1) = false := by rfl)
    (na : starEach [.Call (.Name "range" p2) [a, b, c] [] pos2] X.env = (false, eval (.Call (.Name "range" p2) [a, b, c] [] pos2) X.env) :: starEach [] X.env := by rfl) :
    PE X (.Call (.Name "list" p) [.Call (.Name "range" p2) [a, b, c] [] pos2] [] pos) (tList3 ta) := by
  refine ⟨fun pins s σ H Q I h => ?_⟩
  refine Call_ (ld_blt I hg hm boot_list (PyProof.Rows.callWith_type1 (args_cons (?_) na) na))
  refine Call_ (ld_blt I hg2 hm2 boot_range (PyProof.Rows.callWith_type1 (thn (ha.run pos2 pins s σ H _ I h) fun us s1 ⟨vs, H1, I1, r1, q1⟩ => ?_) hs hpl))
  obtain ⟨i, j, k, n, e, ⟨c0, c1, c2, c3⟩, hn, q⟩ := q1
  subst e
  cases r1 with
  | cons r rr =>
    cases rr with
    | cons r' rr =>
      cases rr with
      | cons r'' rr =>
        cases rr
        obtain ⟨t, rfl⟩ := r
        obtain ⟨t', rfl⟩ := r'
        obtain ⟨t'', rfl⟩ := r''
        refine call_range_3 c0 ?_ (.inl (PyProof.noPylong_small c1))
        refine args_nil ?_
        have I2 : Inv X pins σ H1 { s1 with heap := s1.heap.push { cls := .type "range", data := .fields #[.int i t, .int j t', .int k t''] } } := I1.kept (t' := s1.toks) fun b o e => Heap.get?_push_of_some _ e
        refine call_list_range (n := n) (I2.ok.hd hc) (IsRange.new ..) c2 c3 (by omega) fun h' tk acc c' hk e' hi => ?_
        refine ⟨.ref _, upd H1 _ (.lst ((List.range n).map fun m : Nat => V.int (i + (m : Int) * k))), I2.laid hk (Nat.le_refl _) (show ObjOk X.prog X.w _ _ _ (.lst _) from ⟨?_, acc.toList, c', vals_rg3 hi, ?_⟩), rfl, q _ (I2.hok.fresh (Nat.le_refl _))⟩
        · rw [List.length_map, List.length_range]
          exact zs hn
        · rw [Array.toArray_toList]; exact e'
end Lp
set_option Elab.async false
set_option linter.all false
set_option maxRecDepth 100000
namespace Lp
open PySem PySem.Spec PyProof.Rows L2
/-! ### xs.count(text) -/
theorem strCount {k : Str} : ∀ {us : List Value} {ys : List Str}, StrsAre us ys → us.countP (isStrOf k) = ys.countP (fun y => y == k)
  | _, _, .nil => rfl
  | _, _, .cons n t h => by
    have ih := strCount (k := k) h
    rw [List.countP_cons, List.countP_cons, ih] <;> rfl
def rCntS (K : PySem.W.Frag) : V → List V → Hp → VK → Prop := fun x xs H Q => ∃ (p : Addr) (ys : List Str) (k : Str), x = .ref p ∧ xs = [.str k] ∧ SqL K H p (ys.map V.str) ∧ Q (.int (ys.countP (fun y => y == k) : Nat)) H
theorem mt_lcountS {X : Cx} : MtR X "list.count" (rCntS X.K) := by
  intro pins s σ H x xs v us Q I rx rxs h
  obtain ⟨p, ys, k, rfl, rfl, hs, q⟩ := h
  cases rx
  obtain ⟨u, rfl, ru⟩ := rxs.one
  obtain ⟨t, rfl⟩ := ru
  obtain ⟨its, rv, ⟨⟨cls, dd, data, sl⟩, n, ho, hc, hdn, hd⟩, hlen⟩ := I.list hs
  simp only at hc hd
  subst hc hd
  have hi := Vals.strs rv
  refine call_meets PySem.F.slot_list_count ⟨_, ho, rfl⟩ PySem.F.entry_list_count (PySem.F.args_list_count_2 _ _)
    (SeqAt.list_countAt p its.toArray n dd sl (.str k t) (isStrOf k)) ⟨ho, fun y hy => (eq_isStrOf k t hi y (by simpa using hy)).at _ _, ?_⟩
  have ec : its.toArray.toList.countP (isStrOf k) = ys.countP (fun y => y == k) := strCount hi
  refine ⟨.int (ys.countP (fun y => y == k) : Nat), H, I.tok _, ⟨s.toks, ?_⟩, q⟩
  show Value.int ((its.toArray.toList.countP (isStrOf k) : Nat) : Int) s.toks = Value.int ((ys.countP (fun y => y == k) : Nat) : Int) s.toks
  rw [ec]
end Lp
set_option Elab.async false
set_option linter.all false
set_option maxRecDepth 100000
namespace Lp
open PySem PySem.Spec PyProof.Rows L2
/-! ### dict comprehensions over enumerate -/
theorem dc_enum {K : PySem.W.Frag} {a : Addr} {xs : List V} {g : TG} {tt : TT} {tk tv : TE} {vs : List Nat} {σ : L2.St} {H1 : Hp} {D : Addr} {Qd : Hp → Prop} (Pv : Nat → Hp → Prop) (h0 : Pv 0 (upd H1 D (.dK []))) (hl : ∀ i H, i ≤ xs.length → Pv i H → SqL K H a xs)
    (hs : ∀ (i : Nat) (x : V) (T : Addr) (H : Hp), xs[i]? = some x → H T = none → Pv i H → g (.ref T) (wipe σ vs) (upd H T (.tup [.int (i : Nat), x])) fun σ2 H2 => wipe σ2 vs = wipe σ vs ∧ tt σ2 H2 fun b H3 =>
      if b = true then tk σ2 H3 fun y H4 => tv σ2 H4 fun z H5 => ∃ kvs k, y = kV k ∧ H5 D = some (.dK kvs) ∧ kvs.length < sizeLine ∧ Pv (i + 1) (upd H5 D (.dK (putK kvs k z))) else Pv (i + 1) H3) (hd : ∀ H, Pv xs.length H → Qd H) :
    ∃ W : Nat → Nat → Hp → Prop, (∃ m, W 0 m (upd H1 D (.dK []))) ∧ ∀ i m H, W i m H →
      ((Ite K a).stop i H ∧ Qd H) ∨ ((Ite K a).go i H ∧ ∃ Nx : Hp → Prop, (∀ H', Nx H' → ∃ m', m' < m ∧ W (i + 1) m' H') ∧ ∀ x H', (Ite K a).yld i H x H' → g x (wipe σ vs) H' fun σ2 H2 => wipe σ2 vs = wipe σ vs ∧ tt σ2 H2 fun b H3 =>
        if b = true then tk σ2 H3 fun y H4 => tv σ2 H4 fun z H5 => ∃ kvs k, y = kV k ∧ H5 D = some (.dK kvs) ∧ kvs.length < sizeLine ∧ Nx (upd H5 D (.dK (putK kvs k z))) else Nx H3) := by
  refine ⟨fun i m H => m = xs.length - i ∧ i ≤ xs.length ∧ Pv i H, ⟨xs.length, by simp, Nat.zero_le _, h0⟩, ?_⟩
  rintro i m H ⟨rfl, hi, pv⟩
  have sq := hl i H hi pv
  rcases Nat.lt_or_ge i xs.length with hlt | hge
  · refine .inr ⟨⟨xs, xs[i], sq, List.getElem?_eq_getElem hlt⟩, Pv (i + 1), fun H' p' => ⟨xs.length - (i + 1), by omega, rfl, hlt, p'⟩, fun x H' y => ?_⟩
    obtain ⟨T, z, rfl, nT, rfl, e1⟩ := y
    exact hs i z T H (e1 xs sq) nT pv
  · have e : i = xs.length := by omega
    subst e
    exact .inl ⟨⟨xs, sq, Nat.le_refl _⟩, hd H pv⟩
end Lp
set_option Elab.async false
set_option linter.all false
set_option maxRecDepth 100000
namespace Lp
open PySem PySem.Spec PyProof.Rows L2
/-! ### list + list, the script's own list too -/
def rCatS (K : PySem.W.Frag) : R2 := fun x y H Q => ∃ l b xs zs, x = .ref l ∧ y = .ref b ∧ SqL K H l xs ∧ SqL K H b zs ∧ xs.length + zs.length ≤ sizeLine ∧ ∀ p, H p = none → Q (.ref p) (upd H p (.lst (xs ++ zs)))
theorem op_catS {X : Cx} : OpR X (binaryOp .Add) (rCatS X.K) := by
  intro pins s σ H x y v u Q I rx ry h
  obtain ⟨l, b, xs, zs, rfl, rfl, hl, hb, hz, q⟩ := h
  cases rx
  cases ry
  obtain ⟨its, r, ⟨⟨cls, dd, data, sl⟩, n, ho, hc, hdn, hd⟩, h1⟩ := I.list hl
  obtain ⟨its2, r2, ⟨⟨cls2, dd2, data2, sl2⟩, n2, ho2, hc2, hdn2, hd2⟩, h2⟩ := I.list hb
  simp only at hc hd hc2 hd2
  subst hc hd hc2 hd2
  have e1 := r.length
  have e2 := r2.length
  refine concat_meets ⟨_, ho, rfl⟩ ⟨_, ho2, rfl⟩ noFill_list_add seq_list_add PySem.F.slot_list_add PySem.F.entry_list_add (PySem.F.args_list_add_2 _ _) (list_addW l b its.toArray its2.toArray n n2 dd dd2 sl sl2 (by rw [List.size_toArray, List.size_toArray]; omega)) ⟨ho, ho2, ?_⟩
  have ea : its.toArray ++ its2.toArray = (its ++ its2).toArray := by simp
  rw [ea]
  exact ⟨.ref _, _, I.lnew (t' := s.toks) (r.append r2) (by rw [List.length_append]; omega), rfl, q _ I.fresh⟩
end Lp
set_option Elab.async false
set_option linter.all false
set_option maxRecDepth 100000
namespace Lp
open PySem PySem.Spec PyProof.Rows L2

/-! ### calls by keywords, of defs that are called where no repr is under way -/
structure Gk (P : Program) (w : World) (K : PySem.W.Frag) (mg : Str → Option Value) (base : Heap) (k : Nat) (x : Str) (n : Nat) (ks : List Str) (gV : List V → List V → List V) (sp : Sp) : Prop where
  ex : ∃ (f : Addr) (fd : FuncData) (ps : List Str) (g : List Value → List Value → List Value), FnG P w K mg base CX0 k f fd ps sp ∧ mg x = some (.ref f) ∧ PySem.W.keepIn K (.ref f) = true ∧ KBn K fd ps n ks g gV
theorem kb_of {K : PySem.W.Frag} {x qual : Str} {st : Stmt} {f : Addr} {fd : FuncData} {ps : List Str} (F : Fun K x qual st f fd) (n : Nat) (ks : List Str) (g : {α : Type} → List α → List α → List α)
    (hrel : ∀ {vs : List V} {us : List Value} {zs : List V} {ws : List Value}, Vals vs us → Vals zs ws → Vals (g vs zs) (g us ws))
    (h : ∀ (kV doc pm : Value) (an : Option Addr) (cdv ct : Value) (us ws : List Value), us.length = n → ws.length = ks.length → bindArgs (PySem.W.fnOf x qual (defArgs st) (defBody st) (defScope st) .none kV doc pm an cdv ct) ⟨us, ks.zip ws⟩ = pure (ps.zip (g us ws))) :
    KBn K fd ps n ks g g := by
  obtain ⟨oc, od, kV, doc, pm, an, cdv, ct, osl, rfl, lk, hcd⟩ := F.ex
  exact ⟨fun s us ws _ l1 l2 => .of_eq (h kV doc pm an cdv ct us ws l1 l2), hrel⟩
theorem kb_gApp0 {vs : List V} {us : List Value} {zs : List V} {ws : List Value} (a : Vals vs us) (b : Vals zs ws) : Vals (vs ++ zs) (us ++ ws) := a.append b
def gApp {α : Type} (us ws : List α) : List α := us ++ ws
def gRev {α : Type} (us ws : List α) : List α := us ++ ws.reverse
theorem kb_gApp {vs : List V} {us : List Value} {zs : List V} {ws : List Value} (a : Vals vs us) (b : Vals zs ws) : Vals (gApp vs zs) (gApp us ws) := a.append b
theorem vals_rev2 : ∀ {zs : List V} {ws : List Value}, Vals zs ws → Vals zs.reverse ws.reverse
  | _, _, .nil => .nil
  | _, _, .cons h t => by
    rw [List.reverse_cons, List.reverse_cons]
    exact (vals_rev2 t).append (.cons h .nil)
theorem kb_gRev {vs : List V} {us : List Value} {zs : List V} {ws : List Value} (a : Vals vs us) (b : Vals zs ws) : Vals (gRev vs zs) (gRev us ws) := a.append (vals_rev2 b)
def tCallG (n m : Nat) (sp : Sp) (gV : List V → List V → List V) (t tk : TA) : TE := fun σ H Q => t σ H fun vs H1 => tk σ H1 fun zs H2 => vs.length = n ∧ zs.length = m ∧ sp (gV vs zs) H2 Q E0
section
variable {X : Cx} {CX : CXT} {k n : Nat} {f : Addr} {fd : FuncData} {ps ks : List Str} {sp : Sp} {E : XK} {x : Str} {p pos : Pos} {e : Expr} {es : List Expr} {kws : List Keyword} {t tk : TA} {g : List Value → List Value → List Value} {gV : List V → List V → List V}
theorem run_fnG {pins : List (Addr × Obj)} {σ : L2.St} {H : Hp} {s : Shared} {Q : VK} {us ws : List Value} {vs zs : List V} (F : FnG X.prog X.w X.K X.mg X.base CX k f fd ps sp) (hG : X.A.guards = some []) (hr : Room k X.A) (hb : KBn X.K fd ps n ks g gV) (hx : Passes CX X E)
    (I : Inv X pins σ H s) (r : Vals vs us) (rz : Vals zs ws) (l1 : vs.length = n) (l2 : zs.length = ks.length) (h : sp (gV vs zs) H Q E) : wpAny (model X.prog X.w) X.A (call (.ref f) us (ks.zip ws)) (EP X pins σ Q) X.xe s := by
  have r2 := hb.rel r rz
  refine wpAny_call (codeAny_mono (F.runG X.A X.stack s H ⟨us, ks.zip ws⟩ (g us ws) (gV vs zs) Q E hG hr I.env0 (hb.to s us ws I.kIn (r.length.symm.trans l1) (rz.length.symm.trans l2)) r2 h) fun r s' hq => ?_)
  cases r with
  | error e => exact hx pins σ H s e s' I hq
  | ok fl =>
    cases fl with
    | ret u => exact I.after hq
    | next => exact False.elim hq
    | brk => exact False.elim hq
    | cont => exact False.elim hq
/-- f(k = v, ..) -/
theorem pe_gK0 {j : Nat} (c : Gk X.prog X.w X.K X.mg X.base k x 0 ks gV sp) (hG : X.A.guards = some []) (hr : Room j X.A) (hk : k ≤ j) (hg : Gl X x) (hkw : PK X kws tk)
    (hall : (backToKw pos (keywordEach kws X.env)).all (·.1.isSome) = true := by rfl) (hks : (backToKw pos (keywordEach kws X.env)).filterMap (·.1) = ks := by rfl) (hdb : (x == ("__debug__" : Str)) = false := by decide)
    (hpl : ((backTo pos (starEach [] X.env)).any (·.1) || (backToKw pos (keywordEach kws X.env)).any (·.1.isNone)) = false := by rfl) :
    PE X (.Call (.Name x p) [] kws pos) (tCallG 0 ks.length sp gV tNil tk) := by
  obtain ⟨f, fd, ps, g, F, hm, kp, hb⟩ := c.ex
  refine ⟨fun pins s σ H Q I h => ?_⟩
  refine wpAny_Call_Name_kw (ld_glob I hg hm ?_ hdb)
  refine PySem.W.callWith_KW0 (h₀ := X.base) I.ok.mod.kin kp hall ?_ hpl
  refine thn (hkw.run pos pins s σ H _ I h) fun ws s2 ⟨zs, H2, I2, rz, l1, l2, q2⟩ => ⟨I2.kIn, ?_⟩
  rw [hks]
  exact run_fnG (us := []) (vs := []) F hG (hr.mono hk) hb pass0 I2 .nil rz rfl l2 q2
/-- f(e, .., k = v, ..) -/
theorem pe_gK {j : Nat} (c : Gk X.prog X.w X.K X.mg X.base k x n ks gV sp) (hG : X.A.guards = some []) (hr : Room j X.A) (hk : k ≤ j) (hg : Gl X x) (ha : PA X (e :: es) t) (hkw : PK X kws tk)
    (hall : (backToKw pos (keywordEach kws X.env)).all (·.1.isSome) = true := by rfl) (hks : (backToKw pos (keywordEach kws X.env)).filterMap (·.1) = ks := by rfl) (hdb : (x == ("__debug__" : Str)) = false := by decide)
    (he : starEach (e :: es) X.env = (false, eval e X.env) :: starEach es X.env := by rfl) (hpl : ((backTo pos (starEach (e :: es) X.env)).any (·.1) || (backToKw pos (keywordEach kws X.env)).any (·.1.isNone)) = false := by rfl) :
    PE X (.Call (.Name x p) (e :: es) kws pos) (tCallG n ks.length sp gV t tk) := by
  obtain ⟨f, fd, ps, g, F, hm, kp, hb⟩ := c.ex
  refine ⟨fun pins s σ H Q I h => ?_⟩
  refine wpAny_Call_Name_kw (ld_glob I hg hm ?_ hdb)
  refine PySem.W.callWith_KW (h₀ := X.base) I.ok.mod.kin kp hall (thn (ha.run pos pins s σ H _ I h) fun us s1 ⟨vs, H1, I1, r, q⟩ => ?_) hpl he
  refine thn (hkw.run pos pins s1 σ H1 _ I1 q) fun ws s2 ⟨zs, H2, I2, rz, l1, l2, q2⟩ => ⟨I2.kIn, ?_⟩
  rw [hks]
  exact run_fnG F hG (hr.mono hk) hb pass0 I2 r rz l1 l2 q2
end

/-! ### i *= j of great ints -/
def ipC (C : Int → Int → Prop) (f : Int → Int → Int) : TIp := fun x y H Q => ∃ i j, x = .int i ∧ y = .int j ∧ C i j ∧ Q (.int (f i j)) H
section
variable {X : Cx}
theorem ip_mulW : PIp X .Mult (ipC CMulW fun i j => i * j) := by
  intro pins s σ H x y v u Q I r1 r2 h
  obtain ⟨i, j, e1, e2, hc, q⟩ := h
  subst e1; subst e2
  obtain ⟨t, rfl⟩ := r1
  obtain ⟨t', rfl⟩ := r2
  exact imul_int ⟨.int _, H, I.tok _, ⟨_, rfl⟩, q⟩ hc.ok
/-! ### text * int -/
theorem foldl_repN (l : List Nat) : ∀ (n : Nat) (acc : List Nat), List.foldl (fun x1 x2 => x1 ++ x2) acc.toArray (List.replicate n l.toArray) = (acc ++ (List.replicate n l).flatten).toArray
  | 0, acc => by simp
  | n + 1, acc => by
    rw [List.replicate_succ, List.foldl_cons, List.append_toArray, foldl_repN l n (acc ++ l), List.replicate_succ, List.flatten_cons, List.append_assoc]
theorem op_repS : OpR X (binaryOp .Mult) (fun x y H Q => ∃ (z : Str) (n : Nat), x = .str z ∧ y = .int (n : Int) ∧ 2 ≤ n ∧ z.length ≠ 0 ∧ z.length * n ≤ 100000 ∧ Q (.str ⟨(List.replicate n z.cps.toList).flatten.toArray⟩) H) := by
  intro pins s σ H x y v u Q I r1 r2 h
  obtain ⟨z, n, e1, e2, h1, h3, h4, q⟩ := h
  subst e1; subst e2
  obtain ⟨t, rfl⟩ := r1
  obtain ⟨t', rfl⟩ := r2
  have hn : ¬ (n : Int) < 1 := by omega
  have hz1 : 1 ≤ z.length := Nat.pos_of_ne_zero h3
  have hn2 : n ≤ 100000 := Nat.le_trans (Nat.le_mul_of_pos_left n hz1) h4
  have hb : ((n : Int) == 1 || z.length == 0) = false := by
    have a : ((n : Int) == 1) = false := beq_eq_false_iff_ne.mpr (by omega)
    have b : (z.length == 0) = false := beq_eq_false_iff_ne.mpr h3
    rw [a, b]
    rfl
  have hsz : z.length * n ≤ sizeLine := zs h4
  have f0 : List.foldl (fun x1 x2 => x1 ++ x2) #[] (List.replicate n z.cps) = (List.replicate n z.cps.toList).flatten.toArray := by
    have := foldl_repN z.cps.toList n []
    rw [List.nil_append, Array.toArray_toList] at this
    exact this
  have hl : (⟨(List.replicate n z.cps.toList).flatten.toArray⟩ : Str).length = n * z.length := by
    show ((List.replicate n z.cps.toList).flatten.toArray).size = n * z.length
    rw [List.size_toArray, List.length_flatten, List.map_replicate, List.sum_replicate_nat, Array.length_toList]
    rfl
  refine PySem.P.mul_str ?_ (fun _ _ => ?_) (fun _ _ => ?_) ?_
  · have a : ¬ (n : Int) < -(2 ^ 63 : Int) := by omega
    have b : ¬ (n : Int) ≥ 2 ^ 63 := by omega
    rw [decide_eq_false a, decide_eq_false b]
    rfl
  · have h5 : (z.length : Int) * (n : Int) ≤ 100000 := by
      have := Int.ofNat_le.mpr h4
      rwa [Int.natCast_mul] at this
    have := (Int.le_ediv_iff_mul_le (show (0 : Int) < n by omega)).mpr (show (z.length : Int) * (n : Int) ≤ 2 ^ 63 - 1 by omega)
    omega
  · have e : (n : Int).toNat = n := rfl
    rw [e]
    unfold Builtin.Str.tooLong
    exact decide_eq_false (by omega)
  · rw [if_neg hn, hb, if_neg Bool.false_ne_true]
    have e : (n : Int).toNat = n := rfl
    rw [e, f0]
    exact ⟨by rw [hl]; rw [Nat.mul_comm]; exact hsz, .str _, H, I.tok _, ⟨_, rfl⟩, q⟩
end
/-! ### math.factorial, math.comb -/
def facN : Nat → Nat
  | 0 => 1
  | n + 1 => facN n * (n + 1)
theorem fac_eq : ∀ n : Nat, Builtin.Math.factorialNat n = facN n
  | 0 => rfl
  | n + 1 => by
    have e : Builtin.Math.factorialNat (n + 1) = Builtin.Math.factorialNat n * (n + 1) := by
      unfold Builtin.Math.factorialNat
      rw [List.range_succ, List.foldl_append]
      rfl
    rw [e, fac_eq n]
    rfl
theorem fac_lt : ∀ n : Nat, n ≤ 1000 → facN n < 2 ^ (10 * n + 1)
  | 0, _ => by decide
  | n + 1, h => by
    have z := fac_lt n (by omega)
    have e : 10 * (n + 1) + 1 = (10 * n + 1) + 10 := by omega
    show facN n * (n + 1) < _
    rw [e, Nat.pow_add]
    exact Nat.mul_lt_mul_of_lt_of_le z (by have : (2 : Nat) ^ 10 = 1024 := by decide
                                           omega) (by decide)
def rFac : List V → Hp → VK → Prop := fun vs H Q => ∃ n : Nat, vs = [.int (n : Int)] ∧ n ≤ 1000 ∧ Q (.int ((facN n : Nat) : Int)) H
theorem cr_fac {X : Cx} : CallR X (.builtin "math.factorial") rFac := by
  intro pins s σ H vs us Q I r h
  obtain ⟨n, rfl, hn, q⟩ := h
  obtain ⟨u, rfl, t, rfl⟩ := vals1 r
  have hl := fac_lt n hn
  have e : Builtin.Math.factorialNat (n : Int).toNat = facN n := fac_eq n
  refine PySem.W.mg_factorial (by show ¬ (n : Int) > 2 ^ 63 - 1; omega) (by omega) (by show ¬ (n : Int) > 20000; omega) ?_ ?_
  · rw [e]
    show (facN n).log2 < bitsLine
    have b := PySem.Flt.log2_lt_of (by omega : 0 < 10 * n + 1) hl
    have e2 : bitsLine = 134217728 := by decide
    rw [e2]
    omega
  · rw [e]
    exact ⟨.int _, H, I.tok _, ⟨_, rfl⟩, q⟩
/-! ### lists of great ints as text -/
theorem shown_big {ns : List Int} (hb : ∀ n ∈ ns, n.natAbs.log2 < 1920) (hl : ns.length ≤ 40) : (dI ns).shown.length ≤ sizeLine := by
  show (textFrom 0 "[" (PyData.shownAll (ns.map PyData.int)) ++ ("]" : Str)).length ≤ sizeLine
  rw [Str.length_append]
  have z := textFrom_le (PyData.shownAll (ns.map PyData.int)) 0 "[" 1921 (fun t ht => by
    obtain ⟨n, hn, e⟩ := shownAll_mem ns t ht
    rw [e]
    exact PyProof.Rows.int_text_len_1921 (hb n hn))
  rw [shownAll_len] at z
  have e1 : ("[" : Str).length = 1 := rfl
  have e2 : ("]" : Str).length = 1 := rfl
  rw [e1] at z
  rw [e2]
  exact zs (by omega)
theorem rrepr_big {K : PySem.W.Frag} {H : Hp} {a : Addr} {ns : List Int} {Q : VK} (hS : SqL K H a (ns.map V.int)) (hb : ∀ n ∈ ns, n.natAbs.log2 < 1920) (hl : ns.length ≤ 40) (q : Q (.str (dI ns).shown) H) : rRepr K [.ref a] H Q :=
  ⟨a, dI ns, rfl, dp_ints hS, show_ints ns hb, noDict_ints ns, rI2 ns, shown_big hb hl, q⟩
theorem log_nat {n k : Nat} (h : n < 2 ^ k) (h0 : 0 < k) (hk : k ≤ 1920) : ((n : Nat) : Int).natAbs.log2 < 1920 := Nat.lt_of_lt_of_le (PySem.Flt.log2_lt_of h0 (show ((n : Nat) : Int).natAbs < 2 ^ k from h)) hk
end Lp
set_option Elab.async false
set_option linter.all false
set_option maxRecDepth 100000
namespace Lp
open PySem PySem.Spec PyProof.Rows L2
theorem filtG {α : Type} {l : List α} {f : α → Bool} {i : Nat} {e : α} (he : l[i]? = some e) : (l.take (i + 1)).filter f = (l.take i).filter f ++ (if f e = true then [e] else []) := by
  rw [take_get he, List.filter_append]
  congr 1
  simp only [List.filter_cons, List.filter_nil]
theorem filtG_len {α : Type} {l : List α} {f : α → Bool} (i : Nat) : ((l.take i).filter f).length ≤ l.length := Nat.le_trans (List.length_filter_le _ _) (by rw [List.length_take]; exact Nat.min_le_right _ _)
theorem inVI (x : Int) : ∀ ns : List Int, inV (.int x) (ns.map V.int) = decide (x ∈ ns)
  | [] => rfl
  | n :: r => by
    show (eqV (.int n) (.int x) || inV (.int x) (r.map V.int)) = _
    rw [inVI x r]
    show ((n == x) || decide (x ∈ r)) = _
    by_cases e : n = x
    · subst e
      simp
    · have e' : ¬ x = n := fun z => e z.symm
      simp [e, e']
theorem flatI (ns : List Int) : (ns.map V.int).all flatV = true := by
  rw [List.all_eq_true]
  intro v hv
  obtain ⟨n, _, rfl⟩ := List.mem_map.mp hv
  rfl
theorem notInT {x : Int} {ns : List Int} (h : x ∉ ns) : V.bl (if true = true then !inV (.int x) (ns.map V.int) else inV (.int x) (ns.map V.int)) = V.bl true := by
  rw [if_pos rfl, inVI, decide_eq_false h]
  rfl
theorem notInF {x : Int} {ns : List Int} (h : x ∈ ns) : V.bl (if true = true then !inV (.int x) (ns.map V.int) else inV (.int x) (ns.map V.int)) = V.bl false := by
  rw [if_pos rfl, inVI, decide_eq_true h]
  rfl

/-! ### rows of ints in the heap -/
def RowsR (H : Hp) (rs : List V) (rows : List (List Int)) : Prop := rs.length = rows.length ∧ ∀ (i : Nat) (row : List Int), rows[i]? = some row → ∃ a, rs[i]? = some (.ref a) ∧ H a = some (.lst (row.map V.int))
theorem RowsR.same {H H' : Hp} {rs : List V} {rows : List (List Int)} (h : RowsR H rs rows) (s : Same H H') : RowsR H' rs rows := ⟨h.1, fun i row e => by
  obtain ⟨a, b, c⟩ := h.2 i row e
  exact ⟨a, b, s _ _ c⟩⟩
theorem RowsR.upd {H : Hp} {rs : List V} {rows : List (List Int)} {q : Addr} {o : HO} (h : RowsR H rs rows) (n : V.ref q ∉ rs) : RowsR (upd H q o) rs rows := ⟨h.1, fun i row e => by
  obtain ⟨a, b, c⟩ := h.2 i row e
  have ne : a ≠ q := fun z => n (by rw [← z]; exact List.mem_of_getElem? b)
  refine ⟨a, b, ?_⟩
  rw [upd_ne ne]
  exact c⟩
theorem RowsR.nil (H : Hp) : RowsR H [] [] := ⟨rfl, fun i row e => by simp at e⟩
theorem RowsR.app {H : Hp} {rs ss : List V} {rows sows : List (List Int)} (h : RowsR H rs rows) (g : RowsR H ss sows) : RowsR H (rs ++ ss) (rows ++ sows) := by
  refine ⟨by rw [List.length_append, List.length_append, h.1, g.1], fun i row e => ?_⟩
  by_cases hi : i < rows.length
  · rw [List.getElem?_append_left hi] at e
    rw [List.getElem?_append_left (by rw [h.1]; exact hi)]
    exact h.2 i row e
  · rw [List.getElem?_append_right (by omega)] at e
    rw [List.getElem?_append_right (by rw [h.1]; omega), h.1]
    exact g.2 _ row e
theorem RowsR.one {H : Hp} {a : Addr} {row : List Int} (h : H a = some (.lst (row.map V.int))) : RowsR H [.ref a] [row] := ⟨rfl, fun i r e => by
  cases i with
  | zero => cases e; exact ⟨a, rfl, h⟩
  | succ i => simp at e⟩
theorem RowsR.dp {K : PySem.W.Frag} {H : Hp} : ∀ {rs : List V} {rows : List (List Int)}, RowsR H rs rows → DpAll K H rs (rows.map dI)
  | [], [], _ => .nil
  | [], _ :: _, h => absurd h.1 (by simp)
  | _ :: _, [], h => absurd h.1 (by simp)
  | v :: rs, r :: rows, h => by
    obtain ⟨a, b, c⟩ := h.2 0 r rfl
    have e : v = .ref a := Option.some.inj b
    subst e
    exact .cons (dp_ints (.of c)) (RowsR.dp ⟨Nat.succ.inj h.1, fun i row e => h.2 (i + 1) row e⟩)
theorem flatMap_take_len {α β : Type} {f : α → List β} (l : List α) (j : Nat) : ((l.take j).flatMap f).length ≤ (l.flatMap f).length := by
  have e : l.flatMap f = (l.take j).flatMap f ++ (l.drop j).flatMap f := by rw [← List.flatMap_append, List.take_append_drop]
  rw [e, List.length_append]
  omega
theorem flatMap_take_succ {α β : Type} {f : α → List β} {l : List α} {j : Nat} {x : α} (h : l[j]? = some x) : (l.take (j + 1)).flatMap f = (l.take j).flatMap f ++ f x := by
  rw [take_get h, List.flatMap_append]
  simp
end Lp
set_option Elab.async false
set_option linter.all false
set_option maxRecDepth 100000
namespace Lp
open PySem PySem.Spec PyProof.Rows L2
theorem rgc_two (n : Nat) (h : n ≤ 1000) : RgC 1 (2 * (n : Int)) 2 n := by
  have hs : Builtin.Range.rangeSize 1 (2 * (n : Int)) 2 = (n : Int) := by
    unfold Builtin.Range.rangeSize
    rw [if_pos (by decide)]
    by_cases h0 : n = 0
    · subst h0
      rw [if_neg (by omega)]
      rfl
    · rw [if_pos (by omega)]
      omega
  refine ⟨by decide, by decide, ?_, hs⟩
  unfold Builtin.Range.small
  rw [hs]
  have f : ∀ z : Int, -1000000 ≤ z → z ≤ 1000000 → Builtin.Range.rangeFitsLong z = true := fun z a b => by
    unfold Builtin.Range.rangeFitsLong
    rw [decide_eq_true (show -2 ^ 63 ≤ z by omega), decide_eq_true (show z < 2 ^ 63 by omega)]
    rfl
  rw [f 1 (by decide) (by decide), f (2 * (n : Int)) (by omega) (by omega), f 2 (by decide) (by decide), f (n : Int) (by omega) (by omega), if_pos (by decide), f (2 * (n : Int) + (2 - 1)) (by omega) (by omega), Bool.or_true]
  rfl
/-! ### lists of objects in the heap -/
def ObjR {α : Type} (o : α → HO) (H : Hp) (rs : List V) (l : List α) : Prop := rs.length = l.length ∧ ∀ (i : Nat) (x : α), l[i]? = some x → ∃ a, rs[i]? = some (.ref a) ∧ H a = some (o x)
section
variable {α : Type} {o : α → HO} {H H' : Hp} {rs ss : List V} {l m : List α}
theorem ObjR.same (h : ObjR o H rs l) (s : Same H H') : ObjR o H' rs l := ⟨h.1, fun i x e => by
  obtain ⟨a, b, c⟩ := h.2 i x e
  exact ⟨a, b, s _ _ c⟩⟩
theorem ObjR.upd {q : Addr} {u : HO} (h : ObjR o H rs l) (n : V.ref q ∉ rs) : ObjR o (upd H q u) rs l := ⟨h.1, fun i x e => by
  obtain ⟨a, b, c⟩ := h.2 i x e
  have ne : a ≠ q := fun z => n (by rw [← z]; exact List.mem_of_getElem? b)
  refine ⟨a, b, ?_⟩
  rw [upd_ne ne]
  exact c⟩
theorem ObjR.nil : ObjR o H [] [] := ⟨rfl, fun i x e => by simp at e⟩
theorem ObjR.app (h : ObjR o H rs l) (g : ObjR o H ss m) : ObjR o H (rs ++ ss) (l ++ m) := by
  refine ⟨by rw [List.length_append, List.length_append, h.1, g.1], fun i x e => ?_⟩
  by_cases hi : i < l.length
  · rw [List.getElem?_append_left hi] at e
    rw [List.getElem?_append_left (by rw [h.1]; exact hi)]
    exact h.2 i x e
  · rw [List.getElem?_append_right (by omega)] at e
    rw [List.getElem?_append_right (by rw [h.1]; omega), h.1]
    exact g.2 _ x e
theorem ObjR.one {a : Addr} {x : α} (h : H a = some (o x)) : ObjR o H [.ref a] [x] := ⟨rfl, fun i r e => by
  cases i with
  | zero => cases e; exact ⟨a, rfl, h⟩
  | succ i => simp at e⟩
end
theorem rep_one (b : Bool) (v : V) : (List.replicate (if b = true then (1 : Int) else 0).toNat [v]).flatten = if b = true then [v] else [] := by cases b <;> rfl
theorem rep_sz (b : Bool) (v : V) : [v].length * (if b = true then (1 : Int) else 0).toNat ≤ sizeLine := by
  cases b
  · exact Nat.zero_le _
  · exact Lp.zs (show 1 * 1 ≤ 100000 by decide)
theorem ifs_len (b : Bool) (v : V) : (if b = true then [v] else []).length ≤ 1 := by
  cases b
  · exact Nat.zero_le _
  · exact Nat.le_refl _
theorem ints_get {ns : List Int} {i : Nat} {n : Int} (h : ns[i]? = some n) : (ns.map V.int)[i]? = some (.int n) := by rw [List.getElem?_map, h]; rfl
end Lp
set_option Elab.async false
set_option linter.all false
set_option maxRecDepth 100000
namespace Lp
open PySem PySem.Spec PyProof.Rows L2
/-! ### lists of ints, by < -/
theorem firstLt_map (e r : Nat → Bool) (fin : Bool) (f : Nat → Nat) : ∀ l : List Nat, SeqAt.firstLt e r fin (l.map f) = SeqAt.firstLt (fun j => e (f j)) (fun j => r (f j)) fin l
  | [] => rfl
  | j :: t => by
    show (if e (f j) = true then SeqAt.firstLt e r fin (t.map f) else r (f j)) = (if e (f j) = true then SeqAt.firstLt (fun j => e (f j)) (fun j => r (f j)) fin t else r (f j))
    rw [firstLt_map e r fin f t]
theorem first_lex : ∀ ns ms : List Int, SeqAt.firstLt (fun j => ns.getD j 0 == ms.getD j 0) (fun j => decide (ns.getD j 0 < ms.getD j 0)) (decide (ns.length < ms.length)) (List.range (min ns.length ms.length)) = HT.lexLt ns ms
  | [], [] => rfl
  | [], _ :: _ => rfl
  | _ :: _, [] => rfl
  | n :: ns, m :: ms => by
    have e : min (n :: ns).length (m :: ms).length = min ns.length ms.length + 1 := by
      simp only [List.length_cons]
      omega
    have e2 : decide ((n :: ns).length < (m :: ms).length) = decide (ns.length < ms.length) := decide_eq_decide.mpr (by simp only [List.length_cons]; omega)
    rw [e, e2, List.range_succ_eq_map]
    show (if (n == m) = true then SeqAt.firstLt _ _ _ ((List.range (min ns.length ms.length)).map Nat.succ) else decide (n < m)) = if n = m then HT.lexLt ns ms else decide (n < m)
    rw [firstLt_map]
    by_cases h : n = m
    · rw [if_pos (beq_iff_eq.mpr h), if_pos h]
      exact first_lex ns ms
    · rw [if_neg (fun z => h (beq_iff_eq.mp z)), if_neg h]
def IsLs (h : Heap) (v : Value) (ns : List Int) : Prop := ∃ (a : Addr) (items : List Value), v = .ref a ∧ h.IsList a items.toArray ∧ IntsAre items ns
theorem IsLs.keeps {h h' : Heap} {v : Value} {ns : List Int} (x : IsLs h v ns) (k : ∀ b o, v = .ref b → h.get? b = some o → h'.get? b = some o) : IsLs h' v ns := by
  obtain ⟨a, its, rfl, ⟨o, ho, hc, n, hd⟩, hi⟩ := x
  exact ⟨a, its, rfl, ⟨o, k a o rfl ho, hc, n, hd⟩, hi⟩
theorem ints_at : ∀ {us : List Value} {ns : List Int}, IntsAre us ns → ∀ j (h : j < us.length), ∃ t, us[j] = .int (ns.getD j 0) t
  | _, _, .cons n t r, 0, _ => ⟨t, rfl⟩
  | _, _, .cons n t r, j + 1, h => by
    obtain ⟨u, e⟩ := ints_at r j (Nat.lt_of_succ_lt_succ h)
    exact ⟨u, e⟩
section
variable {prog : Program} {w : World} {A : Around} {E : Value → Shared → Prop} {s : Shared}
theorem rcLt_int (A : Around) (s : Shared) (a : Int) (t : Tok) (b : Int) (u : Tok) : SeqAt.RcLt A s (.int a t) (.int b u) (decide (a < b)) := fun prog w E Q h => by
  have z : wpAny (model prog w) A (compareOp .Lt (.int a t) (.int b u)) Q E s := lt_int h
  exact z
theorem lt_ls {v u : Value} {ns ms : List Int} {Q : Bool → Shared → Prop} (hu : A.units < cLine) (hv : IsLs s.heap v ns) (hw : IsLs s.heap u ms) (h : Q (HT.lexLt ns ms) s) : wpAny (model prog w) A (keyLt' oneType' v u) Q E s := by
  obtain ⟨a, its, rfl, la, ia⟩ := hv
  obtain ⟨b, its2, rfl, lb, ib⟩ := hw
  have l1 := ia.length
  have l2 := ib.length
  rw [keyLt'_oneType, oneLt'_eq]
  simp only [if_true]
  refine wpAny_bind (wpAny_cRoomFor hu ?_)
  refine wpAny_bind (wpAny_callSpecialIfBound?_slot la.typeIs PySem.F.slot_list_lt (SeqAt.call_list_lt (e := fun j => ns.getD j 0 == ms.getD j 0) (r := fun j => decide (ns.getD j 0 < ms.getD j 0)) la lb (fun j h1 h2 => ?_) (fun j h1 h2 _ => ?_) ?_))
  · obtain ⟨t, e⟩ := ints_at ia j (by simpa using h1)
    obtain ⟨t', e'⟩ := ints_at ib j (by simpa using h2)
    rw [List.getElem_toArray, List.getElem_toArray, e, e']
    exact SeqAt.EqAt.int_int _ t _ t'
  · obtain ⟨t, e⟩ := ints_at ia j (by simpa using h1)
    obtain ⟨t', e'⟩ := ints_at ib j (by simpa using h2)
    rw [List.getElem_toArray, List.getElem_toArray, e, e']
    exact rcLt_int _ _ _ t _ t'
  · rw [List.size_toArray, List.size_toArray, l1, l2, first_lex]
    exact wpAny_truthy_bool h
theorem ls_cmp {vs : List Value} {k : Value → List Int} (hu : A.units < cLine) (hv : ∀ v ∈ vs, IsLs s.heap v (k v)) : SrtO.Cmp prog w A s oneType' (fun p => p.1 ∈ vs) (SrtO.lt2 fun v u => HT.lexLt (k v) (k u)) := by
  intro p q hp hq
  exact lt_ls (Q := fun r s' => s' = s ∧ r = HT.lexLt (k p.1) (k q.1)) (E := fun _ _ => False) hu (hv p.1 hp) (hv q.1 hq) ⟨rfl, rfl⟩
theorem ls_sortable {a : Addr} {vs : List Value} {k : Value → List Int} (h2 : 2 ≤ vs.length) (hu : A.units < cLine) (hv : ∀ v ∈ vs, IsLs s.heap v (k v)) (ha : ∀ v ∈ vs, v ≠ .ref a) :
    SrtO.SortableO prog w A s a vs fun v u => HT.lexLt (k v) (k u) := by
  intro h' keep
  have hv' : ∀ v ∈ vs, IsLs h' v (k v) := fun v hm => (hv v hm).keeps fun b o e g => keep b o (fun z => ha v hm (by rw [e, z])) g
  refine ⟨oneType', fun Q E hq => ?_, ls_cmp (s := { s with heap := h' }) hu hv'⟩
  refine PySem.W.kas_kind (s := { s with heap := h' }) (T := .type "list") h2 (fun v hm => ?_) (by rfl) (by simp) hq
  obtain ⟨a, its, rfl, ⟨o, ho, hc, n, hd⟩, hi⟩ := hv' v hm
  rw [← hc]
  exact (PySem.W.Looks.ld ho).andThen .now
end
/-- sorted(xs), xs a list of lists of ints of any length (k says which) -/
def rSortedLL (K : PySem.W.Frag) : List V → Hp → VK → Prop := fun vs H Q => ∃ (a : Addr) (xs : List V) (k : V → List Int), vs = [V.ref a] ∧ SqL K H a xs ∧ (∀ x ∈ xs, ∃ t, x = V.ref t ∧ SqL K H t ((k x).map V.int)) ∧
  ∀ ys p, ys.Perm xs → ys.Pairwise (fun x y => HT.lexLt (k y) (k x) = false) → H p = none → Q (.ref p) (upd H p (.lst ys))
theorem cr_sortedLL {X : Cx} (hu : X.A.units + 64 < cLine) : CallR X (.builtin "sorted") (rSortedLL X.K) := by
  intro pins s σ H vs us Q I r h
  obtain ⟨a, xs, k, rfl, hs, hx, q⟩ := h
  obtain ⟨its, rv, hl, hz⟩ := I.list hs
  obtain ⟨u, rfl, ru⟩ := vals1 r
  obtain rfl : u = Value.ref a := ru
  obtain ⟨e1, e2⟩ := refs_back rv fun x m => by
    obtain ⟨t, e, _⟩ := hx x m
    exact ⟨t, e⟩
  have hv : ∀ v ∈ its, IsLs s.heap v (k (backV v)) := fun v hv => by
    obtain ⟨t, rfl⟩ := e2 v hv
    have hm : V.ref t ∈ xs := by rw [e1]; exact List.mem_map.mpr ⟨_, hv, rfl⟩
    obtain ⟨t', e, ht⟩ := hx _ hm
    cases e
    obtain ⟨its2, r2, l2, _⟩ := I.list ht
    exact ⟨t, its2, rfl, l2.isList, r2.ints⟩
  refine SrtO.sorted_ord (NtL.swo_lexL fun u => k (backV u)) hl.isList (by rw [← rv.length]; exact hz) (fun h2 h₁ a' g keep => ls_sortable h2 (by show X.A.units + 1 + 1 < cLine; omega) (fun v hm => (hv v hm).keeps fun b o _ g => (keep b o g).2) fun v hm z => ?_) fun out h1 h2 => ?_
  · obtain ⟨b, its3, e, ⟨o, ho, _⟩, _⟩ := hv v hm
    rw [z] at e
    cases e
    exact (keep _ o ho).1 rfl
  · have h3 : ∀ u ∈ out, ∃ a, u = Value.ref a := fun u hu => e2 u (h2.perm.mem_iff.mp hu)
    obtain ⟨ep, he'⟩ := PyProof.Rows.sortedAll_at s.heap its out.toArray
    have hp : (out.map backV).Perm xs := by
      rw [e1]
      exact h2.perm.map backV
    have hlen : (out.map backV).length ≤ sizeLine := by
      rw [hp.length_eq]
      exact hz
    exact ⟨.ref _, upd H (s.heap.objs.size + 1) (.lst (out.map backV)), I.laid (t' := s.toks) (fun _ _ => PyProof.Rows.sortedAll_old) (Nat.le_succ _) ⟨hlen, out, ep, vals_back h3, he'⟩, rfl, q _ _ hp (List.pairwise_map.mpr (h1.imp fun {x y} z => z)) (I.hok.fresh (Nat.le_succ _))⟩
end Lp
set_option Elab.async false
set_option linter.all false
set_option maxRecDepth 100000
namespace Lp
open PySem PySem.Spec PyProof.Rows L2
theorem all_bounds (n : Nat) : PySem.sliceBounds none none none n = (0, (n : Int), 1) := by
  simp [PySem.sliceBounds]
section
variable {prog : Program} {w : World} {A : Around} {E : Value → Shared → Prop} {s : Shared}
/-- xs[:] = ys -/
theorem whole_set {p q z : Addr} {old new : Array Value} {n1 n2 : Nat} {R : Unit → Shared → Prop} (hp : s.heap.get? p = some { cls := .type "list", data := .seq old n1 }) (hq : s.heap.get? q = some { cls := .type "list", data := .seq new n2 })
    (npq : p ≠ q) (hz : s.heap.IsSliceOf z .none .none .none) (fit : old.size + new.size ≤ sizeLine) (h : R () { s with heap := s.heap.update p (Obj.mapSeq fun xs => xs.extract 0 0 ++ new ++ xs.extract old.size xs.size) }) :
    wpAny (model prog w) A (setItem (.ref p) (.ref z) (.ref q)) R E s := by
  have tp : s.heap.IsList p old := PySem.IsL.isList hp
  have tq : s.heap.IsList q new := PySem.IsL.isList hq
  obtain ⟨oz, goz, coz, doz⟩ := id hz
  have tz : s.TypeIs (.ref z) "slice" := ⟨oz, goz, coz⟩
  have noZero : ¬ ((rawPart none == rawInt 0) = true) := Bool.false_ne_true
  have two : Builtin.List.listSameRef (.ref p) (.ref q) = false := by unfold Builtin.List.listSameRef; exact beq_eq_false_iff_ne.mpr npq
  have upper : (max (0 : Int) (old.size : Int)).toNat = old.size := by omega
  have fit' : ((fun xs : Array Value => xs.extract 0 0 ++ new ++ xs.extract old.size xs.size) old).size ≤ sizeLine + 1 := by simp only [Array.size_append, Array.size_extract]; omega
  unfold setItem; try with_reducible refine wpAny_holding ?_
  first | refine wpAny_bind (wpAny_pure ?_) | skip
  refine wpAny_bind (wpAny_sequenceKey tp.typeIs (by decide) (wpAny_bind (wpAny_callSpecial?_slot (name := Str.ofString "__setitem__") tp.typeIs slot_list_setitem (wpAny_call_entry slot_list_setitem tp.typeIs entry_list_setitem ?_ (args_list_setitem _ _ _)))))
  show wpAny _ _ (Builtin.List.listSubscript? (.ref z) >>= _) _ _ s
  refine wpAny_bind ?_
  unfold Builtin.List.listSubscript?
  refine wpAny_bind (wpAny_specialOf tz slice_no_index ?_)
  simp only [Option.isNone_none, if_true]
  refine wpAny_pure (?_ : wpAny _ _ (typeOf (.ref z) >>= _) _ _ s)
  refine wpAny_bind (wpAny_typeOf tz ?_)
  first | rw [if_neg (by decide)] | refine PySem.W.KFB.if_not (by decide) ?_
  rw [listSliceParts_eq]
  refine wpAny_bind (wpAny_bind (wpAny_field goz doz (x := .none) rfl (wpAny_bind (wpAny_listPart .none (?_ : wpAny _ _ _ _ _ _)))))
  rw [if_neg noZero]
  refine wpAny_bind (wpAny_field goz doz (x := .none) rfl (wpAny_bind (wpAny_listPart .none (wpAny_bind (wpAny_field goz doz (x := .none) rfl (wpAny_bind (wpAny_listPart .none (wpAny_pure ?_))))))))
  first | simp only [two, Bool.false_eq_true, if_false] | refine PySem.W.KFB.if_not two ?_ | (dsimp only; rw [if_neg (by rw [two]; exact Bool.false_ne_true)])
  refine wpAny_bind (m := Builtin.List.listAllItems (.ref q) "must assign iterable to extended slice") ?_
  unfold Builtin.List.listAllItems; refine wpAny_bind (wpAny_typeOf tq.typeIs ?_)
  first | refine PySem.W.KFB.if_so (by decide) ?_ | rw [if_pos (by decide)] | simp only [beq_self_eq_true, Bool.true_or, if_true]
  unfold Builtin.List.listItems; refine wpAny_bind (wpAny_seqItems hq rfl (wpAny_pure (wpAny_bind (wpAny_bind (wpAny_seqItems hp rfl (wpAny_pure ?_))))))
  refine wpAny_bind (wpAny_of_eq ((sliceIndices_raw none none none old.size (by simp)).trans (congrArg (pure : Int × Int × Int → Sem (Int × Int × Int)) (all_bounds old.size))) ?_)
  show wpAny _ _ (if ((1 : Int) == 1) = true then _ else _) _ _ s
  rw [if_pos (by decide)]; refine wpAny_bind (wpAny_rule ?_)
  first | simp only [notLongL fit, Bool.false_eq_true, if_false] | refine PySem.W.KFB.if_not (notLongL fit) ?_
  first | refine wpAny_bind (wpAny_pure ?_) | skip
  show wpAny _ _ (updateSeq p (fun xs => xs.extract 0 ((0 : Int)).toNat ++ new ++ xs.extract (max (0 : Int) (old.size : Int)).toNat xs.size) >>= _) _ _ s
  rw [upper]; refine wpAny_bind (wpAny_updateSeq (hz := Nat.le_trans (Nat.le_add_right _ _) fit) (_hz' := fit') hp rfl (wpAny_bind (wpAny_letGo ?_)))
  first | exact wpAny_bind (wpAny_pure (wpAny_pure ⟨.none, rfl, wpAny_pure h⟩)) | exact wpAny_pure ⟨.none, rfl, wpAny_pure h⟩
end
/-- the slice object of [:] -/
def SlO (a : Addr) : HO := .ext fun h => h.IsSliceOf a .none .none .none
section
variable {X : Cx} {pos : Pos}
def tSlAll : TE := fun _ H Q => ∀ p, H p = none → Q (.ref p) (upd H p (SlO p))
theorem pe_slAll : PE X (.Slice none none none pos) tSlAll := by
  refine ⟨fun pins s σ H Q I h => ?_⟩
  refine wpAny_Slice ?_
  rw [evalPart_none]
  refine wpAny_pure (wpAny_pure (wpAny_pure ?_))
  refine ⟨.ref s.heap.objs.size, upd H s.heap.objs.size (SlO s.heap.objs.size), I.laid (t' := s.toks) (fun b ob q => Heap.get?_push_of_some _ q) (Nat.le_refl _) ⟨Heap.IsSliceOf.new .., ⟨_, Heap.get?_push_size s.heap rfl⟩, fun h1 h2 x k => ?_⟩, rfl, h _ (I.hok.fresh (Nat.le_refl _))⟩
  obtain ⟨o, e, c, d⟩ := x
  exact ⟨o, k o e, c, d⟩
def sAll : TSet := fun x y z H Q => ∃ (l b sl : Addr) (xs ys : List V), x = .ref l ∧ y = .ref sl ∧ z = .ref b ∧ H sl = some (SlO sl) ∧ H l = some (.lst xs) ∧ H b = some (.lst ys) ∧ l ≠ b ∧ xs.length + ys.length ≤ sizeLine ∧ Q (upd H l (.lst ys))
theorem set_all : PSet X sAll := by
  intro pins s σ H o i v ov iv u Q I r1 r2 r3 h
  obtain ⟨l, b, sl, xs, ys, rfl, rfl, rfl, hsl, hl, hb, ne, hz, q⟩ := h
  cases r1
  cases r2
  cases r3
  obtain ⟨z, its, n, r, el, e⟩ := I.lstM hl
  obtain ⟨z2, its2, n2, r', el2, e2⟩ := I.lstM hb
  have os : ObjOk X.prog X.w H s.heap sl (SlO sl) := I.hok sl _ hsl
  refine whole_set e e2 ne os.1 (by rw [List.size_toArray, List.size_toArray]; omega) ⟨_, I.lset (its' := its2) (t' := s.toks) hl e ?_ r' (by omega), q⟩
  apply Array.toList_inj.mp
  simp
/-- xs[..] = as a target, a slice without a step -/
theorem pg_slAll {o i : Expr} {to ti : TE} {t : TSet} (ho : PE X o to) (hi : PE X i ti) (hs : PSet X t)
    (ha : ∀ v, assign (.Subscript o i pos) X.env v = (holding [v] (eval o X.env) >>= fun ov => holding [v, ov] (eval i X.env) >>= fun iv => standAt pos >>= fun _ => holding [v, ov, iv] (setItem ov iv v) >>= fun _ => release [iv, v, ov] []) := by intro _; rfl) : PG X (.Subscript o i pos) (gSub to ti t) := by
  refine ⟨fun pins s σ H v u Q I r h => ?_⟩
  rw [ha u]
  refine wpAny_bind (wpAny_holding (thn (ho.run pins s σ H _ I h) fun ov sA ⟨x, HA, IA, rA, qA⟩ => wpAny_bind (wpAny_holding (thn (hi.run pins sA σ HA _ IA qA) fun iv sB ⟨y, HB, IB, rB, qB⟩ =>
    wpAny_bind (wpAny_standAt (wpAny_bind (wpAny_holding (thn (hs pins sB σ HB x y v ov iv u _ IB rA rB r qB) fun _ sC ⟨HC, IC, qC⟩ => wpAny_release ⟨σ, HC, IC, qC⟩))))))))
end
end Lp
set_option Elab.async false
set_option linter.all false
set_option maxRecDepth 100000
namespace Lp
open PySem PySem.Calls
theorem comb_entry : entryFor table "math.comb" = some Builtin.«math.comb» := entryFor_of_tree (by kernel_rfl)
theorem comb_kind : builtinKind "math.comb" = none := by kernel_rfl
theorem comb_plain : plainId "math.comb" = true := by decide +kernel
theorem comb_args (a b : Value) : argsOk "math.comb" ⟨[a, b], []⟩ := by unfold argsOk; kernel_rfl
theorem comb_run (a : Int) (t : Tok) (b : Int) (u : Tok) (h0 : ¬ a < 0) (h1 : ¬ b < 0) (h2 : ¬ b > a) (h3 : ¬ min b (a - b) > Builtin.Math.maxSsize) (h4 : ¬ min b (a - b) > Builtin.Math.manyFactors) (h5 : ¬ min b (a - b) > 9000)
    (hs : (Builtin.Math.fallingProduct a (min b (a - b)).toNat / Builtin.Math.fallingProduct (min b (a - b)) (min b (a - b)).toNat).natAbs.log2 < bitsLine) :
    Gives (Builtin.«math.comb» ⟨[.int a t, .int b u], []⟩) (.int (Builtin.Math.fallingProduct a (min b (a - b)).toNat / Builtin.Math.fallingProduct (min b (a - b)) (min b (a - b)).toNat)) :=
  .of_wp fun M A E s Q h => by obtain ⟨hp, g, d, tk, os⟩ := s; wp_walk; (try (refine wpAny_ite_false (decide_eq_false (Nat.not_le.mpr hs)) ?_; wp_walk)); exact ⟨_, rfl, h⟩
end Lp
namespace Lp
open PySem PySem.Spec PySem.Calls PyProof.Rows L2
/-! ### binomial coefficients -/
theorem facN_pos' : ∀ n, 0 < facN n
  | 0 => by decide
  | n + 1 => Nat.mul_pos (facN_pos' n) (Nat.succ_pos n)
def chN (n k : Nat) : Nat := facN n / (facN k * facN (n - k))
def chP : Nat → Nat → Nat
  | _, 0 => 1
  | 0, _ + 1 => 0
  | n + 1, k + 1 => chP n k + chP n (k + 1)
theorem chP_zero (n : Nat) : chP n 0 = 1 := by cases n <;> rfl
theorem chP_gt : ∀ n k, n < k → chP n k = 0
  | 0, k + 1, _ => rfl
  | n + 1, k + 1, h => by
    show chP n k + chP n (k + 1) = 0
    rw [chP_gt n k (by omega), chP_gt n (k + 1) (by omega)]
theorem chP_self : ∀ n, chP n n = 1
  | 0 => rfl
  | n + 1 => by
    show chP n n + chP n (n + 1) = 1
    rw [chP_self n, chP_gt n (n + 1) (by omega)]
theorem chP_fac : ∀ n k, k ≤ n → chP n k * (facN k * facN (n - k)) = facN n
  | n, 0, _ => by
    rw [chP_zero, Nat.sub_zero]
    show 1 * (1 * facN n) = facN n
    rw [Nat.one_mul, Nat.one_mul]
  | n + 1, k + 1, h => by
    show (chP n k + chP n (k + 1)) * (facN k * (k + 1) * facN (n + 1 - (k + 1))) = facN n * (n + 1)
    have e : n + 1 - (k + 1) = n - k := by omega
    rw [e]
    have a := chP_fac n k (by omega)
    rcases Nat.lt_or_ge k n with hk | hk
    · have b := chP_fac n (k + 1) (by omega)
      have b2 : facN (n - k) = facN (n - (k + 1)) * (n - k) := by
        have e2 : n - k = (n - (k + 1)) + 1 := by omega
        rw [e2]
        rfl
      have x1 : chP n k * (facN k * (k + 1) * facN (n - k)) = facN n * (k + 1) := by
        rw [← a]
        simp only [Nat.mul_assoc, Nat.mul_comm, Nat.mul_left_comm]
      have x2 : chP n (k + 1) * (facN k * (k + 1) * facN (n - k)) = facN n * (n - k) := by
        rw [← b, b2]
        show _ = chP n (k + 1) * (facN k * (k + 1) * facN (n - (k + 1))) * (n - k)
        simp only [Nat.mul_assoc, Nat.mul_comm, Nat.mul_left_comm]
      rw [Nat.add_mul, x1, x2, ← Nat.mul_add]
      congr 1
      omega
    · have ek : k = n := by omega
      subst ek
      have x : chP k k * (facN k * (k + 1) * facN (k - k)) = chP k k * (facN k * facN (k - k)) * (k + 1) := by
        simp only [Nat.mul_assoc, Nat.mul_comm, Nat.mul_left_comm]
      rw [chP_gt k (k + 1) (by omega), Nat.add_zero, x, a]
theorem ch_eq {n k : Nat} (h : k ≤ n) : chN n k = chP n k := by
  unfold chN
  rw [← chP_fac n k h]
  exact Nat.mul_div_cancel _ (Nat.mul_pos (facN_pos' k) (facN_pos' _))
theorem ch_sym {n k : Nat} (h : k ≤ n) : chN n (n - k) = chN n k := by
  unfold chN
  have e : n - (n - k) = k := by omega
  rw [e, Nat.mul_comm]
theorem ch_le (n k : Nat) : chN n k ≤ facN n := Nat.div_le_self _ _
theorem fall_fac (n : Nat) : ∀ k, k ≤ n → Builtin.Math.fallingProduct (n : Int) k * ((facN (n - k) : Nat) : Int) = ((facN n : Nat) : Int)
  | 0, _ => by
    show 1 * _ = _
    rw [Int.one_mul, Nat.sub_zero]
  | k + 1, h => by
    have e : Builtin.Math.fallingProduct (n : Int) (k + 1) = Builtin.Math.fallingProduct (n : Int) k * ((n : Int) - (k : Int)) := by
      unfold Builtin.Math.fallingProduct
      rw [List.range_succ, List.foldl_append]
      rfl
    have ih := fall_fac n k (by omega)
    have e2 : facN (n - k) = facN (n - (k + 1)) * (n - k) := by
      have e3 : n - k = (n - (k + 1)) + 1 := by omega
      rw [e3]
      rfl
    rw [← ih, e, e2, Int.natCast_mul, Int.mul_assoc]
    congr 1
    rw [Int.mul_comm]
    congr 1
    omega
theorem comb_val {n k : Nat} (h : k ≤ n) : Builtin.Math.fallingProduct (n : Int) k / Builtin.Math.fallingProduct (k : Int) k = ((chN n k : Nat) : Int) := by
  have a := fall_fac n k h
  have b := fall_fac k k (Nat.le_refl k)
  have c := chP_fac n k h
  rw [Nat.sub_self] at b
  have b' : Builtin.Math.fallingProduct (k : Int) k = ((facN k : Nat) : Int) := by
    rw [← b]
    exact (Int.mul_one _).symm
  have fp : ((facN (n - k) : Nat) : Int) ≠ 0 := by
    have := facN_pos' (n - k)
    omega
  have a' : Builtin.Math.fallingProduct (n : Int) k = ((chP n k * facN k : Nat) : Int) := by
    refine Int.eq_of_mul_eq_mul_right fp ?_
    rw [a, ← c, ← Int.natCast_mul, Nat.mul_assoc]
  rw [a', b', ← Int.natCast_ediv, Nat.mul_div_cancel _ (facN_pos' k), ch_eq h]
def rComb : List V → Hp → VK → Prop := fun vs H Q => ∃ n k : Nat, vs = [.int (n : Int), .int (k : Int)] ∧ k ≤ n ∧ n ≤ 1000 ∧ Q (.int ((chN n k : Nat) : Int)) H
theorem cr_comb {X : Cx} : CallR X (.builtin "math.comb") rComb := by
  intro pins s σ H vs us Q I r h
  obtain ⟨n, k, rfl, hk, hn, q⟩ := h
  obtain ⟨t, u, rfl⟩ := Vals.int2 r
  obtain ⟨m, em, hm, ech⟩ : ∃ m : Nat, min (k : Int) ((n : Int) - (k : Int)) = (m : Int) ∧ m ≤ n ∧ chN n m = chN n k := by
    rcases Nat.le_total k (n - k) with c | c
    · exact ⟨k, by omega, hk, rfl⟩
    · exact ⟨n - k, by omega, by omega, ch_sym hk⟩
  have v : Builtin.Math.fallingProduct (n : Int) (min (k : Int) ((n : Int) - (k : Int))).toNat / Builtin.Math.fallingProduct (min (k : Int) ((n : Int) - (k : Int))) (min (k : Int) ((n : Int) - (k : Int))).toNat = ((chN n k : Nat) : Int) := by
    rw [em, Int.toNat_natCast, comb_val hm, ech]
  have fl := fac_lt n hn
  refine call_function_meets comb_kind comb_plain comb_entry (comb_args _ _) (comb_run (n : Int) t (k : Int) u (by omega) (by omega) (by omega) (by rw [em]; show ¬ (m : Int) > 2 ^ 63 - 1; omega) (by rw [em]; show ¬ (m : Int) > 20000; omega) (by omega) ?_).meets ?_
  · rw [v]
    show (chN n k).log2 < bitsLine
    have b := PySem.Flt.log2_lt_of (by omega : 0 < 10 * n + 1) (Nat.lt_of_le_of_lt (ch_le n k) fl)
    have e2 : bitsLine = 134217728 := by decide
    rw [e2]
    omega
  · rw [v]
    exact ⟨.int _, H, I.tok _, ⟨_, rfl⟩, q⟩
end Lp
set_option Elab.async false
set_option linter.all false
set_option maxRecDepth 100000
namespace Lp
open PySem PySem.Spec PyProof.Rows L2
/-! ### a text read from its end -/
theorem fm_all {α : Type} : ∀ m : List α, List.filterMap (fun k => m[k]?) (List.range m.length) = m
  | [] => rfl
  | a :: m => by
    rw [List.length_cons, List.range_succ_eq_map, List.filterMap_cons]
    show a :: List.filterMap (fun k => (a :: m)[k]?) (List.map Nat.succ (List.range m.length)) = a :: m
    rw [List.filterMap_map]
    exact congrArg (a :: ·) (fm_all m)
theorem fm_congr {α β : Type} {f g : α → Option β} : ∀ {l : List α}, (∀ x ∈ l, f x = g x) → l.filterMap f = l.filterMap g
  | [], _ => rfl
  | a :: l, h => by
    rw [List.filterMap_cons, List.filterMap_cons, h a (List.mem_cons_self ..), fm_congr fun x hx => h x (List.mem_cons_of_mem _ hx)]
theorem fm_rev {α : Type} (l : List α) : List.filterMap (fun k => l[l.length - 1 - k]?) (List.range l.length) = l.reverse := by
  refine Eq.trans (fm_congr (g := fun k => l.reverse[k]?) fun k hk => ?_) ((congrArg (fun n => List.filterMap (fun k => l.reverse[k]?) (List.range n)) (List.length_reverse (as := l)).symm).trans (fm_all l.reverse))
  rw [List.getElem?_reverse (List.mem_range.mp hk)]
theorem rev_idx (n : Nat) : Builtin.Str.strSliceIndices none none (-1) n = (List.range n).map fun k => n - 1 - k := by
  show sliceRange ((n : Int) - 1) (-1) (-1) = _
  have e : sliceRange ((n : Int) - 1) (-1) (-1) = List.map (fun k : Nat => ((n : Int) - 1 + (-1) * (k : Int)).toNat) (List.range (if (n : Int) - 1 > -1 then ((n : Int) - 1 - (-1) - (-1) - 1) / 1 else (0 : Int)).toNat) := rfl
  rw [e]
  have c : (if (n : Int) - 1 > -1 then ((n : Int) - 1 - (-1) - (-1) - 1) / 1 else (0 : Int)).toNat = n := by
    split <;> omega
  rw [c]
  exact List.map_congr_left fun k hk => by omega
def revS (x : Str) : Str := ⟨x.cps.toList.reverse.toArray⟩
theorem rev_made (x : Str) (t q : Tok) : sliceMade x t none none (some (-1, q)) = .str (revS x) := by
  show (if ((-1 : Int) == 1 && _) = true then _ else _) = _
  rw [if_neg (by simp)]
  show Made.str ⟨(List.filterMap (fun i => x.cps[i]?) (Builtin.Str.strSliceIndices none none (-1) x.length)).toArray⟩ = _
  rw [rev_idx, List.filterMap_map]
  have := fm_rev x.cps.toList
  simp only [Array.getElem?_toList, Array.length_toList] at this
  exact congrArg (fun l => Made.str ⟨List.toArray l⟩) this
section
variable {X : Cx}
def tRevS (te : TE) : TE := fun σ H Q => te σ H fun x H1 => ∃ z, x = .str z ∧ z.cps.size ≤ sizeLine ∧ Q (.str (revS z)) H1
theorem pe_revS {e : Expr} {te : TE} {k : Nat} {p1 p2 p3 pos : Pos} (he : PE X e te) : PE X (e.Subscript (Expr.Slice none none (some (Expr.UnaryOp UnaryOp.USub (Expr.Constant (Const.int 1) k p1) p2)) p3) pos) (tRevS te) := by
  refine ⟨fun pins s σ H Q I h => ?_⟩
  refine Subscript_ (thn (he.run pins s σ H _ I h) fun o s1 ⟨v, H1, I1, r1, q1⟩ => ?_)
  obtain ⟨z, rfl, hz, q⟩ := q1
  obtain ⟨t, rfl⟩ := r1
  refine wpAny_Slice ?_
  rw [evalPart_none]
  refine wpAny_pure (wpAny_pure ?_)
  refine thn ((po_some (pe_un un_neg pe_int)).run pins s1 σ H1 (fun o H2 => o = some (-1) ∧ H2 = H1) I1 ⟨1, rfl, _, rfl, rfl, rfl⟩) fun u s2 ⟨o, H2, I2, ip, eo, eh⟩ => ?_
  subst eo
  subst eh
  cases ip with
  | int i tk =>
    refine tail_any (typeIs_str _ _ _) F.slot_str_getitem.lookup ?_ rfl
    refine wpAny_getItem_str_slice (l := none) (u := none) (st := some (-1, tk)) (Heap.IsSliceOf.new ..) rfl ?_
    rw [rev_made]
    have I3 : Inv X pins σ H2 { s2 with heap := s2.heap.push { cls := .type "slice", data := .fields #[.none, .none, .int (-1) tk] } } := I2.kept (t' := s2.toks) fun b o e => Heap.get?_push_of_some _ e
    have hl : (revS z).length ≤ sizeLine := by
      show (z.cps.toList.reverse.toArray).size ≤ sizeLine
      rw [List.size_toArray, List.length_reverse, Array.length_toList]
      exact hz
    exact ⟨hl, .str (revS z), H2, I3.tok _, ⟨_, rfl⟩, q⟩
/-! ### list and tuple of a text -/
def chL (z : Str) : List V := z.cps.toList.map fun c => V.str ⟨#[c]⟩
theorem vals_ch {z : Str} {acc : Array Value} (h : ItemsOf (SignAt z) acc z.cps.size) : Vals (chL z) acc.toList := by
  have e : chL z = (List.range acc.toList.length).map fun j => V.str ⟨#[z.cps.toList.getD j 0]⟩ := by
    unfold chL
    rw [Array.length_toList, h.1]
    apply List.ext_getElem?
    intro i
    rw [List.getElem?_map, List.getElem?_map]
    by_cases c : i < z.cps.size
    · rw [List.getElem?_range (by omega), List.getElem?_eq_getElem (by rw [Array.length_toList]; exact c)]
      simp [c]
    · rw [List.getElem?_eq_none (by rw [Array.length_toList]; omega), List.getElem?_eq_none (by rw [List.length_range]; omega)]
      rfl
  rw [e]
  refine vals_of_get acc.toList _ fun j u hj => ?_
  obtain ⟨c, t, hc, rfl⟩ := h.2 j u (by rw [← hj, Array.getElem?_toList])
  refine ⟨t, ?_⟩
  have : z.cps.toList.getD j 0 = c := by
    rw [List.getD_eq_getElem?_getD, Array.getElem?_toList, hc]
    rfl
  rw [this]
def rLStr : List V → Hp → VK → Prop := fun xs H Q => ∃ z, xs = [.str z] ∧ z.cps.size ≤ sizeLine ∧ ∀ p, H p = none → Q (.ref p) (upd H p (.lst (chL z)))
theorem cr_listStr (hc : X.calm = true) : CallR X (.type "list") rLStr := by
  intro pins s σ H xs us Q I r h
  obtain ⟨z, rfl, hz, q⟩ := h
  cases r with
  | cons r rr =>
    cases rr
    obtain ⟨t, rfl⟩ := r
    refine call_list_str (I.ok.hd hc) z t (fun h' tk acc' c' hk e hi => ?_) hz
    refine ⟨.ref _, upd H _ (.lst (chL z)), I.laid hk (Nat.le_refl _) (show ObjOk X.prog X.w _ _ _ (.lst _) from ⟨?_, acc'.toList, c', vals_ch hi, ?_⟩), rfl, q _ (I.hok.fresh (Nat.le_refl _))⟩
    · unfold chL
      rw [List.length_map, Array.length_toList]
      exact hz
    · rw [Array.toArray_toList]; exact e
def rTStr : List V → Hp → VK → Prop := fun xs H Q => ∃ z, xs = [.str z] ∧ z.cps.size ≤ sizeLine ∧ ∀ p, H p = none → Q (.ref p) (upd H p (.tup (chL z)))
theorem cr_tupStr (hc : X.calm = true) : CallR X (.type "tuple") rTStr := by
  intro pins s σ H xs us Q I r h
  obtain ⟨z, rfl, hz, q⟩ := h
  cases r with
  | cons r rr =>
    cases rr
    obtain ⟨t, rfl⟩ := r
    refine call_tuple_str (I.ok.hd hc) z t (fun h' tk acc hk hi => ?_) hz
    have I2 : Inv X pins σ H { s with heap := h', toks := tk } := I.kept (t' := tk) hk
    refine ⟨.ref _, upd H _ (.tup (chL z)), I2.laid (fun b o e => Heap.get?_push_of_some _ e) (Nat.le_refl _) (show ObjOk X.prog X.w _ _ _ (.tup _) from ?_), rfl, q _ (I2.hok.fresh (Nat.le_refl _))⟩
    simp only [ObjOk]
    refine ⟨by unfold chL; rw [List.length_map, Array.length_toList]; exact hz, acc.toList, vals_ch hi, ?_⟩
    rw [Array.toArray_toList]
    exact ⟨_, Heap.get?_push_size _ rfl, rfl, _, rfl⟩
end
end Lp
set_option Elab.async false
set_option linter.all false
set_option maxRecDepth 100000
namespace Lp
open PySem PySem.Spec PyProof.Rows L2
section
variable {prog : Program} {w : World} {A : Around} {E : Value → Shared → Prop} {s : Shared}
theorem zipS_next_item {z TI TO i1 i2 l1 : Addr} {k1 k2 : Nat} {xs : Array Value} {ty : String} {t : Str} {tk : Tok} {x a b : Value} {c : Nat} {Q : Value → Shared → Prop}
    (nx : ∀ (s : Shared) (Q : Value → Shared → Prop) (E : Value → Shared → Prop), s.heap.IsStrIter i2 ty t tk k2 → (∀ h', h'.IsStrIter i2 ty t tk (k2 + 1) → Heap.SameBut i2 s.heap h' → Q (.str ⟨#[c]⟩ s.toks) { heap := h', gens := s.gens, drawn := s.drawn, toks := s.toks + 1, os := s.os }) → wpAny (model prog w) A (Builtin.SmallTypes.nextOf (.ref i2)) Q E s)
    (TIz : TI ≠ z) (TOz : TO ≠ z) (i1z : i1 ≠ z) (i2z : i2 ≠ z) (TITO : TI ≠ TO) (TOi1 : TO ≠ i1) (TOi2 : TO ≠ i2) (i12 : i1 ≠ i2) (l1z : l1 ≠ z)
    (hz : IsZip s.heap z TI TO .none) (hTI : IsPair s.heap TI (.ref i1) (.ref i2)) (hTO : IsPair s.heap TO a b) (h1 : s.heap.IsListIter i1 l1 k1) (h2 : s.heap.IsStrIter i2 ty t tk k2) (hl : s.heap.IsList l1 xs) (hx : xs[k1]? = some x)
    (q : ∀ h' : Heap, IsZip h' z TI TO (rawInt ↑s.heap.objs.size) → IsPair h' TO x (.str ⟨#[c]⟩ s.toks) → h'.IsListIter i1 l1 (k1 + 1) → h'.IsStrIter i2 ty t tk (k2 + 1) → IsPair h' s.heap.objs.size x (.str ⟨#[c]⟩ s.toks) → h'.objs.size = s.heap.objs.size + 1 →
      (∀ (e : Addr) (o : Obj), e ≠ z → e ≠ TO → e ≠ i1 → e ≠ i2 → s.heap.get? e = some o → h'.get? e = some o) → Q (.ref s.heap.objs.size) { heap := h', gens := s.gens, drawn := s.drawn, toks := s.toks + 1, os := s.os }) :
    wpAny (model prog w) A (Builtin.«zip.__next__» { pos := [.ref z] }) (fun fin s' => ∃ v, fin = Fin.done (Flow.ret v) ∧ Q v s') E s := by
  unfold Builtin.«zip.__next__»
  refine wpAny_bind (m := slotArgs "__next__" 0 _) (wpAny_of_eq (a := ((Value.ref z : Value), ([] : List Value))) (by first | rfl | (simp only [slotArgs]; rfl)) ?_)
  refine wpAny_bind (wpAny_field hz rfl rfl ?_)
  refine wpAny_bind (wpAny_field hz rfl rfl ?_)
  refine wpAny_bind (wpAny_seqItems hTI rfl ?_)
  refine wpAny_bind (m := Builtin.SmallTypes.ownedTupleIsFree (.ref z)) ?_
  unfold Builtin.SmallTypes.ownedTupleIsFree
  refine wpAny_bind (wpAny_field hz rfl rfl (wpAny_pure ?_))
  show wpAny _ _ (rule _ >>= _) _ _ _
  refine wpAny_bind (wpAny_rule ?_)
  refine wpAny_bind (wpAny_field hz rfl rfl ?_)
  refine wpAny_bind (wpAny_setField_rec hz (by show 0 < 5; decide) fun g1 gz1 sb1 => ?_)
  refine wpAny_bind ?_
  rw [show (#[Value.ref i1, Value.ref i2] : Array Value).toList.zipIdx = [(Value.ref i1, 0), (Value.ref i2, 1)] from rfl, List.forIn_cons]
  refine wpAny_bind (wpAny_bind (wpAny_onRaise ?_))
  show wpAny _ _ (Builtin.SmallTypes.nextOf (.ref i1) >>= fun v => pure (some v)) _ _ _
  have x1 := sb1.extBut
  have hl1 : g1.IsList l1 xs := hl.extBut x1 l1z
  refine wpAny_bind (wpAny_nextOf_list_item (h1.extBut x1 i1z) hl1 hx fun g2 it2 sb2 => ?_)
  refine wpAny_pure ?_
  have TO2 : IsPair g2 TO a b := by
    show g2.get? TO = _
    rw [sb2.2 TO TOi1, sb1.2 TO TOz]
    exact hTO
  refine wpAny_bind (wpAny_seqItems TO2 rfl ?_)
  refine wpAny_bind (wpAny_updateSeq_pair TO2 fun g3 gt3 sb3 => ?_)
  refine wpAny_bind (wpAny_letGo ?_)
  refine wpAny_pure ?_
  show wpAny _ _ (forIn [((Value.ref i2 : Value), 1)] ((none : Option PySem.Fin), ()) _) _ _ _
  rw [List.forIn_cons]
  refine wpAny_bind (wpAny_bind (wpAny_onRaise ?_))
  show wpAny _ _ (Builtin.SmallTypes.nextOf (.ref i2) >>= fun v => pure (some v)) _ _ _
  have h23 : g3.IsStrIter i2 ty t tk k2 := ((h2.extBut x1 i2z).extBut sb2.extBut i12.symm).extBut sb3.extBut TOi2.symm
  refine wpAny_bind (nx _ _ _ h23 fun g4 it4 sb4 => ?_)
  refine wpAny_pure ?_
  have TO4 : IsPair g4 TO x b := by
    show g4.get? TO = _
    rw [sb4.2 TO TOi2]
    exact gt3
  refine wpAny_bind (wpAny_seqItems TO4 rfl ?_)
  refine wpAny_bind (wpAny_updateSeq_pair TO4 fun g5 gt5 sb5 => ?_)
  refine wpAny_bind (wpAny_letGo ?_)
  refine wpAny_pure ?_
  show wpAny _ _ (forIn [] ((none : Option PySem.Fin), ()) _) _ _ _
  rw [List.forIn_nil]
  refine wpAny_pure ?_
  refine wpAny_bind (wpAny_seqItems gt5 rfl ?_)
  refine wpAny_bind (wpAny_newTuple ?_ (by show 2 ≤ sizeLine; decide))
  refine wpAny_bind ?_
  unfold Builtin.SmallTypes.ownedTupleHandOut
  have gz5 : g5.get? z = some { cls := Value.type "zip", data := Data.fields #[Value.ellipsis, Value.bool false, Value.bool false, Value.ref TI, Value.ref TO] } := by
    rw [sb5.2 z TOz.symm, sb4.2 z i2z.symm, sb3.2 z TOz.symm, sb2.2 z i1z.symm]
    exact gz1
  show wpAny _ _ (setField (.ref z) 0 (rawInt ↑g5.objs.size) >>= fun _ => setField (.ref z) 1 (.bool false)) _ _ _
  have zlt : z < g5.objs.size := Heap.lt_size gz5
  refine wpAny_bind (wpAny_setField_rec (Heap.get?_push_of_some _ gz5) (by show 0 < 5; decide) fun g6 gz6 sb6 => ?_)
  refine wpAny_setField_rec gz6 (by show 1 < 5; decide) fun g7 gz7 sb7 => ?_
  refine wpAny_pure ⟨_, rfl, ?_⟩
  have sz : g5.objs.size = s.heap.objs.size := by rw [sb5.1, sb4.1, sb3.1, sb2.1, sb1.1]
  rw [← sz] at q
  have at7 : ∀ e : Addr, e ≠ z → g7.get? e = (g5.push { cls := Value.type "tuple", data := Data.seq (#[x, b].setIfInBounds 1 (.str ⟨#[c]⟩ s.toks)).toList.toArray }).get? e := fun e he => by
    rw [sb7.2 e he, sb6.2 e he]
  refine q g7 gz7 ?_ ?_ ?_ ?_ ?_ ?_
  · show g7.get? TO = _
    rw [at7 TO TOz]
    exact Heap.get?_push_of_some _ gt5
  · have y := ((it2.extBut sb3.extBut TOi1.symm).extBut sb4.extBut i12).extBut sb5.extBut TOi1.symm
    obtain ⟨o, h, c1, c2⟩ := y
    exact ⟨o, by rw [at7 i1 i1z]; exact Heap.get?_push_of_some _ h, c1, c2⟩
  · obtain ⟨o, h, c1, c2⟩ := it4.extBut sb5.extBut TOi2.symm
    exact ⟨o, by rw [at7 i2 i2z]; exact Heap.get?_push_of_some _ h, c1, c2⟩
  · show g7.get? g5.objs.size = _
    rw [at7 _ (Nat.ne_of_gt zlt)]
    exact Heap.get?_push_size _ rfl
  · rw [sb7.1, sb6.1]
    exact Heap.size_push ..
  · intro e o n1 n2 n3 n4 he
    rw [at7 e n1]
    refine Heap.get?_push_of_some _ ?_
    rw [sb5.2 e n2, sb4.2 e n4, sb3.2 e n2, sb2.2 e n3, sb1.2 e n1]
    exact he
theorem zipS_next_end {z TI TO i1 i2 l1 : Addr} {k1 : Nat} {xs : Array Value} {Q : PySem.Fin → Shared → Prop} (hh : A.handled = none)
    (i1z : i1 ≠ z) (l1z : l1 ≠ z)
    (hz : IsZip s.heap z TI TO .none) (hTI : IsPair s.heap TI (.ref i1) (.ref i2)) (h1 : s.heap.IsListIter i1 l1 k1) (hl : s.heap.IsList l1 xs) (hx : xs[k1]? = none)
    (q : ∀ (h' : Heap) (e : Addr), (∀ (c : Addr) (o : Obj), c ≠ z → c ≠ TO → c ≠ i1 → c ≠ i2 → s.heap.get? c = some o → h'.get? c = some o) → (∃ o, h'.get? e = some o ∧ o.cls = Value.type "StopIteration") → E (.ref e) { heap := h', gens := s.gens, drawn := s.drawn, toks := s.toks, os := s.os }) :
    wpAny (model prog w) A (Builtin.«zip.__next__» { pos := [.ref z] }) Q E s := by
  unfold Builtin.«zip.__next__»
  refine wpAny_bind (m := slotArgs "__next__" 0 _) (wpAny_of_eq (a := ((Value.ref z : Value), ([] : List Value))) (by first | rfl | (simp only [slotArgs]; rfl)) ?_)
  refine wpAny_bind (wpAny_field hz rfl rfl ?_)
  refine wpAny_bind (wpAny_field hz rfl rfl ?_)
  refine wpAny_bind (wpAny_seqItems hTI rfl ?_)
  refine wpAny_bind (m := Builtin.SmallTypes.ownedTupleIsFree (.ref z)) ?_
  unfold Builtin.SmallTypes.ownedTupleIsFree
  refine wpAny_bind (wpAny_field hz rfl rfl (wpAny_pure ?_))
  show wpAny _ _ (rule _ >>= _) _ _ _
  refine wpAny_bind (wpAny_rule ?_)
  refine wpAny_bind (wpAny_field hz rfl rfl ?_)
  refine wpAny_bind (wpAny_setField_rec hz (by show 0 < 5; decide) fun g1 gz1 sb1 => ?_)
  refine wpAny_bind ?_
  rw [show (#[Value.ref i1, Value.ref i2] : Array Value).toList.zipIdx = [(Value.ref i1, 0), (Value.ref i2, 1)] from rfl, List.forIn_cons]
  refine wpAny_bind (wpAny_bind (wpAny_onRaise ?_))
  show wpAny _ _ (Builtin.SmallTypes.nextOf (.ref i1) >>= fun v => pure (some v)) _ _ _
  have x1 := sb1.extBut
  have hl1 : g1.IsList l1 xs := hl.extBut x1 l1z
  refine wpAny_bind (wpAny_nextOf_list_end hh (h1.extBut x1 i1z) hl1 hx fun g2 e x2 so => ?_)
  refine wpAny_setField_rec (x2 z _ i1z.symm gz1) (by show 0 < 5; decide) fun g3 gz3 sb3 => ?_
  refine q g3 e (fun c o n1 n2 n3 n4 hc => ?_) ?_
  · rw [sb3.2 c n1]
    refine x2 c o n3 ?_
    rw [sb1.2 c n1]
    exact hc
  · obtain ⟨o, ho, hc⟩ := so
    by_cases ez : e = z
    · subst ez
      rw [x2 e _ i1z.symm gz1] at ho
      cases ho
      exact absurd (show Value.type "zip" = Value.type "StopIteration" from hc) (by decide)
    · exact ⟨o, by rw [sb3.2 e ez]; exact ho, hc⟩
/-- how an iterator of a text goes on -/
def NxS (prog : Program) (w : World) (ty : String) : Prop := ∀ (A : Around) (E : Value → Shared → Prop) (s : Shared) (it : Addr) (x : Str) (t : Tok) (i c : Nat) (Q : Value → Shared → Prop), s.heap.IsStrIter it ty x t i → x.cps[i]? = some c →
  (∀ h' : Heap, h'.IsStrIter it ty x t (i + 1) → Heap.SameBut it s.heap h' → Q (.str ⟨#[c]⟩ s.toks) { heap := h', gens := s.gens, drawn := s.drawn, toks := s.toks + 1, os := s.os }) → wpAny (model prog w) A (Builtin.SmallTypes.nextOf (.ref it)) Q E s
theorem nxs_ascii : NxS prog w "str_ascii_iterator" := fun _ _ _ _ _ _ _ _ _ h1 h2 h3 => wpAny_nextOf_ascii_item h1 h2 h3
theorem nxs_wide : NxS prog w "str_iterator" := fun _ _ _ _ _ _ _ _ _ h1 h2 h3 => wpAny_nextOf_wide_item h1 h2 h3
theorem pyNext_zipS_item {z TI TO i1 i2 l1 : Addr} {k1 : Nat} {xs : Array Value} {ty : String} {t : Str} {tk : Tok} {x a b : Value} {c : Nat} {Q : Option Value → Shared → Prop}
    (nx : NxS prog w ty) (D : ZipApart z TI TO i1 i2 l1 l1)
    (hz : IsZip s.heap z TI TO .none) (hTI : IsPair s.heap TI (.ref i1) (.ref i2)) (hTO : IsPair s.heap TO a b) (h1 : s.heap.IsListIter i1 l1 k1) (h2 : s.heap.IsStrIter i2 ty t tk k1) (hl : s.heap.IsList l1 xs) (hx : xs[k1]? = some x) (hc : t.cps[k1]? = some c)
    (q : ∀ h' : Heap, IsZip h' z TI TO (rawInt ↑s.heap.objs.size) → IsPair h' TO x (.str ⟨#[c]⟩ s.toks) → h'.IsListIter i1 l1 (k1 + 1) → h'.IsStrIter i2 ty t tk (k1 + 1) → IsPair h' s.heap.objs.size x (.str ⟨#[c]⟩ s.toks) → h'.objs.size = s.heap.objs.size + 1 →
      (∀ (e : Addr) (o : Obj), e ≠ z → e ≠ TO → e ≠ i1 → e ≠ i2 → s.heap.get? e = some o → h'.get? e = some o) → Q (some (.ref s.heap.objs.size)) { heap := h', gens := s.gens, drawn := s.drawn, toks := s.toks + 1, os := s.os }) :
    wpAny (model prog w) A (pyNext (.ref z)) Q E s := by
  have hT : s.TypeIs (.ref z) "zip" := ⟨_, hz, rfl⟩
  unfold pyNext
  exact wpAny_bind (wpAny_attempt (wpAny_callSpecial?_slot hT F.slot_zip_next (wpAny_call_entry F.slot_zip_next hT F.entry_zip_next
    (zipS_next_item (fun s Q E h k => nx _ E s i2 t tk k1 c Q h hc k) D.TIz D.TOz D.i1z D.i2z D.TITO D.TOi1 D.TOi2 D.i12 D.l1z hz hTI hTO h1 h2 hl hx fun h' a1 a2 a3 a4 a5 a6 a7 => wpAny_pure (q h' a1 a2 a3 a4 a5 a6 a7)) (F.args_zip_next_1 (.ref z)))))
theorem pyNext_zipS_end {z TI TO i1 i2 l1 : Addr} {k1 : Nat} {xs : Array Value} {Q : Option Value → Shared → Prop} (hh : A.handled = none) (D : ZipApart z TI TO i1 i2 l1 l1)
    (hz : IsZip s.heap z TI TO .none) (hTI : IsPair s.heap TI (.ref i1) (.ref i2)) (h1 : s.heap.IsListIter i1 l1 k1) (hl : s.heap.IsList l1 xs) (hx : xs[k1]? = none)
    (q : ∀ h' : Heap, (∀ (c : Addr) (o : Obj), c ≠ z → c ≠ TO → c ≠ i1 → c ≠ i2 → s.heap.get? c = some o → h'.get? c = some o) → Q none { heap := h', gens := s.gens, drawn := s.drawn, toks := s.toks, os := s.os }) :
    wpAny (model prog w) A (pyNext (.ref z)) Q E s := by
  have hT : s.TypeIs (.ref z) "zip" := ⟨_, hz, rfl⟩
  unfold pyNext
  exact wpAny_bind (wpAny_attempt (wpAny_callSpecial?_slot hT F.slot_zip_next (wpAny_call_entry F.slot_zip_next hT F.entry_zip_next
    (zipS_next_end hh D.i1z D.l1z hz hTI h1 hl hx fun h' e hk he => by
      obtain ⟨o, ho, hc⟩ := he
      exact wpAny_bind (wpAny_isInstance ⟨o, ho, hc⟩ isSubtype_stop (wpAny_pure (q h' hk)))) (F.args_zip_next_1 (.ref z)))))
def zsH1 (h : Heap) (l1 : Addr) : Heap := h.push { cls := .type "list_iterator", data := .fields #[.ref l1, .int 0 0] }
def zsH2 (h : Heap) (l1 : Addr) (x : Str) (t : Tok) : Heap := (zsH1 h l1).push { cls := .type "str_ascii_iterator", data := .fields #[.str x t, .int 0 0] }
def zsH3 (h : Heap) (l1 : Addr) (x : Str) (t : Tok) : Heap := (zsH2 h l1 x t).push { cls := .type "tuple", data := .seq #[.ref h.objs.size, .ref (zsH1 h l1).objs.size] }
def zsH4 (h : Heap) (l1 : Addr) (x : Str) (t : Tok) : Heap := (zsH3 h l1 x t).push { cls := .type "tuple", data := .seq #[.none, .none] }
def zsH5 (h : Heap) (l1 : Addr) (x : Str) (t : Tok) : Heap := (zsH4 h l1 x t).push { cls := .type "zip", data := .fields #[.none, .bool false, .bool false, .ref (zsH2 h l1 x t).objs.size, .ref (zsH3 h l1 x t).objs.size] }
end
theorem meets_zipS_new (l1 : Addr) (x : Str) (t : Tok) (xs : Array Value) (ha : (x.cps.all fun c => decide (c < 128)) = true) : Meets (Builtin.«zip.__new__» { pos := [.type "zip", .ref l1, .str x t] }) fun _ R s =>
    s.heap.IsList l1 xs ∧ R (Except.ok (Flow.ret (.ref (zsH4 s.heap l1 x t).objs.size))) { heap := zsH5 s.heap l1 x t, gens := s.gens, drawn := s.drawn, toks := s.toks, os := s.os } :=
  Meets.of_wp fun prog w A R s h => by
    obtain ⟨hp, g, d, tk, os⟩ := s
    obtain ⟨hl1, hR⟩ := h
    unfold Builtin.«zip.__new__»
    refine wpAny_bind ?_
    unfold Builtin.SmallTypes.newClass
    refine wpAny_bind (m := isType _) (wpAny_pure ?_)
    refine wpAny_ite_false rfl ?_
    refine wpAny_bind (wpAny_of_eq sub_zip (wpAny_ite_false rfl (wpAny_pure ?_)))
    refine wpAny_ite_false rfl ?_
    refine wpAny_bind (m := Builtin.SmallTypes.iterAll _) ?_
    unfold Builtin.SmallTypes.iterAll
    refine wpAny_bind ?_
    rw [List.forIn_cons]
    refine wpAny_bind (wpAny_bind (wpAny_holding (wpAny_pyIter_list hl1 (wpAny_pure ?_))))
    show wpAny _ _ (forIn [Value.str x t] _ _) _ _ _
    rw [List.forIn_cons]
    refine wpAny_bind (wpAny_bind (wpAny_holding (wpAny_pyIter_ascii ha (wpAny_pure ?_))))
    show wpAny _ _ (forIn [] _ _) _ _ _
    rw [List.forIn_nil]
    refine wpAny_pure (wpAny_pure ?_)
    refine wpAny_bind (wpAny_newTuple ?_ (by show 2 ≤ sizeLine; decide))
    refine wpAny_bind (wpAny_newTuple ?_ (by show 2 ≤ sizeLine; decide))
    refine wpAny_bind ?_
    unfold Builtin.SmallTypes.newRecord
    show wpAny _ _ (newObj _ _) _ _ _
    unfold newObj
    refine wpAny_bind (wpAny_alloc' ?_)
    refine wpAny_pure ?_
    exact wpAny_pure ⟨_, rfl, hR⟩
theorem call_zipS {prog : Program} {w : World} {A : Around} {E : Value → Shared → Prop} {s : Shared} {l1 : Addr} {xs : Array Value} {x : Str} {t : Tok} {Q : Value → Shared → Prop} (ha : (x.cps.all fun c => decide (c < 128)) = true) (hl1 : s.heap.IsList l1 xs)
    (h : ∀ h' : Heap, IsZip h' (s.heap.objs.size + 4) (s.heap.objs.size + 2) (s.heap.objs.size + 3) .none → IsPair h' (s.heap.objs.size + 2) (.ref s.heap.objs.size) (.ref (s.heap.objs.size + 1)) → IsPair h' (s.heap.objs.size + 3) .none .none → h'.IsListIter s.heap.objs.size l1 0 →
      h'.IsStrIter (s.heap.objs.size + 1) "str_ascii_iterator" x t 0 → h'.objs.size = s.heap.objs.size + 5 → (∀ (c : Addr) (o : Obj), s.heap.get? c = some o → h'.get? c = some o) → Q (.ref (s.heap.objs.size + 4)) { heap := h', gens := s.gens, drawn := s.drawn, toks := s.toks, os := s.os }) :
    wpAny (model prog w) A (call (.type "zip") [.ref l1, .str x t]) Q E s := by
  have z1 : (zsH1 s.heap l1).objs.size = s.heap.objs.size + 1 := Heap.size_push ..
  have z2 : (zsH2 s.heap l1 x t).objs.size = s.heap.objs.size + 2 := (Heap.size_push ..).trans (by rw [z1])
  have z3 : (zsH3 s.heap l1 x t).objs.size = s.heap.objs.size + 3 := (Heap.size_push ..).trans (by rw [z2])
  have z4 : (zsH4 s.heap l1 x t).objs.size = s.heap.objs.size + 4 := (Heap.size_push ..).trans (by rw [z3])
  have z5 : (zsH5 s.heap l1 x t).objs.size = s.heap.objs.size + 5 := (Heap.size_push ..).trans (by rw [z4])
  have g5 : (zsH5 s.heap l1 x t).get? (zsH4 s.heap l1 x t).objs.size = _ := Heap.get?_push_size _ rfl
  have g4 : (zsH5 s.heap l1 x t).get? (zsH3 s.heap l1 x t).objs.size = _ := Heap.get?_push_of_some _ (Heap.get?_push_size _ rfl)
  have g3 : (zsH5 s.heap l1 x t).get? (zsH2 s.heap l1 x t).objs.size = _ := Heap.get?_push_of_some _ (Heap.get?_push_of_some _ (Heap.get?_push_size _ rfl))
  have g2 : (zsH5 s.heap l1 x t).get? (zsH1 s.heap l1).objs.size = _ := Heap.get?_push_of_some _ (Heap.get?_push_of_some _ (Heap.get?_push_of_some _ (Heap.get?_push_size _ rfl)))
  have g1 : (zsH5 s.heap l1 x t).get? s.heap.objs.size = _ := Heap.get?_push_of_some _ (Heap.get?_push_of_some _ (Heap.get?_push_of_some _ (Heap.get?_push_of_some _ (Heap.get?_push_size _ rfl))))
  have gk : ∀ (c : Addr) (o : Obj), s.heap.get? c = some o → (zsH5 s.heap l1 x t).get? c = some o := fun c o e => Heap.get?_push_of_some _ (Heap.get?_push_of_some _ (Heap.get?_push_of_some _ (Heap.get?_push_of_some _ (Heap.get?_push_of_some _ e))))
  rw [z1] at g2 g3
  rw [z2] at g3 g5
  rw [z3] at g4 g5
  rw [z4] at g5
  refine callType_new F.called_zip (by decide) (F.typeCall_zip_2 (.ref l1) (.str x t)) (F.newCall_zip_2 (.ref l1) (.str x t)) (fun obj => F.args_object_init_3 obj (.ref l1) (.str x t)) F.entry_zip_new (meets_zipS_new l1 x t xs ha) ⟨hl1, ?_⟩
  show Shared.TypeIs _ (.ref (zsH4 s.heap l1 x t).objs.size) "zip" ∧ Q (.ref (zsH4 s.heap l1 x t).objs.size) _
  rw [z4]
  exact ⟨⟨_, g5, rfl⟩, h _ g5 g3 g4 ⟨_, g1, rfl, rfl⟩ ⟨_, g2, rfl, rfl⟩ z5 gk⟩
/-! ### for one, sign in zip(a list, a text) -/
def ItzS (K : PySem.W.Frag) (a : Addr) (z : Str) : It where
  go i H := ∃ xs x c, SqL K H a xs ∧ xs[i]? = some x ∧ z.cps[i]? = some c
  yld i H v H' := ∃ T x c, v = V.ref T ∧ H T = none ∧ H' = upd H T (.tup [x, .str ⟨#[c]⟩]) ∧ (∀ xs, SqL K H a xs → xs[i]? = some x) ∧ z.cps[i]? = some c
  stop i H := ∃ xs, SqL K H a xs ∧ xs.length ≤ i
theorem walk_zipS {K : PySem.W.Frag} {a : Addr} {xs : List V} {z : Str} (le : xs.length = z.cps.size) :
    Walk (ItzS K a z) xs.length (fun H => SqL K H a xs) (fun i H v H' => ∃ T x c, v = V.ref T ∧ H T = none ∧ H' = upd H T (.tup [x, .str ⟨#[c]⟩]) ∧ xs[i]? = some x ∧ z.cps[i]? = some c) where
  goes i H hi h := ⟨xs, _, _, h, List.getElem?_eq_getElem hi, Array.getElem?_eq_getElem (by omega)⟩
  stops H h := ⟨xs, h, Nat.le_refl _⟩
  yields i H v H' hi h y := by
    obtain ⟨T, x, c, e1, e2, e3, e4, e5⟩ := y
    exact ⟨T, x, c, e1, e2, e3, e4 xs h, e5⟩
theorem turn_zipS {P : Program} {w : World} {K : PySem.W.Frag} {elts : List Expr} {kk : Nat} {tpos : Pos} {a z TI TO i1 i2 : Addr} {x : Str} {t : Tok} (D : ZipApart z TI TO i1 i2 a a) :
    Turn P w K (Expr.Tuple elts kk tpos) (ItzS K a x) [z, TI, TO, i1, i2] z fun i h => IsZip h z TI TO .none ∧ IsPair h TI (.ref i1) (.ref i2) ∧ (∃ x y, IsPair h TO x y) ∧ h.IsListIter i1 a i ∧ h.IsStrIter i2 "str_ascii_iterator" x t i where
  mem := by simp
  obj i h st c hc := by
    obtain ⟨hz, hTI, ⟨u, v, hTO⟩, ⟨o1, e1, _, d1⟩, ⟨o2, e2, _, d2⟩⟩ := st
    simp only [List.mem_cons, List.not_mem_nil, or_false] at hc
    rcases hc with rfl | rfl | rfl | rfl | rfl
    · exact ⟨_, hz, fun v q => nomatch q⟩
    · exact ⟨_, hTI, fun v q => nomatch q⟩
    · exact ⟨_, hTO, fun v q => nomatch q⟩
    · exact ⟨_, e1, fun v q => by rw [d1] at q; cases q⟩
    · exact ⟨_, e2, fun v q => by rw [d2] at q; cases q⟩
  keep i h h' st k := by
    obtain ⟨hz, hTI, ⟨u, v, hTO⟩, ⟨o1, e1, c1, d1⟩, ⟨o2, e2, c2, d2⟩⟩ := st
    exact ⟨k z (by simp) _ hz, k TI (by simp) _ hTI, ⟨u, v, k TO (by simp) _ hTO⟩, ⟨o1, k i1 (by simp) _ e1, c1, d1⟩, ⟨o2, k i2 (by simp) _ e2, c2, d2⟩⟩
  item X hP hw hK hc i pins s σ H E I hf st hg := by
    subst hP
    subst hw
    subst hK
    obtain ⟨hz, hTI, ⟨x0, y0, hTO⟩, h1, h2⟩ := st
    obtain ⟨xs, v, c, hq, hx, hcx⟩ := hg
    obtain ⟨its, rv, p, _⟩ := I.list hq
    obtain ⟨u, hu, ru⟩ := rv.get hx
    have hzl := Heap.lt_size hz
    refine pyNext_zipS_item nxs_ascii D hz hTI hTO h1 h2 p.isList (by rw [List.getElem?_toArray]; exact hu) hcx fun h' z' TO' h1' h2' hT hsz hk => ?_
    refine ⟨.ref s.heap.objs.size, rfl, wpAny_letOwnedTupleGo_zip z' fun h'' z'' sb => ?_⟩
    have hT2 : h''.get? s.heap.objs.size = _ := (sb.2 s.heap.objs.size (Nat.ne_of_gt hzl)).trans hT
    have new : ObjOk X.prog X.w (upd H s.heap.objs.size (.tup [v, .str ⟨#[c]⟩])) h'' s.heap.objs.size (.tup [v, .str ⟨#[c]⟩]) := ⟨by show 2 ≤ sizeLine; decide, [u, .str ⟨#[c]⟩ s.toks], .cons ru (.cons ⟨_, rfl⟩ .nil), ⟨_, hT2, rfl, 0, rfl⟩⟩
    have I1 := I.turnedNew (h' := h'') (t' := s.toks + 1) (ch := [z, TI, TO, i1, i2]) (T := s.heap.objs.size) (ob := .tup [v, .str ⟨#[c]⟩]) (fun e o hb q => by
      simp only [List.mem_cons, List.not_mem_nil, or_false, not_or] at hb
      rw [sb.2 e hb.1]
      exact hk e o hb.1 hb.2.2.1 hb.2.2.2.1 hb.2.2.2.2 q) hf (Nat.le_refl _) new
    have fr : H s.heap.objs.size = none := I.hok.fresh (Nat.le_refl _)
    have lt : ∀ b : Addr, b ∈ [z, TI, TO, i1, i2] → b ≠ s.heap.objs.size := fun b hb => by
      simp only [List.mem_cons, List.not_mem_nil, or_false] at hb
      obtain ⟨o1, e1, _⟩ := h1
      obtain ⟨o2, e2, _⟩ := h2
      rcases hb with rfl | rfl | rfl | rfl | rfl
      · exact Nat.ne_of_lt hzl
      · exact Nat.ne_of_lt (Heap.lt_size hTI)
      · exact Nat.ne_of_lt (Heap.lt_size hTO)
      · exact Nat.ne_of_lt (Heap.lt_size e1)
      · exact Nat.ne_of_lt (Heap.lt_size e2)
    refine ⟨.ref _, _, I1, rfl, ⟨_, v, c, rfl, fr, rfl, fun xs2 q2 => by rw [I.list_inj q2 hq]; exact hx, hcx⟩, ⟨z'', (sb.2 TI D.TIz).trans (hk TI _ D.TIz D.TITO D.TIi1 D.TIi2 hTI), ⟨_, _, (sb.2 TO D.TOz).trans TO'⟩, h1'.extBut sb.extBut D.i1z, h2'.extBut sb.extBut D.i2z⟩, fun b hb => ?_⟩
    rw [upd_ne (lt b hb)]
    exact (hf b hb).1
  done X hP hw hK hc i pins s σ H E I hf st hg := by
    subst hP
    subst hw
    subst hK
    obtain ⟨hz, hTI, _, h1, h2⟩ := st
    obtain ⟨xs, hq, hle⟩ := hg
    obtain ⟨its, rv, p, _⟩ := I.list hq
    have hl := rv.length
    refine pyNext_zipS_end (I.ok.hd hc) D hz hTI h1 p.isList (by rw [List.getElem?_toArray]; exact List.getElem?_eq_none (by omega)) fun h' hk => ⟨rfl, I.turnedL (ch := [z, TI, TO, i1, i2]) (fun e o hb q => ?_) hf⟩
    simp only [List.mem_cons, List.not_mem_nil, or_false, not_or] at hb
    exact hk e o hb.1 hb.2.2.1 hb.2.2.2.1 hb.2.2.2.2 q
  self A i s Q E st h := wpAny_pyIter_zip st.1 h
def iZipS (K : PySem.W.Frag) (ta : TA) : TI := fun σ H R => ta σ H fun vs H1 => ∃ a xs z, vs = [V.ref a, .str z] ∧ SqL K H1 a xs ∧ (z.cps.all fun c => decide (c < 128)) = true ∧ R (ItzS K a z) H1
theorem pi_zipS {X : Cx} {e e2 : Expr} {ta : TA} {p pos tpos : Pos} {elts : List Expr} {kk : Nat} (hg : Gl X "zip") (hm : X.mg "zip" = none) (ha : PA X [e, e2] ta)
    (hs : starEach [e, e2] X.env = (false, eval e X.env) :: starEach [e2] X.env := by rfl) (hpl : (backTo pos (starEach [e2] X.env)).any (·.1) = false := by rfl) :
    PI X (.Tuple elts kk tpos) (.Call (.Name "zip" p) [e, e2] [] pos) (iZipS X.K ta) := by
  refine ⟨fun pins s σ H R I h => ?_⟩
  refine Call_ (ld_blt I hg hm boot_zip (PyProof.Rows.callWith_type1 (thn (ha.run pos pins s σ H _ I h) fun us s1 ⟨vs, H1, I1, r1, q1⟩ => ?_) hs hpl))
  obtain ⟨a, xs, z, ev, hq, hz, q⟩ := q1
  subst ev
  cases r1 with
  | cons r rr =>
    cases rr with
    | cons r' rr =>
      cases rr
      obtain ⟨t', rfl⟩ := r'
      cases (show _ = Value.ref a from r)
      obtain ⟨its, rv, pl, _⟩ := I1.list hq
      refine call_zipS hz pl.isList fun h' a1 a2 a3 a4 a5 a6 a7 => wpAny_pyIter_zip a1 ?_
      have fp : ∀ b : Addr, b ∈ [s1.heap.objs.size + 4, s1.heap.objs.size + 2, s1.heap.objs.size + 3, s1.heap.objs.size, s1.heap.objs.size + 1] → s1.heap.objs.size ≤ b := fun b hb => by
        simp only [List.mem_cons, List.not_mem_nil, or_false] at hb
        rcases hb with rfl | rfl | rfl | rfl | rfl <;> omega
      exact ⟨_, _, _, ItzS X.K a z, H1, rfl, I1.kept (t' := s1.toks) a7, turn_zipS (W.ktu_apart _ a a pl.lt pl.lt), ⟨a1, a2, ⟨_, _, a3⟩, a4, a5⟩, fun b hb => I1.fpOk (fp b hb) (I1.hok.fresh (fp b hb)), q⟩
end Lp
set_option Elab.async false
set_option linter.all false
set_option maxRecDepth 100000
namespace Lp
open PySem PySem.Spec PyProof.Rows L2
/-! ### set(a list of ints) -/
theorem call_set_listI {P : Program} {w : World} {A : Around} {E : Value → Shared → Prop} {s : Shared} {l : Addr} {items : Array Value} (ns : List Int) {Q : Value → Shared → Prop} (hh : A.handled = none) (hl : s.heap.IsList l items) (hit : IntsAre items.toList ns) (hb : ns.length + 1 < scanBound)
    (h : ∀ (h' : Heap) (tk c : Nat), SetR w h' s.heap.objs.size (fun j => decide (j ∈ ns)) c → c ≤ ns.length → (∀ (b : Addr) (o : Obj), s.heap.get? b = some o → h'.get? b = some o) → Q (.ref s.heap.objs.size) { heap := h', gens := s.gens, drawn := s.drawn, toks := tk, os := s.os }) :
    wpAny (model P w) A (call (.type "set") [.ref l]) Q E s := by
  have hisz : items.size = ns.length := by
    have q := hit.length
    rwa [Array.length_toList] at q
  obtain ⟨c, tl, hmro⟩ := F.called_set.mro
  have hmade := F.called_set.made
  have hsub := F.called_set.sub
  refine wpAny_call (codeAny_of_tree ?_)
  refine wpAny_pure ⟨Code.quiet_builtin _ (by decide +kernel), codeAny_builtin F.entry_type_call ?_⟩
  rw [Around.under_plain (weight_type_call_type "set" [.ref l] []) rfl]
  have h1 := F.called_set.notType
  have h2 := F.called_set.canCreate
  have hct := F.typeCall_set_1 (.ref l)
  unfold Builtin.«type.__call__»
  refine wpAny_ite_false rfl (wpAny_ite_false rfl ?_)
  refine wpAny_bind (wpAny_of_eq hct ?_)
  refine wpAny_bind (wpAny_of_eq hmro (wpAny_ite_false rfl ?_))
  refine wpAny_bind (wpAny_of_eq hmade ?_)
  refine wpAny_bind (wpAny_pure (wpAny_bind (wpAny_holding (wpAny_call (codeAny_mono (code_set_led1 (.ref l) (Q₁ := fun obj s₁ => obj = .ref s.heap.objs.size ∧ s₁ = { heap := s.heap.push { cls := .type "set", data := .set #[] 0 (SetTable.fresh 0 0 !w.params.followText "set-order") }, gens := s.gens, drawn := s.drawn, toks := s.toks, os := s.os }) (E := E) ⟨rfl, rfl⟩) fun r s₁ hr => ?_)))))
  cases r with
  | error e => exact hr
  | ok fl =>
    cases fl with
    | next => exact hr.elim
    | brk => exact hr.elim
    | cont => exact hr.elim
    | ret v =>
      obtain ⟨rfl, rfl⟩ := hr
      have hS : (s.heap.push { cls := .type "set", data := .set #[] 0 (SetTable.fresh 0 0 !w.params.followText "set-order") }).get? s.heap.objs.size = _ := Heap.get?_push_size s.heap rfl
      have hT : Shared.TypeIs { heap := s.heap.push { cls := .type "set", data := .set #[] 0 (SetTable.fresh 0 0 !w.params.followText "set-order") }, gens := s.gens, drawn := s.drawn, toks := s.toks, os := s.os } (.ref s.heap.objs.size) "set" := ⟨_, hS, rfl⟩
      have hli := F.called_set.init.lookup
      have hbi := F.called_set.init.bind (.ref s.heap.objs.size)
      refine wpAny_bind (wpAny_isInstance hT hsub (wpAny_ite_false rfl (wpAny_bind (wpAny_holding ?_))))
      unfold callSpecial?
      refine wpAny_bind (wpAny_specialOf hT hli (wpAny_holding (wpAny_bind (wpAny_of_eq hbi (wpAny_bind (wpAny_call (codeAny_mono (R := wants (fun r s₂ => r = Value.none ∧ ∃ h' tk c, s₂ = { heap := h', gens := s.gens, drawn := s.drawn, toks := tk, os := s.os } ∧ SetR w h' s.heap.objs.size (fun j => decide (j ∈ ns)) c ∧ c ≤ ns.length ∧ ∀ (b : Addr) (o : Obj), s.heap.get? b = some o → h'.get? b = some o) E) (codeAny_call_builtin F.called_set.init.plain F.entry_set_init (check_set_init_1 hT ?_)) fun r s₂ hr => ?_)))))))
      · obtain ⟨ol, hol, hcl, nl, hdl⟩ := hl
        obtain ⟨ocls, odict, odata, oslots⟩ := ol
        cases (show ocls = Value.type "list" from hcl)
        cases (show odata = Data.seq items nl from hdl)
        have hol' := Heap.get?_push_of_some { cls := .type "set", data := .set #[] 0 (SetTable.fresh 0 0 !w.params.followText "set-order") } hol
        have hsls := F.sub_list_set
        have hslf := F.sub_list_frozenset
        have hl1 : (s.heap.push { cls := .type "set", data := .set #[] 0 (SetTable.fresh 0 0 !w.params.followText "set-order") }).IsList l items := ⟨_, hol', rfl, nl, rfl⟩
        unfold Builtin.«set.__init__»
        refine wpAny_bind (wpAny_ite_true rfl (wpAny_pure ?_))
        refine wpAny_bind (wpAny_bind (wpAny_bind (wpAny_typeOf hT (wpAny_ite_false rfl (wpAny_pure (wpAny_pure ?_))))))
        refine wpAny_bind ?_
        unfold checkCount
        refine wpAny_ite_false rfl (wpAny_ite_false rfl (wpAny_ite_false rfl (wpAny_pure ?_)))
        refine wpAny_bind ?_
        unfold Builtin.Frozenset.addrOf
        refine wpAny_pure ?_
        refine wpAny_bind ?_
        unfold setUsed
        refine wpAny_bind ?_
        unfold setState
        refine wpAny_bind (wpAny_load' hS (wpAny_ite_false rfl (wpAny_pure (wpAny_pure (wpAny_ite_false rfl ?_)))))
        refine wpAny_bind ?_
        unfold Builtin.Frozenset.updateFrom
        refine wpAny_bind ?_
        unfold Builtin.Frozenset.isAnySet
        refine wpAny_bind (m := isInstance (.ref l) (.type "set")) (wpAny_isInstance hl1.typeIs hsls ?_)
        show wpAny _ _ (isInstance (.ref l) (.type "frozenset")) _ _ _
        refine wpAny_isInstance hl1.typeIs hslf ?_
        refine wpAny_ite_false rfl ?_
        refine wpAny_bind (wpAny_typeOf hl1.typeIs (wpAny_ite_false rfl ?_))
        refine wpAny_bind (wpAny_pyIter_list hl1 ?_)
        refine wpAny_bind (wpAny_runValue ?_)
        have hlS := Heap.lt_size hol
        have hneI : l ≠ (s.heap.push { cls := .type "set", data := .set #[] 0 (SetTable.fresh 0 0 !w.params.followText "set-order") }).objs.size := by
          rw [Heap.size_push]
          exact Nat.ne_of_lt (Nat.lt_succ_of_lt hlS)
        have hSf : ¬ s.heap.objs.size ∈ [(s.heap.push { cls := .type "set", data := .set #[] 0 (SetTable.fresh 0 0 !w.params.followText "set-order") }).objs.size, l] := by
          rw [Heap.size_push]
          intro hm
          rcases List.mem_cons.mp hm with e | e
          · exact Nat.ne_of_lt (Nat.lt_succ_self _) e
          · exact Nat.ne_of_gt hlS (List.mem_singleton.mp e)
        have hval : ∀ (i : Nat) (v : Value), items[i]? = some v → ∃ k t, ns[i]? = some k ∧ v = Value.int k t := fun i v hv => by
          have hi : i < ns.length := by
            rw [← hisz]
            exact (Array.getElem?_eq_some_iff.mp hv).1
          obtain ⟨t, e⟩ := hit.int_at i v (by rw [Array.getElem?_toList]; exact hv)
          exact ⟨ns[i], t, List.getElem?_eq_getElem hi, by rw [e, List.getD_eq_getElem?_getD, List.getElem?_eq_getElem hi]; rfl⟩
        refine set_update_ints (Walks.toS (Walks.list (A := A.in1.in1.in1) (show A.in1.in1.in1.handled = none from hh) _ l hneI items)) s.heap.objs.size hSf ns hisz hb hval (items.size - 0) 0 _ rfl (Nat.zero_le _) ⟨⟨_, Heap.get?_push_size _ rfl, rfl, rfl⟩, hl1.push _⟩ ⟨0, Nat.le_refl 0, setR_new_at (Heap.get?_push_of_some _ hS)⟩ fun s' c' hm hc' hS' => ?_
        obtain ⟨h', g2, d', tk', os'⟩ := s'
        have eg := hm.gens
        have ed := hm.drawn
        have eo := hm.os
        cases eg
        cases ed
        cases eo
        have hk : ∀ (b : Addr) (o : Obj), s.heap.get? b = some o → h'.get? b = some o := fun b o e => by
          have hlt := Heap.lt_size e
          refine hm.heap b o ?_ (Heap.get?_push_of_some _ (Heap.get?_push_of_some _ e))
          intro hb'
          rcases List.mem_cons.mp hb' with e1 | e1
          · exact Nat.ne_of_lt hlt e1
          · rw [List.mem_singleton] at e1
            have e2 : b = s.heap.objs.size + 1 := e1.trans (Heap.size_push ..)
            rw [e2] at hlt
            exact absurd hlt (Nat.not_lt_of_le (Nat.le_succ _))
        exact wpAny_pure (wpAny_pure ⟨rfl, h', tk', c', rfl, hS', by rw [← hisz]; exact hc', hk⟩)
      · cases r with
        | error e => exact hr
        | ok fl =>
          cases fl with
          | next => exact hr.elim
          | brk => exact hr.elim
          | cont => exact hr.elim
          | ret v =>
            obtain ⟨rfl, h', tk, c', rfl, hs, hc, hk⟩ := hr
            exact wpAny_pure (wpAny_ite_false rfl (wpAny_pure (h h' tk c' hs hc hk)))
def rSetL (K : PySem.W.Frag) (w : World) : List V → Hp → VK → Prop := fun xs H Q => ∃ (a : Addr) (ns : List Int), xs = [V.ref a] ∧ SqL K H a (ns.map V.int) ∧ ns.length ≤ 60 ∧ ∀ (p : Addr) (c : Nat), H p = none → c ≤ ns.length → Q (.ref p) (upd H p (SetO w p (fun j => decide (j ∈ ns)) c))
theorem cr_setL {X : Cx} (hc : X.calm = true) : CallR X (.type "set") (rSetL X.K X.w) := by
  intro pins s σ H xs us Q I r h
  obtain ⟨a, ns, rfl, hq, hl, q⟩ := h
  cases r with
  | cons r rr =>
    cases rr
    cases (show _ = Value.ref a from r)
    obtain ⟨its, rv, p, _⟩ := I.list hq
    refine call_set_listI ns (I.ok.hd hc) p.isList (RZ.intsAre_vals rv) (Nat.lt_of_le_of_lt (Nat.succ_le_succ hl) (by decide)) fun h' tk c hs hcn hk => ?_
    refine ⟨.ref _, upd H _ (SetO X.w s.heap.objs.size (fun j => decide (j ∈ ns)) c), I.laid hk (Nat.le_refl _) ⟨hs, ?_, fun h1 h2 x k => ?_⟩, rfl, q _ c (I.hok.fresh (Nat.le_refl _)) hcn⟩
    · obtain ⟨o, _, _, _, e, _⟩ := hs
      exact ⟨o, e⟩
    · obtain ⟨o, es, ep, t, e, r⟩ := x
      exact ⟨o, es, ep, t, k o e, r⟩
theorem op_ltLL {X : Cx} (hu : X.A.units + 64 < cLine) : OpR X (compareOp .Lt) (fun x y H Q => ∃ (a b : Addr) (xs ys : List Int), x = V.ref a ∧ y = V.ref b ∧ SqL X.K H a (xs.map V.int) ∧ SqL X.K H b (ys.map V.int) ∧ Q (.bl (HT.lexLt xs ys)) H) := by
  intro pins s σ H x y v u Q I r1 r2 h
  obtain ⟨a, b, xs, ys, rfl, rfl, h1, h2, q⟩ := h
  cases (show v = Value.ref a from r1)
  cases (show u = Value.ref b from r2)
  obtain ⟨its, rv, p, _⟩ := I.list h1
  obtain ⟨its2, rv2, p2, _⟩ := I.list h2
  have ia := RZ.intsAre_vals rv
  have ib := RZ.intsAre_vals rv2
  have l1 := ia.length
  have l2 := ib.length
  show wpAny _ _ (richCompare .Lt _ _) _ _ s
  refine SeqAt.RcLt.lists (e := fun j => xs.getD j 0 == ys.getD j 0) (r := fun j => decide (xs.getD j 0 < ys.getD j 0)) p.isList p2.isList (by omega) (fun j h1 h2 => ?_) (fun j h1 h2 _ => ?_) _ _ _ _ ?_
  · obtain ⟨t, e⟩ := ints_at ia j (by simpa using h1)
    obtain ⟨t', e'⟩ := ints_at ib j (by simpa using h2)
    rw [List.getElem_toArray, List.getElem_toArray, e, e']
    exact SeqAt.EqAt.int_int _ t _ t'
  · obtain ⟨t, e⟩ := ints_at ia j (by simpa using h1)
    obtain ⟨t', e'⟩ := ints_at ib j (by simpa using h2)
    rw [List.getElem_toArray, List.getElem_toArray, e, e']
    exact rcLt_int _ _ _ t _ t'
  · rw [List.size_toArray, List.size_toArray, l1, l2, first_lex]
    exact ⟨.bl _, H, I, rfl, q⟩
end Lp
set_option Elab.async false
set_option linter.all false
set_option maxRecDepth 100000
namespace Lp
open PySem PySem.Spec PyProof.Rows L2
/-! ### a space, so many times -/
def spc (n : Nat) : Str := ⟨(List.replicate n 32).toArray⟩
theorem spc1 : spc 1 = (" " : Str) := by decide +kernel
theorem spc_len (n : Nat) : (spc n).length = n := by
  show ((List.replicate n 32).toArray).size = n
  rw [List.size_toArray, List.length_replicate]
section
variable {X : Cx}
theorem op_repB : OpR X (binaryOp .Mult) (fun x y H Q => ∃ n : Nat, x = .str (" " : Str) ∧ y = .int (n : Int) ∧ n ≤ 1000 ∧ Q (.str (spc n)) H) := by
  intro pins s σ H x y v u Q I r1 r2 h
  obtain ⟨n, e1, e2, hn, q⟩ := h
  subst e1; subst e2
  obtain ⟨t, rfl⟩ := r1
  obtain ⟨t', rfl⟩ := r2
  have hz : (" " : Str).length = 1 := by decide +kernel
  have hc : (" " : Str).cps = [32].toArray := by decide +kernel
  refine PySem.P.mul_str ?_ (fun c _ => ?_) (fun _ _ => ?_) ?_
  · rw [decide_eq_false (show ¬ (n : Int) < -(2 ^ 63 : Int) by omega), decide_eq_false (show ¬ (n : Int) ≥ 2 ^ 63 by omega)]
    rfl
  · rw [hz]
    have := (Int.le_ediv_iff_mul_le (show (0 : Int) < n by omega)).mpr (show ((1 : Nat) : Int) * (n : Int) ≤ 2 ^ 63 - 1 by omega)
    omega
  · rw [hz]
    unfold Builtin.Str.tooLong
    refine decide_eq_false ?_
    have e : (n : Int).toNat = n := rfl
    have z := zs (show n ≤ 100000 by omega)
    omega
  · by_cases h0 : n = 0
    · subst h0
      rw [if_pos (by decide)]
      exact ⟨by decide, .str _, H, I.tok _, ⟨_, rfl⟩, q⟩
    · rw [if_neg (show ¬ (n : Int) < 1 by omega), hz]
      by_cases h1 : n = 1
      · subst h1
        rw [if_pos (by rfl)]
        rw [spc1] at q
        exact ⟨.str _, H, I, ⟨_, rfl⟩, q⟩
      · have hb : ((n : Int) == 1 || (1 : Nat) == 0) = false := by
          rw [beq_eq_false_iff_ne.mpr (show (n : Int) ≠ 1 by omega)]
          rfl
        rw [hb, if_neg Bool.false_ne_true]
        have e : (n : Int).toNat = n := rfl
        have f0 : List.foldl (fun x1 x2 => x1 ++ x2) #[] (List.replicate n [32].toArray) = (List.replicate n 32).toArray := by
          have := foldl_repN [32] n []
          rw [List.nil_append] at this
          rw [this]
          congr 1
          clear this hb h1 h0 q
          induction n with
          | zero => rfl
          | succ m ih => rw [List.replicate_succ, List.flatten_cons, ih (by omega) rfl, List.replicate_succ]; rfl
        rw [e, hc, f0]
        exact ⟨by rw [show (⟨(List.replicate n 32).toArray⟩ : Str).length = n from spc_len n]; exact zs (by omega), .str _, H, I.tok _, ⟨_, rfl⟩, q⟩
/-! ### an int, written in a form -/
def FmtI (i : Int) (sp y : Str) : Prop := ∀ (prog : Program) (w : World) (A : Around) (E : Value → Shared → Prop) (s : Shared) (t : Tok) (Q : Value → Shared → Prop), (∀ t' k, Q (.str y t') { s with toks := k }) → wpAny (model prog w) A (formatField (.int i t) sp) Q E s
def tFmtS (te ts : TE) : TE := fun σ H Q => te σ H fun x H1 => ts σ H1 fun y H2 => ∃ (i : Int) (f z : Str), x = .int i ∧ y = .str f ∧ FmtI i f z ∧ Q (.str z) H2
theorem pe_fmtS {e sp : Expr} {te ts : TE} {pos : Pos} (he : PE X e te) (hs : PE X sp ts) : PE X (.FormattedValue e (-1) (some sp) pos) (tFmtS te ts) := by
  refine ⟨fun pins s σ H Q I h => ?_⟩
  refine wpAny_FormattedValue_spec (thn (he.run pins s σ H _ I h) fun v s1 ⟨x, H1, I1, r1, q1⟩ => thn (hs.run pins s1 σ H1 _ I1 q1) fun u s2 ⟨y, H2, I2, r2, i, f, z, e1, e2, hf, q⟩ => ?_)
  subst e1
  subst e2
  obtain ⟨t, rfl⟩ := r1
  obtain ⟨t', rfl⟩ := r2
  exact ⟨f, t', rfl, hf _ _ _ _ _ _ _ fun _ _ => ⟨.str z, H2, I2.tok _, ⟨_, rfl⟩, q⟩⟩
end
open Builtin Builtin.Int Builtin.Float in
def fmF (f : FormatSpec) (i : Int) : Str := intField' f (decide (i < 0)) [] ((Nat.toDigits 10 i.natAbs).map fun c => (if (100 : Nat) == 88 then c.toUpper else c).toNat) [] 3
abbrev fs3 : Builtin.Float.FormatSpec := { align := 62, width := some 3 }
abbrev fs4 : Builtin.Float.FormatSpec := { align := 62, width := some 4 }
abbrev fs5 : Builtin.Float.FormatSpec := { align := 62, width := some 5, sign := some 43 }
abbrev fsD : Builtin.Float.FormatSpec := { align := 62, sign := some 43, type := some 100 }
section
open Builtin Builtin.Int Builtin.Float PySem.W
theorem par3 : parseFormatSpec (">3" : Str).cps.toList "int" 62 = .ok fs3 := by kernel_rfl
theorem par4 : parseFormatSpec (">4" : Str).cps.toList "int" 62 = .ok fs4 := by kernel_rfl
theorem par5 : parseFormatSpec (">+5" : Str).cps.toList "int" 62 = .ok fs5 := by kernel_rfl
theorem parD : parseFormatSpec ("+d" : Str).cps.toList "int" 62 = .ok fsD := by kernel_rfl
theorem fmt_3 {i : Int} (hi : i.natAbs.log2 < 1920) (hl : (fmF fs3 i).length ≤ sizeLine) : FmtI i (">3" : Str) (fmF fs3 i) := by
  intro prog w A E s t Q h
  refine KXf.field_int rfl (by decide +kernel) (by decide +kernel) (fun u => KPc.meets_of ?_) h
  intro _ _ _ _ _ _ hh
  unfold Builtin.«int.__format__»; refine wpAny_bind (wpAny_of_eq (a := (_, _)) rfl (wpAny_bind (wpAny_of_eq (a := _) rfl ?_)))
  kxf_if; refine wpAny_bind (wpAny_typeNameOf (T := "str") (typeIs_str _ _ _) (by decide) fun _ => wpAny_bind (wpAny_of_eq (a := some _) rfl ?_))
  kxf_if; kxf_if; refine wpAny_bind (wpAny_typeNameOfCut_int ?_); rw [par3]
  have e100 : (none : Option Nat).getD (if ((">3" : Str).cps.back? == some 0) = true then 0 else 100) = 100 := by decide +kernel
  dsimp only
  rw [e100]
  refine wpAny_ite (KPc.ite_yes (by decide +kernel) ?_)
  refine wpAny_bind (m := Builtin.overDigitLimit? i) (wpAny_of_eq (PySem.overDigitLimit_small hi) (KXf.ret_text (T := fmF fs3 i) rfl hl ?_))
  assumption
theorem fmt_4 {i : Int} (hi : i.natAbs.log2 < 1920) (hl : (fmF fs4 i).length ≤ sizeLine) : FmtI i (">4" : Str) (fmF fs4 i) := by
  intro prog w A E s t Q h
  refine KXf.field_int rfl (by decide +kernel) (by decide +kernel) (fun u => KPc.meets_of ?_) h
  intro _ _ _ _ _ _ hh
  unfold Builtin.«int.__format__»; refine wpAny_bind (wpAny_of_eq (a := (_, _)) rfl (wpAny_bind (wpAny_of_eq (a := _) rfl ?_)))
  kxf_if; refine wpAny_bind (wpAny_typeNameOf (T := "str") (typeIs_str _ _ _) (by decide) fun _ => wpAny_bind (wpAny_of_eq (a := some _) rfl ?_))
  kxf_if; kxf_if; refine wpAny_bind (wpAny_typeNameOfCut_int ?_); rw [par4]
  have e100 : (none : Option Nat).getD (if ((">4" : Str).cps.back? == some 0) = true then 0 else 100) = 100 := by decide +kernel
  dsimp only
  rw [e100]
  refine wpAny_ite (KPc.ite_yes (by decide +kernel) ?_)
  refine wpAny_bind (m := Builtin.overDigitLimit? i) (wpAny_of_eq (PySem.overDigitLimit_small hi) (KXf.ret_text (T := fmF fs4 i) rfl hl ?_))
  assumption
theorem fmt_5 {i : Int} (hi : i.natAbs.log2 < 1920) (hl : (fmF fs5 i).length ≤ sizeLine) : FmtI i (">+5" : Str) (fmF fs5 i) := by
  intro prog w A E s t Q h
  refine KXf.field_int rfl (by decide +kernel) (by decide +kernel) (fun u => KPc.meets_of ?_) h
  intro _ _ _ _ _ _ hh
  unfold Builtin.«int.__format__»; refine wpAny_bind (wpAny_of_eq (a := (_, _)) rfl (wpAny_bind (wpAny_of_eq (a := _) rfl ?_)))
  kxf_if; refine wpAny_bind (wpAny_typeNameOf (T := "str") (typeIs_str _ _ _) (by decide) fun _ => wpAny_bind (wpAny_of_eq (a := some _) rfl ?_))
  kxf_if; kxf_if; refine wpAny_bind (wpAny_typeNameOfCut_int ?_); rw [par5]
  have e100 : (none : Option Nat).getD (if ((">+5" : Str).cps.back? == some 0) = true then 0 else 100) = 100 := by decide +kernel
  dsimp only
  rw [e100]
  refine wpAny_ite (KPc.ite_yes (by decide +kernel) ?_)
  refine wpAny_bind (m := Builtin.overDigitLimit? i) (wpAny_of_eq (PySem.overDigitLimit_small hi) (KXf.ret_text (T := fmF fs5 i) rfl hl ?_))
  assumption
theorem fmt_D {i : Int} (hi : i.natAbs.log2 < 1920) (hl : (fmF fsD i).length ≤ sizeLine) : FmtI i ("+d" : Str) (fmF fsD i) := by
  intro prog w A E s t Q h
  refine KXf.field_int rfl (by decide +kernel) (by decide +kernel) (fun u => KPc.meets_of ?_) h
  intro _ _ _ _ _ _ hh
  unfold Builtin.«int.__format__»; refine wpAny_bind (wpAny_of_eq (a := (_, _)) rfl (wpAny_bind (wpAny_of_eq (a := _) rfl ?_)))
  kxf_if; refine wpAny_bind (wpAny_typeNameOf (T := "str") (typeIs_str _ _ _) (by decide) fun _ => wpAny_bind (wpAny_of_eq (a := some _) rfl ?_))
  kxf_if; kxf_if; refine wpAny_bind (wpAny_typeNameOfCut_int ?_); rw [parD]
  have e100 : (some 100 : Option Nat).getD (if (("+d" : Str).cps.back? == some 0) = true then 0 else 100) = 100 := by decide +kernel
  dsimp only
  rw [e100]
  refine wpAny_ite (KPc.ite_yes (by decide +kernel) ?_)
  refine wpAny_bind (m := Builtin.overDigitLimit? i) (wpAny_of_eq (PySem.overDigitLimit_small hi) (KXf.ret_text (T := fmF fsD i) rfl hl ?_))
  assumption
end
end Lp
set_option Elab.async false
set_option linter.all false
set_option maxRecDepth 100000
namespace Lp
open PySem PySem.Spec PyProof.Rows L2
/-! ### dict comprehensions over a range -/
theorem dc_range {lo : Int} {n : Nat} {g : TG} {tt : TT} {tk tv : TE} {vs : List Nat} {σ : L2.St} {H1 : Hp} {D : Addr} {Qd : Hp → Prop} (Pv : Nat → Hp → Prop) (h0 : Pv 0 (upd H1 D (.dK [])))
    (hs : ∀ (i : Nat) (H : Hp), i < n → Pv i H → g (.int (lo + i)) (wipe σ vs) H fun σ2 H2 => wipe σ2 vs = wipe σ vs ∧ tt σ2 H2 fun b H3 =>
      if b = true then tk σ2 H3 fun y H4 => tv σ2 H4 fun z H5 => ∃ kvs k, y = kV k ∧ H5 D = some (.dK kvs) ∧ kvs.length < sizeLine ∧ Pv (i + 1) (upd H5 D (.dK (putK kvs k z))) else Pv (i + 1) H3) (hd : ∀ H, Pv n H → Qd H) :
    ∃ W : Nat → Nat → Hp → Prop, (∃ m, W 0 m (upd H1 D (.dK []))) ∧ ∀ i m H, W i m H →
      ((Itr lo n).stop i H ∧ Qd H) ∨ ((Itr lo n).go i H ∧ ∃ Nx : Hp → Prop, (∀ H', Nx H' → ∃ m', m' < m ∧ W (i + 1) m' H') ∧ ∀ x H', (Itr lo n).yld i H x H' → g x (wipe σ vs) H' fun σ2 H2 => wipe σ2 vs = wipe σ vs ∧ tt σ2 H2 fun b H3 =>
        if b = true then tk σ2 H3 fun y H4 => tv σ2 H4 fun z H5 => ∃ kvs k, y = kV k ∧ H5 D = some (.dK kvs) ∧ kvs.length < sizeLine ∧ Nx (upd H5 D (.dK (putK kvs k z))) else Nx H3) := by
  refine ⟨fun i m H => m = n - i ∧ i ≤ n ∧ Pv i H, ⟨n, by simp, Nat.zero_le _, h0⟩, ?_⟩
  rintro i m H ⟨rfl, hi, pv⟩
  rcases Nat.lt_or_ge i n with hlt | hge
  · refine .inr ⟨hlt, Pv (i + 1), fun H' p' => ⟨n - (i + 1), by omega, rfl, hlt, p'⟩, fun x H' y => ?_⟩
    obtain ⟨rfl, rfl⟩ := y
    exact hs i _ hlt pv
  · have e : i = n := by omega
    subst e
    exact .inl ⟨Nat.le_refl _, hd H pv⟩
/-! ### words with single spaces between -/
abbrev jn (l : List Str) : Str := Str.join (" " : Str) l
theorem jn_snoc (x : Str) : ∀ l : List Str, jn (l ++ [x]) = if l = [] then x else jn l ++ (" " : Str) ++ x
  | [] => rfl
  | [y] => rfl
  | y :: z :: r => by
    have ih := jn_snoc x (z :: r)
    rw [if_neg (by simp)] at ih
    rw [if_neg (by simp)]
    show y ++ (" " : Str) ++ jn (z :: r ++ [x]) = y ++ (" " : Str) ++ jn (z :: r) ++ (" " : Str) ++ x
    rw [ih]
    simp only [Str.append_assoc]
theorem space1 : (" " : Str) = ⟨#[32]⟩ := by decide +kernel
def jc : List (List Nat) → List Nat
  | [] => []
  | [x] => x
  | x :: y :: r => x ++ 32 :: jc (y :: r)
theorem jn_jc : ∀ l : List Str, (jn l).cps.toList = jc (l.map fun x => x.cps.toList)
  | [] => rfl
  | [x] => rfl
  | x :: y :: r => by
    have ih := jn_jc (y :: r)
    show (x ++ (" " : Str) ++ jn (y :: r)).cps.toList = x.cps.toList ++ 32 :: jc ((y :: r).map fun x => x.cps.toList)
    rw [← ih, space1, Str.cps_append, Str.cps_append]
    simp
theorem cut32 : ∀ {x y a b : List Nat}, 32 ∉ x → 32 ∉ y → x ++ 32 :: a = y ++ 32 :: b → x = y ∧ a = b
  | [], [], a, b, _, _, h => ⟨rfl, (List.cons.inj h).2⟩
  | [], c :: y, a, b, _, hy, h => absurd ((List.cons.inj h).1 ▸ List.mem_cons_self) hy
  | c :: x, [], a, b, hx, _, h => absurd ((List.cons.inj h).1 ▸ List.mem_cons_self) hx
  | c :: x, d :: y, a, b, hx, hy, h => by
    obtain ⟨e1, e2⟩ := List.cons.inj h
    obtain ⟨e3, e4⟩ := cut32 (fun z => hx (List.mem_cons_of_mem _ z)) (fun z => hy (List.mem_cons_of_mem _ z)) e2
    exact ⟨by rw [e1, e3], e4⟩
theorem jc_inj : ∀ {l m : List (List Nat)}, l ≠ [] → m ≠ [] → (∀ x ∈ l, 32 ∉ x) → (∀ x ∈ m, 32 ∉ x) → jc l = jc m → l = m
  | [], _, h, _, _, _, _ => absurd rfl h
  | _ :: _, [], _, h, _, _, _ => absurd rfl h
  | [x], [y], _, _, _, _, h => by rw [show x = y from h]
  | [x], y :: z :: r, _, _, hx, _, h => absurd (show 32 ∈ x by rw [show x = y ++ 32 :: jc (z :: r) from h]; simp) (hx x List.mem_cons_self)
  | x :: z :: r, [y], _, _, _, hy, h => absurd (show 32 ∈ y by rw [← show x ++ 32 :: jc (z :: r) = y from h]; simp) (hy y List.mem_cons_self)
  | x :: z :: r, y :: u :: s, _, _, hx, hy, h => by
    obtain ⟨e1, e2⟩ := cut32 (hx x List.mem_cons_self) (hy y List.mem_cons_self) (show x ++ 32 :: jc (z :: r) = y ++ 32 :: jc (u :: s) from h)
    rw [e1, jc_inj (l := z :: r) (m := u :: s) (by simp) (by simp) (fun q hq => hx q (List.mem_cons_of_mem _ hq)) (fun q hq => hy q (List.mem_cons_of_mem _ hq)) e2]
theorem map_cps_inj : ∀ {l m : List Str}, (l.map fun x => x.cps.toList) = (m.map fun x => x.cps.toList) → l = m
  | [], [], _ => rfl
  | [], _ :: _, h => nomatch h
  | _ :: _, [], h => nomatch h
  | x :: l, y :: m, h => by
    obtain ⟨e1, e2⟩ := List.cons.inj h
    have e3 : x = y := Str.ext' (Array.toList_inj.mp e1)
    rw [e3, map_cps_inj e2]
theorem split_jn {l : List Str} (h : l ≠ []) (hf : ∀ x ∈ l, 32 ∉ x.cps.toList) : Txt.split (jn l) (" " : Str) = l := by
  have e1 : jn (Txt.split (jn l) (" " : Str)) = jn l := StrLaws.join_split _ _
  have e2 : ∀ p ∈ Txt.split (jn l) (" " : Str), 32 ∉ p.cps.toList := by
    rw [space1]
    exact StrLaws.split_free _ 32
  have e3 : Txt.split (jn l) (" " : Str) ≠ [] := fun z => by
    have := split_pos (jn l) (" " : Str)
    rw [z] at this
    simp at this
  refine map_cps_inj (jc_inj (by simpa using e3) (by simpa using h) ?_ ?_ ?_)
  · intro x hx
    obtain ⟨p, hp, rfl⟩ := List.mem_map.mp hx
    exact e2 p hp
  · intro x hx
    obtain ⟨p, hp, rfl⟩ := List.mem_map.mp hx
    exact hf p hp
  · rw [← jn_jc, ← jn_jc, e1]
end Lp
set_option Elab.async false
set_option linter.all false
set_option maxRecDepth 100000
namespace Lp
open PySem PySem.Spec PyProof.Rows L2
/-! ### defs, methods, classes, properties that may be used by their names -/
structure Cal (P : Program) (w : World) (K : PySem.W.Frag) (mg : Str → Option Value) (base : Heap) (k : Nat) (x : Str) (sp : Sp) : Prop where
  ex : ∃ (f : Addr) (fd : FuncData) (ps : List Str), FnOk P w K mg base CX0 k f fd ps sp ∧ mg x = some (.ref f) ∧ PySem.W.keepIn K (.ref f) = true ∧ Binds K fd ps []
structure Met (P : Program) (w : World) (K : PySem.W.Frag) (mg : Str → Option Value) (base : Heap) (k : Nat) (C : Addr) (m : Str) (sp : Sp) : Prop where
  ex : ∃ (f : Addr) (fd : FuncData) (ps : List Str), Cls K C ∧ Meth K C m f ∧ FnOk P w K mg base CX0 k f fd ps sp ∧ Binds K fd ps []
structure Mak (P : Program) (w : World) (K : PySem.W.Frag) (mg : Str → Option Value) (base : Heap) (k : Nat) (x : Str) (C : Addr) (sp : Sp) : Prop where
  ex : ∃ (f : Addr) (fd : FuncData) (ps : List Str), Mk K C f ∧ FnOk P w K mg base CX0 k f fd ps sp ∧ mg x = some (.ref C) ∧ Binds K fd ps []
structure Prp (P : Program) (w : World) (K : PySem.W.Frag) (mg : Str → Option Value) (base : Heap) (k : Nat) (C : Addr) (f : Str) (sp : Sp) : Prop where
  ex : ∃ (p g : Addr) (fd : FuncData) (ps : List Str), Cls K C ∧ PropOf K C f p g ∧ FnOk P w K mg base CX0 k g fd ps sp ∧ Binds K fd ps []
theorem Cal.gc {P : Program} {w : World} {K : PySem.W.Frag} {mg : Str → Option Value} {base : Heap} {k : Nat} {x : Str} {sp : Sp} (c : Cal P w K mg base k x sp) : Gc P w K mg base k x sp := by
  obtain ⟨f, fd, ps, F, h⟩ := c.ex
  exact ⟨f, fd, ps, .of F, h⟩
section
variable {X : Cx} {k j : Nat} {C : Addr} {x m f : Str} {sp : Sp} {p pos apos : Pos} {e o : Expr} {es : List Expr} {ta : TE} {t : TA}
theorem pe_c (c : Cal X.prog X.w X.K X.mg X.base k x sp) (hr : Room j X.A) (hk : k ≤ j) (hg : Gl X x) (ha : PA X (e :: es) t)
    (hdb : (x == ("__debug__" : Str)) = false := by decide) (he : starEach (e :: es) X.env = (false, eval e X.env) :: starEach es X.env := by rfl) (hpl : (backTo pos (starEach es X.env)).any (·.1) = false := by rfl) :
    PE X (.Call (.Name x p) (e :: es) [] pos) (tCall sp [] E0 t) := by
  obtain ⟨g, fd, ps, F, hm, kp, b⟩ := c.ex
  exact pe_call F (hr.mono hk) hg hm kp b .nil pass0 ha hdb he hpl
theorem pe_mk (c : Mak X.prog X.w X.K X.mg X.base k x C sp) (hr : Room j X.A) (hk : k + 1 ≤ j) (hg : Gl X x) (ha : PA X (e :: es) t)
    (hdb : (x == ("__debug__" : Str)) = false := by decide) (he : starEach (e :: es) X.env = (false, eval e X.env) :: starEach es X.env := by rfl) (hpl : (backTo pos (starEach es X.env)).any (·.1) = false := by rfl) :
    PE X (.Call (.Name x p) (e :: es) [] pos) (tMake C sp [] E0 t) := by
  obtain ⟨g, fd, ps, M, F, hm, b⟩ := c.ex
  exact pe_make M F (hr.mono hk) hg hm b .nil pass0 ha hdb he hpl
theorem pe_mt {pl : Sem Bool} (c : Met X.prog X.w X.K X.mg X.base k C m sp) (hr : Room j X.A) (hk : k ≤ j) (he : PE X o ta) (ha : PA X (e :: es) t)
    (hst : starEach (e :: es) X.env = (false, eval e X.env) :: starEach es X.env := by rfl) (hpl : (backTo pos (starEach es X.env)).any (·.1) = false := by rfl)
    (ht : eval (.Call (.Attribute o m apos) (e :: es) [] pos) X.env = (eval o X.env >>= fun ov => standAt apos.atName >>= fun _ => holding [ov] (getMethod ov m pl) >>= fun r => callWith pos r.1 r.2 (backTo pos (starEach (e :: es) X.env)) (backToKw pos (keywordEach [] X.env))) := by rfl) :
    PE X (.Call (.Attribute o m apos) (e :: es) [] pos) (tMeth C m sp [] E0 ta t) := by
  obtain ⟨g, fd, ps, hc, hm, F, b⟩ := c.ex
  exact pe_meth (pl := pl) he hc hm F (hr.mono hk) b .nil pass0 ha hst hpl ht
theorem pe_mt0 {pl : Sem Bool} (c : Met X.prog X.w X.K X.mg X.base k C m sp) (hr : Room j X.A) (hk : k ≤ j) (he : PE X o ta)
    (ht : eval (.Call (.Attribute o m apos) [] [] pos) X.env = (eval o X.env >>= fun ov => standAt apos.atName >>= fun _ => holding [ov] (getMethod ov m pl) >>= fun r => callWith pos r.1 r.2 (backTo pos (starEach [] X.env)) (backToKw pos (keywordEach [] X.env))) := by rfl) :
    PE X (.Call (.Attribute o m apos) [] [] pos) (tMeth C m sp [] E0 ta tNil) := by
  obtain ⟨g, fd, ps, hc, hm, F, b⟩ := c.ex
  exact pe_meth0 (pl := pl) he hc hm F (hr.mono hk) b .nil pass0 ht
theorem pe_pr (c : Prp X.prog X.w X.K X.mg X.base k C f sp) (hr : Room j X.A) (hk : k + 1 ≤ j) (he : PE X e ta) (hab : attributeBase e f X.env (eval e X.env) = eval e X.env := by rfl) : PE X (.Attribute e f pos) (tProp C sp [] E0 ta) := by
  obtain ⟨p, g, fd, ps, hc, hp, F, b⟩ := c.ex
  exact pe_prop he hc hp F (hr.mono hk) b .nil pass0 hab
end
/-! ### slices that end one before the end -/
theorem cut_init (xs : List V) : cutV xs none (some (-1)) = xs.dropLast := by
  have e : HT.sIx xs.length xs.length (some (-1)) = xs.length - 1 := by
    show (if (-1 : Int) < 0 then ((-1 : Int) + (xs.length : Int)).toNat else min (-1 : Int).toNat xs.length) = _
    rw [if_pos (by decide)]
    omega
  unfold cutV
  rw [HT.sIx_none, e, List.drop_zero, Nat.sub_zero, List.dropLast_eq_take]
end Lp
set_option Elab.async false
set_option linter.all false
set_option maxRecDepth 100000
namespace Lp
open PySem PySem.Spec PyProof.Rows L2
/-! ### methods that may raise, called where it is caught -/
structure MetX (P : Program) (w : World) (K : PySem.W.Frag) (mg : Str → Option Value) (base : Heap) (k : Nat) (C : Addr) (m : Str) (sp : Sp) : Prop where
  ex : ∃ (f : Addr) (fd : FuncData) (ps : List Str), Cls K C ∧ Meth K C m f ∧ FnOk P w K mg base (L2.CX P w) k f fd ps sp ∧ Binds K fd ps []
def tMtX0 (C : Addr) (m : Str) (sp : Sp) (W : WX) (ta : TE) : TE := fun σ H Q => ta σ H fun x H1 => ∃ a dx fs, x = .ref a ∧ H1 a = some (.ins C dx fs) ∧ fs.lookup m = none ∧ sp [x] H1 Q (WE W σ)
/-- classes made by keywords alone -/
structure MakK (P : Program) (w : World) (K : PySem.W.Frag) (mg : Str → Option Value) (base : Heap) (k : Nat) (x : Str) (C : Addr) (ks : List Str) (gV : List V → List V → List V) (sp : Sp) : Prop where
  ex : ∃ (f : Addr) (fd : FuncData) (ps : List Str) (g : List Value → List Value → List Value), Mk K C f ∧ FnOk P w K mg base CX0 k f fd ps sp ∧ mg x = some (.ref C) ∧ KBn K fd ps 1 ks g gV
section
variable {X : Cx} {k j : Nat} {C : Addr} {x m : Str} {sp : Sp} {p pos apos : Pos} {o : Expr} {ta : TE} {tk' : TA} {kws : List Keyword} {ks : List Str} {gV : List V → List V → List V}
theorem pe_mtX0 {pl : Sem Bool} {W : WX} (c : MetX X.prog X.w X.K X.mg X.base k C m sp) (hr : Room j X.A) (hk : k ≤ j) (tk : Takes X W) (he : PE X o ta)
    (ht : eval (.Call (.Attribute o m apos) [] [] pos) X.env = (eval o X.env >>= fun ov => standAt apos.atName >>= fun _ => holding [ov] (getMethod ov m pl) >>= fun r => callWith pos r.1 r.2 (backTo pos (starEach [] X.env)) (backToKw pos (keywordEach [] X.env))) := by rfl) :
    PE X (.Call (.Attribute o m apos) [] [] pos) (tMtX0 C m sp W ta) := by
  obtain ⟨g, fd, ps, hc, hm, F, b⟩ := c.ex
  refine ⟨fun pins s σ H Q I h => ?_⟩
  refine PySem.W.methodCall_KW (pl := pl) (thn (he.run pins s σ H _ I h) fun u s1 ⟨y, H1, I1, rx, a, dx, fs, ex, ea, l, q⟩ => ?_) ht
  subst ex
  obtain rfl : u = Value.ref a := rx
  refine getmeth_ok I1 ea hc hm l (PySem.W.callWith_K0 (first := [.ref a]) I1.kIn hm.kp ?_)
  exact run_fnS (us := [.ref a]) (vs := [.ref a]) F (hr.mono hk) b (passAt tk σ) I1 (.cons rfl .nil) q
theorem pe_mkK (c : MakK X.prog X.w X.K X.mg X.base k x C ks gV sp) (hr : Room j X.A) (hk : k + 1 ≤ j) (hg : Gl X x) (hkw : PK X kws tk')
    (hall : (backToKw pos (keywordEach kws X.env)).all (·.1.isSome) = true := by rfl) (hks : (backToKw pos (keywordEach kws X.env)).filterMap (·.1) = ks := by rfl) (hdb : (x == ("__debug__" : Str)) = false := by decide)
    (hpl : ((backTo pos (starEach [] X.env)).any (·.1) || (backToKw pos (keywordEach kws X.env)).any (·.1.isNone)) = false := by rfl) : PE X (.Call (.Name x p) [] kws pos) (tMakeK C 0 ks.length sp gV E0 tNil tk') := by
  obtain ⟨f, fd, ps, g, M, F, hm, hb⟩ := c.ex
  exact pe_makeK0 M F (hr.mono hk) hg hm hb pass0 hkw hall hks hdb hpl
end
end Lp
set_option Elab.async false
set_option linter.all false
set_option maxRecDepth 100000
set_option maxHeartbeats 1000000
namespace Lp
open PySem PySem.Spec PyProof.Rows L2 GenW
/-! ### yield from a list -/
section
variable {prog : Program} {w : World} {A : Around} {E : Value → Shared → Prop} {s : Shared}
theorem special_lst_item {it l : Addr} {i : Nat} {items : Array Value} {x : Value} {Q : Option Value → Shared → Prop} (hit : s.heap.IsListIter it l i)
    (hl : s.heap.IsList l items) (hx : items[i]? = some x)
    (hQ : ∀ h', h'.IsListIter it l (i + 1) → Heap.SameBut it s.heap h' → Q (some x) { s with heap := h' }) :
    wpAny (model prog w) A (callSpecial? (.ref it) "__next__") Q E s := by
  obtain ⟨o, ho, hc, hd⟩ := id hit
  obtain ⟨ol, hol, _, nl, hdl⟩ := hl
  refine wpAny_callSpecial?_slot (name := Str.ofString "__next__") hit.typeIs slot_listiter_next (wpAny_call_entry slot_listiter_next hit.typeIs entry_listiter_next ?_ (args_listiter_next _))
  show wpAny _ _ (field (.ref it) 0 >>= _) _ _ s
  refine wpAny_bind (wpAny_field ho hd (x := .ref l) rfl ?_)
  show wpAny _ _ (if (Value.ref l == Value.none) = true then _ else _) _ _ s
  rw [if_neg (show ¬ ((Value.ref l == Value.none) = true) from Bool.false_ne_true)]
  show wpAny _ _ (field (.ref it) 1 >>= _) _ _ s
  refine wpAny_bind (wpAny_field ho hd (x := .int i 0) rfl ?_)
  show wpAny _ _ (seqItems? (.ref l) >>= _) _ _ s
  refine wpAny_bind (wpAny_seqItems hol hdl ?_)
  simp only [Int.toNat_natCast, hx]
  refine wpAny_bind (wpAny_setField ho hd (by simp) (wpAny_pure ⟨x, rfl, hQ _ ?_ (Heap.SameBut.update ..)⟩))
  exact ⟨_, Heap.get?_update_self _ ho (Obj.isFreed_of_fields (Obj.data_mapFields hd _)), (Obj.cls_mapFields ..).trans hc, by
    rw [Obj.data_mapFields hd]; simp [rawInt]⟩
theorem special_lst_end {it l : Addr} {i : Nat} {items : Array Value} {Q : Option Value → Shared → Prop} (hh : A.handled = none) (hit : s.heap.IsListIter it l i) (hl : s.heap.IsList l items) (hx : items[i]? = none)
    (hE : ∀ e h', StopX e h' → Heap.ExtBut it s.heap h' → E e { s with heap := h' }) : wpAny (model prog w) A (callSpecial? (.ref it) "__next__") Q E s := by
  obtain ⟨o, ho, hc, hd⟩ := id hit
  obtain ⟨ol, hol, _, nl, hdl⟩ := hl
  refine wpAny_callSpecial?_slot (name := Str.ofString "__next__") hit.typeIs slot_listiter_next (wpAny_call_entry slot_listiter_next hit.typeIs entry_listiter_next ?_ (args_listiter_next _))
  show wpAny _ _ (field (.ref it) 0 >>= _) _ _ s
  refine wpAny_bind (wpAny_field ho hd (x := .ref l) rfl ?_)
  show wpAny _ _ (if (Value.ref l == Value.none) = true then _ else _) _ _ s
  rw [if_neg (show ¬ ((Value.ref l == Value.none) = true) from Bool.false_ne_true)]
  show wpAny _ _ (field (.ref it) 1 >>= _) _ _ s
  refine wpAny_bind (wpAny_field ho hd (x := .int i 0) rfl ?_)
  show wpAny _ _ (seqItems? (.ref l) >>= _) _ _ s
  refine wpAny_bind (wpAny_seqItems hol hdl ?_)
  simp only [Int.toNat_natCast, hx]
  refine wpAny_bind (wpAny_rule (wpAny_bind (wpAny_setField ho hd (by simp) ?_)))
  show wpAny _ _ (newExc (.type "StopIteration") [] >>= _) _ _ _
  refine wpAny_bind ?_
  simp only [newExc, newTuple]
  refine wpAny_bind (wpAny_newObj_type ?_ (by size_fits))
  refine wpAny_bind (m := firstArgMember _ _) (wpAny_of_eq (a := Value.none) (by first | rfl | (simp only [firstArgMember]; rfl)) ?_)
  refine wpAny_newObj_type ?_ (by size_fits)
  simp only [raiseNew]
  refine wpAny_bind (wpAny_handled ?_)
  first | rw [show A.in1.handled = none from hh] | rw [hh]
  refine wpAny_bind (wpAny_pure (wpAny_throw ?_))
  refine hE _ _ ⟨_, _, _, rfl, Heap.get?_push_size _ rfl, rfl, rfl, ?_⟩ (((Heap.SameBut.update ..).extBut.push _).push _)
  first
    | rfl
    | (rw [Array.getElem?_append_left (by decide)]; rfl)
    | kernel_rfl
end
section
variable {X : Cx} {e : Expr} {te : TE}
def tYfLst (te : TE) : TYf := fun σ H Q => te σ H fun x H1 => ∃ a xs, x = .ref a ∧ H1 a = some (.lst xs) ∧ Q xs H1
theorem close_lst : typeLookup (.type "list_iterator") "close" = pure none := by rw [typeLookup_type, builtinLookup_eq_fast]; kernel_rfl
theorem yf_lst (he : PE X e te) : YfE X e (tYfLst te) := by
  refine ⟨fun pins s σ H Q I h => ?_⟩
  refine thn (he.run pins s σ H _ I h) fun v s1 ⟨x, H1, I1, r1, a, xs, ex, ha, hq⟩ => ?_
  subst ex
  obtain rfl : v = Value.ref a := r1
  obtain ⟨hlen, its, c, rits, hg⟩ := I1.hok a _ ha
  have ht : s1.heap.IsList a its.toArray := ⟨_, hg, rfl, _, rfl⟩
  refine ⟨"list", ht.typeIs, by decide, wpAny_pyIter_list ht ?_⟩
  have ksz : ∀ b o, s1.heap.get? b = some o → b ≠ s1.heap.objs.size := fun b o e => Nat.ne_of_lt (Heap.lt_size e)
  have kp : ∀ b o, s1.heap.get? b = some o → (s1.heap.push { cls := .type "list_iterator", data := .fields #[.ref a, .int 0 0] }).get? b = some o := fun b o e => Heap.get?_push_of_some _ e
  refine ⟨s1.heap.objs.size, H1, xs, fun j h => h.IsListIter s1.heap.objs.size a j ∧ h.IsList a its.toArray, rfl, I1.kept (t' := s1.toks) kp, .inr I1.sz, Nat.ne_of_gt I1.lt, fun y c hy => ?_, I1.hok.fresh (Nat.le_refl _), fun p hp => ?_,
    ⟨⟨_, Heap.get?_push_size _ rfl, rfl, rfl⟩, ⟨_, kp _ _ hg, rfl, _, rfl⟩⟩, ⟨⟨"list_iterator", fun j h q => ?_, close_lst, by decide⟩, fun j h h' q hk => ?_, fun A' j x s2 Q' E' hA hx q hQ => ?_, fun A' s2 Q' E' hA q hE => ?_⟩, hq⟩
  · obtain ⟨v, o, ho, _⟩ := I1.cell y c hy
    exact ksz c o ho
  · exact ksz p.1 _ (I1.pin p hp).1
  · obtain ⟨⟨o, ho, hc, _⟩, _⟩ := q
    exact ⟨o, ho, hc⟩
  · obtain ⟨⟨o, ho, r⟩, o2, ho2, r2⟩ := q
    exact ⟨⟨o, hk _ o (.inl rfl) ho, r⟩, o2, hk _ o2 (.inr (by rw [ha]; exact fun z => by cases z)) ho2, r2⟩
  · obtain ⟨q1, q2⟩ := q
    obtain ⟨u, hu, ru⟩ := rits.get hx
    have hne : a ≠ s1.heap.objs.size := Nat.ne_of_lt (Heap.lt_size hg)
    exact special_lst_item q1 q2 (x := u) (by simpa using hu) fun h' q1' hs => hQ u h' s2.toks ru ⟨q1', (by obtain ⟨o2, ho2, r2⟩ := q2; exact ⟨o2, hs.extBut _ _ hne ho2, r2⟩)⟩ fun b o hb eb => hs.extBut b o hb eb
  · obtain ⟨q1, q2⟩ := q
    have hnone : its.toArray[xs.length]? = none := by
      have e := rits.length
      have e2 : its[xs.length]? = none := List.getElem?_eq_none_iff.mpr (by omega)
      simpa using e2
    exact special_lst_end hA q1 q2 hnone fun e h' hS hk => hE e h' s2.toks hS fun b o hb eb => hk b o hb eb
end
/-! ### generator defs by their names -/
section
variable {P : Program} {w : World} {K : PySem.W.Frag} {mg : Str → Option Value} {base : Heap}
theorem okGen {x qual : Str} {st : Stmt} {f : Addr} {fd : FuncData} {N ps : List Str} {k : Nat} {sp : SpG} (F : Fun K x qual st f fd) (S : GScope N ps (defScope st)) (ln : ∀ vs H Q E, sp vs H Q E → vs.length = ps.length)
    (hb : ∀ (cdv : Value) (A : Around) (outer : List Env) (s : Shared) (H : Hp) (vs : List V) (Q : List V → Hp → Prop) (E : XK) (pn : List (Addr × Obj)), Room k (A.deeper (envOfC qual (defScope st) s.heap.objs.size f cdv)) → sp vs H Q E →
      ∃ t, GSs (gcxOf P w K mg base N qual (defScope st) f cdv A outer s H E pn) (defBody st) t ∧ t { nx := fun ys _ H' => Q ys H', rt := fun ys v H' => v = .non ∧ Q ys H' } [] (start N vs) H) : GFn P w K mg base (k + 1) f fd ps sp := by
  obtain ⟨oc, od, kV, doc, pm, an, cdv, ct, osl, rfl, lk, hcd⟩ := F.ex
  exact gfn_of lk hcd S ln (hb cdv)
structure Gnr (P : Program) (w : World) (K : PySem.W.Frag) (mg : Str → Option Value) (base : Heap) (k : Nat) (x : Str) (sp : SpG) : Prop where
  ex : ∃ (f : Addr) (fd : FuncData) (ps : List Str), GFn P w K mg base k f fd ps sp ∧ mg x = some (.ref f) ∧ PySem.W.keepIn K (.ref f) = true ∧ Binds K fd ps []
end
section
variable {X : Cx} {k j : Nat} {x nm : Str} {sp : SpG} {p p2 pos pos' : Pos} {e : Expr} {es : List Expr} {t : TA}
theorem noStop0 {K : PySem.W.Frag} : NoStop K E0 := fun _ _ _ h => h.elim
theorem passes0 : Passes (CX X.prog X.w) X E0 := fun pins σ H s1 e s' I h => by
  obtain ⟨a, B, H', cls, d, _, _, _, _, _, _, _, z⟩ := h
  exact z.elim
/-- list(f(e, ..)) of a generator def -/
theorem pe_lg (c : Gnr X.prog X.w X.K X.mg X.base k x sp) (hr : Room j X.A) (hk : k + 3 ≤ j) (hg : Gl X x) (ha : PA X (e :: es) t) (hg2 : Gl X nm) (hmg : X.mg nm = none) (hv : bootBuiltins nm = some (.type "list")) (hnm : nm ≠ "__name__" := by decide) (hdb2 : (nm == ("__debug__" : Str)) = false := by decide)
    (hdb : (x == ("__debug__" : Str)) = false := by decide) (he : starEach (e :: es) X.env = (false, eval e X.env) :: starEach es X.env := by rfl) (hpl : (backTo pos' (starEach es X.env)).any (·.1) = false := by rfl)
    (he2 : starEach [.Call (.Name x p2) (e :: es) [] pos'] X.env = (false, eval (.Call (.Name x p2) (e :: es) [] pos') X.env) :: starEach [] X.env := by rfl) :
    PE X (.Call (.Name nm p) [.Call (.Name x p2) (e :: es) [] pos'] [] pos) (tListG (L2.tCallG sp [] E0 t)) := by
  obtain ⟨g, fd, ps, F, hm, kp, b⟩ := c.ex
  exact pe_listG (pgen_call F (hr.mono (by omega)) hg hm kp b .nil ha hdb he hpl) passes0 noStop0 (hr.mono hk) hg2 hmg hv hnm hdb2 he2
end
end Lp
set_option Elab.async false
set_option linter.all false
set_option maxRecDepth 100000
set_option maxHeartbeats 1000000
namespace Lp
open PySem PySem.Spec PyProof.Rows L2
/-! ### isinstance of an exception that is a value, or that an outer suite holds -/
def rIsX (K : PySem.W.Frag) : List V → Hp → VK → Prop := fun xs H Q => ∃ (a D : Addr) (c : V) (cv : Value) (b : Bool), xs = [.ref a, c] ∧ H a = some (ExO (.ref D) a) ∧ ExcC K D ∧ (∀ u, RelV c u → u = cv) ∧ PySem.W.kitOne K (.ref D) cv = some b ∧ Q (.bl b) H
theorem call_isX {X : Cx} : CallR X (.builtin "isinstance") (rIsX X.K) := by
  intro pins s σ H xs us Q I r h
  obtain ⟨a, D, c, cv, b, rfl, ha, C, hcv, e, q⟩ := h
  cases r with
  | cons rx rr =>
    cases rr with
    | cons rt rr =>
      cases rr
      cases rx
      cases hcv _ rt
      obtain ⟨⟨oe, vs, hget, hz, hv, _⟩, _, _⟩ := I.hok a _ ha
      have J : PySem.W.InstAt s.heap a oe D none := by
        obtain ⟨oc, od, oda, osl⟩ := oe
        obtain ⟨h1, h2⟩ := hz
        dsimp only at h1 h2 hv
        subst h1 h2 hv
        exact ⟨hget, rfl, rfl, trivial⟩
      exact PySem.W.kia_one (PySem.W.handS_kitx_exc C.hg C.hk C.hs C.hd C.ha C.hn C.ht C.hm) I.kIn J e (fun z => nomatch z) fun tk => ⟨.bl b, H, I.kept (t' := tk) fun _ _ z => z, rfl, q⟩
def rIsP (K : PySem.W.Frag) (p : Addr × Obj) : List V → Hp → VK → Prop := fun xs H Q => ∃ (D : Addr) (c : V) (cv : Value) (b : Bool), xs = [.ref p.1, c] ∧ Zc (.ref D) none p.2 ∧ (∃ vs, p.2.data = .fields vs) ∧ ExcC K D ∧ (∀ u, RelV c u → u = cv) ∧ PySem.W.kitOne K (.ref D) cv = some b ∧ Q (.bl b) H
theorem call_isP {X : Cx} {p : Addr × Obj} (hp : p ∈ X.pn) : CallR X (.builtin "isinstance") (rIsP X.K p) := by
  intro pins s σ H xs us Q I r h
  obtain ⟨D, c, cv, b, rfl, hz, ⟨vs, hv⟩, C, hcv, e, q⟩ := h
  cases r with
  | cons rx rr =>
    cases rr with
    | cons rt rr =>
      cases rr
      cases rx
      cases hcv _ rt
      have hget := (I.pin p (List.mem_append_left _ hp)).1
      obtain ⟨a, oe⟩ := p
      have J : PySem.W.InstAt s.heap a oe D none := by
        obtain ⟨oc, od, oda, osl⟩ := oe
        obtain ⟨h1, h2⟩ := hz
        dsimp only at h1 h2 hv
        subst h1 h2 hv
        exact ⟨hget, rfl, rfl, trivial⟩
      exact PySem.W.kia_one (PySem.W.handS_kitx_exc C.hg C.hk C.hs C.hd C.ha C.hn C.ht C.hm) I.kIn J e (fun z => nomatch z) fun tk => ⟨.bl b, H, I.kept (t' := tk) fun _ _ z => z, rfl, q⟩
/-! ### defs that are given the exception that is held -/
structure FnE (P : Program) (w : World) (K : PySem.W.Frag) (mg : Str → Option Value) (base : Heap) (k : Nat) (f : Addr) (fd : FuncData) (ps : List Str) (sp : Addr × Obj → Sp) : Prop where
  len : ∀ p vs H Q E, sp p vs H Q E → vs.length = ps.length
  run : ∀ (p : Addr × Obj) (A : Around) (out : List Env) (s : Shared) (H : Hp) (ar : Args) (us : List Value) (vs : List V) (Q : VK) (E : XK), L2H.RoomH k A → L2H.PinOk out H s p → Env0 P w K mg base A out s H →
    BindsTo s fd ar (ps.zip us) → Vals vs us → sp p vs H Q E → codeAny (model P w) A (.call (.ref f) ar) (CR CX0 out P w H s Q E) s
section
variable {P : Program} {w : World} {K : PySem.W.Frag} {mg : Str → Option Value} {base : Heap}
theorem okE {x qual : Str} {st : Stmt} {f : Addr} {fd : FuncData} {N ps : List Str} {k : Nat} {sp : Addr × Obj → Sp} (F : Fun K x qual st f fd) (S : FnScope N ps (defScope st)) (ln : ∀ p vs H Q E, sp p vs H Q E → vs.length = ps.length)
    (hb : ∀ (cdv : Value) (p : Addr × Obj) (A : Around) (out : List Env) (s : Shared) (H : Hp) (vs : List V) (Q : VK) (E : XK), L2H.RoomH k (A.deeper (envOfC qual (defScope st) s.heap.objs.size f cdv)) → sp p vs H Q E →
      ∃ t, PSs (L2H.cxH CX0 P w K mg base N qual (defScope st) f cdv A out s H E p) (defBody st) t ∧ t { nx := fun _ H' => Q .non H', rt := Q } (start N vs) H) : FnE P w K mg base (k + 1) f fd ps sp := by
  obtain ⟨oc, od, kV, doc, pm, an, cdv, ct, osl, rfl, lk, hcd⟩ := F.ex
  refine ⟨ln, fun p A out s H ar us vs Q E room hpin en bd rv hs => ?_⟩
  have KX : K.In s.heap := en.mod.kin.keeps fun b o e => (en.bs b o e).1
  have nl : s.heap.NoLimit := en.mod.nolimit.keeps fun b o e => (en.bs b o e).1
  have kd : ∀ y ∈ ps.zip us, (defScope st).names.lookup y.1 = some .local ∨ ((defScope st).names.lookup y.1 = some .cell ∧ ((cellsFrom (s.heap.objs.size + 1) (defScope st).names []).lookup y.1).isSome = true) := by
    rintro ⟨n, v⟩ hy
    have hm := (List.of_mem_zip hy).1
    exact (S.par n hm).elim (fun q => .inl q) fun q => .inr ⟨q, PySem.W.cellsFrom_some _ _ _ (.inl q)⟩
  refine codeAny_call_function room.depth (KX _ _ lk) rfl S.co S.gen rfl (PySem.W.codeRec_of KX hcd) (bd _ _ _ _ ?_)
  refine wpAny_newFunctionEnv_cells S.kind kd fun e1 he s1 x => ?_
  subst he
  refine ⟨nl.keeps x.toInCall.keep, codeAny_func ?_⟩
  obtain ⟨t, ht, hq⟩ := hb cdv p A out s H vs Q E (room.deeper _) hs
  have J0 : Inv (L2H.cxH CX0 P w K mg base N qual (defScope st) f cdv A out s H E p) [] (start N vs) H s1 := L2H.inv_startH S hpin en (ln _ _ _ _ _ hs) rv x
  refine wpAny_mono (ht.run [] s1 (start N vs) H _ J0 hq) (fun fl s' h3 => ?_) fun _ _ h3 => h3
  cases fl with
  | ret u => exact let ⟨v, _, H', J, r2, q⟩ := h3; ⟨v, H', J.os, J.bare, J.base, J.hok, r2, q⟩
  | next => exact let ⟨_, H', J, q⟩ := h3; ⟨.non, H', J.os, J.bare, J.base, J.hok, rfl, q⟩
  | brk => exact (let ⟨_, _, _, q⟩ := h3; q : False).elim
  | cont => exact (let ⟨_, _, _, q⟩ := h3; q : False).elim
structure CalE (P : Program) (w : World) (K : PySem.W.Frag) (mg : Str → Option Value) (base : Heap) (k : Nat) (x : Str) (sp : Addr × Obj → Sp) : Prop where
  ex : ∃ (f : Addr) (fd : FuncData) (ps : List Str), FnE P w K mg base k f fd ps sp ∧ mg x = some (.ref f) ∧ PySem.W.keepIn K (.ref f) = true ∧ Binds K fd ps []
structure CalX (P : Program) (w : World) (K : PySem.W.Frag) (mg : Str → Option Value) (base : Heap) (k : Nat) (x : Str) (sp : Sp) : Prop where
  ex : ∃ (f : Addr) (fd : FuncData) (ps : List Str), FnOk P w K mg base (L2.CX P w) k f fd ps sp ∧ mg x = some (.ref f) ∧ PySem.W.keepIn K (.ref f) = true ∧ Binds K fd ps []
end
section
variable {X : Cx} {k j : Nat} {x : Str} {p pos : Pos} {e : Expr} {es : List Expr} {t : TA}
def tCe (sp : Addr × Obj → Sp) (pr : Addr × Obj) (t : TA) : TE := fun σ H Q => t σ H fun vs H1 => sp pr vs H1 Q E0
theorem pe_ce {sp : Addr × Obj → Sp} {pr : Addr × Obj} (c : CalE X.prog X.w X.K X.mg X.base k x sp) (hr : L2H.RoomH k X.A) (hp : pr ∈ X.pn) (hg : Gl X x) (ha : PA X (e :: es) t)
    (hdb : (x == ("__debug__" : Str)) = false := by decide) (he : starEach (e :: es) X.env = (false, eval e X.env) :: starEach es X.env := by rfl) (hpl : (backTo pos (starEach es X.env)).any (·.1) = false := by rfl) :
    PE X (.Call (.Name x p) (e :: es) [] pos) (tCe sp pr t) := by
  obtain ⟨f, fd, ps, F, hm, kp, hb⟩ := c.ex
  refine ⟨fun pins s σ H Q I h => ?_⟩
  refine wpAny_Call_Name_kw (ld_glob I hg hm ?_ hdb)
  refine PySem.W.callWith_K (h₀ := X.base) I.ok.mod.kin kp (thn (ha.run pos pins s σ H _ I h) fun us s1 ⟨vs, H1, I1, r, q⟩ => ⟨I1.kIn, ?_⟩) he hpl
  have hl : us.length = ps.length := by rw [← r.length]; exact F.len _ _ _ _ _ q
  have b := hb s1 us I1.kIn (by rw [List.append_nil]; exact hl)
  rw [List.append_nil] at b
  have P1 := I1.pin pr (List.mem_append_left _ hp)
  have hpin : L2H.PinOk X.stack H1 s1 pr := ⟨P1.1, P1.2.1, fun hm => (List.mem_cons.mp (I1.stkSub pr.1 hm)).elim P1.2.2.1 P1.2.2.2.1, P1.2.2.2.2⟩
  refine wpAny_call (codeAny_mono (F.run pr X.A X.stack s1 H1 ⟨us, []⟩ us vs Q E0 hr hpin I1.env0 b r q) fun r s' hq => ?_)
  cases r with
  | error e => exact pass0 pins σ H1 s1 e s' I1 hq
  | ok fl =>
    cases fl with
    | ret u => exact I1.after hq
    | next => exact False.elim hq
    | brk => exact False.elim hq
    | cont => exact False.elim hq
def tCx (sp : Sp) (W : WX) (t : TA) : TE := fun σ H Q => t σ H fun vs H1 => sp vs H1 Q (WE W σ)
theorem pe_cx {sp : Sp} {W : WX} (c : CalX X.prog X.w X.K X.mg X.base k x sp) (hr : Room j X.A) (hk : k ≤ j) (tk : Takes X W) (hg : Gl X x) (ha : PA X (e :: es) t)
    (hdb : (x == ("__debug__" : Str)) = false := by decide) (he : starEach (e :: es) X.env = (false, eval e X.env) :: starEach es X.env := by rfl) (hpl : (backTo pos (starEach es X.env)).any (·.1) = false := by rfl) :
    PE X (.Call (.Name x p) (e :: es) [] pos) (tCx sp W t) := by
  obtain ⟨f, fd, ps, F, hm, kp, hb⟩ := c.ex
  refine ⟨fun pins s σ H Q I h => ?_⟩
  refine wpAny_Call_Name_kw (ld_glob I hg hm ?_ hdb)
  refine PySem.W.callWith_K (h₀ := X.base) I.ok.mod.kin kp (thn (ha.run pos pins s σ H _ I h) fun us s1 ⟨vs, H1, I1, r, q⟩ => ⟨I1.kIn, ?_⟩) he hpl
  exact run_fnS F (hr.mono hk) hb (passAt tk σ) I1 r q
end
/-! ### != of two built-in types -/
section
variable {M : Model} {A : Around} {E : Value → Shared → Prop} {s : Shared}
theorem richNe_decline {a b : Value} {T id : String} {k : Bool} {Q : Value → Shared → Prop} (ha : ∀ s' : Shared, s'.TypeIs a T) (hb : ∀ s' : Shared, s'.TypeIs b T)
    (h1 : Slot T (cmpInfo .NotEq).2.1 id) (h2 : Slot T (cmpInfo .NotEq).2.2 id) (hv : [a, b].any Value.onHeap = false) (hk : isSame a b = pure k)
    (hc : wpAny M A (call (.builtin id) [a, b]) (fun v s₁ => v = .notImplemented ∧ wpAny M A (call (.builtin id) [b, a]) (fun v s₂ => v = .notImplemented ∧ Q (.bool !k) s₂) E s₁) E s) :
    wpAny M A (richCompare .NotEq a b) Q E s := by
  rcases hi : cmpInfo CmpOp.NotEq with ⟨sym, f, r⟩
  rw [hi] at h1 h2
  simp only [richCompare, hi, (ha s).oneThing_none]
  try with_reducible refine wpAny_holding ?_
  refine wpAny_bind (wpAny_cRoomFor_or (.inl hv) ?_)
  refine wpAny_bind (wpAny_typeOf (ha s) (wpAny_bind (wpAny_typeOf (hb s) ?_)))
  simp only [bne_self_eq_false, Bool.false_eq_true, if_false, pure_bind, Bool.not_false, if_true]
  refine wpAny_bind (m := tryCompare a _ b) (wpAny_tryCompare_declines (ha s) h1 (wpAny_mono hc (fun v s₁ h₁ => ⟨h₁.1, ?_⟩) fun _ _ x => x))
  refine wpAny_bind (m := tryCompare b _ a) (wpAny_tryCompare_declines (hb s₁) h2 (wpAny_mono h₁.2 (fun v s₂ h₂ => ⟨h₂.1, ?_⟩) fun _ _ x => x))
  first
    | exact wpAny_bind (wpAny_rule (wpAny_bind (wpAny_of_eq hk (wpAny_pure h₂.2))))
    | exact wpAny_bind (wpAny_of_eq hk (wpAny_pure h₂.2))
end
section
variable {prog : Program} {w : World} {A : Around} {E : Value → Shared → Prop} {s : Shared} {Q : Value → Shared → Prop}
theorem slot_type_ne2 : Slot "type" (cmpInfo .NotEq).2.2 "object.__ne__" := slot_type_ne
theorem call_object_ne {X Y : String} (hX : ∀ s' : Shared, s'.TypeIs (.type X) "type") (hne : (Value.type X == Value.type Y) = false) (h : Q .notImplemented s) : wpAny (model prog w) A (call (.builtin "object.__ne__") [.type X, .type Y]) Q E s := by
  refine wpAny_call_entry slot_type_ne (hX s) F.entry_object_ne ?_ (F.args_object_ne_2 _ _)
  unfold Builtin.«object.__ne__»
  refine wpAny_bind (m := slotArgs "__ne__" 1 _) (wpAny_of_eq (a := ((Value.type X : Value), [Value.type Y])) (by first | rfl | (simp only [slotArgs]; rfl)) ?_)
  refine wpAny_bind (wpAny_cRoomFor_or (.inl rfl) ?_)
  refine wpAny_bind (m := callSpecialIfBound? (.type X) (Str.ofString "__eq__") [.type Y]) (wpAny_callSpecialIfBound?_slot (hX s) PySem.TypeEq.slot_type_eq
    (call_gives PySem.TypeEq.slot_type_eq (hX s) F.entry_object_eq (F.args_object_eq_2 _ _) (PySem.TypeEq.object_eq_other rfl hne) ?_))
  first
    | exact wpAny_pure ⟨_, rfl, h⟩
    | exact wpAny_pure h
    | exact wpAny_pure ⟨_, rfl, rfl, h⟩
theorem ne_type_other {X Y : String} (hX : ∀ s' : Shared, s'.TypeIs (.type X) "type") (hY : ∀ s' : Shared, s'.TypeIs (.type Y) "type") (hne : (Value.type X == Value.type Y) = false) (hne' : (Value.type Y == Value.type X) = false) (h : Q (.bool true) s) : wpAny (model prog w) A (compareOp .NotEq (.type X) (.type Y)) Q E s := by
  show wpAny _ A (richCompare .NotEq _ _) Q E s
  exact richNe_decline (T := "type") (k := false) hX hY slot_type_ne slot_type_ne2 rfl (by rw [isSame_plain rfl, hne]) (call_object_ne hX hne ⟨rfl, call_object_ne hY hne' ⟨rfl, h⟩⟩)
end
def rNeTyG : R2 := fun x y H Q => (∃ a, x = .ty a ∧ y = .ty a ∧ (∀ s' : Shared, s'.TypeIs (.type a) "type") ∧ Q (.bl false) H) ∨ ∃ a b, x = .ty a ∧ y = .ty b ∧ (∀ s' : Shared, s'.TypeIs (.type a) "type") ∧ (∀ s' : Shared, s'.TypeIs (.type b) "type") ∧ (Value.type a == Value.type b) = false ∧ (Value.type b == Value.type a) = false ∧ Q (.bl true) H
theorem op_neTyG {X : Cx} : OpR X (compareOp .NotEq) rNeTyG := by
  intro pins s σ H x y v u Q I rx ry h
  rcases h with ⟨a, rfl, rfl, ha, q⟩ | ⟨a, b, rfl, rfl, ha, hb, n1, n2, q⟩
  · cases (show v = Value.type a from rx)
    cases (show u = Value.type a from ry)
    exact ne_type_same ha ⟨.bl false, H, I, rfl, q⟩
  · cases (show v = Value.type a from rx)
    cases (show u = Value.type b from ry)
    exact ne_type_other ha hb n1 n2 ⟨.bl true, H, I, rfl, q⟩
/-! ### xs[i] op= e; one sign * n -/
def rGetL (K : PySem.W.Frag) : V → V → Hp → VK → Prop := fun o i H Q => ∃ p xs j v, o = .ref p ∧ i = .int j ∧ SqL K H p xs ∧ 0 ≤ j ∧ atI xs j = some v ∧ Q v H
theorem get_list {X : Cx} : PGet X (rGetL X.K) := by
  intro pins s σ H o i ov iv Q I ro ri h
  obtain ⟨p, xs, k, z, rfl, rfl, hq, h0, he, q⟩ := h
  cases ro
  obtain ⟨t, rfl⟩ := ri
  obtain ⟨its, r, pl, hz⟩ := I.list hq
  obtain ⟨j, h1, h2, h3, h4, h5⟩ := atI_get he
  obtain ⟨w, ew, rw'⟩ := r.get h2
  have hj : k.toNat = j := by
    rw [seqIndex_of h0 h5] at h1
    exact Option.some.inj h1
  have hl := r.length
  have hn := line63
  exact wpAny_getItem_list pl.isList h0 (by omega) (by rw [hj]; simpa using ew) ⟨z, H, I, rw', q⟩
theorem op_repA {X : Cx} : OpR X (binaryOp .Mult) (fun x y H Q => ∃ (z : Str) (n : Nat), x = .str z ∧ y = .int (n : Int) ∧ z.length = 1 ∧ n ≤ 1000 ∧ ∀ y, Q (.str y) H) := by
  intro pins s σ H x y v u Q I r1 r2 h
  obtain ⟨z, n, e1, e2, hz, hn, q⟩ := h
  subst e1; subst e2
  obtain ⟨t, rfl⟩ := r1
  obtain ⟨t', rfl⟩ := r2
  refine PySem.P.mul_str ?_ (fun c _ => ?_) (fun _ _ => ?_) ?_
  · rw [decide_eq_false (show ¬ (n : Int) < -(2 ^ 63 : Int) by omega), decide_eq_false (show ¬ (n : Int) ≥ 2 ^ 63 by omega)]
    rfl
  · rw [hz]
    have := (Int.le_ediv_iff_mul_le (show (0 : Int) < n by omega)).mpr (show ((1 : Nat) : Int) * (n : Int) ≤ 2 ^ 63 - 1 by omega)
    omega
  · rw [hz]
    unfold Builtin.Str.tooLong
    refine decide_eq_false ?_
    have e : (n : Int).toNat = n := rfl
    have z := zs (show n ≤ 100000 by omega)
    omega
  · by_cases h0 : n = 0
    · subst h0
      rw [if_pos (by decide)]
      exact ⟨by decide, .str _, H, I.tok _, ⟨_, rfl⟩, q _⟩
    · rw [if_neg (show ¬ (n : Int) < 1 by omega), hz]
      by_cases h1 : n = 1
      · subst h1
        rw [if_pos (by rfl)]
        exact ⟨.str _, H, I, ⟨_, rfl⟩, q _⟩
      · have hb : ((n : Int) == 1 || (1 : Nat) == 0) = false := by
          rw [beq_eq_false_iff_ne.mpr (show (n : Int) ≠ 1 by omega)]
          rfl
        rw [hb, if_neg Bool.false_ne_true]
        refine ⟨?_, .str _, H, I.tok _, ⟨_, rfl⟩, q _⟩
        have f0 := foldl_repN z.cps.toList n []
        rw [List.nil_append] at f0
        have e : (n : Int).toNat = n := rfl
        have e3 : z.cps = z.cps.toList.toArray := rfl
        rw [e]
        have f1 : List.foldl (fun x1 x2 => x1 ++ x2) #[] (List.replicate n z.cps) = ((List.replicate n z.cps.toList).flatten).toArray := f0
        show (List.foldl (fun (x1 x2 : Array Nat) => x1 ++ x2) #[] (List.replicate n z.cps)).size ≤ _
        rw [f1, List.size_toArray]
        have : ∀ m : Nat, ((List.replicate m z.cps.toList).flatten).length = m := fun m => by
          induction m with
          | zero => rfl
          | succ m ih =>
            rw [List.replicate_succ, List.flatten_cons, List.length_append, ih]
            have : z.cps.toList.length = 1 := hz
            omega
        rw [this]
        exact zs (by omega)
end Lp
set_option Elab.async false
set_option linter.all false
set_option maxRecDepth 100000
set_option maxHeartbeats 1000000
namespace Lp
open PySem PySem.Spec PyProof.Rows L2
/-! ### len(x), y in x: by a method of an own class -/
section
variable {X : Cx} {k j : Nat} {C : Addr} {sp : Sp}
theorem inst_of {pins : List (Addr × Obj)} {σ : L2.St} {H : Hp} {s : Shared} {a dx : Addr} {fs : List (Str × V)} (I : Inv X pins σ H s) (e : H a = some (.ins C dx fs)) : ∃ ox od, PySem.W.InstAt s.heap a ox C od := by
  obtain ⟨mA, O, _⟩ := ins_get I.hok e
  obtain ⟨od, J, _⟩ := O.look
  exact ⟨_, _, J⟩
/-- a call of a method's def, wherever the machine stands -/
theorem run_at {A : Around} {pins : List (Addr × Obj)} {σ : L2.St} {H : Hp} {s : Shared} {f : Addr} {fd : FuncData} {ps : List Str} {us : List Value} {vs : List V} {Q : VK} {E1 : Value → Shared → Prop} (F : FnOk X.prog X.w X.K X.mg X.base CX0 k f fd ps sp) (hr : Room k A) (b : Binds X.K fd ps []) (I : Inv X pins σ H s) (en : Env0 X.prog X.w X.K X.mg X.base A X.stack s H)
    (r : Vals vs us) (q : sp vs H Q E0) : wpAny (model X.prog X.w) A (call (.ref f) us) (EP X pins σ Q) E1 s := by
  have hl : us.length = ps.length := by rw [← r.length]; exact F.len _ _ _ _ q
  have bd := b s us I.kIn (by rw [List.append_nil]; exact hl)
  rw [List.append_nil] at bd
  refine wpAny_call (codeAny_mono (F.run A X.stack s H ⟨us, []⟩ us vs Q E0 hr en bd r q) fun r s' hq => ?_)
  cases r with
  | error e => exact hq.elim
  | ok fl =>
    cases fl with
    | ret u => exact I.after hq
    | next => exact False.elim hq
    | brk => exact False.elim hq
    | cont => exact False.elim hq
def rLenO (C : Addr) (sp : Sp) : List V → Hp → VK → Prop := fun xs H Q => ∃ (a dx : Addr) (fs : List (Str × V)), xs = [.ref a] ∧ H a = some (.ins C dx fs) ∧ sp [.ref a] H (fun v H' => ∃ n : Int, v = .int n ∧ 0 ≤ n ∧ n < 2 ^ 63 ∧ Q (.int n) H') E0
theorem call_lenO (c : Met X.prog X.w X.K X.mg X.base k C "__len__" sp) (hr : Room j X.A) (hk : k + 1 ≤ j) : CallR X (.builtin "len") (rLenO C sp) := by
  intro pins s σ H xs us Q I r h
  obtain ⟨a, dx, fs, rfl, ha, q⟩ := h
  obtain ⟨f, fd, ps, hc, hm, F, b⟩ := c.ex
  obtain ⟨u, rfl, ru⟩ := vals1 r
  cases (show u = Value.ref a from ru)
  obtain ⟨ox, od, J⟩ := inst_of I ha
  refine Calls.call_function_entry PySem.kind_len PySem.plain_len PySem.entry_len (PySem.args_len1 _) ?_
  unfold Builtin.«len»
  refine wpAny_bind (m := oneArg "len" _) (wpAny_pure ?_)
  refine wpAny_bind (m := callSpecial? (.ref a) (Str.ofString "__len__")) (PySem.W.special_fn I.kIn J hm.at_ (beq_iff_eq.mp hm.fn) (wpAny_mono (run_at (A := X.A.in1) (vs := [.ref a]) F (hr.mono hk).in1 b I I.env0.in1 (.cons rfl .nil) q) (fun v s' hv => ?_) fun _ _ z => z))
  obtain ⟨v, H', I', rv, n, rfl, h0, h1, hq⟩ := hv
  obtain ⟨t, rfl⟩ := rv
  refine wpAny_bind (wpAny_holding (wpAny_pure ?_))
  refine wpAny_bind (wpAny_letGo ?_)
  show wpAny _ _ (if n < 0 then _ else _) _ _ _
  rw [if_neg (by omega)]
  show wpAny _ _ (if n ≥ 2 ^ 63 then _ else _) _ _ _
  rw [if_neg (by omega)]
  exact wpAny_bind (wpAny_mkInt (wpAny_pure ⟨_, rfl, .int n, H', I'.tok _, ⟨_, rfl⟩, hq⟩))
def tInO (C : Addr) (sp : Sp) (ty td : TE) (neg : Bool) : TE := fun σ H Q => ty σ H fun y H1 => td σ H1 fun x H2 => ∃ (a dx : Addr) (fs : List (Str × V)), x = .ref a ∧ H2 a = some (.ins C dx fs) ∧ sp [.ref a, y] H2 (fun v H' => ∃ b : Bool, v = .bl b ∧ Q (.bl (if neg then !b else b)) H') E0
theorem pc_inO {i o : Expr} {ty td : TE} (c : Met X.prog X.w X.K X.mg X.base k C "__contains__" sp) (hr : Room j X.A) (hk : k ≤ j) (hi : PE X i ty) (ho : PE X o td) : PC X .In i o (tInO C sp ty td false) := by
  obtain ⟨f, fd, ps, hc, hm, F, b⟩ := c.ex
  refine ⟨fun pins s σ H Q I h => ?_⟩
  refine thn (hi.run pins s σ H _ I h) fun iv s1 ⟨y, H1, I1, ry, q1⟩ => thn (ho.run pins s1 σ H1 _ I1 q1) fun u s2 ⟨x, H2, I2, rx, a, dx, fs, ex, ea, q2⟩ => ?_
  subst ex
  cases (show u = Value.ref a from rx)
  obtain ⟨ox, od, J⟩ := inst_of I2 ea
  refine wpAny_bind ?_
  unfold contains
  refine wpAny_holding (wpAny_bind (wpAny_bind (J.type.here ((PySem.W.looks_findIn I2.kIn hm.at_).here ?_))))
  rw [if_neg (by simp)]
  refine wpAny_bind (PySem.W.unlessNone_K I2.kIn J hm.at_ hm.fn (wpAny_mono (run_at (vs := [.ref a, y]) F (hr.mono hk) b I2 I2.env0 (.cons rfl (.cons ry .nil)) q2) (fun v s' hv => ?_) fun _ _ z => z))
  obtain ⟨v, H', I', rv, b', rfl, hq⟩ := hv
  cases rv
  refine wpAny_of_eq (a := b') (by first | rfl | simp [truthy]) ?_
  exact wpAny_pure ⟨.bl b', H', I', rfl, hq⟩
end
end Lp
namespace Lp
open PySem PySem.Spec PyProof.Rows L2
/-! ### a + b of two instances, by __add__ -/
theorem binop_own {prog : Program} {w : World} {A : Around} {E : Value → Shared → Prop} {s : Shared} {K : PySem.W.Frag} {x C f : Addr} {ox : Obj} {od : Option Obj} {op : Operator} {b : Value} {Q : Value → Shared → Prop} (kin : K.In s.heap) (J : PySem.W.InstAt s.heap x ox C od) (tb : PySem.W.Looks (model prog w) s.heap (typeOf b) (.ref C)) (sf : PySem.W.selfFirst K C = true)
    (at_ : PySem.W.findIn K (.ref C) (PySem.dunder op.info.2) = some (some (.ref f))) (isf : PySem.W.isFn K (.ref f) = true) (go : wpAny (model prog w) A (call (.ref f) [.ref x, b]) (fun v s' => v ≠ .notImplemented ∧ Q v s') E s) : wpAny (model prog w) A (binaryOp op (.ref x) b) Q E s := by
  obtain ⟨cd, e1, e2⟩ := PySem.W.any_some sf
  have e3 : ∃ rest, cd.mro = .ref C :: rest := by
    cases hq : cd.mro with
    | nil =>
      rw [hq] at e2
      cases e2
    | cons u r =>
      rw [hq, List.head?_cons] at e2
      cases (beq_iff_eq.mp e2)
      exact ⟨r, rfl⟩
  obtain ⟨rest, e3⟩ := e3
  unfold binaryOp
  refine wpAny_holding (wpAny_bind ?_)
  unfold binaryOp1
  refine wpAny_bind (J.type.here (wpAny_bind (tb.here (wpAny_bind ((PySem.W.fills_K kin e1 e3 at_).here ?_)))))
  simp only [beq_self_eq_true, if_true]
  refine wpAny_bind (wpAny_pure ?_)
  simp only [Bool.and_false, Bool.false_eq_true, if_false, Bool.false_and]
  refine wpAny_bind (wpAny_pure ?_)
  simp only [Bool.false_eq_true, if_false]
  refine wpAny_bind (m := tryMethod (.ref x) _ b) ?_
  unfold tryMethod
  refine wpAny_bind (PySem.W.special_fn kin J at_ (beq_iff_eq.mp isf) (wpAny_mono go (fun v s' hv => ?_) fun _ _ z => z))
  obtain ⟨nv, hv⟩ := hv
  cases v <;> first | exact absurd rfl nv | exact wpAny_pure (wpAny_pure (wpAny_pure hv))
section
variable {X : Cx} {k j : Nat} {C : Addr} {sp : Sp}
theorem relV_ni {v : V} {u : Value} (r : RelV v u) : u ≠ .notImplemented := by
  intro e
  subst e
  cases v <;> first | (obtain ⟨_, h⟩ := r; cases h) | cases r | (exact nomatch r)
def rAddO (C : Addr) (sp : Sp) : R2 := fun x y H Q => ∃ (a b dx dy : Addr) (fs gs : List (Str × V)), x = .ref a ∧ y = .ref b ∧ H a = some (.ins C dx fs) ∧ H b = some (.ins C dy gs) ∧ sp [.ref a, .ref b] H Q E0
theorem op_addO (c : Met X.prog X.w X.K X.mg X.base k C "__add__" sp) (hr : Room j X.A) (hk : k ≤ j) (sf : PySem.W.selfFirst X.K C = true) : OpR X (binaryOp .Add) (rAddO C sp) := by
  intro pins s σ H x y v u Q I rx ry h
  obtain ⟨a, b, dx, dy, fs, gs, rfl, rfl, ha, hb, q⟩ := h
  obtain ⟨f, fd, ps, hc, hm, F, bd⟩ := c.ex
  cases (show v = Value.ref a from rx)
  cases (show u = Value.ref b from ry)
  obtain ⟨ox, od, J⟩ := inst_of I ha
  obtain ⟨ox2, od2, J2⟩ := inst_of I hb
  refine binop_own I.kIn J J2.type sf hm.at_ hm.fn (wpAny_mono (run_at (vs := [.ref a, .ref b]) F (hr.mono hk) bd I I.env0 (.cons rfl (.cons rfl .nil)) q) (fun w s' hw => ?_) fun _ _ z => z)
  exact ⟨by obtain ⟨z, _, _, r, _⟩ := hw; exact relV_ni r, hw⟩
end
end Lp
namespace Lp
open PySem PySem.Spec PyProof.Rows L2
/-! ### a == b of two instances, by __eq__ -/
theorem eq_own {prog : Program} {w : World} {A : Around} {E : Value → Shared → Prop} {s : Shared} {K : PySem.W.Frag} {x C f : Addr} {ox : Obj} {od : Option Obj} {op : CmpOp} {b tb : Value} {Q : Value → Shared → Prop} (hu : A.units < cLine) (kin : K.In s.heap) (J : PySem.W.InstAt s.heap x ox C od) (tyb : PySem.W.Looks (model prog w) s.heap (typeOf b) tb)
    (nf : PySem.W.notFirst K C tb = true) (at_ : PySem.W.findIn K (.ref C) (cmpInfo op).2.1 = some (some (.ref f))) (isf : PySem.W.isFn K (.ref f) = true) (go : wpAny (model prog w) A (call (.ref f) [.ref x, b]) (fun v s' => v ≠ .notImplemented ∧ Q v s') E s) : wpAny (model prog w) A (richCompare op (.ref x) b) Q E s := by
  have mine : wpAny (model prog w) A (tryCompare (.ref x) (cmpInfo op).2.1 b) (fun r s' => ∃ v, r = some v ∧ Q v s') E s := by
    unfold tryCompare
    refine wpAny_bind (PySem.W.ifBound_K kin J at_ isf (wpAny_mono go (fun v s' hv => ?_) fun _ _ z => z))
    obtain ⟨nv, hv⟩ := hv
    cases v <;> first | exact absurd rfl nv | exact wpAny_pure ⟨_, rfl, hv⟩
  have last : ∀ {g : Option Value → Sem Value}, (∀ v, g (some v) = pure v) → wpAny (model prog w) A (tryCompare (.ref x) (cmpInfo op).2.1 b >>= g) Q E s := fun {g} hg => wpAny_bind (wpAny_mono mine (fun r s' ⟨v, er, hq⟩ => by rw [er, hg]; exact wpAny_pure hq) fun _ _ z => z)
  unfold richCompare
  simp only [oneThing_ref]
  refine wpAny_holding (wpAny_bind (wpAny_cRoomFor hu ?_))
  refine wpAny_bind (J.type.here (wpAny_bind (tyb.here ?_)))
  split
  · rename_i q
    have sb : PySem.W.subIn K tb (.ref C) = some false := by
      rcases Bool.or_eq_true_iff.mp nf with z | z
      · rw [beq_iff_eq.mp z] at q
        simp at q
      · exact beq_iff_eq.mp z
    refine wpAny_bind ((PySem.W.looks_subIn kin sb).here ?_)
    simp only [Bool.false_eq_true, if_false]
    exact last fun v => rfl
  · refine wpAny_bind (wpAny_pure ?_)
    simp only [Bool.false_eq_true, if_false]
    exact last fun v => rfl
section
variable {X : Cx} {k j : Nat} {C : Addr} {sp : Sp}
theorem op_eqO (c : Met X.prog X.w X.K X.mg X.base k C "__eq__" sp) (hr : Room j X.A) (hk : k ≤ j) (nf : PySem.W.notFirst X.K C (.ref C) = true) : OpR X (compareOp .Eq) (rAddO C sp) := by
  intro pins s σ H x y v u Q I rx ry h
  obtain ⟨a, b, dx, dy, fs, gs, rfl, rfl, ha, hb, q⟩ := h
  obtain ⟨f, fd, ps, hc, hm, F, bd⟩ := c.ex
  cases (show v = Value.ref a from rx)
  cases (show u = Value.ref b from ry)
  obtain ⟨ox, od, J⟩ := inst_of I ha
  obtain ⟨ox2, od2, J2⟩ := inst_of I hb
  have hu : X.A.units < cLine := by have := hr.units; omega
  show wpAny _ X.A (richCompare .Eq _ _) _ _ s
  refine eq_own (op := .Eq) hu I.kIn J J2.type nf hm.at_ hm.fn (wpAny_mono (run_at (vs := [.ref a, .ref b]) F (hr.mono hk) bd I I.env0 (.cons rfl (.cons rfl .nil)) q) (fun w s' hw => ?_) fun _ _ z => z)
  exact ⟨by obtain ⟨z, _, _, r, _⟩ := hw; exact relV_ni r, hw⟩
end
end Lp
set_option Elab.async false
set_option linter.all false
set_option maxRecDepth 100000
set_option maxHeartbeats 1000000
namespace Lp
open PySem PySem.Spec PyProof.Rows L2
/-! ### x(e, ..) of an instance, by __call__ -/
theorem inst_plain {X : Cx} {C : Addr} {pins : List (Addr × Obj)} {σ : L2.St} {H : Hp} {s : Shared} {a dx : Addr} {fs : List (Str × V)} (I : Inv X pins σ H s) (e : H a = some (.ins C dx fs)) : ∃ ox od, PySem.W.InstAt s.heap a ox C od ∧ ox.data = .plain := by
  obtain ⟨mA, O, _⟩ := ins_get I.hok e
  obtain ⟨od, J, _⟩ := O.look
  exact ⟨_, _, J, rfl⟩
theorem callWith_obj {M : Model} {A : Around} {E : Value → Shared → Prop} {s : Shared} {pos : Pos} {x : Addr} {first : List Value} {Q : Value → Shared → Prop} {args : List (Bool × Sem Value)} {kws : List (Option Str × Sem Value)} (hp : (args.any (·.1) || kws.any (·.1.isNone)) = false)
    (h : wpAny M A (evalArgs (.ref x) true args kws) (fun a s₁ => (∃ C ox od, PySem.W.InstAt s₁.heap x ox C od ∧ ox.data = .plain) ∧ wpAny M A (call (.ref x) (first ++ a.pos) a.kw) Q E s₁) E s) : wpAny M A (callWith pos (.ref x) first args kws) Q E s := by
  unfold callWith
  refine wpAny_bind (wpAny_holding (wpAny_mono h (fun a s₁ ⟨⟨C, ox, od, J, hd⟩, hq⟩ => wpAny_bind (wpAny_standAt ?_)) fun _ _ z => z))
  have kl := PySem.W.kco_keeper (M := M) J hd
  simp only [hp]
  refine wpAny_bind (kl.here ?_)
  have tl : ∀ {t : Sem Value}, wpAny M A t Q E s₁ → wpAny M A (t >>= fun r => holding [r] point >>= fun _ => pure r) Q E s₁ :=
    fun ht => wpAny_bind (wpAny_mono ht (fun r s₂ hr => wpAny_bind (wpAny_holding (wpAny_point (wpAny_pure hr)))) fun _ _ z => z)
  exact tl (wpAny_operateT hq)
section
variable {X : Cx} {k j i : Nat} {C : Addr} {sp : Sp} {x : Str} {p pos : Pos} {e : Expr} {es : List Expr} {t : TA}
def tCallO (i : Nat) (C : Addr) (sp : Sp) (t : TA) : TE := fun σ H Q => ∃ a : Addr, σ[i]? = some (some (.ref a)) ∧ t σ H fun vs H1 => ∃ (dx : Addr) (fs : List (Str × V)), H1 a = some (.ins C dx fs) ∧ sp (.ref a :: vs) H1 Q E0
theorem pe_callO (c : Met X.prog X.w X.K X.mg X.base k C "__call__" sp) (fi : ∀ f, PySem.W.findIn X.K (.ref C) "__call__" = some (some (.ref f)) → PySem.W.fnIn X.K f = true) (hr : Room j X.A) (hk : k ≤ j) (hN : X.N[i]? = some x) (hv : Vis X.env.scope x) (ha : PA X (e :: es) t)
    (hdb : (x == ("__debug__" : Str)) = false := by decide) (hcd : (x == ("__classdict__" : Str)) = false := by decide)
    (he : starEach (e :: es) X.env = (false, eval e X.env) :: starEach es X.env := by rfl) (hpl : (backTo pos (starEach es X.env)).any (·.1) = false := by rfl) : PE X (.Call (.Name x p) (e :: es) [] pos) (tCallO i C sp t) := by
  obtain ⟨f, fd, ps, hc, hm, F, b⟩ := c.ex
  refine ⟨fun pins s σ H Q I h => ?_⟩
  obtain ⟨a, hs, ht⟩ := h
  refine wpAny_Call_Name_kw (thn ((pe_var (pos := p) hN hv hdb hcd).run pins s σ H (fun v H1 => v = .ref a ∧ H1 = H) I ⟨.ref a, hs, rfl, rfl⟩) fun u s1 ⟨v, H1, I1, r1, q1⟩ => ?_)
  obtain ⟨rfl, rfl⟩ := q1
  cases r1
  have go := ha.run pos pins s1 σ _ _ I1 ht
  rw [he] at go ⊢
  refine callWith_obj (by show ((false || (backTo pos (starEach es X.env)).any (·.1)) || false) = false; rw [hpl]; rfl) (Calls.evalArgs_plain ?_)
  refine thn go fun us s2 ⟨vs, H2, I2, r, dx, fs, ea, q⟩ => ?_
  obtain ⟨ox, od, J, hd⟩ := inst_plain I2 ea
  refine ⟨⟨C, ox, od, J, hd⟩, ?_⟩
  have rr : Vals (.ref a :: vs) (.ref a :: us) := .cons rfl r
  have hl : (Value.ref a :: us).length = ps.length := by rw [← rr.length]; exact F.len _ _ _ _ q
  have bd := b s2 (.ref a :: us) I2.kIn (by rw [List.append_nil]; exact hl)
  rw [List.append_nil] at bd
  refine wpAny_call (PySem.W.kco_code I2.kIn J hd hm.at_ hm.fn (fi f hm.at_) (codeAny_mono (F.run X.A X.stack s2 H2 ⟨.ref a :: us, []⟩ (.ref a :: us) (.ref a :: vs) Q E0 (hr.mono hk) I2.env0 bd rr q) fun r s' hq => ?_))
  cases r with
  | error e => exact hq.elim
  | ok fl =>
    cases fl with
    | ret u => exact I2.after hq
    | next => exact False.elim hq
    | brk => exact False.elim hq
    | cont => exact False.elim hq
end
end Lp
set_option Elab.async false
set_option linter.all false
set_option maxRecDepth 100000
set_option maxHeartbeats 1000000
namespace Lp
open PySem PySem.Spec PyProof.Rows L2
/-! ### sorted(d) of a dict with int keys, any number of them -/
def rSortedDIO : List V → Hp → VK → Prop := fun xs H Q => ∃ (a : Addr) (kvs : List (Key × V)) (ks : List Int), xs = [.ref a] ∧ Rd H a (.dK kvs) ∧ kvs.map (·.1) = ks.map Sum.inl ∧
  ∀ (ys : List Int) (p : Addr), ys.Perm ks → ys.Pairwise (· ≤ ·) → H p = none → Q (.ref p) (upd H p (.lst (ys.map V.int)))
theorem call_sortedDIO {X : Cx} (hcalm : X.calm = true) : CallR X (.builtin "sorted") rSortedDIO := by
  intro pins s σ H xs us Q I r q
  obtain ⟨a, kvs, ks, ex, hd, hks, q⟩ := q
  subst ex
  obtain ⟨u, eu, rx⟩ := vals1 r
  subst eu
  cases rx
  obtain ⟨z, lo, vs, rel, dd⟩ := dk_rd I.hok hd
  obtain ⟨ep, hat⟩ := dd.dictAt
  have hkeys : vs.map (·.1) = ks.map Sum.inl := rel.keys.symm.trans hks
  have hl : vs.length = ks.length := by
    have e := congrArg List.length hkeys
    rw [List.length_map, List.length_map] at e
    exact e
  have hl2 : kvs.length = ks.length := by
    have e := congrArg List.length hks
    rw [List.length_map, List.length_map] at e
    exact e
  have h16 : vs.length ≤ sizeLine := by rw [hl, ← hl2]; exact z
  refine Calls.call_function_entry PyProof.Rows.kind_sorted PyProof.Rows.plain_sorted PyProof.Rows.entry_sorted (PyProof.Rows.args_sorted1 _) ?_
  unfold Builtin.«sorted»
  refine wpAny_bind (m := checkCount "sorted" 1 1 _) (wpAny_pure ?_)
  refine wpAny_bind (PySem.W.kdu_collect (A := X.A.in1) (PySem.W.kdl_dict (knd := mixKind X.prog X.w) (kvs := vs) (ep := ep) lo) (I.ok.hd hcalm) hat h16 fun h' tk acc hk hacc => ?_)
  have hal : acc.toList.length = ks.length := by rw [Array.length_toList, hacc.1, hl]
  have hS : IntsAre acc.toList ks := ints_each hal fun j v e => by
    obtain ⟨k, x, e1, e2⟩ := hacc.2 j v (by rw [← Array.getElem?_toList]; exact e)
    have e3 : (vs.map (·.1))[j]? = some k := by rw [List.getElem?_map, e1]; rfl
    rw [hkeys, List.getElem?_map] at e3
    cases e4 : ks[j]? with
    | none => rw [e4] at e3; cases e3
    | some y =>
      rw [e4] at e3
      have e5 : Sum.inl y = k := Option.some.inj e3
      subst e5
      rcases keyIs_shape (show keyIs (Sum.inl y) v = true from e2) with ⟨i, t, ek, ev⟩ | ⟨z, t, ek, ev⟩
      · cases ek
        exact ⟨y, t, rfl, ev⟩
      · cases ek
  have I1 : Inv X pins σ H { s with heap := h', toks := tk } := I.kept hk
  have hz2 : acc.toList.length ≤ sizeLine := by rw [hal, ← hl2]; exact z
  refine wpAny_bind (wpAny_newList ?_ hz2)
  have hoL : (h'.push (seqObj "list" acc.toList.toArray 0)).get? h'.objs.size = some (seqObj "list" acc.toList.toArray 0) := Heap.get?_push_size _ rfl
  show wpAny _ _ _ _ _ { s with heap := h'.push (seqObj "list" acc.toList.toArray 0), toks := tk }
  refine wpAny_bind (wpAny_holding (wpAny_call_entry PyProof.Rows.slot_list_sort ⟨_, hoL, rfl⟩ PyProof.Rows.entry_list_sort
    (SrtO.list_sort_ord (s := { s with heap := h'.push (seqObj "list" acc.toList.toArray 0), toks := tk }) SrtO.swo_int hoL hz2 (fun h2 => SrtO.ints_sortable hS h2) fun out g1 g2 => ⟨_, rfl, ?_⟩) (PyProof.Rows.args_list_sort _)))
  obtain ⟨k1, k2, k3⟩ := SrtO.ints_out hS g1 g2
  obtain ⟨e', he'⟩ := PyProof.Rows.sortedHeap_at (vs := acc.toList) (out := out.toArray) hoL
  have hlen : ((out.map SrtO.iv).map V.int).length ≤ sizeLine := by
    rw [List.length_map, k2.length_eq, ← hl2]
    exact z
  refine wpAny_pure ⟨_, rfl, .ref h'.objs.size, upd H h'.objs.size (.lst ((out.map SrtO.iv).map V.int)), I1.laid (t' := tk) (fun b u e => ?_) (Nat.le_refl _)
    (show ObjOk X.prog X.w _ _ _ (.lst ((out.map SrtO.iv).map V.int)) from ⟨hlen, out, e', vals_of_ints k1, he'⟩), rfl, q _ _ k2 k3 (I1.hok.fresh (Nat.le_refl _))⟩
  have hb : b < h'.objs.size := Heap.lt_size e
  rw [PyProof.Rows.sortedHeap_old (Nat.ne_of_lt hb) (by rw [size_push']; exact Nat.lt_succ_of_lt hb)]
  exact Heap.get?_push_of_some _ e
end Lp
set_option Elab.async false
set_option linter.all false
set_option maxRecDepth 100000
set_option maxHeartbeats 1000000
namespace Lp
open PySem PySem.Spec PyProof.Rows L2 L2.DX
/-! ### d.items() and sorted(d.items()) of a dict of ints by ints, any number of them -/
def rItemsI : V → List V → Hp → VK → Prop := fun x xs H Q => ∃ (a : Addr) (kvs : List (Key × V)), x = .ref a ∧ xs = [] ∧ H a = some (.dK kvs) ∧ ∀ p, H p = none → Q (.ref p) (upd H p (itemsO p a))
theorem mt_itemsI {X : Cx} : MtR X "dict.items" rItemsI := by
  intro pins s σ H x xs v us Q I rx rxs h
  obtain ⟨a, kvs, rfl, rfl, ha, q⟩ := h
  cases rx
  cases rxs
  obtain ⟨z, hd, vs, rel, dd⟩ := dk_of I.hok ha
  obtain ⟨o, es, ep, ho, hx, hdat, _⟩ := dd
  refine DT.callItems (es := es) (ep := ep) hd ⟨o, ho, hx, hdat⟩ ?_
  have hf : H s.heap.objs.size = none := I.hok.fresh (Nat.le_refl _)
  exact ⟨.ref s.heap.objs.size, upd H s.heap.objs.size (itemsO s.heap.objs.size a), I.laid (t' := s.toks) (fun b u e => Heap.get?_push_of_some _ e) (Nat.le_refl _) (itemsO_ok (Heap.get?_push_size _ rfl)), rfl, q _ hf⟩
abbrev entI (e : Int × Int) : Key × V := (Sum.inl e.1, V.int e.2)
def rSortItI : List V → Hp → VK → Prop := fun vs H Q => ∃ (p a : Addr) (ks : List (Int × Int)), vs = [.ref p] ∧ H p = some (itemsO p a) ∧ H a = some (.dK (ks.map entI)) ∧
  ∀ (H' : Hp) (l : Addr) (ps : List (Addr × Int × Int)), (∀ b o, H b = some o → H' b = some o) → (ps.map (·.2)).Perm ks → (ps.map (·.2)).Pairwise (fun e f => e.1 ≤ f.1) → H' l = some (.lst (ps.map fun z => V.ref z.1)) →
    (∀ z ∈ ps, H' z.1 = some (.tup [.int z.2.1, .int z.2.2])) → H l = none → (∀ z ∈ ps, H z.1 = none) → Q (.ref l) H'
def pairOf (as : List Addr) (ks : List (Int × Int)) : Value → Int × Int
  | .ref b => (ks[as.idxOf b]?).getD (0, 0)
  | _ => (0, 0)
theorem pairOf_at {as : List Addr} {ks : List (Int × Int)} (nd : as.Nodup) {j : Nat} {b : Addr} {e : Int × Int} (hj : as[j]? = some b) (he : ks[j]? = some e) : pairOf as ks (.ref b) = e := by
  obtain ⟨hl, hb⟩ := List.getElem?_eq_some_iff.mp hj
  have hi : as.idxOf b = j := by
    subst hb
    exact nd.idxOf_getElem j hl
  show (ks[as.idxOf b]?).getD (0, 0) = e
  rw [hi, he]
  rfl
theorem pairOf_all {as : List Addr} {ks : List (Int × Int)} (nd : as.Nodup) (hl : as.length = ks.length) : as.map (fun b => pairOf as ks (.ref b)) = ks := by
  refine List.ext_getElem? fun j => ?_
  rw [List.getElem?_map]
  cases hj : as[j]? with
  | none =>
    have h1 := List.getElem?_eq_none_iff.mp hj
    exact (List.getElem?_eq_none (by omega)).symm
  | some b =>
    obtain ⟨h1, _⟩ := List.getElem?_eq_some_iff.mp hj
    have he : ks[j]? = some (ks[j]'(by omega)) := List.getElem?_eq_getElem (by omega)
    rw [he]
    exact congrArg some (pairOf_at nd hj he)
def adOf : Value → Addr
  | .ref b => b
  | _ => 0
theorem adOf_ref : ∀ {out : List Value}, (∀ v ∈ out, ∃ b, v = Value.ref b) → out = (out.map adOf).map Value.ref
  | [], _ => rfl
  | v :: out, h => by
    obtain ⟨b, rfl⟩ := h v List.mem_cons_self
    show Value.ref b :: out = Value.ref b :: (out.map adOf).map Value.ref
    rw [← adOf_ref fun u hu => h u (List.mem_cons_of_mem _ hu)]
theorem adOf_map (as : List Addr) : (as.map Value.ref).map adOf = as := by
  rw [List.map_map]
  exact List.map_id as
theorem cr_sortedItemsI {X : Cx} (hc : X.calm = true) : CallR X (.builtin "sorted") rSortItI := by
  intro pins s σ H xs us Q I r h
  obtain ⟨p, a, ks, rfl, hp, ha, q⟩ := h
  obtain rfl := Vals.ref1 r
  have view : s.heap.IsItemsView p a := (show ObjOk X.prog X.w H s.heap p (itemsO p a) from I.hok p _ hp).1
  obtain ⟨z, hd, vs, rel, o, es, ep, ho, hx, hdat, hes, hprs, hn⟩ := dk_of I.hok ha
  have l1 : (ks.map entI).length = vs.length := rel.length
  have l0 : (ks.map entI).length = ks.length := List.length_map ..
  have l2 : es.size = vs.length := by rw [← hprs.length]; simp
  have hh : X.A.handled = none := I.ok.hd hc
  refine DT.sortedI (es := es) (ep := ep) hh view ⟨o, ho, hx, hdat⟩ (by omega) fun h' tk as hk hlt hl hG => ?_
  have lak : as.length = ks.length := by omega
  have nd : as.Nodup := List.Pairwise.imp (fun h => Nat.ne_of_lt h) hG.rise
  -- the pairs that were made
  have pr : ∀ (j : Nat) (b : Addr), as[j]? = some b → ∃ (e : Int × Int) (t1 t2 : Tok), ks[j]? = some e ∧ h'.get? b = some { cls := .type "tuple", data := .seq #[Value.int e.1 t1, Value.int e.2 t2] } := by
    intro j b hj
    obtain ⟨en, he, hg⟩ := hG.pairs j b hj
    obtain ⟨hjl, _⟩ := List.getElem?_eq_some_iff.mp hj
    have hkj : ks[j]? = some (ks[j]'(by omega)) := List.getElem?_eq_getElem (by omega)
    have hvj : vs[j]? = some (vs[j]'(by omega)) := List.getElem?_eq_getElem (by omega)
    obtain ⟨e1, e2⟩ := hprs.get? (e := en) (by rw [Array.getElem?_toList]; exact he) (show vs[j]? = some ((vs[j]'(by omega)).1, (vs[j]'(by omega)).2) from hvj)
    obtain ⟨x, hx1, hx2⟩ := KV.at' rel (show vs[j]? = some ((vs[j]'(by omega)).1, (vs[j]'(by omega)).2) from hvj)
    rw [List.getElem?_map, hkj] at hx1
    have e3 := Option.some.inj hx1
    have e4 : Sum.inl (ks[j]'(by omega)).1 = (vs[j]'(by omega)).1 := congrArg Prod.fst e3
    have e5 : V.int (ks[j]'(by omega)).2 = x := congrArg Prod.snd e3
    subst e5
    obtain ⟨t2, e6⟩ := hx2
    rw [← e4] at e1
    rcases keyIs_shape (show keyIs (Sum.inl (ks[j]'(by omega)).1) en.key = true from e1) with ⟨i, t, ek, ev⟩ | ⟨z, t, ek, ev⟩
    · cases ek
      refine ⟨_, t, t2, hkj, ?_⟩
      rw [hg, ev, e2, e6]
    · cases ek
  have hob : (h'.push { cls := .type "list", data := .seq (as.map Value.ref).toArray }).get? h'.objs.size = some (seqObj "list" (as.map Value.ref).toArray 0) := Heap.get?_push_size _ rfl
  have kb : ∀ b o, s.heap.get? b = some o → (h'.push { cls := .type "list", data := .seq (as.map Value.ref).toArray }).get? b = some o := fun b o e => Heap.get?_push_of_some _ (hk b o e)
  have ne0 : ∀ b o, h'.get? b = some o → b ≠ h'.objs.size := fun b o e => Nat.ne_of_lt (Heap.lt_size e)
  generalize hh2 : h'.push { cls := .type "list", data := .seq (as.map Value.ref).toArray } = h2 at hob kb ⊢
  have ka : ∀ b o, h'.get? b = some o → h2.get? b = some o := fun b o e => by rw [← hh2]; exact Heap.get?_push_of_some _ e
  have at_ : ∀ v ∈ as.map Value.ref, ∃ (j : Nat) (b : Addr), v = .ref b ∧ as[j]? = some b := by
    intro v hv'
    obtain ⟨b, hb, rfl⟩ := List.mem_map.mp hv'
    obtain ⟨j, hj⟩ := List.mem_iff_getElem?.mp hb
    exact ⟨j, b, rfl, hj⟩
  have isp : ∀ v ∈ as.map Value.ref, Srt.IsPair h2 v (pairOf as ks v).1 (pairOf as ks v).2 := by
    intro v hv'
    obtain ⟨j, b, rfl, hj⟩ := at_ v hv'
    obtain ⟨e, t1, t2, he, hg⟩ := pr j b hj
    rw [pairOf_at nd hj he]
    exact ⟨b, _, t1, t2, _, rfl, ka _ _ hg, rfl, rfl⟩
  have hz2 : (as.map Value.ref).length ≤ sizeLine := by rw [List.length_map]; omega
  refine wpAny_call_entry PyProof.Rows.slot_list_sort ⟨_, hob, rfl⟩ PyProof.Rows.entry_list_sort
    (SrtO.list_sort_ord (s := { s with heap := h2, toks := tk }) (SrtO.swo_lex (pairOf as ks)) hob hz2 (fun h2' => SrtO.pairs_sortableO (s := { s with heap := h2, toks := tk }) (by omega) isp fun o e => ?_) fun out o1 o2 => ⟨.none, rfl, ?_⟩) (PyProof.Rows.args_list_sort _)
  · have e' : some o = some (seqObj "list" (as.map Value.ref).toArray 0) := e.symm.trans hob
    cases e'
    intro c
    exact absurd (Value.type.inj c) (by decide)
  · show EP X pins σ Q (.ref h'.objs.size) { s with heap := sortedHeap h2 h'.objs.size (as.map Value.ref) out.toArray, toks := tk }
    have rfs : ∀ v ∈ out, ∃ b, v = Value.ref b := fun v hv => by
      obtain ⟨_, b, e, _⟩ := at_ v (o2.perm.mem_iff.mp hv)
      exact ⟨b, e⟩
    have eo := adOf_ref rfs
    have pz : (out.map adOf).Perm as := by
      have e := o2.perm.map adOf
      rw [adOf_map] at e
      exact e
    generalize hzs : out.map adOf = zs at eo pz
    have hall := pairOf_all nd lak
    have hperm : (zs.map fun b => pairOf as ks (.ref b)).Perm ks := by
      have e := pz.map fun b => pairOf as ks (.ref b)
      rw [hall] at e
      exact e
    have hsort : (zs.map fun b => pairOf as ks (.ref b)).Pairwise (fun e f => e.1 ≤ f.1) := by
      rw [eo] at o1
      have o3 := List.pairwise_map.mp (show ((zs.map Value.ref).Pairwise fun x y => SrtO.lexB (pairOf as ks y) (pairOf as ks x) = false) from o1)
      refine List.pairwise_map.mpr (o3.imp fun {x y} h => ?_)
      have h' := SrtO.lexB_no.mp h
      omega
    -- behind the sort
    have kF : ∀ b o, b ≠ h'.objs.size → h2.get? b = some o → (sortedHeap h2 h'.objs.size (as.map Value.ref) out.toArray).get? b = some o := fun b o hb e => (PyProof.Rows.sortedHeap_old hb (Heap.lt_size e)).trans e
    have kS : ∀ b o, s.heap.get? b = some o → (sortedHeap h2 h'.objs.size (as.map Value.ref) out.toArray).get? b = some o := fun b o e => kF b o (ne0 _ _ (hk b o e)) (kb b o e)
    obtain ⟨eF, heF⟩ := PyProof.Rows.sortedHeap_at (vs := as.map Value.ref) (out := out.toArray) hob
    have I1 : Inv X pins σ H { s with heap := sortedHeap h2 h'.objs.size (as.map Value.ref) out.toArray, toks := tk } := I.kept (t' := tk) kS
    have hn0 : H h'.objs.size = none := I.hok.fresh (Nat.le_of_lt hlt)
    have hlen : (zs.map fun z => V.ref z).length ≤ sizeLine := by
      have e := hperm.length_eq
      rw [List.length_map] at e
      rw [List.length_map]
      omega
    have rv : Vals (zs.map fun z => V.ref z) out := by
      rw [eo]
      exact vals_maps (fun z : Addr => V.ref z) (fun z => Value.ref z) zs fun _ _ => rfl
    have I2 : Inv X pins σ (upd H h'.objs.size (.lst (zs.map fun z => V.ref z))) { s with heap := sortedHeap h2 h'.objs.size (as.map Value.ref) out.toArray, toks := tk } :=
      I1.take (h' := sortedHeap h2 h'.objs.size (as.map Value.ref) out.toArray) (t' := tk) (fun b ob _ e => e) (I.fpOk (Nat.le_of_lt hlt) hn0) ⟨hlen, out, eF, rv, heF⟩
    obtain ⟨H2, I3, g, qt⟩ := takeT (P := fun b vs => vs = [V.int (pairOf as ks (.ref b)).1, V.int (pairOf as ks (.ref b)).2]) I as _ I2 nd fun b hb => by
      obtain ⟨j, hj⟩ := List.mem_iff_getElem?.mp hb
      obtain ⟨e, t1, t2, he, hg⟩ := pr j b hj
      have hbl : s.heap.objs.size ≤ b := Nat.le_of_lt (hG.above b hb)
      refine ⟨hbl, ?_, _, rfl, fun H3 => ⟨(by rw [sizeLine_eq]; show 2 ≤ 16777216; omega), [Value.int e.1 t1, Value.int e.2 t2], ?_, ⟨_, kF _ _ (ne0 _ _ hg) (ka _ _ hg), rfl, 0, rfl⟩⟩⟩
      · rw [upd_ne (ne0 _ _ hg)]
        exact I.hok.fresh hbl
      · rw [pairOf_at nd hj he]
        exact .cons ⟨t1, rfl⟩ (.cons ⟨t2, rfl⟩ .nil)
    have gr : ∀ b o, H b = some o → H2 b = some o := fun b o e => g b o (by rw [upd_ne (ne_of_none e hn0)]; exact e)
    have em : (zs.map fun b => (b, pairOf as ks (.ref b))).map (·.2) = zs.map fun b => pairOf as ks (.ref b) := by
      rw [List.map_map]
      all_goals rfl
    have em1 : ((zs.map fun b => (b, pairOf as ks (.ref b))).map fun z => V.ref z.1) = zs.map fun z => V.ref z := by
      rw [List.map_map]
      all_goals rfl
    refine ⟨.ref h'.objs.size, H2, I3, rfl, q H2 h'.objs.size (zs.map fun b => (b, pairOf as ks (.ref b))) gr (by rw [em]; exact hperm) (by rw [em]; exact hsort) (by rw [em1]; exact g _ _ upd_same) (fun z' hz' => ?_) hn0 fun z' hz' => ?_⟩
    · obtain ⟨b, hb, rfl⟩ := List.mem_map.mp hz'
      obtain ⟨vs', ev, hH⟩ := qt b (pz.mem_iff.mp hb)
      rw [ev] at hH
      exact hH
    · obtain ⟨b, hb, rfl⟩ := List.mem_map.mp hz'
      exact I.hok.fresh (Nat.le_of_lt (hG.above b (pz.mem_iff.mp hb)))
end Lp
set_option Elab.async false
set_option linter.all false
set_option maxRecDepth 100000
set_option maxHeartbeats 1000000
namespace Lp
open PySem PySem.Spec PyProof.Rows L2
/-! ### y not in x: by __contains__ of an own class -/
section
variable {X : Cx} {k j : Nat} {C : Addr} {sp : Sp}
theorem pc_notinO {i o : Expr} {ty td : TE} (c : Met X.prog X.w X.K X.mg X.base k C "__contains__" sp) (hr : Room j X.A) (hk : k ≤ j) (hi : PE X i ty) (ho : PE X o td) : PC X .NotIn i o (tInO C sp ty td true) := by
  obtain ⟨f, fd, ps, hc, hm, F, b⟩ := c.ex
  refine ⟨fun pins s σ H Q I h => ?_⟩
  refine thn (hi.run pins s σ H _ I h) fun iv s1 ⟨y, H1, I1, ry, q1⟩ => thn (ho.run pins s1 σ H1 _ I1 q1) fun u s2 ⟨x, H2, I2, rx, a, dx, fs, ex, ea, q2⟩ => ?_
  subst ex
  cases (show u = Value.ref a from rx)
  obtain ⟨ox, od, J⟩ := inst_of I2 ea
  refine wpAny_bind ?_
  unfold contains
  refine wpAny_holding (wpAny_bind (wpAny_bind (J.type.here ((PySem.W.looks_findIn I2.kIn hm.at_).here ?_))))
  rw [if_neg (by simp)]
  refine wpAny_bind (PySem.W.unlessNone_K I2.kIn J hm.at_ hm.fn (wpAny_mono (run_at (vs := [.ref a, y]) F (hr.mono hk) b I2 I2.env0 (.cons rfl (.cons ry .nil)) q2) (fun v s' hv => ?_) fun _ _ z => z))
  obtain ⟨v, H', I', rv, b', rfl, hq⟩ := hv
  cases rv
  refine wpAny_of_eq (a := b') (by first | rfl | simp [truthy]) ?_
  exact wpAny_pure ⟨.bl (!b'), H', I', rfl, hq⟩
end
end Lp
set_option Elab.async false
set_option linter.all false
set_option maxRecDepth 100000
set_option maxHeartbeats 1000000
namespace Lp
open PySem PySem.Spec PyProof.Rows L2 L2.DX
/-! ### x(e, ..) and x(k = e) of an instance, by __call__; x any expression -/
structure MetK (P : Program) (w : World) (K : PySem.W.Frag) (mg : Str → Option Value) (base : Heap) (k : Nat) (C : Addr) (m : Str) (n : Nat) (ks : List Str) (gV : List V → List V → List V) (sp : Sp) : Prop where
  ex : ∃ (f : Addr) (fd : FuncData) (ps : List Str) (g : List Value → List Value → List Value), Cls K C ∧ Meth K C m f ∧ FnOk P w K mg base CX0 k f fd ps sp ∧ KBn K fd ps n ks g gV
section
variable {X : Cx} {k j : Nat} {C : Addr} {sp : Sp} {p pos : Pos} {fe e : Expr} {es : List Expr} {t tk' : TA} {tf : TE} {kws : List Keyword} {ks : List Str} {gV : List V → List V → List V}
def tCallE (C : Addr) (sp : Sp) (tf : TE) (t : TA) : TE := fun σ H Q => tf σ H fun x H1 => ∃ a : Addr, x = .ref a ∧ t σ H1 fun vs H2 => ∃ (dx : Addr) (fs : List (Str × V)), H2 a = some (.ins C dx fs) ∧ sp (.ref a :: vs) H2 Q E0
theorem pe_callE (c : Met X.prog X.w X.K X.mg X.base k C "__call__" sp) (fi : ∀ f, PySem.W.findIn X.K (.ref C) "__call__" = some (some (.ref f)) → PySem.W.fnIn X.K f = true) (hr : Room j X.A) (hk : k ≤ j) (hf : PE X fe tf) (ha : PA X (e :: es) t)
    (hc : eval (.Call fe (e :: es) [] pos) X.env = (do callWith pos (← eval fe X.env) [] (backTo pos (starEach (e :: es) X.env)) (backToKw pos (keywordEach [] X.env))) := by rfl)
    (he : starEach (e :: es) X.env = (false, eval e X.env) :: starEach es X.env := by rfl) (hpl : (backTo pos (starEach es X.env)).any (·.1) = false := by rfl) : PE X (.Call fe (e :: es) [] pos) (tCallE C sp tf t) := by
  obtain ⟨f, fd, ps, hc', hm, F, b⟩ := c.ex
  refine ⟨fun pins s σ H Q I h => ?_⟩
  refine Call_ (thn (hf.run pins s σ H _ I h) fun u s1 ⟨v, H1, I1, r1, a, ev, ht⟩ => ?_) hc
  subst ev
  cases (show u = Value.ref a from r1)
  have go := ha.run pos pins s1 σ _ _ I1 ht
  rw [he] at go ⊢
  refine callWith_obj (by show ((false || (backTo pos (starEach es X.env)).any (·.1)) || false) = false; rw [hpl]; rfl) (Calls.evalArgs_plain ?_)
  refine thn go fun us s2 ⟨vs, H2, I2, r, dx, fs, ea, q⟩ => ?_
  obtain ⟨ox, od, J, hd⟩ := inst_plain I2 ea
  refine ⟨⟨C, ox, od, J, hd⟩, ?_⟩
  have rr : Vals (.ref a :: vs) (.ref a :: us) := .cons rfl r
  have hl : (Value.ref a :: us).length = ps.length := by rw [← rr.length]; exact F.len _ _ _ _ q
  have bd := b s2 (.ref a :: us) I2.kIn (by rw [List.append_nil]; exact hl)
  rw [List.append_nil] at bd
  refine wpAny_call (PySem.W.kco_code I2.kIn J hd hm.at_ hm.fn (fi f hm.at_) (codeAny_mono (F.run X.A X.stack s2 H2 ⟨.ref a :: us, []⟩ (.ref a :: us) (.ref a :: vs) Q E0 (hr.mono hk) I2.env0 bd rr q) fun r s' hq => ?_))
  cases r with
  | error e => exact hq.elim
  | ok fl =>
    cases fl with
    | ret u => exact I2.after hq
    | next => exact False.elim hq
    | brk => exact False.elim hq
    | cont => exact False.elim hq
def tCallEK (C : Addr) (m : Nat) (sp : Sp) (gV : List V → List V → List V) (tf : TE) (t : TA) : TE := fun σ H Q => tf σ H fun x H1 => ∃ a : Addr, x = .ref a ∧ t σ H1 fun zs H2 => ∃ (dx : Addr) (fs : List (Str × V)), zs.length = m ∧ H2 a = some (.ins C dx fs) ∧ sp (gV [.ref a] zs) H2 Q E0
theorem pe_callEK (c : MetK X.prog X.w X.K X.mg X.base k C "__call__" 1 ks gV sp) (fi : ∀ f, PySem.W.findIn X.K (.ref C) "__call__" = some (some (.ref f)) → PySem.W.fnIn X.K f = true) (hr : Room j X.A) (hk : k ≤ j) (hf : PE X fe tf) (hkw : PK X kws tk')
    (hc : eval (.Call fe [] kws pos) X.env = (do callWith pos (← eval fe X.env) [] (backTo pos (starEach [] X.env)) (backToKw pos (keywordEach kws X.env))) := by rfl)
    (hall : (backToKw pos (keywordEach kws X.env)).all (·.1.isSome) = true := by rfl) (hks : (backToKw pos (keywordEach kws X.env)).filterMap (·.1) = ks := by rfl)
    (hpl : ((backTo pos (starEach [] X.env)).any (·.1) || (backToKw pos (keywordEach kws X.env)).any (·.1.isNone)) = false := by rfl) : PE X (.Call fe [] kws pos) (tCallEK C ks.length sp gV tf tk') := by
  obtain ⟨f, fd, ps, g, hc', hm, F, b⟩ := c.ex
  refine ⟨fun pins s σ H Q I h => ?_⟩
  rw [hc]
  refine wpAny_bind (thn (hf.run pins s σ H _ I h) fun u s1 ⟨v, H1, I1, r1, a, ev, ht⟩ => ?_)
  subst ev
  cases (show u = Value.ref a from r1)
  refine callWith_obj hpl (evalArgs_kw2_nil hall ?_)
  refine thn (hkw.run pos pins s1 σ _ _ I1 ht) fun ws s2 ⟨zs, H2, I2, rz, dx, fs, lz, ea, q⟩ => ?_
  obtain ⟨ox, od, J, hd⟩ := inst_plain I2 ea
  refine ⟨⟨C, ox, od, J, hd⟩, ?_⟩
  have r0 : Vals [.ref a] [Value.ref a] := .cons rfl .nil
  have rr := b.rel r0 rz
  have bd := b.to s2 [.ref a] ws I2.kIn rfl (rz.length.symm.trans lz)
  rw [hks]
  refine wpAny_call (PySem.W.kco_code I2.kIn J hd hm.at_ hm.fn (fi f hm.at_) (codeAny_mono (F.run X.A X.stack s2 H2 ⟨[.ref a], ks.zip ws⟩ (g [.ref a] ws) (gV [.ref a] zs) Q E0 (hr.mono hk) I2.env0 bd rr q) fun r s' hq => ?_))
  cases r with
  | error e => exact hq.elim
  | ok fl =>
    cases fl with
    | ret u => exact I2.after hq
    | next => exact False.elim hq
    | brk => exact False.elim hq
    | cont => exact False.elim hq
end
/-! ### d.values() and list(d.values()) -/
def valsO (p d : Addr) : HO := .ext fun h => h.IsValuesView p d
theorem valsO_ok {P : Program} {w : World} {H : Hp} {h : Heap} {p d : Addr} (e : h.get? p = some { cls := .type "dict_values", data := .fields #[.ref d] }) : ObjOk P w H h p (valsO p d) :=
  ⟨⟨_, e, rfl, rfl⟩, ⟨_, e⟩, fun h1 h2 x k => let ⟨o, ho, r⟩ := x; ⟨o, k o ho, r⟩⟩
def rValuesI : V → List V → Hp → VK → Prop := fun x xs H Q => ∃ (a : Addr) (kvs : List (L2.Key × V)), x = .ref a ∧ xs = [] ∧ H a = some (.dK kvs) ∧ ∀ p, H p = none → Q (.ref p) (upd H p (valsO p a))
theorem mt_valuesI {X : Cx} : MtR X "dict.values" rValuesI := by
  intro pins s σ H x xs v us Q I rx rxs h
  obtain ⟨a, kvs, rfl, rfl, ha, q⟩ := h
  cases rx
  cases rxs
  obtain ⟨z, hd, vs, rel, dof⟩ := dk_of I.hok ha
  obtain ⟨ep, dat⟩ := dof.dictAt
  obtain ⟨ob, es, ho, ex, hdat, hko, hpr, hnd⟩ := id dat
  refine call_meetsIn PySem.F.slot_dict_values ⟨ob, ho, ex.1⟩ PySem.F.entry_dict_values (PySem.F.args_dict_values_1 _) (meets_dict_values (mixKind X.prog X.w) a hd) ⟨⟨vs, dof⟩, ?_⟩
  have hf : H s.heap.objs.size = none := I.hok.fresh (Nat.le_refl _)
  exact ⟨.ref s.heap.objs.size, upd H s.heap.objs.size (valsO s.heap.objs.size a), I.laid (t' := s.toks) (fun b u e => Heap.get?_push_of_some _ e) (Nat.le_refl _) (valsO_ok (Heap.get?_push_size _ rfl)), rfl, q _ hf⟩
def rListVals : List V → Hp → VK → Prop := fun xs H Q => ∃ (p a : Addr) (kvs : List (L2.Key × V)), xs = [.ref p] ∧ H p = some (valsO p a) ∧ H a = some (.dK kvs) ∧ ∀ q, H q = none → Q (.ref q) (upd H q (.lst (kvs.map (·.2))))
theorem call_listVals {X : Cx} (hc : X.calm = true) : CallR X (.type "list") rListVals := by
  intro pins s σ H xs us Q I r h
  obtain ⟨p, a, kvs, e, hp, hk, q⟩ := h
  subst e
  obtain ⟨u, eu, rx⟩ := vals1 r
  subst eu
  obtain rfl : u = Value.ref p := rx
  have view : s.heap.IsValuesView p a := (show ObjOk X.prog X.w H s.heap p (valsO p a) from I.hok p _ hp).1
  obtain ⟨z, lo, vs, rk, hd⟩ := (show ObjOk X.prog X.w H s.heap a (.dK kvs) from I.hok a _ hk)
  obtain ⟨ep, hat⟩ := hd.dictAt
  have hl : kvs.length = vs.length := Paired.length rk
  refine PySem.W.kdl_call (PySem.W.kdl_values (knd := mixKind X.prog X.w) (kvs := vs) (ep := ep)) (I.ok.hd hc) ⟨view, hat⟩ (by rw [← hl]; exact z) fun h' tk acc' c' hkeep hS hacc => ?_
  refine ⟨.ref s.heap.objs.size, upd H s.heap.objs.size (.lst (kvs.map (·.2))), I.laid hkeep (Nat.le_refl _) (show ObjOk X.prog X.w _ _ _ (.lst (kvs.map (·.2))) from ⟨?_, acc'.toList, c', ?_, ?_⟩), rfl, q _ (I.hok.fresh (Nat.le_refl _))⟩
  · rw [List.length_map]; exact z
  · have el : acc'.toList.length = acc'.size := by simp
    refine vals_of_at (by rw [List.length_map, el, hacc.1, hl]) fun j x w h1 h2 => ?_
    obtain ⟨k, hky⟩ := hacc.2 j w (by rw [← Array.getElem?_toList]; exact h2)
    obtain ⟨y, e1, e2⟩ := KV.at' rk hky
    rw [List.getElem?_map, e1] at h1
    cases h1
    exact e2
  · rw [Array.toArray_toList]; exact hS
end Lp
set_option Elab.async false
set_option linter.all false
set_option maxRecDepth 100000
set_option maxHeartbeats 1000000
namespace Lp
open PySem PySem.Spec PyProof.Rows L2
/-! ### set(xs) and sorted(set(xs)) of ints, any number of them -/
def rSetLG (K : PySem.W.Frag) (w : World) : List V → Hp → VK → Prop := fun xs H Q => ∃ (a : Addr) (ns : List Int), xs = [V.ref a] ∧ SqL K H a (ns.map V.int) ∧ ns.length ≤ 1000 ∧ ∀ (p : Addr) (c : Nat), H p = none → c ≤ ns.length → Q (.ref p) (upd H p (SetO w p (fun j => decide (j ∈ ns)) c))
theorem cr_setLG {X : Cx} (hc : X.calm = true) : CallR X (.type "set") (rSetLG X.K X.w) := by
  intro pins s σ H xs us Q I r h
  obtain ⟨a, ns, rfl, hq, hl, q⟩ := h
  cases r with
  | cons r rr =>
    cases rr
    cases (show _ = Value.ref a from r)
    obtain ⟨its, rv, p, _⟩ := I.list hq
    refine call_set_listI ns (I.ok.hd hc) p.isList (RZ.intsAre_vals rv) (Nat.lt_of_le_of_lt (Nat.succ_le_succ hl) (by decide)) fun h' tk c hs hcn hk => ?_
    refine ⟨.ref _, upd H _ (SetO X.w s.heap.objs.size (fun j => decide (j ∈ ns)) c), I.laid hk (Nat.le_refl _) ⟨hs, ?_, fun h1 h2 x k => ?_⟩, rfl, q _ c (I.hok.fresh (Nat.le_refl _)) hcn⟩
    · obtain ⟨o, _, _, _, e, _⟩ := hs
      exact ⟨o, e⟩
    · obtain ⟨o, es, ep, t, e, r⟩ := x
      exact ⟨o, es, ep, t, k o e, r⟩
section
variable {P : Program} {w : World} {A : Around} {E : Value → Shared → Prop} {s : Shared} {a : Addr}
theorem sorted_setG {S : Int → Bool} {n : Nat} {Q : Value → Shared → Prop} (R : SetR w s.heap a S n) (hh : A.handled = none) (hn : n ≤ 100000)
    (hQ : ∀ s' p (out : Array Value) (c : Nat) (ns : List Int), (∀ b o, s.heap.get? b = some o → s'.heap.get? b = some o) → s'.gens = s.gens → s'.os = s.os → s.heap.objs.size ≤ p →
      s'.heap.get? p = some (seqObj "list" out c) → IntsAre out.toList ns → ns.Pairwise (· ≤ ·) → ns.Nodup → (∀ k, k ∈ ns ↔ S k = true) → ns.length = n → Q (.ref p) s') :
    wpAny (model P w) A (call (.builtin "sorted") [.ref a]) Q E s := by
  obtain ⟨o, es, ep, t, ho, hex, hd, g, nd, hm, hb, hf, hn', hr, hl⟩ := R
  refine Calls.call_function_entry PyProof.Rows.kind_sorted PyProof.Rows.plain_sorted PyProof.Rows.entry_sorted (PyProof.Rows.args_sorted1 _) ?_
  unfold Builtin.«sorted»
  refine wpAny_bind (m := checkCount "sorted" 1 1 _) (wpAny_pure ?_)
  refine wpAny_bind (collect_set (A := A.in1) hh ⟨o, ho, hex.1, hd⟩ hf hb hr hl fun s1 vs k1 hz g1 o1 pm => ?_)
  have hvl : vs.length = n := by rw [pm.length_eq, List.length_map, Array.length_toList]; exact hn'
  have hI : IntsAre vs (vs.map Builtin.Re.reRawOf) := ints_of vs fun v hv => by
    obtain ⟨e, he, q⟩ := List.mem_map.mp (pm.mem_iff.mp hv)
    obtain ⟨k, tk, h1, _⟩ := g e he
    exact ⟨k, tk, by rw [← q]; exact h1⟩
  have pk : (vs.map Builtin.Re.reRawOf).Perm (es.toList.map keyOf) := by
    have q := pm.map Builtin.Re.reRawOf
    rw [List.map_map] at q
    exact q
  have hz2 : vs.length ≤ sizeLine := by rw [hvl]; exact zs hn
  refine wpAny_bind (wpAny_newList ?_ hz2)
  have hoL : (s1.heap.push (seqObj "list" vs.toArray 0)).get? s1.heap.objs.size = some (seqObj "list" vs.toArray 0) := Heap.get?_push_size _ rfl
  refine wpAny_bind (wpAny_holding (wpAny_call_entry PyProof.Rows.slot_list_sort ⟨_, hoL, rfl⟩ PyProof.Rows.entry_list_sort
    (SrtO.list_sort_ord SrtO.swo_int hoL hz2 (fun h2 => SrtO.ints_sortable hI h2) fun out g1' g2 => ⟨_, rfl, ?_⟩) (PyProof.Rows.args_list_sort _)))
  obtain ⟨q1, q2, q3⟩ := SrtO.ints_out hI g1' g2
  obtain ⟨c, hc⟩ := PyProof.Rows.sortedHeap_at (vs := vs) (out := out.toArray) hoL
  have pn : (out.map SrtO.iv).Perm (es.toList.map keyOf) := q2.trans pk
  refine wpAny_pure ⟨_, rfl, hQ _ s1.heap.objs.size out.toArray c (out.map SrtO.iv) (fun b u e => ?_) g1 o1 hz hc (by simpa using q1) q3 (pn.nodup_iff.mpr nd) (fun k => by rw [pn.mem_iff, ← hm k]) ?_⟩
  · have q := k1 b u e
    have hlt := Heap.lt_size q
    show (PyProof.Rows.sortedHeap (s1.heap.push (seqObj "list" vs.toArray 0)) s1.heap.objs.size vs out.toArray).get? b = some u
    rw [PyProof.Rows.sortedHeap_old (Nat.ne_of_lt hlt) (by rw [size_push']; exact Nat.lt_succ_of_lt hlt)]
    exact Heap.get?_push_of_some _ q
  · rw [pn.length_eq, List.length_map, Array.length_toList]; exact hn'
end
section
variable {X : Cx}
def rSortedSetG (w : World) : List V → Hp → VK → Prop := fun vs H Q => ∃ (a : Addr) (S : Int → Bool) (n : Nat), vs = [V.ref a] ∧ H a = some (SetO w a S n) ∧ n ≤ 100000 ∧
  ∀ (ns : List Int) (p : Addr), ns.Pairwise (· ≤ ·) → ns.Nodup → (∀ k : Int, k ∈ ns ↔ S k = true) → H p = none → Q (.ref p) (upd H p (.lst (ns.map V.int)))
theorem cr_sortedSetG (hc : X.calm = true) : CallR X (.builtin "sorted") (rSortedSetG X.w) := by
  intro pins s σ H vs us Q I r h
  obtain ⟨a, S, n, rfl, ha, h64, q⟩ := h
  have R := setO_get I ha
  rw [Vals.ref1 r]
  refine sorted_setG R (I.ok.hd hc) h64 fun s' p out c ns k g o hp hg hi hs hnd hm hl => ?_
  have hlen : (ns.map V.int).length ≤ sizeLine := by rw [List.length_map, hl]; exact zs h64
  have hn : H p = none := I.hok.fresh hp
  have J : Inv X pins σ (upd H p (.lst (ns.map V.int))) { s with heap := s'.heap, gens := s'.gens, drawn := s'.drawn, toks := s'.toks } :=
    I.call (ch := []) (Un.laid k hp hn) (I.hok.laid k hp ⟨hlen, out.toList, c, vals_of_ints hi, hg⟩) (by rw [g]; exact I.bare) (fun _ z => nomatch z)
  have e : s' = { s with heap := s'.heap, gens := s'.gens, drawn := s'.drawn, toks := s'.toks } := by
    cases s'
    cases s
    cases o
    rfl
  rw [e]
  exact ⟨.ref p, _, J, rfl, q ns p hs hnd hm hn⟩
end
end Lp
set_option Elab.async false
set_option linter.all false
set_option maxRecDepth 100000
set_option maxHeartbeats 1000000
namespace Lp
open PySem PySem.Spec PyProof.Rows L2
/-! ### a != b of two instances whose class has __eq__ alone -/
theorem one_bind (self : Value) : bindSpecial (.builtin "object.__ne__") self = pure (.builtin "object.__ne__", [self]) :=
  (Slot.of (T := "object") (name := "__ne__") (owner := "object") (n := "__ne__") (by rw [typeLookup_type, builtinLookup_eq_fast]; kernel_rfl) (by decide +kernel) (by decide +kernel) (by decide +kernel)
    (.inl (by decide +kernel)) (by rw [isSubtype_type]; kernel_rfl)).bind self
theorem ifBound_ne {M : Model} {A : Around} {E : Value → Shared → Prop} {s : Shared} {K : PySem.W.Frag} {x C : Addr} {ox : Obj} {od : Option Obj} {args : List Value} {Q : Option Value → Shared → Prop} (X : K.In s.heap) (I : PySem.W.InstAt s.heap x ox C od) (hs : PySem.W.findIn K (.ref C) "__ne__" = some (some (.builtin "object.__ne__")))
    (h : wpAny M A (call (.builtin "object.__ne__") (.ref x :: args)) (fun v => Q (some v)) E s) : wpAny M A (callSpecialIfBound? (.ref x) "__ne__" args) Q E s := by
  simp only [callSpecialIfBound?, bindSpecialIfBound?]
  refine wpAny_holding (wpAny_bind (wpAny_bind (wpAny_bind (I.type.here ((PySem.W.looks_findIn X hs).here ?_)))))
  refine wpAny_bind (wpAny_askSetting (wpAny_ite ?_))
  have fin : wpAny M A (call (.builtin "object.__ne__") ([.ref x] ++ args) >>= fun v => pure (some v)) Q E s := wpAny_bind (wpAny_mono h (fun v s' h' => wpAny_pure h') fun _ _ h' => h')
  have bnd : PySem.W.Looks M s.heap (bindSpecial (.builtin "object.__ne__") (.ref x)) (.builtin "object.__ne__", [.ref x]) := PySem.W.Looks.of_pure (one_bind _)
  split
  · exact wpAny_bind (bnd.here (wpAny_pure (by exact fin)))
  · exact wpAny_tryCatch (wpAny_bind (bnd.here (wpAny_pure (by exact fin))))
theorem ne_entry {prog : Program} {w : World} {A : Around} {E : Value → Shared → Prop} {s : Shared} {K : PySem.W.Frag} {x C f : Addr} {ox : Obj} {od : Option Obj} {b : Value} {Q : Value → Shared → Prop} (hu : A.in1.units < cLine) (X : K.In s.heap) (I : PySem.W.InstAt s.heap x ox C od)
    (hob : PySem.W.subIn K (.ref C) (.type "object") = some true) (at_ : PySem.W.findIn K (.ref C) "__eq__" = some (some (.ref f))) (isf : PySem.W.isFn K (.ref f) = true)
    (go : wpAny (model prog w) A.in1 (call (.ref f) [.ref x, b]) (fun v s' => ∃ c, v = .bool c ∧ Q (.bool (!c)) s') E s) : wpAny (model prog w) A (call (.builtin "object.__ne__") [.ref x, b]) Q E s := by
  have hi : PySem.W.Looks (model prog w) s.heap (isInstance (.ref x) (.type "object")) true := I.type.andThen (PySem.W.looks_subIn X hob)
  refine wpAny_call (codeAny_call_builtin (by decide +kernel) F.cmpEntry_ne (PySem.W.check_slot F.cmpKind_ne F.cmpSplit_ne hi (F.cmpArgs_ne _ _) ?_))
  unfold Builtin.«object.__ne__»
  refine wpAny_bind (m := slotArgs "__ne__" 1 _) (wpAny_of_eq (a := ((Value.ref x : Value), [b])) (by first | rfl | (simp only [slotArgs]; rfl)) ?_)
  refine wpAny_bind (wpAny_cRoomFor hu ?_)
  refine wpAny_bind (m := callSpecialIfBound? (.ref x) (Str.ofString "__eq__") [b]) (PySem.W.ifBound_K X I at_ isf (wpAny_mono go (fun v s' hv => ?_) fun _ _ z => z))
  obtain ⟨c, rfl, hq⟩ := hv
  show wpAny (model prog w) A.in1 (truthy (.bool c) >>= fun b => ret (Value.bool !b)) _ E s'
  exact wpAny_bind (wpAny_of_eq (a := c) (by first | rfl | simp [truthy]) (wpAny_pure hq))
theorem ne_own {prog : Program} {w : World} {A : Around} {E : Value → Shared → Prop} {s : Shared} {K : PySem.W.Frag} {x C f : Addr} {ox : Obj} {od : Option Obj} {b tb : Value} {Q : Value → Shared → Prop} (hu : A.units < cLine) (hu1 : A.in1.units < cLine) (X : K.In s.heap) (I : PySem.W.InstAt s.heap x ox C od) (tyb : PySem.W.Looks (model prog w) s.heap (typeOf b) tb)
    (nf : PySem.W.notFirst K C tb = true) (hne : PySem.W.findIn K (.ref C) "__ne__" = some (some (.builtin "object.__ne__"))) (hob : PySem.W.subIn K (.ref C) (.type "object") = some true) (at_ : PySem.W.findIn K (.ref C) "__eq__" = some (some (.ref f))) (isf : PySem.W.isFn K (.ref f) = true)
    (go : wpAny (model prog w) A.in1 (call (.ref f) [.ref x, b]) (fun v s' => ∃ c, v = .bool c ∧ Q (.bool (!c)) s') E s) : wpAny (model prog w) A (richCompare .NotEq (.ref x) b) Q E s := by
  have mine : wpAny (model prog w) A (tryCompare (.ref x) (cmpInfo .NotEq).2.1 b) (fun r s' => ∃ v, r = some v ∧ Q v s') E s := by
    show wpAny (model prog w) A (tryCompare (.ref x) "__ne__" b) _ E s
    unfold tryCompare
    have ent : wpAny (model prog w) A (call (.builtin "object.__ne__") [.ref x, b]) (fun v s' => ∃ c, v = .bool c ∧ Q (.bool c) s') E s :=
      ne_entry (Q := fun v s' => ∃ c, v = .bool c ∧ Q (.bool c) s') hu1 X I hob at_ isf (wpAny_mono go (fun v s' hv => by
        obtain ⟨c, rfl, hq⟩ := hv
        exact ⟨c, rfl, !c, rfl, hq⟩) fun _ _ z => z)
    refine wpAny_bind (ifBound_ne X I hne (wpAny_mono ent (fun v s' hv => ?_) fun _ _ z => z))
    obtain ⟨c, rfl, hq⟩ := hv
    exact wpAny_pure ⟨_, rfl, hq⟩
  have last : ∀ {g : Option Value → Sem Value}, (∀ v, g (some v) = pure v) → wpAny (model prog w) A (tryCompare (.ref x) (cmpInfo .NotEq).2.1 b >>= g) Q E s := fun {g} hg => wpAny_bind (wpAny_mono mine (fun r s' ⟨v, er, hq⟩ => by rw [er, hg]; exact wpAny_pure hq) fun _ _ z => z)
  unfold richCompare
  simp only [oneThing_ref]
  refine wpAny_holding (wpAny_bind (wpAny_cRoomFor hu ?_))
  refine wpAny_bind (I.type.here (wpAny_bind (tyb.here ?_)))
  split
  · rename_i q
    have sb : PySem.W.subIn K tb (.ref C) = some false := by
      rcases Bool.or_eq_true_iff.mp nf with z | z
      · rw [beq_iff_eq.mp z] at q
        simp at q
      · exact beq_iff_eq.mp z
    refine wpAny_bind ((PySem.W.looks_subIn X sb).here ?_)
    simp only [Bool.false_eq_true, if_false]
    exact last fun v => rfl
  · refine wpAny_bind (wpAny_pure ?_)
    simp only [Bool.false_eq_true, if_false]
    exact last fun v => rfl
section
variable {X : Cx} {k j : Nat} {C : Addr} {sp : Sp}
def rNeO (C : Addr) (sp : Sp) : R2 := fun x y H Q => ∃ (a b dx dy : Addr) (fs gs : List (Str × V)), x = .ref a ∧ y = .ref b ∧ H a = some (.ins C dx fs) ∧ H b = some (.ins C dy gs) ∧ sp [.ref a, .ref b] H (fun v H' => ∃ c : Bool, v = .bl c ∧ Q (.bl (!c)) H') E0
theorem op_neO (c : Met X.prog X.w X.K X.mg X.base k C "__eq__" sp) (hr : Room j X.A) (hk : k + 1 ≤ j) (nf : PySem.W.notFirst X.K C (.ref C) = true) (hne : PySem.W.findIn X.K (.ref C) "__ne__" = some (some (.builtin "object.__ne__"))) (hob : PySem.W.subIn X.K (.ref C) (.type "object") = some true) : OpR X (compareOp .NotEq) (rNeO C sp) := by
  intro pins s σ H x y v u Q I rx ry h
  obtain ⟨a, b, dx, dy, fs, gs, rfl, rfl, ha, hb, q⟩ := h
  obtain ⟨f, fd, ps, hc, hm, F, bd⟩ := c.ex
  cases (show v = Value.ref a from rx)
  cases (show u = Value.ref b from ry)
  obtain ⟨ox, od, J⟩ := inst_of I ha
  obtain ⟨ox2, od2, J2⟩ := inst_of I hb
  have hu : X.A.units < cLine := by have := hr.units; omega
  have hu1 : X.A.in1.units < cLine := by
    have := hr.units
    show X.A.units + 1 < cLine
    omega
  show wpAny _ X.A (richCompare .NotEq _ _) _ _ s
  refine ne_own hu hu1 I.kIn J J2.type nf hne hob hm.at_ hm.fn (wpAny_mono (run_at (A := X.A.in1) (vs := [.ref a, .ref b]) F (hr.mono hk).in1 bd I I.env0.in1 (.cons rfl (.cons rfl .nil)) q) (fun w s' hw => ?_) fun _ _ z => z)
  obtain ⟨z, H', I', r, c, rfl, hq⟩ := hw
  cases r
  exact ⟨c, rfl, .bl (!c), H', I', rfl, hq⟩
end
end Lp
set_option Elab.async false
set_option linter.all false
set_option maxRecDepth 100000
set_option maxHeartbeats 1000000
namespace Lp
open PySem PySem.Spec PyProof.Rows L2
/-! ### a == y, a != y of an instance and any value -/
section
variable {X : Cx} {k j : Nat} {C : Addr} {sp : Sp}
def rEqOV (K : PySem.W.Frag) (C : Addr) (sp : Sp) : R2 := fun x y H Q => ∃ (a dx : Addr) (fs : List (Str × V)) (t : Value), x = .ref a ∧ H a = some (.ins C dx fs) ∧ TyX K H y t ∧ PySem.W.notFirst K C t = true ∧ sp [.ref a, y] H Q E0
theorem op_eqOV (c : Met X.prog X.w X.K X.mg X.base k C "__eq__" sp) (hr : Room j X.A) (hk : k ≤ j) : OpR X (compareOp .Eq) (rEqOV X.K C sp) := by
  intro pins s σ H x y v u Q I rx ry h
  obtain ⟨a, dx, fs, t, rfl, ha, ty, nf, q⟩ := h
  obtain ⟨f, fd, ps, hc, hm, F, bd⟩ := c.ex
  cases (show v = Value.ref a from rx)
  obtain ⟨ox, od, J⟩ := inst_of I ha
  obtain ⟨P, Z, p, _⟩ := kit_of I ry ty
  have hu : X.A.units < cLine := by have := hr.units; omega
  show wpAny _ X.A (richCompare .Eq _ _) _ _ s
  refine eq_own (op := .Eq) hu I.kIn J (Z.ty _ _ I.kIn p) nf hm.at_ hm.fn (wpAny_mono (run_at (vs := [.ref a, y]) F (hr.mono hk) bd I I.env0 (.cons rfl (.cons ry .nil)) q) (fun w s' hw => ?_) fun _ _ z => z)
  exact ⟨by obtain ⟨z, _, _, r, _⟩ := hw; exact relV_ni r, hw⟩
def rNeOV (K : PySem.W.Frag) (C : Addr) (sp : Sp) : R2 := fun x y H Q => ∃ (a dx : Addr) (fs : List (Str × V)) (t : Value), x = .ref a ∧ H a = some (.ins C dx fs) ∧ TyX K H y t ∧ PySem.W.notFirst K C t = true ∧ sp [.ref a, y] H (fun v H' => ∃ c : Bool, v = .bl c ∧ Q (.bl (!c)) H') E0
theorem op_neOV (c : Met X.prog X.w X.K X.mg X.base k C "__eq__" sp) (hr : Room j X.A) (hk : k + 1 ≤ j) (hne : PySem.W.findIn X.K (.ref C) "__ne__" = some (some (.builtin "object.__ne__"))) (hob : PySem.W.subIn X.K (.ref C) (.type "object") = some true) : OpR X (compareOp .NotEq) (rNeOV X.K C sp) := by
  intro pins s σ H x y v u Q I rx ry h
  obtain ⟨a, dx, fs, t, rfl, ha, ty, nf, q⟩ := h
  obtain ⟨f, fd, ps, hc, hm, F, bd⟩ := c.ex
  cases (show v = Value.ref a from rx)
  obtain ⟨ox, od, J⟩ := inst_of I ha
  obtain ⟨P, Z, p, _⟩ := kit_of I ry ty
  have hu : X.A.units < cLine := by have := hr.units; omega
  have hu1 : X.A.in1.units < cLine := by
    have := hr.units
    show X.A.units + 1 < cLine
    omega
  show wpAny _ X.A (richCompare .NotEq _ _) _ _ s
  refine ne_own hu hu1 I.kIn J (Z.ty _ _ I.kIn p) nf hne hob hm.at_ hm.fn (wpAny_mono (run_at (A := X.A.in1) (vs := [.ref a, y]) F (hr.mono hk).in1 bd I I.env0.in1 (.cons rfl (.cons ry .nil)) q) (fun w s' hw => ?_) fun _ _ z => z)
  obtain ⟨z, H', I', r, c, rfl, hq⟩ := hw
  cases r
  exact ⟨c, rfl, .bl (!c), H', I', rfl, hq⟩
end
end Lp
set_option Elab.async false
set_option linter.all false
set_option maxRecDepth 100000
namespace Lp
open PySem PySem.Spec PyProof.Rows L2
/-! ### the same, with K told apart (for comprehensions) -/
section
variable {X : Cx} {K : PySem.W.Frag} {k j : Nat} {C : Addr} {sp : Sp}
theorem k_eqOV (e : X.K = K) (c : Met X.prog X.w X.K X.mg X.base k C "__eq__" sp) (hr : Room j X.A) (hk : k ≤ j) : OpR X (compareOp .Eq) (rEqOV K C sp) := by
  subst e
  exact op_eqOV c hr hk
theorem k_neOV (e : X.K = K) (c : Met X.prog X.w X.K X.mg X.base k C "__eq__" sp) (hr : Room j X.A) (hk : k + 1 ≤ j) (hne : PySem.W.findIn X.K (.ref C) "__ne__" = some (some (.builtin "object.__ne__"))) (hob : PySem.W.subIn X.K (.ref C) (.type "object") = some true) : OpR X (compareOp .NotEq) (rNeOV K C sp) := by
  subst e
  exact op_neOV c hr hk hne hob
end
end Lp
set_option Elab.async false
set_option linter.all false
set_option maxRecDepth 100000
namespace Lp
open PySem PySem.Spec PyProof.Rows L2
/-! ### values of any kind: None, bools, ints, texts, lists, tuples, the empty dict -/
mutual
inductive Ox (K : PySem.W.Frag) (H : Hp) : V → PyData → Prop
  | non : Ox K H .non .none
  | bl (b : Bool) : Ox K H (.bl b) (.bool b)
  | int (i : Int) : Ox K H (.int i) (.int i)
  | str (x : Str) : Ox K H (.str x) (.str x)
  | lst {a : Addr} {xs : List V} {ds : List PyData} : SqL K H a xs → OxAll K H xs ds → Ox K H (.ref a) (.list ds)
  | tup {a : Addr} {xs : List V} {ds : List PyData} : SqT K H a xs → OxAll K H xs ds → Ox K H (.ref a) (.tuple ds)
  | dct {a : Addr} : H a = some (.dK []) → Ox K H (.ref a) (.dict [])
inductive OxAll (K : PySem.W.Frag) (H : Hp) : List V → List PyData → Prop
  | nil : OxAll K H [] []
  | cons {v : V} {vs : List V} {d : PyData} {ds : List PyData} : Ox K H v d → OxAll K H vs ds → OxAll K H (v :: vs) (d :: ds)
end
section
variable {X : Cx} {pins : List (Addr × Obj)} {σ : L2.St} {H : Hp} {s : Shared}
open PySem
/-- the empty dict, as it stands -/
theorem Ox.dctAt (I : Inv X pins σ H s) {a : Addr} (ha : H a = some (.dK [])) : ∃ o es ep, s.heap.get? a = some o ∧ o.cls = .type "dict" ∧ o.data = .dict es ep ∧ es.toList = [] ∧ (a == sysModules) = false := by
  obtain ⟨_, hns, vs, hkv, o, es, ep, e1, ex, ed, _, pr, _⟩ := (show ObjOk X.prog X.w H s.heap a (.dK []) from I.hok _ _ ha)
  cases hkv
  exact ⟨o, es, ep, e1, ex.1, ed, List.length_eq_zero_iff.mp pr.length, hns⟩
mutual
theorem Ox.rk (I : Inv X pins σ H s) : ∀ (d : PyData) (v : V) (u : Value), Ox X.K H v d → RelV v u → d.showable = true → d.shown.length ≤ sizeLine → ∃ bs as, Reads s.heap u d as ∧ ReadAtMost s.heap d.depth bs ∧ ReprK X.prog X.w bs s.heap d.depth u d.shown
  | .none, _, _, h, r, _, _ => by
    cases h
    cases r
    exact ⟨[], _, Reads.none, (fun _ z => absurd z List.not_mem_nil), .of_is ReprIs.none _ _ _⟩
  | .bool b, _, _, h, r, _, _ => by
    cases h
    cases r
    exact ⟨[], _, Reads.bool b, (fun _ z => absurd z List.not_mem_nil), .of_is (ReprIs.bool b) _ _ _⟩
  | .int i, _, _, h, r, sh, _ => by
    cases h
    obtain ⟨t, rfl⟩ := r
    exact ⟨[], _, Reads.int i t, (fun _ z => absurd z List.not_mem_nil), .of_is (ReprIs.int t (of_decide_eq_true sh)) _ _ _⟩
  | .str x, _, _, h, r, _, hz => by
    cases h
    obtain ⟨t, rfl⟩ := r
    exact ⟨[], _, Reads.str x t, (fun _ z => absurd z List.not_mem_nil), .of_is (ReprIs.str x t hz) _ _ _⟩
  | .list ds, _, _, h, r, sh, hz => by
    cases h with
    | @lst a xs _ hs ha =>
      cases r
      obtain ⟨its, rv, ⟨o, n, ho, hc, _, hd⟩, _⟩ := I.list hs
      have len : (listText (PyData.shownAll ds)).length ≤ sizeLine := hz
      obtain ⟨bs, as, ra, rb, rk⟩ := Ox.rkAll I ds xs its ha rv sh (fun t ht => Nat.le_trans (listText_mem_le ht) len)
      have rr := Reads.list ho hc hd ra
      have fresh : a ∉ bs := not_mem_of_deeper rr (Nat.lt_succ_self (PyData.depthAll ds)) rb
      refine ⟨a :: bs, _, rr, ReadAtMost.cons rr (Nat.le_succ (PyData.depthAll ds)) rb, ?_⟩
      show ReprK X.prog X.w (a :: bs) s.heap (PyData.depthAll ds + 1) (.ref a) (listText (PyData.shownAll ds))
      cases its with
      | nil =>
        cases ra
        show ReprK X.prog X.w (a :: bs) s.heap _ (.ref a) (listText [])
        rw [listText_nil]
        exact ReprK.listEmpty ho hc hd
      | cons y l => exact ReprK.list ho hc hd fresh (by simpa using rk.length_eq) (fun i z e => rk.item i z (by simpa using e))
  | .tuple ds, _, _, h, r, sh, hz => by
    cases h with
    | @tup a xs _ hs ha =>
      cases r
      obtain ⟨its, rv, ⟨o, ho, hc, n, hd⟩, _⟩ := I.tuple hs
      have len : (tupleText (PyData.shownAll ds)).length ≤ sizeLine := hz
      obtain ⟨bs, as, ra, rb, rk⟩ := Ox.rkAll I ds xs its ha rv sh (fun t ht => Nat.le_trans (tupleText_mem_le ht) len)
      have rr := Reads.tuple ho hc hd ra
      have fresh : a ∉ bs := not_mem_of_deeper rr (Nat.lt_succ_self (PyData.depthAll ds)) rb
      exact ⟨a :: bs, _, rr, ReadAtMost.cons rr (Nat.le_succ (PyData.depthAll ds)) rb, ReprK.tuple ho hc hd fresh rk⟩
  | .dict kvs, _, _, h, r, _, _ => by
    cases h with
    | @dct a ha =>
      cases r
      obtain ⟨o, es, ep, e1, ec, ed, e0, hns⟩ := Ox.dctAt I ha
      have rr : Reads s.heap (.ref a) (.dict []) [a] := Reads.dict (kvs := []) (as := []) (bs := []) e1 ec ed (by rw [e0]; exact ReadsAll.nil) (by rw [e0]; exact ReadsAll.nil)
      refine ⟨[a], _, rr, ReadAtMost.cons (n := 0) rr (Nat.zero_le _) (fun _ z => absurd z List.not_mem_nil), ?_⟩
      exact ReprK.dict (d := 0) e1 ec ed hns List.not_mem_nil (by rw [e0]; exact ReprEntriesK.of_two [] [] [] .nil .nil)
theorem Ox.rkAll (I : Inv X pins σ H s) : ∀ (ds : List PyData) (vs : List V) (us : List Value), OxAll X.K H vs ds → Vals vs us → PyData.showableAll ds = true → (∀ t ∈ PyData.shownAll ds, t.length ≤ sizeLine) → ∃ bs as, ReadsAll s.heap us ds as ∧ ReadAtMost s.heap (PyData.depthAll ds) bs ∧ ReprAllK X.prog X.w bs s.heap (PyData.depthAll ds) us (PyData.shownAll ds)
  | [], _, _, h, r, _, _ => by
    cases h
    cases r
    exact ⟨[], _, ReadsAll.nil, (fun _ z => absurd z List.not_mem_nil), .nil⟩
  | d :: ds, _, _, h, r, sh, hz => by
    cases h with
    | cons h1 h2 =>
      cases r with
      | cons r1 r2 =>
        have sh2 : (d.showable && PyData.showableAll ds) = true := sh
        rw [Bool.and_eq_true] at sh2
        obtain ⟨b1, a1, q1, m1, k1⟩ := Ox.rk I d _ _ h1 r1 sh2.1 (hz _ List.mem_cons_self)
        obtain ⟨b2, a2, q2, m2, k2⟩ := Ox.rkAll I ds _ _ h2 r2 sh2.2 (fun t ht => hz t (List.mem_cons_of_mem _ ht))
        have l1 : d.depth ≤ PyData.depthAll (d :: ds) := Nat.le_max_left _ _
        have l2 : PyData.depthAll ds ≤ PyData.depthAll (d :: ds) := Nat.le_max_right _ _
        exact ⟨b1 ++ b2, _, ReadsAll.cons q1 q2, (m1.mono l1).append (m2.mono l2), .cons ((k1.more fun b z => List.mem_append_left _ z).level_le l1) (k2.more_le (fun b z => List.mem_append_right _ z) l2)⟩
end
end
section
variable {K : PySem.W.Frag} {H H' : Hp}
mutual
theorem ox_same (s : Same H H') : ∀ {v : V} {d : PyData}, Ox K H v d → Ox K H' v d
  | _, _, .non => .non
  | _, _, .bl b => .bl b
  | _, _, .int i => .int i
  | _, _, .str x => .str x
  | _, _, .lst h1 h2 => .lst (s.seq h1) (oxAll_same s h2)
  | _, _, .tup h1 h2 => .tup (seqT s h1) (oxAll_same s h2)
  | _, _, .dct h => .dct (s _ _ h)
theorem oxAll_same (s : Same H H') : ∀ {vs : List V} {ds : List PyData}, OxAll K H vs ds → OxAll K H' vs ds
  | _, _, .nil => .nil
  | _, _, .cons h1 h2 => .cons (ox_same s h1) (oxAll_same s h2)
end
mutual
theorem ox_dp : ∀ {v : V} {d : PyData}, Dp K H v d → Ox K H v d
  | _, _, .non => .non
  | _, _, .bl b => .bl b
  | _, _, .int i => .int i
  | _, _, .str x => .str x
  | _, _, .lst h1 h2 => .lst h1 (oxAll_dp h2)
  | _, _, .tup h1 h2 => .tup h1 (oxAll_dp h2)
theorem oxAll_dp : ∀ {vs : List V} {ds : List PyData}, DpAll K H vs ds → OxAll K H vs ds
  | _, _, .nil => .nil
  | _, _, .cons h1 h2 => .cons (ox_dp h1) (oxAll_dp h2)
end
theorem oxAll_len : ∀ {vs : List V} {ds : List PyData}, OxAll K H vs ds → vs.length = ds.length
  | _, _, .nil => rfl
  | _, _, .cons _ h => congrArg (· + 1) (oxAll_len h)
theorem oxAll_get : ∀ {vs : List V} {ds : List PyData} {i : Nat} {v : V}, OxAll K H vs ds → vs[i]? = some v → ∃ d, ds[i]? = some d ∧ Ox K H v d
  | _, _, 0, _, .cons h _, e => by cases e; exact ⟨_, rfl, h⟩
  | _, _, i + 1, _, .cons _ h, e => oxAll_get (i := i) h e
theorem oxAll_app : ∀ {vs ws : List V} {ds es : List PyData}, OxAll K H vs ds → OxAll K H ws es → OxAll K H (vs ++ ws) (ds ++ es)
  | _, _, _, _, .nil, h => h
  | _, _, _, _, .cons h1 h2, h => .cons h1 (oxAll_app h2 h)
theorem oxAll_take : ∀ {vs : List V} {ds : List PyData} (n : Nat), OxAll K H vs ds → OxAll K H (vs.take n) (ds.take n)
  | _, _, 0, _ => .nil
  | _, _, _ + 1, .nil => .nil
  | _, _, n + 1, .cons h1 h2 => .cons h1 (oxAll_take n h2)
theorem oxAll_drop : ∀ {vs : List V} {ds : List PyData} (n : Nat), OxAll K H vs ds → OxAll K H (vs.drop n) (ds.drop n)
  | _, _, 0, h => h
  | _, _, _ + 1, .nil => .nil
  | _, _, n + 1, .cons _ h2 => oxAll_drop n h2
theorem oxAll_ints : ∀ ns : List Int, OxAll K H (ns.map V.int) (ns.map PyData.int)
  | [] => .nil
  | n :: r => .cons (.int n) (oxAll_ints r)
end
/-- the type of a value by its data -/
def tyD : PyData → String
  | .none => "NoneType" | .bool _ => "bool" | .int _ => "int" | .str _ => "str" | .list _ => "list" | .tuple _ => "tuple" | .dict _ => "dict"
section
variable {K : PySem.W.Frag} {H : Hp}
theorem Ox.tyx {v : V} {d : PyData} (h : Ox K H v d) : TyX K H v (.type (tyD d)) := by
  cases h with
  | non => exact .base .non
  | bl b => exact .base (.bl b)
  | int i => exact .base (.int i)
  | str x => exact .base (.str x)
  | lst h1 _ => exact tyx_l h1
  | tup h1 _ => exact tyx_t h1
  | dct h => exact .base (.dK h)
theorem Ox.tyb {v : V} {d : PyData} (h : Ox K H v d) : TyB K H v (tyD d) := by
  cases h with
  | non => exact .non
  | bl b => exact .bl b
  | int i => exact .int i
  | str x => exact .str x
  | lst h1 _ => exact .lst h1
  | tup h1 _ => exact .tup h1
  | dct h => exact .dK h
theorem tyD_meta (d : PyData) : ∀ s' : Shared, s'.TypeIs (.type (tyD d)) "type" := by
  cases d with
  | none => exact PySem.TypeEq.meta_NoneType
  | bool _ => exact PySem.TypeEq.meta_bool
  | int _ => exact PySem.TypeEq.meta_int
  | str _ => exact PySem.TypeEq.meta_str
  | list _ => exact PySem.TypeEq.meta_list
  | tuple _ => exact PySem.TypeEq.meta_tuple
  | dict _ => exact PySem.TypeEq.meta_dict
end
def isI : PyData → Bool | .int _ => true | _ => false
def isB : PyData → Bool | .bool _ => true | _ => false
def isL : PyData → Bool | .list _ => true | _ => false
def isT : PyData → Bool | .tuple _ => true | _ => false
def isS : PyData → Bool | .str _ => true | _ => false
def isN : PyData → Bool | .none => true | _ => false
theorem kit_int {K : PySem.W.Frag} (d : PyData) : PySem.W.kitOne K (.type (tyD d)) (.type "int") = some (isI d || isB d) :=
  match d with
  | .none => kit_ty (show kitB "NoneType" "int" = some false by decide +kernel)
  | .bool _ => kit_ty (show kitB "bool" "int" = some true by decide +kernel)
  | .int _ => kit_ty (show kitB "int" "int" = some true by decide +kernel)
  | .str _ => kit_ty (show kitB "str" "int" = some false by decide +kernel)
  | .list _ => kit_ty (show kitB "list" "int" = some false by decide +kernel)
  | .tuple _ => kit_ty (show kitB "tuple" "int" = some false by decide +kernel)
  | .dict _ => kit_ty (show kitB "dict" "int" = some false by decide +kernel)
theorem kit_bool {K : PySem.W.Frag} (d : PyData) : PySem.W.kitOne K (.type (tyD d)) (.type "bool") = some (isB d) :=
  match d with
  | .none => kit_ty (show kitB "NoneType" "bool" = some false by decide +kernel)
  | .bool _ => kit_ty (show kitB "bool" "bool" = some true by decide +kernel)
  | .int _ => kit_ty (show kitB "int" "bool" = some false by decide +kernel)
  | .str _ => kit_ty (show kitB "str" "bool" = some false by decide +kernel)
  | .list _ => kit_ty (show kitB "list" "bool" = some false by decide +kernel)
  | .tuple _ => kit_ty (show kitB "tuple" "bool" = some false by decide +kernel)
  | .dict _ => kit_ty (show kitB "dict" "bool" = some false by decide +kernel)
theorem kit_list {K : PySem.W.Frag} (d : PyData) : PySem.W.kitOne K (.type (tyD d)) (.type "list") = some (isL d) :=
  match d with
  | .none => kit_ty (show kitB "NoneType" "list" = some false by decide +kernel)
  | .bool _ => kit_ty (show kitB "bool" "list" = some false by decide +kernel)
  | .int _ => kit_ty (show kitB "int" "list" = some false by decide +kernel)
  | .str _ => kit_ty (show kitB "str" "list" = some false by decide +kernel)
  | .list _ => kit_ty (show kitB "list" "list" = some true by decide +kernel)
  | .tuple _ => kit_ty (show kitB "tuple" "list" = some false by decide +kernel)
  | .dict _ => kit_ty (show kitB "dict" "list" = some false by decide +kernel)
theorem kit_tuple {K : PySem.W.Frag} (d : PyData) : PySem.W.kitOne K (.type (tyD d)) (.type "tuple") = some (isT d) :=
  match d with
  | .none => kit_ty (show kitB "NoneType" "tuple" = some false by decide +kernel)
  | .bool _ => kit_ty (show kitB "bool" "tuple" = some false by decide +kernel)
  | .int _ => kit_ty (show kitB "int" "tuple" = some false by decide +kernel)
  | .str _ => kit_ty (show kitB "str" "tuple" = some false by decide +kernel)
  | .list _ => kit_ty (show kitB "list" "tuple" = some false by decide +kernel)
  | .tuple _ => kit_ty (show kitB "tuple" "tuple" = some true by decide +kernel)
  | .dict _ => kit_ty (show kitB "dict" "tuple" = some false by decide +kernel)
theorem kit_str {K : PySem.W.Frag} (d : PyData) : PySem.W.kitOne K (.type (tyD d)) (.type "str") = some (isS d) :=
  match d with
  | .none => kit_ty (show kitB "NoneType" "str" = some false by decide +kernel)
  | .bool _ => kit_ty (show kitB "bool" "str" = some false by decide +kernel)
  | .int _ => kit_ty (show kitB "int" "str" = some false by decide +kernel)
  | .str _ => kit_ty (show kitB "str" "str" = some true by decide +kernel)
  | .list _ => kit_ty (show kitB "list" "str" = some false by decide +kernel)
  | .tuple _ => kit_ty (show kitB "tuple" "str" = some false by decide +kernel)
  | .dict _ => kit_ty (show kitB "dict" "str" = some false by decide +kernel)
/-- type(x) != T -/
theorem neTyL {σ : L2.St} {H : Hp} {d : PyData} {Q : VK} (q : Q (.bl (!isL d)) H) : tC (.ty "list") σ H (fun y H2 => rNeTyG (.ty (tyD d)) y H2 Q) := by
  show rNeTyG (.ty (tyD d)) (.ty "list") H Q
  cases d with
  | list ds => exact .inl ⟨_, rfl, rfl, PySem.TypeEq.meta_list, q⟩
  | none => exact .inr ⟨_, _, rfl, rfl, PySem.TypeEq.meta_NoneType, PySem.TypeEq.meta_list, (show (Value.type "NoneType" == Value.type "list") = false by decide +kernel), (show (Value.type "list" == Value.type "NoneType") = false by decide +kernel), q⟩
  | bool _ => exact .inr ⟨_, _, rfl, rfl, PySem.TypeEq.meta_bool, PySem.TypeEq.meta_list, (show (Value.type "bool" == Value.type "list") = false by decide +kernel), (show (Value.type "list" == Value.type "bool") = false by decide +kernel), q⟩
  | int _ => exact .inr ⟨_, _, rfl, rfl, PySem.TypeEq.meta_int, PySem.TypeEq.meta_list, (show (Value.type "int" == Value.type "list") = false by decide +kernel), (show (Value.type "list" == Value.type "int") = false by decide +kernel), q⟩
  | str _ => exact .inr ⟨_, _, rfl, rfl, PySem.TypeEq.meta_str, PySem.TypeEq.meta_list, (show (Value.type "str" == Value.type "list") = false by decide +kernel), (show (Value.type "list" == Value.type "str") = false by decide +kernel), q⟩
  | tuple _ => exact .inr ⟨_, _, rfl, rfl, PySem.TypeEq.meta_tuple, PySem.TypeEq.meta_list, (show (Value.type "tuple" == Value.type "list") = false by decide +kernel), (show (Value.type "list" == Value.type "tuple") = false by decide +kernel), q⟩
  | dict _ => exact .inr ⟨_, _, rfl, rfl, PySem.TypeEq.meta_dict, PySem.TypeEq.meta_list, (show (Value.type "dict" == Value.type "list") = false by decide +kernel), (show (Value.type "list" == Value.type "dict") = false by decide +kernel), q⟩
theorem neTyT {σ : L2.St} {H : Hp} {d : PyData} {Q : VK} (q : Q (.bl (!isT d)) H) : tC (.ty "tuple") σ H (fun y H2 => rNeTyG (.ty (tyD d)) y H2 Q) := by
  show rNeTyG (.ty (tyD d)) (.ty "tuple") H Q
  cases d with
  | tuple ds => exact .inl ⟨_, rfl, rfl, PySem.TypeEq.meta_tuple, q⟩
  | none => exact .inr ⟨_, _, rfl, rfl, PySem.TypeEq.meta_NoneType, PySem.TypeEq.meta_tuple, (show (Value.type "NoneType" == Value.type "tuple") = false by decide +kernel), (show (Value.type "tuple" == Value.type "NoneType") = false by decide +kernel), q⟩
  | bool _ => exact .inr ⟨_, _, rfl, rfl, PySem.TypeEq.meta_bool, PySem.TypeEq.meta_tuple, (show (Value.type "bool" == Value.type "tuple") = false by decide +kernel), (show (Value.type "tuple" == Value.type "bool") = false by decide +kernel), q⟩
  | int _ => exact .inr ⟨_, _, rfl, rfl, PySem.TypeEq.meta_int, PySem.TypeEq.meta_tuple, (show (Value.type "int" == Value.type "tuple") = false by decide +kernel), (show (Value.type "tuple" == Value.type "int") = false by decide +kernel), q⟩
  | str _ => exact .inr ⟨_, _, rfl, rfl, PySem.TypeEq.meta_str, PySem.TypeEq.meta_tuple, (show (Value.type "str" == Value.type "tuple") = false by decide +kernel), (show (Value.type "tuple" == Value.type "str") = false by decide +kernel), q⟩
  | list _ => exact .inr ⟨_, _, rfl, rfl, PySem.TypeEq.meta_list, PySem.TypeEq.meta_tuple, (show (Value.type "list" == Value.type "tuple") = false by decide +kernel), (show (Value.type "tuple" == Value.type "list") = false by decide +kernel), q⟩
  | dict _ => exact .inr ⟨_, _, rfl, rfl, PySem.TypeEq.meta_dict, PySem.TypeEq.meta_tuple, (show (Value.type "dict" == Value.type "tuple") = false by decide +kernel), (show (Value.type "tuple" == Value.type "dict") = false by decide +kernel), q⟩

/-! ### how long the text of a value is -/
mutual
def wt : PyData → Nat
  | .none => 4
  | .bool _ => 5
  | .int i => (Str.ofString (toString i)).length
  | .str x => (reprText x).length
  | .list ds => 2 + wtAll ds
  | .tuple ds => 3 + wtAll ds
  | .dict _ => 2
def wtAll : List PyData → Nat
  | [] => 0
  | d :: ds => wt d + 2 + wtAll ds
end
/-! no dict but the empty one -/
mutual
def nod : PyData → Bool
  | .dict kvs => kvs.isEmpty
  | .list ds => nodAll ds
  | .tuple ds => nodAll ds
  | _ => true
def nodAll : List PyData → Bool
  | [] => true
  | d :: ds => nod d && nodAll ds
end
def sumLen (ts : List Str) : Nat := (ts.map fun t => t.length + 2).sum
theorem textFrom_sum : ∀ (ts : List Str) (k : Nat) (acc : Str), (textFrom k acc ts).length ≤ acc.length + sumLen ts
  | [], k, acc => by
    show acc.length ≤ _
    exact Nat.le_add_right _ _
  | t :: r, k, acc => by
    have z := textFrom_sum r (k + 1) (acc ++ (if k > 0 then ", " else "" : String) ++ t)
    have e : (acc ++ (if k > 0 then ", " else "" : String) ++ t).length ≤ acc.length + 2 + t.length := by
      rw [Str.length_append, Str.length_append]
      by_cases hk : k > 0
      · rw [if_pos hk]
        exact Nat.le_refl _
      · rw [if_neg hk]
        show acc.length + 0 + t.length ≤ _
        omega
    show (textFrom (k + 1) (acc ++ (if k > 0 then ", " else "" : String) ++ t) r).length ≤ acc.length + (t.length + 2 + sumLen r)
    omega
theorem join_sum : ∀ ts : List Str, (Str.join ", " ts).length ≤ sumLen ts
  | [] => Nat.zero_le _
  | [x] => by show x.length ≤ x.length + 2 + 0; omega
  | x :: y :: r => by
    have ih := join_sum (y :: r)
    show (x ++ ", " ++ Str.join ", " (y :: r)).length ≤ x.length + 2 + sumLen (y :: r)
    have e2 : ((", " : String) : Str).length = 2 := rfl
    rw [Str.length_append, Str.length_append, e2]
    omega
mutual
theorem shown_wt : ∀ d : PyData, nod d = true → d.shown.length ≤ wt d
  | .none, _ => by decide
  | .bool b, _ => by cases b <;> decide
  | .int i, _ => Nat.le_refl _
  | .str x, _ => Nat.le_refl _
  | .list ds, h => by
    have z := textFrom_sum (PyData.shownAll ds) 0 "["
    have z2 := shownAll_wt ds h
    show (textFrom 0 "[" (PyData.shownAll ds) ++ ("]" : Str)).length ≤ 2 + wtAll ds
    rw [Str.length_append]
    have e1 : ("[" : Str).length = 1 := rfl
    have e2 : ("]" : Str).length = 1 := rfl
    omega
  | .tuple ds, h => by
    have z := join_sum (PyData.shownAll ds)
    have z2 := shownAll_wt ds h
    show (("(" : Str) ++ Str.join ", " (PyData.shownAll ds) ++ (if (PyData.shownAll ds).length == 1 then ",)" else ")" : String)).length ≤ 3 + wtAll ds
    rw [Str.length_append, Str.length_append]
    have e1 : ("(" : Str).length = 1 := rfl
    have e2 : (((if (PyData.shownAll ds).length == 1 then ",)" else ")" : String)) : Str).length ≤ 2 := by split <;> decide
    omega
  | .dict kvs, h => by
    cases kvs with
    | nil => decide
    | cons _ _ => cases h
theorem shownAll_wt : ∀ ds : List PyData, nodAll ds = true → sumLen (PyData.shownAll ds) ≤ wtAll ds
  | [], _ => Nat.le_refl _
  | d :: ds, h => by
    have h : (nod d && nodAll ds) = true := h
    rw [Bool.and_eq_true] at h
    have a := shown_wt d h.1
    have b := shownAll_wt ds h.2
    show d.shown.length + 2 + sumLen (PyData.shownAll ds) ≤ wt d + 2 + wtAll ds
    omega
end
/-- data that is to be shown: its text, its depth -/
structure Bd (m k : Nat) (d : PyData) : Prop where
  w : wt d ≤ m
  dp : d.depth ≤ k
  s : d.showable = true
  n : nod d = true
structure BdAll (m k : Nat) (ds : List PyData) : Prop where
  w : wtAll ds ≤ m
  dp : PyData.depthAll ds ≤ k
  s : PyData.showableAll ds = true
  n : nodAll ds = true
theorem Bd.mono {m k m' k' : Nat} {d : PyData} (h : Bd m k d) (a : m ≤ m') (b : k ≤ k') : Bd m' k' d := ⟨Nat.le_trans h.w a, Nat.le_trans h.dp b, h.s, h.n⟩
theorem BdAll.mono {m k m' k' : Nat} {d : List PyData} (h : BdAll m k d) (a : m ≤ m') (b : k ≤ k') : BdAll m' k' d := ⟨Nat.le_trans h.w a, Nat.le_trans h.dp b, h.s, h.n⟩
theorem Bd.list {m k : Nat} {ds : List PyData} (h : BdAll m k ds) : Bd (2 + m) (k + 1) (.list ds) := ⟨Nat.add_le_add_left h.w 2, Nat.succ_le_succ h.dp, h.s, h.n⟩
theorem Bd.tuple {m k : Nat} {ds : List PyData} (h : BdAll m k ds) : Bd (3 + m) (k + 1) (.tuple ds) := ⟨Nat.add_le_add_left h.w 3, Nat.succ_le_succ h.dp, h.s, h.n⟩
theorem BdAll.nil {k : Nat} : BdAll 0 k [] := ⟨Nat.le_refl _, Nat.zero_le _, rfl, rfl⟩
theorem BdAll.cons {m n k : Nat} {d : PyData} {ds : List PyData} (h : Bd m k d) (g : BdAll n k ds) : BdAll (m + 2 + n) k (d :: ds) := by
  refine ⟨?_, Nat.max_le.mpr ⟨h.dp, g.dp⟩, ?_, ?_⟩
  · show wt d + 2 + wtAll ds ≤ _
    have := h.w
    have := g.w
    omega
  · show (d.showable && PyData.showableAll ds) = true
    rw [h.s, g.s]
    rfl
  · show (nod d && nodAll ds) = true
    rw [h.n, g.n]
    rfl
theorem BdAll.app {m n k : Nat} {as bs : List PyData} (h : BdAll m k as) (g : BdAll n k bs) : BdAll (m + n) k (as ++ bs) := by
  induction as generalizing m with
  | nil => exact g.mono (Nat.le_add_left _ _) (Nat.le_refl _)
  | cons d r ih =>
    obtain ⟨h1, h2, h3, h4⟩ := h
    have h3 : (d.showable && PyData.showableAll r) = true := h3
    have h4 : (nod d && nodAll r) = true := h4
    rw [Bool.and_eq_true] at h3 h4
    have h2 : max d.depth (PyData.depthAll r) ≤ k := h2
    have h1 : wt d + 2 + wtAll r ≤ m := h1
    have z := ih (m := wtAll r) ⟨Nat.le_refl _, Nat.le_trans (Nat.le_max_right _ _) h2, h3.2, h4.2⟩
    refine (BdAll.cons (m := wt d) ⟨Nat.le_refl _, Nat.le_trans (Nat.le_max_left _ _) h2, h3.1, h4.1⟩ z).mono (by omega) (Nat.le_refl _)
theorem BdAll.sub {m k : Nat} {as bs : List PyData} (h : BdAll m k bs) (s : as.Sublist bs) : BdAll m k as := by
  induction s generalizing m with
  | slnil => exact h
  | cons d _ ih =>
    obtain ⟨h1, h2, h3, h4⟩ := h
    have h3 : (d.showable && _) = true := h3
    have h4 : (nod d && _) = true := h4
    rw [Bool.and_eq_true] at h3 h4
    have h1 : wt d + 2 + _ ≤ m := h1
    exact ih ⟨by omega, Nat.le_trans (Nat.le_max_right _ _) h2, h3.2, h4.2⟩
  | @cons_cons l1 l2 d _ ih =>
    obtain ⟨h1, h2, h3, h4⟩ := h
    have h3 : (d.showable && _) = true := h3
    have h4 : (nod d && _) = true := h4
    rw [Bool.and_eq_true] at h3 h4
    have h1 : wt d + 2 + wtAll l2 ≤ m := h1
    have z := ih (m := wtAll l2) ⟨Nat.le_refl _, Nat.le_trans (Nat.le_max_right _ _) h2, h3.2, h4.2⟩
    exact (BdAll.cons (m := wt d) ⟨Nat.le_refl _, Nat.le_trans (Nat.le_max_left _ _) h2, h3.1, h4.1⟩ z).mono (by omega) (Nat.le_refl _)
theorem BdAll.get {m k : Nat} {ds : List PyData} (h : BdAll m k ds) {d : PyData} (hd : d ∈ ds) : Bd m k d := by
  induction ds generalizing m with
  | nil => cases hd
  | cons x r ih =>
    obtain ⟨h1, h2, h3, h4⟩ := h
    have h3 : (x.showable && _) = true := h3
    have h4 : (nod x && _) = true := h4
    rw [Bool.and_eq_true] at h3 h4
    have h1 : wt x + 2 + wtAll r ≤ m := h1
    rcases List.mem_cons.mp hd with rfl | hd
    · exact ⟨by omega, Nat.le_trans (Nat.le_max_left _ _) h2, h3.1, h4.1⟩
    · exact ih ⟨by omega, Nat.le_trans (Nat.le_max_right _ _) h2, h3.2, h4.2⟩ hd
/-- the text of a number of at most so many digits -/
theorem bd_int {i : Int} {k : Nat} (h : i.natAbs < 10 ^ 31) : Bd 40 k (.int i) := by
  have hb : i.natAbs < 2 ^ 110 := Nat.lt_trans h (by decide)
  have hl : i.natAbs.log2 < 1920 := Nat.lt_of_lt_of_le (PySem.Flt.log2_lt_of (by decide) hb) (by decide)
  refine ⟨?_, Nat.zero_le _, by show decide (i.natAbs.log2 < 1920) = true; exact decide_eq_true hl, rfl⟩
  show (Str.ofString (toString i)).length ≤ 40
  have z := PySem.int_text_length_le10 (a := i) (k := 31) (by decide) h
  rw [PySem.ofString_length]
  omega
theorem bd_ints {k m : Nat} : ∀ {ns : List Int}, (∀ n ∈ ns, n.natAbs < 10 ^ 31) → ns.length ≤ m → BdAll (m * 42) k (ns.map PyData.int)
  | [], _, _ => BdAll.nil.mono (Nat.zero_le _) (Nat.le_refl _)
  | n :: r, h, hm => by
    have hm : r.length + 1 ≤ m := hm
    have z := bd_ints (k := k) (m := r.length) (ns := r) (fun x hx => h x (List.mem_cons_of_mem _ hx)) (Nat.le_refl _)
    exact (BdAll.cons (bd_int (k := k) (h n List.mem_cons_self)) z).mono (by omega) (Nat.le_refl _)
/-! ### repr of any value -/
def rReprO (K : PySem.W.Frag) : List V → Hp → VK → Prop := fun xs H Q => ∃ (v : V) (d : PyData), xs = [v] ∧ Ox K H v d ∧ Bd 10000000 60 d ∧ Q (.str d.shown) H
theorem call_reprO {X : Cx} (hg : X.A.guards = some []) (hu : X.A.units + 64 < cLine) : CallR X (.builtin "repr") (rReprO X.K) := by
  intro pins s σ H xs us Q I r h
  obtain ⟨v, d, rfl, hv, hb, q⟩ := h
  obtain ⟨u, rfl, rx⟩ := vals1 r
  have hl : d.shown.length ≤ sizeLine := Nat.le_trans (Nat.le_trans (shown_wt d hb.n) hb.w) (by decide)
  have hdp := hb.dp
  have hs := hb.s
  cases hv with
  | non =>
    cases (show u = Value.none from rx)
    exact call_repr_gives (T := "NoneType") rfl F.slot_NoneType_repr F.entry_NoneType_repr (F.args_NoneType_repr_1 _) gives_none_repr ⟨.str _, H, I.tok _, ⟨_, rfl⟩, q⟩ (hx := by decide)
  | bl b =>
    cases (show u = Value.bool b from rx)
    exact PySem.P.repr_of_bool ⟨.str _, H, I.tok _, ⟨_, rfl⟩, by cases b <;> exact q⟩
  | int i =>
    obtain ⟨t, rfl⟩ := (show ∃ t, u = Value.int i t from rx)
    exact PySem.P.repr_of_int (of_decide_eq_true hs) ⟨.str _, H, I.tok _, ⟨_, rfl⟩, q⟩
  | str x =>
    obtain ⟨t, rfl⟩ := (show ∃ t, u = Value.str x t from rx)
    exact PySem.P.repr_of_str ⟨.str _, H, I.tok _, ⟨_, rfl⟩, q⟩ hl
  | @lst a xs ds hL ha =>
    cases (show u = Value.ref _ from rx)
    obtain ⟨its, rv, ⟨o, n, ho, hc, _, hd⟩, _⟩ := I.list hL
    have len : (PySem.listText (PyData.shownAll ds)).length ≤ sizeLine := hl
    have hdp : PyData.depthAll ds + 1 ≤ 60 := hdp
    obtain ⟨bs, as, ra, rb, rk⟩ := Ox.rkAll I ds xs its ha rv hs (fun t ht => Nat.le_trans (PySem.listText_mem_le ht) len)
    have rr := Reads.list ho hc hd ra
    have fresh : a ∉ bs := PySem.not_mem_of_deeper rr (Nat.lt_succ_self (PyData.depthAll ds)) rb
    refine PySem.call_repr_slot (T := "list") (idr := "list.__repr__") (by omega) ⟨o, ho, hc⟩ PySem.F.slot_list_repr.toG ?_
    cases its with
    | nil =>
      cases ra
      refine PySem.call_list_repr_empty ⟨o, ho, hc⟩ ho hd ⟨_, _, rfl, .str _, H, I.tok _, ⟨_, rfl⟩, ?_⟩
      have q : Q (.str (PySem.listText [])) H := q
      rw [PySem.listText_nil] at q
      exact q
    | cons y l => exact PySem.call_list_reprK ho hc hd fresh (by simpa using rk.length_eq) (fun i z e => rk.item i z (by simpa using e)) hg (fun b _ => PySem.Clear.nil b) (by show X.A.units + 1 + (PyData.depthAll ds + 1) < cLine; omega) (fun _ _ e => e) (fun h' t tk hk => ⟨_, _, rfl, .str _, H, I.kept hk, ⟨t, rfl⟩, q⟩) len
  | @tup a xs ds hT ha =>
    cases (show u = Value.ref _ from rx)
    obtain ⟨its, rv, ⟨o, ho, hc, n, hd⟩, _⟩ := I.tuple hT
    have len : (PySem.tupleText (PyData.shownAll ds)).length ≤ sizeLine := hl
    have hdp : PyData.depthAll ds + 1 ≤ 60 := hdp
    obtain ⟨bs, as, ra, rb, rk⟩ := Ox.rkAll I ds xs its ha rv hs (fun t ht => Nat.le_trans (PySem.tupleText_mem_le ht) len)
    have rr := Reads.tuple ho hc hd ra
    have fresh : a ∉ bs := PySem.not_mem_of_deeper rr (Nat.lt_succ_self (PyData.depthAll ds)) rb
    refine PySem.call_repr_slot (T := "tuple") (idr := "tuple.__repr__") (by omega) ⟨o, ho, hc⟩ PySem.F.slot_tuple_repr ?_
    exact PySem.call_tuple_reprK ho hc hd fresh rk hg (fun b _ => PySem.Clear.nil b) (by show X.A.units + 1 + (PyData.depthAll ds + 1) < cLine; omega) (fun _ _ e => e) (fun h' t tk hk => ⟨_, _, rfl, .str _, H, I.kept hk, ⟨t, rfl⟩, q⟩) len
  | @dct a ha =>
    cases (show u = Value.ref _ from rx)
    obtain ⟨o, es, ep, e1, ec, ed, e0, hns⟩ := Ox.dctAt I ha
    refine PySem.call_repr_slot (T := "dict") (idr := "dict.__repr__") (by omega) ⟨o, e1, ec⟩ PySem.F.slot_dict_repr ?_
    exact PySem.call_dict_reprK (d := 0) (as := []) e1 ec ed hns List.not_mem_nil (by rw [e0]; exact PySem.ReprEntriesK.of_two [] [] [] .nil .nil) hg (fun b _ => PySem.Clear.nil b) (by show X.A.units + 1 + (0 + 1) < cLine; omega) (fun _ _ e => e) (fun h' t tk hk => ⟨_, _, rfl, .str _, H, I.kept hk, ⟨t, rfl⟩, q⟩) (by decide)
end Lp
set_option Elab.async false
set_option linter.all false
set_option maxRecDepth 100000
set_option maxHeartbeats 1000000
namespace Lp
open PySem PySem.Spec PyProof.Rows L2
/-! ### a weaker promise of the same def -/
section
variable {P : Program} {w : World} {K : PySem.W.Frag} {mg : Str → Option Value} {base : Heap} {k : Nat} {x : Str} {sp sp' : Sp}
theorem FnOk.weak {CX : CXT} {f : Addr} {fd : FuncData} {ps : List Str} (F : FnOk P w K mg base CX k f fd ps sp) (h : ∀ vs H Q E, sp' vs H Q E → sp vs H Q E) : FnOk P w K mg base CX k f fd ps sp' :=
  ⟨fun vs H Q E s => F.len vs H Q E (h _ _ _ _ s), fun A out s H ar us vs Q E r e b v s1 => F.run A out s H ar us vs Q E r e b v (h _ _ _ _ s1)⟩
theorem FnG.weak {CX : CXT} {f : Addr} {fd : FuncData} {ps : List Str} (F : FnG P w K mg base CX k f fd ps sp) (h : ∀ vs H Q E, sp' vs H Q E → sp vs H Q E) : FnG P w K mg base CX k f fd ps sp' :=
  ⟨fun vs H Q E s => F.len vs H Q E (h _ _ _ _ s), fun A out s H ar us vs Q E g r e b v s1 => F.runG A out s H ar us vs Q E g r e b v (h _ _ _ _ s1)⟩
theorem cal_weak (c : Cal P w K mg base k x sp) (h : ∀ vs H Q E, sp' vs H Q E → sp vs H Q E) : Cal P w K mg base k x sp' := by
  obtain ⟨f, fd, ps, F, r⟩ := c.ex
  exact ⟨f, fd, ps, Lp.FnOk.weak F h, r⟩
theorem gc_weak (c : Gc P w K mg base k x sp) (h : ∀ vs H Q E, sp' vs H Q E → sp vs H Q E) : Gc P w K mg base k x sp' := by
  obtain ⟨f, fd, ps, F, r⟩ := c.ex
  exact ⟨f, fd, ps, Lp.FnG.weak F h, r⟩
end
/-! ### len(set(xs)), xs a list of ints -/
theorem firstMet_le (ns : List Int) : ∀ i : Nat, i ≤ ns.length → (PyProof.Rows.firstMet (fun j => ns.getD j 0) i).length ≤ i ∧ ((PyProof.Rows.firstMet (fun j => ns.getD j 0) i).length = i → PyProof.Rows.firstMet (fun j => ns.getD j 0) i = ns.take i ∧ (ns.take i).Nodup)
  | 0, _ => ⟨Nat.le_refl _, fun _ => ⟨by rw [List.take_zero]; rfl, by rw [List.take_zero]; exact List.nodup_nil⟩⟩
  | i + 1, h => by
    obtain ⟨h1, h2⟩ := firstMet_le ns i (by omega)
    have hlt : i < ns.length := h
    have e : ns.getD i 0 = ns[i] := by rw [List.getD_eq_getElem?_getD, List.getElem?_eq_getElem hlt] <;> rfl
    have st : PyProof.Rows.firstMet (fun j => ns.getD j 0) (i + 1) = if (PyProof.Rows.firstMet (fun j => ns.getD j 0) i).any (· == ns.getD i 0) = true then PyProof.Rows.firstMet (fun j => ns.getD j 0) i else PyProof.Rows.firstMet (fun j => ns.getD j 0) i ++ [ns.getD i 0] := by
      rw [PyProof.Rows.firstMet_succ]
      rfl
    rw [st]
    by_cases c : (PyProof.Rows.firstMet (fun j => ns.getD j 0) i).any (· == ns.getD i 0) = true
    · rw [if_pos c]
      exact ⟨by omega, fun z => by omega⟩
    · rw [if_neg c, List.length_append]
      refine ⟨by show _ + 1 ≤ _; omega, fun z => ?_⟩
      have z : (PyProof.Rows.firstMet (fun j => ns.getD j 0) i).length + 1 = i + 1 := z
      obtain ⟨a, b⟩ := h2 (by omega)
      have t : ns.take (i + 1) = ns.take i ++ [ns[i]] := take_get (List.getElem?_eq_getElem hlt)
      rw [a, e] at c
      rw [a, e, t]
      refine ⟨rfl, List.nodup_append.mpr ⟨b, List.nodup_cons.mpr ⟨List.not_mem_nil, List.nodup_nil⟩, fun x hx y hy q => c ?_⟩⟩
      rw [List.mem_singleton] at hy
      subst hy
      subst q
      exact List.any_eq_true.mpr ⟨_, hx, beq_self_eq_true _⟩
theorem firstMet_len (ns : List Int) : (PyProof.Rows.firstMet (fun j => ns.getD j 0) ns.length).length = ns.length ↔ ns.Nodup := by
  constructor
  · intro h
    have := ((firstMet_le ns ns.length (Nat.le_refl _)).2 h).2
    rwa [List.take_length] at this
  · intro h
    rw [RZ.firstMet_nodup h ns.length (Nat.le_refl _), List.take_length]
def tLenSetG (K : PySem.W.Frag) (ta : TE) : TE := fun σ H Q => ta σ H fun x H1 => ∃ (l : Addr) (ns : List Int), x = .ref l ∧ SqL K H1 l (ns.map V.int) ∧ ns.length ≤ 4000 ∧ ∀ c : Nat, (c = ns.length ↔ ns.Nodup) → Q (.int (c : Int)) H1
theorem pe_lenSetG {X : Cx} {a : Expr} {ta : TE} {p p2 q pos : Pos} (hg : Gl X "len") (hm : X.mg "len" = none) (hg2 : Gl X "set") (hm2 : X.mg "set" = none) (ha : PE X a ta) (hc : X.calm = true := by rfl)
    (na : starEach [a] X.env = (false, eval a X.env) :: starEach [] X.env := by rfl) : PE X (.Call (.Name "len" p) [.Call (.Name "set" p2) [a] [] q] [] pos) (tLenSetG X.K ta) := by
  refine ⟨fun pins s σ H Q I h => ?_⟩
  refine Call_ (ld_blt I hg hm boot_len ?_)
  refine PyProof.Rows.callWith_builtin1 (PyProof.Rows.args_cons ?_ rfl) rfl rfl
  refine Call_ (ld_blt I hg2 hm2 boot_set ?_)
  refine PyProof.Rows.callWith_type1 (PyProof.Rows.args_cons (thn (ha.run pins s σ H _ I h) fun v s1 ⟨x, H1, I1, r1, q1⟩ => PyProof.Rows.args_nil ?_) na) na rfl
  obtain ⟨l, ns, rfl, hq, hl, q1⟩ := q1
  cases r1
  obtain ⟨its, r, pl, hz⟩ := I1.list hq
  have hlen : its.toArray.size = ns.length := by rw [List.size_toArray, ← r.length, List.length_map]
  refine call_set_list (I1.ok.hd hc) pl.isList (by simpa using RZ.intsAre_vals r) (by rw [hlen]; unfold scanBound; omega) fun h' tk hS hk => ?_
  refine PyProof.Rows.args_nil ?_
  rw [hlen] at hS
  have hc2 := firstMet_len ns
  have hc3 := (firstMet_le ns ns.length (Nat.le_refl _)).1
  obtain ⟨o, es, ep, t, ho, hex, hd, _, _, _, hf, hn⟩ := hS
  have I2 : Inv X pins σ H1 { s1 with heap := h', toks := tk } := I1.kept fun b o e => hk b o (Heap.lt_size e) e
  exact call_len_set ho hex hd hf (by rw [hn] <;> omega) ⟨.int ((PyProof.Rows.firstMet (fun j => ns.getD j 0) ns.length).length : Nat), H1, I2.tok _, ⟨_, by rw [hn]⟩, q1 _ hc2⟩
/-! ### xs != [] -/
def rNeNil (K : PySem.W.Frag) : R2 := fun x y H Q => ∃ (a b : Addr) (xs : List V), x = .ref a ∧ y = .ref b ∧ SqL K H a xs ∧ SqL K H b [] ∧ Q (.bl (!xs.isEmpty)) H
theorem op_neNil {X : Cx} (hu : X.A.units + 64 < cLine) : OpR X (compareOp .NotEq) (rNeNil X.K) := by
  intro pins s σ H x y v u Q I rx ry h
  obtain ⟨a, b, xs, rfl, rfl, ha, hb, q⟩ := h
  cases (show v = Value.ref a from rx)
  cases (show u = Value.ref b from ry)
  obtain ⟨its, r1, p1, _⟩ := I.list ha
  obtain ⟨jts, r2, p2, _⟩ := I.list hb
  cases r2
  cases xs with
  | nil =>
    cases r1
    have e : (!PyData.eqv (dI []) (dI [])) = false := rfl
    exact op_neD hu pins s σ H (.ref a) (.ref b) _ _ Q I rfl rfl ⟨dI [], dI [], dp_ints (ns := []) ha, dp_ints (ns := []) hb, shaped_ints [], shaped_ints [], q⟩
  | cons z zs =>
    cases r1 with
    | cons r rr =>
      exact PySem.SeqAt.RcNeAt.lists_lengths p1.isList p2.isList rfl (by omega) X.prog X.w X.xe _ ⟨.bl true, H, I, rfl, q⟩
/-! ### set(xs) of more than a thousand -/
def rSetLH (K : PySem.W.Frag) (w : World) : List V → Hp → VK → Prop := fun xs H Q => ∃ (a : Addr) (ns : List Int), xs = [V.ref a] ∧ SqL K H a (ns.map V.int) ∧ ns.length ≤ 4000 ∧ ∀ (p : Addr) (c : Nat), H p = none → c ≤ ns.length → Q (.ref p) (upd H p (SetO w p (fun j => decide (j ∈ ns)) c))
theorem cr_setLH {X : Cx} (hc : X.calm = true) : CallR X (.type "set") (rSetLH X.K X.w) := by
  intro pins s σ H xs us Q I r h
  obtain ⟨a, ns, rfl, hq, hl, q⟩ := h
  cases r with
  | cons r rr =>
    cases rr
    cases (show _ = Value.ref a from r)
    obtain ⟨its, rv, p, _⟩ := I.list hq
    refine call_set_listI ns (I.ok.hd hc) p.isList (RZ.intsAre_vals rv) (Nat.lt_of_le_of_lt (Nat.succ_le_succ hl) (by decide)) fun h' tk c hs hcn hk => ?_
    refine ⟨.ref _, upd H _ (SetO X.w s.heap.objs.size (fun j => decide (j ∈ ns)) c), I.laid hk (Nat.le_refl _) ⟨hs, ?_, fun h1 h2 x k => ?_⟩, rfl, q _ c (I.hok.fresh (Nat.le_refl _)) hcn⟩
    · obtain ⟨o, _, _, _, e, _⟩ := hs
      exact ⟨o, e⟩
    · obtain ⟨o, es, ep, t, e, r⟩ := x
      exact ⟨o, es, ep, t, k o e, r⟩
theorem num_len3 : ∀ n : Int, -999 ≤ n → n ≤ 999 → (Str.ofString (toString n)).length ≤ 4 := by
  intro n h0 h1
  have key : ∀ i : Fin 1999, (Str.ofString (toString ((i.val : Int) - 999))).length ≤ 4 := by decide +kernel
  have e := key ⟨(n + 999).toNat, by omega⟩
  have e2 : (((n + 999).toNat : Nat) : Int) - 999 = n := by omega
  rw [e2] at e
  exact e
end Lp
namespace Lp
open PySem PySem.Spec PyProof.Rows L2
/-! ### != of equal lists of texts -/
def rNeStrs (K : PySem.W.Frag) : R2 := fun x y H Q => ∃ (a b : Addr) (zs : List Str), x = .ref a ∧ y = .ref b ∧ SqL K H a (zs.map V.str) ∧ SqL K H b (zs.map V.str) ∧ Q (.bl false) H
theorem op_neStrs {X : Cx} (hu : X.A.units + 64 < cLine) : OpR X (compareOp .NotEq) (rNeStrs X.K) := by
  intro pins s σ H x y v u Q I rx ry h
  obtain ⟨a, b, zs, rfl, rfl, ha, hb, q⟩ := h
  cases (show v = Value.ref a from rx)
  cases (show u = Value.ref b from ry)
  obtain ⟨its, r1, p1, _⟩ := I.list ha
  obtain ⟨jts, r2, p2, _⟩ := I.list hb
  have l1 := r1.length
  have l2 := r2.length
  refine PySem.SeqAt.RcNeAt.lists (e := fun _ => true) p1.isList p2.isList (by simp; omega) (by omega) (fun j h1 h2 => ?_) X.prog X.w X.xe _ ?_
  · have g1 : j < its.length := by simpa using h1
    have g2 : j < jts.length := by simpa using h2
    have gz : (zs.map V.str)[j]? = some (.str (zs[j]'(by rw [List.length_map] at l1; omega))) := by rw [List.getElem?_map, List.getElem?_eq_getElem (by rw [List.length_map] at l1; omega)]; rfl
    obtain ⟨u1, e1, t1, q1⟩ := r1.get gz
    obtain ⟨u2, e2, t2, q2⟩ := r2.get gz
    rw [List.getElem?_eq_getElem g1] at e1
    rw [List.getElem?_eq_getElem g2] at e2
    have f1 : its.toArray[j] = u1 := by simpa using Option.some.inj e1
    have f2 : jts.toArray[j] = u2 := by simpa using Option.some.inj e2
    rw [f1, f2, q1, q2]
    have z := PySem.SeqAt.EqAt.str_str (A := X.A.in1) (s := s) (zs[j]'(by rw [List.length_map] at l1; omega)) t1 (zs[j]'(by rw [List.length_map] at l1; omega)) t2
    rw [beq_self_eq_true] at z
    exact z
  · have e : (!(List.range its.toArray.size).all fun _ => true) = false := by simp
    rw [e]
    exact ⟨.bl false, H, I, rfl, q⟩
end Lp
set_option Elab.async false
set_option linter.all false
set_option maxRecDepth 100000
set_option maxHeartbeats 1000000
namespace Lp
open PySem PySem.Spec PyProof.Rows L2
/-! ### isinstance(e, (C1, C2, ..)) of the exception that is held -/
def rIsPT (K : PySem.W.Frag) (p : Addr × Obj) : List V → Hp → VK → Prop := fun xs H Q => ∃ (D tp : Addr) (cs : List V) (us : List Value) (b : Bool), xs = [.ref p.1, .ref tp] ∧ H tp = some (.tup cs) ∧ Paired ClsV cs us ∧ Zc (.ref D) none p.2 ∧ (∃ vs, p.2.data = .fields vs) ∧ ExcC K D ∧ PySem.W.kitAny K (.ref D) us = some b ∧ Q (.bl b) H
theorem call_isPT {X : Cx} {p : Addr × Obj} (hp : p ∈ X.pn) : CallR X (.builtin "isinstance") (rIsPT X.K p) := by
  intro pins s σ H xs us Q I r h
  obtain ⟨D, tp, cs, ws, b, rfl, hT, k, hz, ⟨vs, hv⟩, C, e, q⟩ := h
  obtain ⟨u1, u2, rfl, r1, r2⟩ := vals2 r
  cases (show u1 = Value.ref p.1 from r1)
  cases (show u2 = Value.ref tp from r2)
  have hget := (I.pin p (List.mem_append_left _ hp)).1
  obtain ⟨a, oe⟩ := p
  have J : PySem.W.InstAt s.heap a oe D none := by
    obtain ⟨oc, od, oda, osl⟩ := oe
    obtain ⟨h1, h2⟩ := hz
    dsimp only at h1 h2 hv
    subst h1 h2 hv
    exact ⟨hget, rfl, rfl, trivial⟩
  obtain ⟨_, its, rv, o, h1, h2, n, h3⟩ := (show ObjOk X.prog X.w H s.heap tp (.tup cs) from I.hok tp _ hT)
  have e3 := ClsV.all k rv
  subst e3
  obtain ⟨oc, od, dt, sl⟩ := o
  simp only at h2 h3
  subst h2 h3
  exact PySem.W.kia_tup (PySem.W.handS_kitx_exc C.hg C.hk C.hs C.hd C.ha C.hn C.ht C.hm) I.kIn J h1 e (fun z => nomatch z) fun tk => ⟨.bl b, H, I.kept (t' := tk) fun _ _ z => z, rfl, q⟩
/-! ### bs.count(b) of bools -/
def isBo (b : Bool) : Value → Bool
  | .bool c => c == b
  | _ => false
theorem bo_count {b : Bool} : ∀ {ys : List Bool} {us : List Value}, Vals (ys.map V.bl) us → us.countP (isBo b) = ys.count b
  | [], _, .nil => rfl
  | y :: ys, _, .cons r t => by
    cases (show _ = Value.bool y from r)
    rw [List.countP_cons, bo_count t, List.count_cons]
    rfl
theorem bo_mem {ys : List Bool} {us : List Value} (h : Vals (ys.map V.bl) us) {u : Value} (hu : u ∈ us) : ∃ c, u = .bool c := by
  obtain ⟨i, hi⟩ := List.mem_iff_getElem?.mp hu
  have hl := h.length
  have li := (List.getElem?_eq_some_iff.mp hi).1
  have g : (ys.map V.bl)[i]? = some (.bl (ys[i]'(by rw [List.length_map] at hl; omega))) := by rw [List.getElem?_map, List.getElem?_eq_getElem (by rw [List.length_map] at hl; omega)]; rfl
  obtain ⟨w, ew, rw'⟩ := h.get g
  rw [hi] at ew
  cases ew
  exact ⟨_, rw'⟩
def rCntB (K : PySem.W.Frag) : V → List V → Hp → VK → Prop := fun x xs H Q => ∃ (p : Addr) (ys : List Bool) (b : Bool), x = .ref p ∧ xs = [.bl b] ∧ SqL K H p (ys.map V.bl) ∧ Q (.int (ys.count b : Nat)) H
theorem mt_lcountB {X : Cx} : MtR X "list.count" (rCntB X.K) := by
  intro pins s σ H x xs v us Q I rx rxs h
  obtain ⟨p, ys, b, rfl, rfl, hs, q⟩ := h
  cases rx
  obtain ⟨u, rfl, ru⟩ := rxs.one
  cases (show u = Value.bool b from ru)
  obtain ⟨its, rv, ⟨⟨cls, dd, data, sl⟩, n, ho, hc, hdn, hd⟩, hlen⟩ := I.list hs
  simp only at hc hd
  subst hc hd
  refine call_meets PySem.F.slot_list_count ⟨_, ho, rfl⟩ PySem.F.entry_list_count (PySem.F.args_list_count_2 _ _)
    (SeqAt.list_countAt p its.toArray n dd sl (.bool b) (isBo b)) ⟨ho, fun y hy => ?_, ?_⟩
  · obtain ⟨c, rfl⟩ := bo_mem rv (by simpa using hy)
    exact PySem.SeqAt.EqAt.bool_bool c b
  · have ec : its.toArray.toList.countP (isBo b) = ys.count b := bo_count rv
    refine ⟨.int (ys.count b : Nat), H, I.tok _, ⟨s.toks, ?_⟩, q⟩
    show Value.int ((its.toArray.toList.countP (isBo b) : Nat) : Int) s.toks = Value.int ((ys.count b : Nat) : Int) s.toks
    rw [ec]
/-! ### == of lists of texts -/
def rEqStrs (K : PySem.W.Frag) : R2 := fun x y H Q => ∃ (a b : Addr) (zs : List Str), x = .ref a ∧ y = .ref b ∧ SqL K H a (zs.map V.str) ∧ SqL K H b (zs.map V.str) ∧ Q (.bl true) H
theorem op_eqStrs {X : Cx} (hu : X.A.units + 64 < cLine) : OpR X (compareOp .Eq) (rEqStrs X.K) := by
  intro pins s σ H x y v u Q I rx ry h
  obtain ⟨a, b, zs, rfl, rfl, ha, hb, q⟩ := h
  cases (show v = Value.ref a from rx)
  cases (show u = Value.ref b from ry)
  obtain ⟨its, r1, p1, _⟩ := I.list ha
  obtain ⟨jts, r2, p2, _⟩ := I.list hb
  have l1 := r1.length
  have l2 := r2.length
  refine PySem.SeqAt.RcAt.lists (e := fun _ => true) p1.isList p2.isList (by simp; omega) (by omega) (fun j h1 h2 => ?_) X.prog X.w X.xe _ ?_
  · have g1 : j < its.length := by simpa using h1
    have g2 : j < jts.length := by simpa using h2
    have gz : (zs.map V.str)[j]? = some (.str (zs[j]'(by rw [List.length_map] at l1; omega))) := by rw [List.getElem?_map, List.getElem?_eq_getElem (by rw [List.length_map] at l1; omega)]; rfl
    obtain ⟨u1, e1, t1, q1⟩ := r1.get gz
    obtain ⟨u2, e2, t2, q2⟩ := r2.get gz
    rw [List.getElem?_eq_getElem g1] at e1
    rw [List.getElem?_eq_getElem g2] at e2
    have f1 : its.toArray[j] = u1 := by simpa using Option.some.inj e1
    have f2 : jts.toArray[j] = u2 := by simpa using Option.some.inj e2
    rw [f1, f2, q1, q2]
    have z := PySem.SeqAt.EqAt.str_str (A := X.A.in1) (s := s) (zs[j]'(by rw [List.length_map] at l1; omega)) t1 (zs[j]'(by rw [List.length_map] at l1; omega)) t2
    rw [beq_self_eq_true] at z
    exact z
  · have e : ((List.range its.toArray.size).all fun _ => true) = true := by simp
    rw [e]
    exact ⟨.bl true, H, I, rfl, q⟩
/-! ### the call of a def that an expression chooses -/
structure FtX (P : Program) (w : World) (K : PySem.W.Frag) (mg : Str → Option Value) (base : Heap) (k : Nat) (f : Addr) (sp : Sp) : Prop where
  ex : ∃ (fd : FuncData) (ps : List Str), FnOk P w K mg base (L2.CX P w) k f fd ps sp ∧ PySem.W.keepIn K (.ref f) = true ∧ Binds K fd ps []
section
variable {X : Cx} {k j : Nat} {pos : Pos} {fe e : Expr} {es : List Expr} {t : TA} {tf : TE} {W : WX}
def tSel (G : Addr → Sp → Prop) (W : WX) (tf : TE) (t : TA) : TE := fun σ H Q => tf σ H fun x H1 => ∃ (f : Addr) (sp : Sp), x = .ref f ∧ G f sp ∧ t σ H1 fun vs H2 => sp vs H2 Q (WE W σ)
theorem pe_sel {G : Addr → Sp → Prop} (hG : ∀ f sp, G f sp → FtX X.prog X.w X.K X.mg X.base k f sp) (hr : Room j X.A) (hk : k ≤ j) (tk : Takes X W) (hf : PE X fe tf) (ha : PA X (e :: es) t)
    (hc : eval (.Call fe (e :: es) [] pos) X.env = (do callWith pos (← eval fe X.env) [] (backTo pos (starEach (e :: es) X.env)) (backToKw pos (keywordEach [] X.env))) := by rfl)
    (he : starEach (e :: es) X.env = (false, eval e X.env) :: starEach es X.env := by rfl) (hpl : (backTo pos (starEach es X.env)).any (·.1) = false := by rfl) : PE X (.Call fe (e :: es) [] pos) (tSel G W tf t) := by
  refine ⟨fun pins s σ H Q I h => ?_⟩
  refine Call_ (thn (hf.run pins s σ H _ I h) fun u s1 ⟨v, H1, I1, r1, f, sp, ev, g, ht⟩ => ?_) hc
  subst ev
  cases (show u = Value.ref f from r1)
  obtain ⟨fd, ps, F, kp, hb⟩ := (hG f sp g).ex
  refine PySem.W.callWith_K (h₀ := X.base) I1.ok.mod.kin kp (thn (ha.run pos pins s1 σ H1 _ I1 ht) fun us s2 ⟨vs, H2, I2, r, q⟩ => ⟨I2.kIn, ?_⟩) he hpl
  exact run_fnS F (hr.mono hk) hb (passAt tk σ) I2 r q
end
end Lp
set_option Elab.async false
set_option linter.all false
set_option maxRecDepth 100000
set_option maxHeartbeats 1000000
namespace Lp
open PySem PySem.Spec PyProof.Rows L2
/-! ### a def that raises nothing, among those that may raise; two promises of one def -/
section
variable {P : Program} {w : World} {K : PySem.W.Frag} {mg : Str → Option Value} {base : Heap} {k j : Nat} {x : Str} {sp sp1 sp2 : Sp}
theorem FnOk.lift {f : Addr} {fd : FuncData} {ps : List Str} (F : FnOk P w K mg base CX0 k f fd ps sp) : FnOk P w K mg base (L2.CX P w) k f fd ps sp :=
  ⟨F.len, fun A out s H ar us vs Q E r e b v h => codeAny_mono (F.run A out s H ar us vs Q E r e b v h) fun r s' hq => by
    cases r with
    | error e => exact False.elim hq
    | ok fl =>
      cases fl with
      | ret u => exact hq
      | next => exact hq
      | brk => exact hq
      | cont => exact hq⟩
def SpOr (a b : Sp) : Sp := fun vs H Q E => a vs H Q E ∨ b vs H Q E
theorem FnOk.or {CX : CXT} {f : Addr} {fd : FuncData} {ps : List Str} (F : FnOk P w K mg base CX k f fd ps sp1) (G : FnOk P w K mg base CX k f fd ps sp2) : FnOk P w K mg base CX k f fd ps (SpOr sp1 sp2) :=
  ⟨fun vs H Q E h => h.elim (F.len _ _ _ _) (G.len _ _ _ _), fun A out s H ar us vs Q E r e b v h => h.elim (F.run A out s H ar us vs Q E r e b v) (G.run A out s H ar us vs Q E r e b v)⟩
theorem FnOk.mono {CX : CXT} {f : Addr} {fd : FuncData} {ps : List Str} (F : FnOk P w K mg base CX k f fd ps sp) (h : k ≤ j) : FnOk P w K mg base CX j f fd ps sp :=
  ⟨F.len, fun A out s H ar us vs Q E r e b v => F.run A out s H ar us vs Q E (r.mono h) e b v⟩
/-! ### calls by keywords of defs that may raise -/
structure CalXk (P : Program) (w : World) (K : PySem.W.Frag) (mg : Str → Option Value) (base : Heap) (k : Nat) (x : Str) (n : Nat) (ks : List Str) (gV : List V → List V → List V) (sp : Sp) : Prop where
  ex : ∃ (f : Addr) (fd : FuncData) (ps : List Str) (g : List Value → List Value → List Value), FnOk P w K mg base (L2.CX P w) k f fd ps sp ∧ mg x = some (.ref f) ∧ PySem.W.keepIn K (.ref f) = true ∧ KBn K fd ps n ks g gV
end
section
variable {X : Cx} {k j : Nat} {x : Str} {p pos : Pos} {kws : List Keyword} {ks : List Str} {tk : TA} {gV : List V → List V → List V}
def tCxK (m : Nat) (sp : Sp) (gV : List V → List V → List V) (W : WX) (tk : TA) : TE := fun σ H Q => tk σ H fun zs H1 => zs.length = m ∧ sp (gV [] zs) H1 Q (WE W σ)
theorem pe_cxk0 {sp : Sp} {W : WX} (c : CalXk X.prog X.w X.K X.mg X.base k x 0 ks gV sp) (hr : Room j X.A) (hk : k ≤ j) (tk' : Takes X W) (hg : Gl X x) (hkw : PK X kws tk)
    (hall : (backToKw pos (keywordEach kws X.env)).all (·.1.isSome) = true := by rfl) (hks : (backToKw pos (keywordEach kws X.env)).filterMap (·.1) = ks := by rfl) (hdb : (x == ("__debug__" : Str)) = false := by decide)
    (hpl : ((backTo pos (starEach [] X.env)).any (·.1) || (backToKw pos (keywordEach kws X.env)).any (·.1.isNone)) = false := by rfl) :
    PE X (.Call (.Name x p) [] kws pos) (tCxK ks.length sp gV W tk) := by
  obtain ⟨f, fd, ps, g, F, hm, kp, hb⟩ := c.ex
  refine ⟨fun pins s σ H Q I h => ?_⟩
  refine wpAny_Call_Name_kw (ld_glob I hg hm ?_ hdb)
  refine PySem.W.callWith_KW0 (h₀ := X.base) I.ok.mod.kin kp hall ?_ hpl
  refine thn (hkw.run pos pins s σ H _ I h) fun ws s2 ⟨zs, H2, I2, rz, l2, q2⟩ => ⟨I2.kIn, ?_⟩
  rw [hks]
  have r2 := hb.rel (.nil : Vals [] []) rz
  refine wpAny_call (codeAny_mono (F.run X.A X.stack s2 H2 ⟨[], ks.zip ws⟩ (g [] ws) (gV [] zs) Q (WE W σ) (hr.mono hk) I2.env0 (hb.to s2 [] ws I2.kIn rfl (rz.length.symm.trans l2)) r2 q2) fun r s' hq => ?_)
  cases r with
  | error e => exact passAt tk' σ pins H2 s2 e s' I2 hq
  | ok fl =>
    cases fl with
    | ret u => exact I2.after hq
    | next => exact False.elim hq
    | brk => exact False.elim hq
    | cont => exact False.elim hq
end
/-! ### great numbers, told -/
theorem bd_big {i : Int} {k : Nat} (h : i.natAbs < 10 ^ 450) : Bd 500 k (.int i) := by
  have hb : i.natAbs < 2 ^ 1500 := Nat.lt_trans h (by decide +kernel)
  have hl : i.natAbs.log2 < 1920 := Nat.lt_of_lt_of_le (PySem.Flt.log2_lt_of (by decide) hb) (by decide)
  refine ⟨?_, Nat.zero_le _, by show decide (i.natAbs.log2 < 1920) = true; exact decide_eq_true hl, rfl⟩
  show (Str.ofString (toString i)).length ≤ 500
  have z := PySem.int_text_length_le10 (a := i) (k := 450) (by decide) h
  rw [PySem.ofString_length]
  omega
end Lp
set_option Elab.async false
set_option linter.all false
set_option maxRecDepth 100000
set_option maxHeartbeats 2000000
namespace Lp
open PySem PySem.Spec PyProof.Rows L2 HotX
/-! ### defs that may raise, the exception's context None -/
section
variable {P : Program} {w : World} {K : PySem.W.Frag} {mg : Str → Option Value} {base : Heap} {k j : Nat} {x : Str} {sp : Sp}
theorem _root_.L2.Fun.okN {x qual : Str} {st : Stmt} {f : Addr} {fd : FuncData} {N ps : List Str} {k : Nat} {sp : Sp} (F : Fun K x qual st f fd) (S : FnScope N ps (defScope st)) (len : ∀ vs H Q E, sp vs H Q E → vs.length = ps.length)
    (hbody : ∀ (cdv : Value) (A : Around) (outer : List Env) (s : Shared) (H : Hp) (vs : List V) (Q : VK) (E : XK), Room k (A.deeper (envOfC qual (defScope st) s.heap.objs.size f cdv)) → sp vs H Q E →
      ∃ t, PSs (cxOf (L2N.CX P w) P w K mg base N qual (defScope st) f cdv A outer s H E) (defBody st) t ∧ t { nx := fun _ H' => Q .non H', rt := Q } (start N vs) H) : FnOk P w K mg base (L2N.CX P w) (k + 1) f fd ps sp := by
  obtain ⟨oc, od, kV, doc, pm, an, cdv, ct, osl, rfl, lk, hcd⟩ := F.ex
  exact fn_of lk hcd S len fun A outer s H vs Q E hr hsp => hbody cdv A outer s H vs Q E hr hsp
theorem FnOk.liftN {f : Addr} {fd : FuncData} {ps : List Str} (F : FnOk P w K mg base CX0 k f fd ps sp) : FnOk P w K mg base (L2N.CX P w) k f fd ps sp :=
  ⟨F.len, fun A out s H ar us vs Q E r e b v h => codeAny_mono (F.run A out s H ar us vs Q E r e b v h) fun r s' hq => by
    cases r with
    | error e => exact False.elim hq
    | ok fl =>
      cases fl with
      | ret u => exact hq
      | next => exact hq
      | brk => exact hq
      | cont => exact hq⟩
structure CalN (P : Program) (w : World) (K : PySem.W.Frag) (mg : Str → Option Value) (base : Heap) (k : Nat) (x : Str) (sp : Sp) : Prop where
  ex : ∃ (f : Addr) (fd : FuncData) (ps : List Str), FnOk P w K mg base (L2N.CX P w) k f fd ps sp ∧ mg x = some (.ref f) ∧ PySem.W.keepIn K (.ref f) = true ∧ Binds K fd ps []
structure CalNk (P : Program) (w : World) (K : PySem.W.Frag) (mg : Str → Option Value) (base : Heap) (k : Nat) (x : Str) (n : Nat) (ks : List Str) (gV : List V → List V → List V) (sp : Sp) : Prop where
  ex : ∃ (f : Addr) (fd : FuncData) (ps : List Str) (g : List Value → List Value → List Value), FnOk P w K mg base (L2N.CX P w) k f fd ps sp ∧ mg x = some (.ref f) ∧ PySem.W.keepIn K (.ref f) = true ∧ KBn K fd ps n ks g gV
end
section
variable {X : Cx} {k j : Nat} {x : Str} {p pos : Pos} {e : Expr} {es : List Expr} {t : TA}
theorem pe_cn {sp : Sp} {W : WX} (c : CalN X.prog X.w X.K X.mg X.base k x sp) (hr : Room j X.A) (hk : k ≤ j) (tk : L2N.Takes X W) (hg : Gl X x) (ha : PA X (e :: es) t)
    (hdb : (x == ("__debug__" : Str)) = false := by decide) (he : starEach (e :: es) X.env = (false, eval e X.env) :: starEach es X.env := by rfl) (hpl : (backTo pos (starEach es X.env)).any (·.1) = false := by rfl) :
    PE X (.Call (.Name x p) (e :: es) [] pos) (tCx sp W t) := by
  obtain ⟨f, fd, ps, F, hm, kp, hb⟩ := c.ex
  refine ⟨fun pins s σ H Q I h => ?_⟩
  refine wpAny_Call_Name_kw (ld_glob I hg hm ?_ hdb)
  refine PySem.W.callWith_K (h₀ := X.base) I.ok.mod.kin kp (thn (ha.run pos pins s σ H _ I h) fun us s1 ⟨vs, H1, I1, r, q⟩ => ⟨I1.kIn, ?_⟩) he hpl
  exact run_fnS F (hr.mono hk) hb (L2N.passAt tk σ) I1 r q
variable {kws : List Keyword} {ks : List Str} {tk : TA} {gV : List V → List V → List V}
theorem pe_cnk0 {sp : Sp} {W : WX} (c : CalNk X.prog X.w X.K X.mg X.base k x 0 ks gV sp) (hr : Room j X.A) (hk : k ≤ j) (tk' : L2N.Takes X W) (hg : Gl X x) (hkw : PK X kws tk)
    (hall : (backToKw pos (keywordEach kws X.env)).all (·.1.isSome) = true := by rfl) (hks : (backToKw pos (keywordEach kws X.env)).filterMap (·.1) = ks := by rfl) (hdb : (x == ("__debug__" : Str)) = false := by decide)
    (hpl : ((backTo pos (starEach [] X.env)).any (·.1) || (backToKw pos (keywordEach kws X.env)).any (·.1.isNone)) = false := by rfl) :
    PE X (.Call (.Name x p) [] kws pos) (tCxK ks.length sp gV W tk) := by
  obtain ⟨f, fd, ps, g, F, hm, kp, hb⟩ := c.ex
  refine ⟨fun pins s σ H Q I h => ?_⟩
  refine wpAny_Call_Name_kw (ld_glob I hg hm ?_ hdb)
  refine PySem.W.callWith_KW0 (h₀ := X.base) I.ok.mod.kin kp hall ?_ hpl
  refine thn (hkw.run pos pins s σ H _ I h) fun ws s2 ⟨zs, H2, I2, rz, l2, q2⟩ => ⟨I2.kIn, ?_⟩
  rw [hks]
  have r2 := hb.rel (.nil : Vals [] []) rz
  refine wpAny_call (codeAny_mono (F.run X.A X.stack s2 H2 ⟨[], ks.zip ws⟩ (g [] ws) (gV [] zs) Q (WE W σ) (hr.mono hk) I2.env0 (hb.to s2 [] ws I2.kIn rfl (rz.length.symm.trans l2)) r2 q2) fun r s' hq => ?_)
  cases r with
  | error e => exact L2N.passAt tk' σ pins H2 s2 e s' I2 hq
  | ok fl =>
    cases fl with
    | ret u => exact I2.after hq
    | next => exact False.elim hq
    | brk => exact False.elim hq
    | cont => exact False.elim hq
end
/-! ### a def that is given the exception that is held, its context None -/
structure FnE2 (P : Program) (w : World) (K : PySem.W.Frag) (mg : Str → Option Value) (base : Heap) (k : Nat) (f : Addr) (fd : FuncData) (ps : List Str) (sp : Addr × Obj → Sp) : Prop where
  len : ∀ p vs H Q E, sp p vs H Q E → vs.length = ps.length
  run : ∀ (p : Addr × Obj) (A : Around) (out : List Env) (s : Shared) (H : Hp) (ar : Args) (us : List Value) (vs : List V) (Q : VK) (E : XK), L2H.RoomH k A → L2H.Hot1 A p → L2H.PinOk out H s p → Env0 P w K mg base A out s H →
    BindsTo s fd ar (ps.zip us) → Vals vs us → sp p vs H Q E → codeAny (model P w) A (.call (.ref f) ar) (CR CX0 out P w H s Q E) s
section
variable {P : Program} {w : World} {K : PySem.W.Frag} {mg : Str → Option Value} {base : Heap}
theorem okE2 {x qual : Str} {st : Stmt} {f : Addr} {fd : FuncData} {N ps : List Str} {k : Nat} {sp : Addr × Obj → Sp} (F : Fun K x qual st f fd) (S : FnScope N ps (defScope st)) (ln : ∀ p vs H Q E, sp p vs H Q E → vs.length = ps.length)
    (hb : ∀ (cdv : Value) (p : Addr × Obj) (A : Around) (out : List Env) (s : Shared) (H : Hp) (vs : List V) (Q : VK) (E : XK), L2H.HotC (L2H.cxH CX0 P w K mg base N qual (defScope st) f cdv A out s H E p) → L2H.RoomH k (A.deeper (envOfC qual (defScope st) s.heap.objs.size f cdv)) → sp p vs H Q E →
      ∃ t, PSs (L2H.cxH CX0 P w K mg base N qual (defScope st) f cdv A out s H E p) (defBody st) t ∧ t { nx := fun _ H' => Q .non H', rt := Q } (start N vs) H) : FnE2 P w K mg base (k + 1) f fd ps sp := by
  obtain ⟨oc, od, kV, doc, pm, an, cdv, ct, osl, rfl, lk, hcd⟩ := F.ex
  refine ⟨ln, fun p A out s H ar us vs Q E room hot hpin en bd rv hs => ?_⟩
  have KX : K.In s.heap := en.mod.kin.keeps fun b o e => (en.bs b o e).1
  have nl : s.heap.NoLimit := en.mod.nolimit.keeps fun b o e => (en.bs b o e).1
  have kd : ∀ y ∈ ps.zip us, (defScope st).names.lookup y.1 = some .local ∨ ((defScope st).names.lookup y.1 = some .cell ∧ ((cellsFrom (s.heap.objs.size + 1) (defScope st).names []).lookup y.1).isSome = true) := by
    rintro ⟨n, v⟩ hy
    have hm := (List.of_mem_zip hy).1
    exact (S.par n hm).elim (fun q => .inl q) fun q => .inr ⟨q, PySem.W.cellsFrom_some _ _ _ (.inl q)⟩
  refine codeAny_call_function room.depth (KX _ _ lk) rfl S.co S.gen rfl (PySem.W.codeRec_of KX hcd) (bd _ _ _ _ ?_)
  refine wpAny_newFunctionEnv_cells S.kind kd fun e1 he s1 x => ?_
  subst he
  refine ⟨nl.keeps x.toInCall.keep, codeAny_func ?_⟩
  obtain ⟨t, ht, hq⟩ := hb cdv p A out s H vs Q E ⟨p, hot, List.mem_cons_self⟩ (room.deeper _) hs
  have J0 : Inv (L2H.cxH CX0 P w K mg base N qual (defScope st) f cdv A out s H E p) [] (start N vs) H s1 := L2H.inv_startH S hpin en (ln _ _ _ _ _ hs) rv x
  refine wpAny_mono (ht.run [] s1 (start N vs) H _ J0 hq) (fun fl s' h3 => ?_) fun _ _ h3 => h3
  cases fl with
  | ret u => exact let ⟨v, _, H', J, r2, q⟩ := h3; ⟨v, H', J.os, J.bare, J.base, J.hok, r2, q⟩
  | next => exact let ⟨_, H', J, q⟩ := h3; ⟨.non, H', J.os, J.bare, J.base, J.hok, rfl, q⟩
  | brk => exact (let ⟨_, _, _, q⟩ := h3; q : False).elim
  | cont => exact (let ⟨_, _, _, q⟩ := h3; q : False).elim
structure CalE2 (P : Program) (w : World) (K : PySem.W.Frag) (mg : Str → Option Value) (base : Heap) (k : Nat) (x : Str) (sp : Addr × Obj → Sp) : Prop where
  ex : ∃ (f : Addr) (fd : FuncData) (ps : List Str), FnE2 P w K mg base k f fd ps sp ∧ mg x = some (.ref f) ∧ PySem.W.keepIn K (.ref f) = true ∧ Binds K fd ps []
end
section
variable {X : Cx} {k j : Nat} {x : Str} {p pos : Pos} {e : Expr} {es : List Expr} {t : TA}
theorem pe_ce2 {sp : Addr × Obj → Sp} {pr : Addr × Obj} (c : CalE2 X.prog X.w X.K X.mg X.base k x sp) (hr : L2H.RoomH k X.A) (hot : L2H.Hot1 X.A pr) (hp : pr ∈ X.pn) (hg : Gl X x) (ha : PA X (e :: es) t)
    (hdb : (x == ("__debug__" : Str)) = false := by decide) (he : starEach (e :: es) X.env = (false, eval e X.env) :: starEach es X.env := by rfl) (hpl : (backTo pos (starEach es X.env)).any (·.1) = false := by rfl) :
    PE X (.Call (.Name x p) (e :: es) [] pos) (tCe sp pr t) := by
  obtain ⟨f, fd, ps, F, hm, kp, hb⟩ := c.ex
  refine ⟨fun pins s σ H Q I h => ?_⟩
  refine wpAny_Call_Name_kw (ld_glob I hg hm ?_ hdb)
  refine PySem.W.callWith_K (h₀ := X.base) I.ok.mod.kin kp (thn (ha.run pos pins s σ H _ I h) fun us s1 ⟨vs, H1, I1, r, q⟩ => ⟨I1.kIn, ?_⟩) he hpl
  have hl : us.length = ps.length := by rw [← r.length]; exact F.len _ _ _ _ _ q
  have b := hb s1 us I1.kIn (by rw [List.append_nil]; exact hl)
  rw [List.append_nil] at b
  have P1 := I1.pin pr (List.mem_append_left _ hp)
  have hpin : L2H.PinOk X.stack H1 s1 pr := ⟨P1.1, P1.2.1, fun hm => (List.mem_cons.mp (I1.stkSub pr.1 hm)).elim P1.2.2.1 P1.2.2.2.1, P1.2.2.2.2⟩
  refine wpAny_call (codeAny_mono (F.run pr X.A X.stack s1 H1 ⟨us, []⟩ us vs Q E0 hr hot hpin I1.env0 b r q) fun r s' hq => ?_)
  cases r with
  | error e => exact pass0 pins σ H1 s1 e s' I1 hq
  | ok fl =>
    cases fl with
    | ret u => exact I1.after hq
    | next => exact False.elim hq
    | brk => exact False.elim hq
    | cont => exact False.elim hq
end
/-! ### iterators at their end, while an exception is held -/
section
variable {prog : Program} {w : World} {A : Around} {E : Value → Shared → Prop} {s : Shared}
theorem next_list_end_hot {it l x1 : Addr} {i : Nat} {items} {Q : Option Value → Shared → Prop} (hot : HotAt A x1 s.heap) (hne : it ≠ x1)
    (hit : s.heap.IsListIter it l i) (hl : s.heap.IsList l items) (hx : items[i]? = none)
    (hQ : ∀ h', Heap.ExtBut it s.heap h' → Q none { s with heap := h' }) : wpAny (model prog w) A (pyNext (.ref it)) Q E s := by
  obtain ⟨o, ho, hc, hd⟩ := id hit
  obtain ⟨ol, hol, _, nl, hdl⟩ := hl
  obtain ⟨hh, o1, vs1, h1, d1, c1⟩ := hot
  unfold pyNext
  refine wpAny_bind (wpAny_attempt (wpAny_callSpecial?_slot (name := Str.ofString "__next__") hit.typeIs slot_listiter_next
    (wpAny_call_entry slot_listiter_next hit.typeIs entry_listiter_next ?_ (args_listiter_next _))))
  show wpAny _ _ (field (.ref it) 0 >>= _) _ _ s
  refine wpAny_bind (wpAny_field ho hd (x := .ref l) rfl ?_)
  show wpAny _ _ (if (Value.ref l == Value.none) = true then _ else _) _ _ s
  rw [if_neg (show ¬ ((Value.ref l == Value.none) = true) from Bool.false_ne_true)]
  show wpAny _ _ (field (.ref it) 1 >>= _) _ _ s
  refine wpAny_bind (wpAny_field ho hd (x := .int i 0) rfl ?_)
  show wpAny _ _ (seqItems? (.ref l) >>= _) _ _ s
  refine wpAny_bind (wpAny_seqItems hol hdl ?_)
  simp only [Int.toNat_natCast, hx]
  refine wpAny_bind (wpAny_rule (wpAny_bind (wpAny_setField ho hd (by simp) ?_)))
  show wpAny _ _ (newExc (.type "StopIteration") [] >>= _) _ _ _
  refine wpAny_bind ?_
  simp only [newExc, newTuple]
  refine wpAny_bind (wpAny_newObj_type ?_ (by size_fits))
  refine wpAny_bind (m := firstArgMember _ _) (wpAny_of_eq (a := Value.none) (by first | rfl | (simp only [firstArgMember]; rfl)) ?_)
  refine wpAny_newObj_type ?_ (by size_fits)
  have g1 := Heap.get?_push_of_some { cls := .type "tuple", data := .seq ([] : List Value).toArray } ((Heap.get?_update_other s.heap (Obj.mapFields (·.setIfInBounds 0 .none)) hne).trans h1)
  refine raiseNew_hot ⟨hh, o1, vs1, Heap.get?_push_of_some _ g1, d1, c1⟩ (Nat.ne_of_lt (Heap.lt_size g1)) (Heap.get?_push_size _ rfl) rfl (by first | (simp; done) | (simp; omega) | (simp only [Array.size_append]; simp; omega)) ?_
  refine wpAny_bind (wpAny_isInstance (T := "StopIteration") (b := true) ⟨_, Heap.get?_update_self _ (Heap.get?_push_size _ rfl) rfl, rfl⟩ isSubtype_stop ?_)
  refine wpAny_pure (hQ _ fun b o hb e => ?_)
  have e1 := Heap.get?_push_of_some { cls := .type "tuple", data := .seq ([] : List Value).toArray } ((Heap.get?_update_other s.heap (Obj.mapFields (·.setIfInBounds 0 .none)) (Ne.symm hb)).trans e)
  rw [Heap.get?_update_other _ _ (Nat.ne_of_gt (Heap.lt_size e1))]
  exact Heap.get?_push_of_some _ e1
theorem next_tuple_end_hot {it l x1 : Addr} {i : Nat} {items} {Q : Option Value → Shared → Prop} (hot : HotAt A x1 s.heap) (hne : it ≠ x1)
    (hit : IsTupIter s.heap it l i) (hl : IsTup s.heap l items) (hx : items[i]? = none)
    (hQ : ∀ h', Heap.ExtBut it s.heap h' → Q none { s with heap := h' }) : wpAny (model prog w) A (pyNext (.ref it)) Q E s := by
  obtain ⟨o, ho, hc, hd⟩ := id hit
  obtain ⟨ol, hol, _, nl, hdl⟩ := hl
  obtain ⟨hh, o1, vs1, h1, d1, c1⟩ := hot
  unfold pyNext
  refine wpAny_bind (wpAny_attempt (wpAny_callSpecial?_slot (name := Str.ofString "__next__") hit.typeIs slot_tupleiter_next
    (wpAny_call_entry slot_tupleiter_next hit.typeIs entry_tupleiter_next ?_ (args_tupleiter_next _))))
  show wpAny _ _ (field (.ref it) 0 >>= _) _ _ s
  refine wpAny_bind (wpAny_field ho hd (x := .ref l) rfl ?_)
  show wpAny _ _ (if (Value.ref l == Value.none) = true then _ else _) _ _ s
  rw [if_neg (show ¬ ((Value.ref l == Value.none) = true) from Bool.false_ne_true)]
  show wpAny _ _ (field (.ref it) 1 >>= _) _ _ s
  refine wpAny_bind (wpAny_field ho hd (x := .int i 0) rfl ?_)
  show wpAny _ _ (seqItems? (.ref l) >>= _) _ _ s
  refine wpAny_bind (wpAny_seqItems hol hdl ?_)
  simp only [Int.toNat_natCast, hx]
  refine wpAny_bind (wpAny_rule (wpAny_bind (wpAny_setField ho hd (by simp) ?_)))
  show wpAny _ _ (newExc (.type "StopIteration") [] >>= _) _ _ _
  refine wpAny_bind ?_
  simp only [newExc, newTuple]
  refine wpAny_bind (wpAny_newObj_type ?_ (by size_fits))
  refine wpAny_bind (m := firstArgMember _ _) (wpAny_of_eq (a := Value.none) (by first | rfl | (simp only [firstArgMember]; rfl)) ?_)
  refine wpAny_newObj_type ?_ (by size_fits)
  have g1 := Heap.get?_push_of_some { cls := .type "tuple", data := .seq ([] : List Value).toArray } ((Heap.get?_update_other s.heap (Obj.mapFields (·.setIfInBounds 0 .none)) hne).trans h1)
  refine raiseNew_hot ⟨hh, o1, vs1, Heap.get?_push_of_some _ g1, d1, c1⟩ (Nat.ne_of_lt (Heap.lt_size g1)) (Heap.get?_push_size _ rfl) rfl (by first | (simp; done) | (simp; omega) | (simp only [Array.size_append]; simp; omega)) ?_
  refine wpAny_bind (wpAny_isInstance (T := "StopIteration") (b := true) ⟨_, Heap.get?_update_self _ (Heap.get?_push_size _ rfl) rfl, rfl⟩ isSubtype_stop ?_)
  refine wpAny_pure (hQ _ fun b o hb e => ?_)
  have e1 := Heap.get?_push_of_some { cls := .type "tuple", data := .seq ([] : List Value).toArray } ((Heap.get?_update_other s.heap (Obj.mapFields (·.setIfInBounds 0 .none)) (Ne.symm hb)).trans e)
  rw [Heap.get?_update_other _ _ (Nat.ne_of_gt (Heap.lt_size e1))]
  exact Heap.get?_push_of_some _ e1
theorem unpackItems_hot {t x1 : Addr} {items : Array Value} {Q : List Value → Shared → Prop} (hot : HotAt A x1 s.heap) (ht : IsTup s.heap t items)
    (hQ : ∀ h', Heap.ExtBut s.heap.objs.size s.heap h' → Q items.toList { s with heap := h' }) : wpAny (model prog w) A (unpackItems (.ref t) items.size none) Q E s := by
  have hlt : t ≠ s.heap.objs.size := by obtain ⟨o, ho, _⟩ := ht; exact Nat.ne_of_lt (Heap.lt_size ho)
  obtain ⟨hh, o1, vs1, h1, d1, c1⟩ := hot
  have hlx : x1 ≠ s.heap.objs.size := Nat.ne_of_lt (Heap.lt_size h1)
  unfold unpackItems
  refine wpAny_bind ?_
  · unfold notIterableAtAll
    refine wpAny_bind (wpAny_specialOf ht.typeIs slot_tuple_iter.lookup ?_)
    refine wpAny_pure ?_
    simp only [Bool.false_eq_true, if_false]
    refine wpAny_bind (wpAny_holding (iter_tuple ht ?_))
    refine wpAny_bind (wpAny_holding (draw_tuple hlt items.size 0 _ _ ⟨_, Heap.get?_push_size _ rfl, rfl, rfl⟩ (ht.push _) (by omega) fun h₁ hit₁ hs₁ => ?_))
    have hall : List.take items.size (List.drop 0 items.toList) = items.toList := by
      rw [List.drop_zero]; exact List.take_of_length_le (by simp)
    rw [hall]
    rw [if_neg (by simp)]
    have ht₁ : IsTup h₁ t items := (ht.push _).extBut hs₁.extBut hlt
    have hx₁ : h₁.get? x1 = some o1 := hs₁.extBut x1 o1 hlx (Heap.get?_push_of_some _ h1)
    refine wpAny_bind (wpAny_holding (next_tuple_end_hot ⟨hh, o1, vs1, hx₁, d1, c1⟩ (Ne.symm hlx) hit₁ ht₁ (by simp) fun h₂ he₂ => ?_))
    simp only [Option.isSome_none, Bool.false_eq_true, if_false]
    refine wpAny_pure (hQ h₂ fun b o hb e => he₂ b o hb (hs₁.extBut b o hb (Heap.get?_push_of_some _ e)))
theorem assign_tuple_hot {env : Env} {elts : List Expr} {k} {pos : Pos} {t x1 : Addr} {items : Array Value} {Q : Unit → Shared → Prop} (hot : HotAt A x1 s.heap) (ht : IsTup s.heap t items)
    (hn : (assignEach elts env).length = items.size) (hstar : (assignEach elts env).findIdx? (·.1) = none)
    (h : ∀ h', Heap.ExtBut s.heap.objs.size s.heap h' → wpAny (model prog w) A (assignInOrder ((assignEach elts env).map (·.2)) items.toList) Q E { s with heap := h' }) :
    wpAny (model prog w) A (assign (.Tuple elts k pos) env (.ref t)) Q E s := by
  rw [assign_Tuple]
  refine wpAny_bind (wpAny_standAt ?_)
  unfold unpack
  rw [hn, hstar]
  exact wpAny_bind (wpAny_holding (unpackItems_hot hot ht h))
end
section
variable {X : Cx} {pos : Pos}
theorem pg_tupH {K : PySem.W.Frag} {es : List Expr} {k : Nat} {t : TGs} {n : Nat} (hK : X.K = K) (hc : L2H.HotC X) (h : PGs X es t)
    (hn : (assignEach es X.env).length = n := by rfl) (hst : (assignEach es X.env).findIdx? (·.1) = none := by rfl) : PG X (.Tuple es k pos) (gTup K n t) := by
  subst hK
  refine ⟨fun pins s σ H v u Q I r hw => ?_⟩
  obtain ⟨a, xs, e1, hq, hl, hw⟩ := hw
  subst e1
  cases r
  obtain ⟨its, rv, ht, hz⟩ := I.tuple hq
  obtain ⟨x1, hot⟩ := hc.at I
  refine assign_tuple_hot hot ht (by simp [hn, ← hl, rv.length]) hst fun h' hx => ?_
  have I1 : Inv X pins σ H { s with heap := h' } := I.kept (t' := s.toks) fun b o e => hx b o (Nat.ne_of_lt (Heap.lt_size e)) e
  exact h.run pins _ σ H xs _ Q I1 (by simpa using rv) hw
theorem turn_listH {P : Program} {w : World} {K : PySem.W.Frag} {tg : Expr} (a it : Addr) : L2H.TurnH P w K tg (Itl K a) [it] it (fun i h => h.IsListIter it a i) where
  mem := by simp
  obj := fun i h st b hb => by
    have e : b = it := by simpa using hb
    subst e
    obtain ⟨o, e, c, d⟩ := st
    exact ⟨o, e, fun v z => by rw [d] at z; cases z⟩
  keep := fun i h h' st k => st.at fun o e => k it (by simp) o e
  item := by
    intro X hP hw hK hc i pins s σ H E I hf st hg
    subst hP hw hK
    obtain ⟨xs, x, hq, hx⟩ := hg
    obtain ⟨its, rv, p, hz⟩ := I.list hq
    obtain ⟨u, hu, ru⟩ := rv.get hx
    obtain ⟨f0, f1, f2, f3, f4, f5⟩ := hf it (by simp)
    refine wpAny_pyNext_list_item st p.isList (x := u) (by simpa using hu) fun h' st' sb => ?_
    have I1 : Inv X pins σ H { s with heap := h' } := I.turned (t' := s.toks) (fun b o hb e => (sb.2 b hb).trans e) f0 f1 f3 f4 f5
    obtain ⟨o, e, c, d⟩ := id st'
    exact ⟨u, rfl, go_of (s := { s with heap := h' }) e c d (by decide) ⟨x, H, I1, ru, ⟨rfl, fun ys hy => by rw [I.list_inj hy hq]; exact hx⟩, st', fun b hb => (hf b hb).1⟩⟩
  done := by
    intro X hP hw hK hc i pins s σ H E I hf st hg
    subst hP hw hK
    obtain ⟨xs, hq, hx⟩ := hg
    obtain ⟨its, rv, p, hz⟩ := I.list hq
    obtain ⟨f0, f1, f2, f3, f4, f5⟩ := hf it (by simp)
    have hl := rv.length
    obtain ⟨p1, ⟨hh, v1, e1, c1⟩, hp⟩ := hc
    have P1 := (I.pin p1 (List.mem_append_left _ hp)).1
    exact next_list_end_hot ⟨hh, p1.2, v1, P1, e1, c1⟩ (Ne.symm (f5 p1 (List.mem_append_left _ hp))) st p.isList (by simp; omega) fun h' eb => ⟨rfl, I.turned (t' := s.toks) (fun b o hb e => eb b o hb e) f0 f1 f3 f4 f5⟩
  self := fun _ _ _ _ _ st h => wpAny_pyIter_listiter st h
theorem pi_listH {K : PySem.W.Frag} {tg l : Expr} {tl : TE} (hK : X.K = K) (hl : PE X l tl) : L2H.PIH X tg l (iList K tl) := by
  subst hK
  refine ⟨fun pins s σ H R I h => ?_⟩
  refine thn (hl.run pins s σ H _ I h) fun v s1 ⟨x, H1, I1, r1, q1⟩ => ?_
  obtain ⟨a, e, ⟨xs, hq⟩, q⟩ := q1
  subst e
  cases r1
  obtain ⟨its, rv, p, hz⟩ := I1.list hq
  refine wpAny_pyIter_list p.isList ?_
  refine ⟨s1.heap.objs.size, [s1.heap.objs.size], _, _, H1, rfl, I1.kept (t' := s1.toks) fun b o e => Heap.get?_push_of_some _ e, turn_listH a _, ⟨_, Heap.get?_push_size _ rfl, rfl, rfl⟩, fun b hb => ?_, q⟩
  have e : b = s1.heap.objs.size := by simpa using hb
  subst e
  exact I1.fpOk (Nat.le_refl _) (I1.hok.fresh (Nat.le_refl _))
end
/-! ### a list comprehension while an exception is held -/
abbrev blkH (X : Cx) (s : Shared) (H : Hp) (scope : Scope) (cenv : Env) (fp : List Addr) : Cx := { X with s_0 := s, H_0 := H, env := cenv, outer := X.stack, ex := fp, fn := fun x => scope.names.lookup x == some .cell, xe := fun _ _ => False }
section
variable {X : Cx} {pins : List (Addr × Obj)} {σ : L2.St} {H : Hp} {s : Shared}
theorem block_startH {scope : Scope} {own : List (Str × Nat)} {fp : List Addr} (I : Inv X pins σ H s) (ok : BlkOk X.N X.env.scope scope own) (hN : X.N.Nodup) (hfp : ∀ b ∈ fp, FpOk X pins H b ∧ b < s.heap.objs.size) :
    Inv (blkH X s H scope (compEnvC scope (cellsFrom (s.heap.objs.size + 1) scope.names (cloFrom X.env.cells scope.names [])) s.heap.objs.size X.env) fp) [] (wipe σ (own.map (·.2))) H { s with heap := pushCells (s.heap.push { cls := .type "dict", data := .dict #[] }) scope.names } := by
  have J := block_start I ok hN hfp
  have o := J.ok
  refine ⟨⟨o.mod, o.kind, o.glob, o.blt, o.above, o.inj, o.has, o.cab, o.hd, o.frames, o.stk, o.exf, o.bs, o.bsz, o.noex, o.exfs, o.funs, o.frf⟩, J.os, J.bare, J.base, J.loc, J.cell, J.free, J.freeC, fun p hp => ?_, J.hok, J.len⟩
  have hp : p ∈ X.pn := by simpa using (show p ∈ X.pn ++ ([] : List (Addr × Obj)) from hp)
  have P1 := I.pin p (List.mem_append_left _ hp)
  refine ⟨pushCells_keeps _ _ _ _ (Heap.get?_push_of_some _ P1.1), P1.2.1, Nat.ne_of_lt (Heap.lt_size P1.1), fun hm => (List.mem_cons.mp (I.stkSub p.1 hm)).elim P1.2.2.1 P1.2.2.2.1, P1.2.2.2.2⟩
theorem lc_coreH {pins : List (Addr × Obj)} {s : Shared} {σ : L2.St} {H : Hp} {Q : VK} {elt tg iter : Expr} {ifs : List Expr} {scope : Scope} {own : List (Str × Nat)} {pos pos' : Pos} {wi : TI} {g : TG} {tt : TT} {te : TE} {use : Option (Value → Sem Unit)} {Qf : Value → Shared → Prop}
    (hc : L2H.HotC X) (hN : X.N.Nodup) (I : Inv X pins σ H s) (hi : L2H.PIH X tg iter wi) (ok : BlkOk X.N X.env.scope scope own)
    (hg : ∀ (s : Shared) (H : Hp) (C : Addr) (cl : List (Str × Addr)) (fp : List Addr), PG (blkH X s H scope (compEnvC scope cl C X.env) fp) tg g) (ht : ∀ (s : Shared) (H : Hp) (C : Addr) (cl : List (Str × Addr)) (fp : List Addr), PTs (blkH X s H scope (compEnvC scope cl C X.env) fp) ifs tt)
    (he : ∀ (s : Shared) (H : Hp) (C : Addr) (cl : List (Str × Addr)) (fp : List Addr), PE (blkH X s H scope (compEnvC scope cl C X.env) fp) elt te) (hs : ∀ x, foldedSetIterable iter X.env x = pure x)
    (h : tLc wi g tt te (own.map (·.2)) σ H Q)
    (hRR : ∀ D C s' m H', Inv X pins σ H' s' → Q (.ref D) H' → s'.heap.Ns C m → FpOk X pins H' C → compPost (model X.prog X.w) X.A X.xe use Qf (.ref D) C (.ok .next) s') :
    wpAny (model X.prog X.w) X.A (comprehension (.ListComp elt [⟨tg, iter, ifs, 0⟩] scope pos) scope X.env pos' (newList []) false (eval iter X.env) use) Qf X.xe s := by
  have hfree : ∀ y ∈ scope.names, y.2 = .free → ∃ c, X.env.cells.lookup y.1 = some c := fun y hy e => by
    rcases ok.free y hy e with k | k
    · exact I.ok.has _ (.inl k)
    · exact I.ok.has _ (.inr k)
  refine wpAny_comprehension_free (use := use) rfl hs (closure_ok hfree) ok.kind (fun y hy e => by rw [ok.uniq y hy, e])
    (thn (hi.run pins s σ H _ I h) fun xv s1 hx => thn hx fun itv s2 h2 => ?_)
  obtain ⟨it, fp, tn, J, H2, e, I2, T, st2, f2, q⟩ := h2
  subst e
  refine wpAny_newObj_type (newEnv_comp ?_) (by show 0 ≤ sizeLine; decide)
  generalize hD : s2.heap.objs.size = D
  have hDn : H2 D = none := I2.hok.fresh (Nat.le_of_eq hD)
  obtain ⟨W, ⟨m0, w0⟩, turn⟩ := q D hDn
  -- the new list
  generalize hs3 : ({ s2 with heap := s2.heap.push { cls := .type "list", data := .seq ([] : List Value).toArray } } : Shared) = s3
  have I3 : Inv X pins σ (upd H2 D (.lst [])) s3 := by
    rw [← hs3]
    refine I2.laid (t' := s2.toks) (fun b o e => Heap.get?_push_of_some _ e) (Nat.le_of_eq hD) ⟨Nat.zero_le _, [], 0, .nil, ?_⟩
    rw [← hD]
    exact Heap.get?_push_size _ rfl
  have h3 : s3.heap = s2.heap.push { cls := .type "list", data := .seq ([] : List Value).toArray } := by rw [← hs3]
  have sz : ∀ b ∈ fp, b < s2.heap.objs.size := fun b hb => by
    obtain ⟨o, e, _⟩ := T.obj _ _ st2 b hb
    exact Heap.lt_size e
  have f3 : ∀ b ∈ fp, FpOk X pins (upd H2 D (.lst [])) b ∧ b < s3.heap.objs.size := fun b hb => by
    have hlt := sz b hb
    refine ⟨⟨?_, (f2 b hb).2⟩, by rw [h3, Heap.size_push]; exact Nat.lt_succ_of_lt hlt⟩
    rw [upd_ne (by rw [← hD]; exact Nat.ne_of_lt hlt)]
    exact (f2 b hb).1
  have st3 : tn 0 s3.heap := T.keep _ _ _ st2 fun b _ o e => by rw [h3]; exact Heap.get?_push_of_some _ e
  have I4 := block_startH I3 ok hN f3
  have pg := hg s3 (upd H2 D (.lst [])) s3.heap.objs.size (cellsFrom (s3.heap.objs.size + 1) scope.names (cloFrom X.env.cells scope.names [])) fp
  have pt := ht s3 (upd H2 D (.lst [])) s3.heap.objs.size (cellsFrom (s3.heap.objs.size + 1) scope.names (cloFrom X.env.cells scope.names [])) fp
  have pe := he s3 (upd H2 D (.lst [])) s3.heap.objs.size (cellsFrom (s3.heap.objs.size + 1) scope.names (cloFrom X.env.cells scope.names [])) fp
  show codeAny _ _ (.compStart (.ListComp elt [⟨tg, iter, ifs, 0⟩] scope pos) 0 (.ref it) (.ref D) (compEnvC scope (cellsFrom (s3.heap.objs.size + 1) scope.names (cloFrom X.env.cells scope.names [])) s3.heap.objs.size X.env)) (compPost (model X.prog X.w) X.A X.xe use Qf (.ref D) s3.heap.objs.size) { s3 with heap := pushCells (s3.heap.push { cls := .type "dict", data := .dict #[] }) scope.names }
  have nfp : ∀ b ∈ fp, (upd H2 D (.lst [])) b = none := fun b hb => (f3 b hb).1.1
  generalize hce : compEnvC scope (cellsFrom (s3.heap.objs.size + 1) scope.names (cloFrom X.env.cells scope.names [])) s3.heap.objs.size X.env = ce at I4 pg pt pe ⊢
  have cL : ce.locals = s3.heap.objs.size := by subst hce; rfl
  generalize hH3 : upd H2 D (.lst []) = H3 at I3 I4 pg pt pe w0 nfp f3
  generalize hs4 : ({ s3 with heap := pushCells (s3.heap.push { cls := .type "dict", data := .dict #[] }) scope.names } : Shared) = s4 at I4 ⊢
  have st4 : tn 0 s4.heap := T.keep _ _ _ st3 fun b _ o e => by rw [← hs4]; exact pushCells_keeps _ _ _ _ (Heap.get?_push_of_some _ e)
  have stat : ∀ {σ' : L2.St} {H' : Hp} {s' : Shared}, Inv (blkH X s3 H3 scope ce fp) [] σ' H' s' → (∀ b ∈ fp, H' b = none) → ∀ b ∈ fp, FpOk (blkH X s3 H3 scope ce fp) [] H' b := fun {σ' H' s'} I' hn b hb =>
    ⟨hn b hb, (I'.ok.exf b hb).1, I'.ok.exfs b hb, .inl hb, fun x c e => (I'.ok.exf b hb).2 x c e, fun p hp => (f3 b hb).1.2.2.2.2.2 p (List.mem_append_left _ (by simpa using (show p ∈ X.pn ++ ([] : List (Addr × Obj)) from hp)))⟩
  have loop : codeAny (model X.prog X.w) X.A (.compLoop (.ListComp elt [⟨tg, iter, ifs, 0⟩] scope pos) 0 (.ref it) (.ref D) ce) (compPost (model X.prog X.w) X.A X.xe use Qf (.ref D) s3.heap.objs.size) s4 := by
    refine compLoop_any (fun n s' => ∃ i H', Inv (blkH X s3 H3 scope ce fp) [] (wipe σ (own.map (·.2))) H' s' ∧ tn i s'.heap ∧ (∀ b ∈ fp, H' b = none) ∧ W i n H') ?_ m0 ⟨0, H3, I4, st4, nfp, w0⟩
    rintro n s5 ⟨i, H5, I5, st5, n5, w5⟩
    rcases turn i n H5 w5 with ⟨stop, qq⟩ | ⟨go, Nx, hNx, step⟩
    · have td := T.done (blkH X s3 H3 scope ce fp) rfl rfl rfl hc i [] s5 _ H5 (fun _ _ => False) I5 (stat I5 n5) st5 stop
      refine thnF td fun r s6 ⟨hr, I6⟩ => ?_
      subst hr
      -- back in the def's context
      have I7 : Inv X pins σ H5 s6 := I3.call' (ch := fp) I6.os I6.base I6.hok I6.bare fun b hb => ⟨(f3 b hb).1.2.2.2.1, (f3 b hb).1.2.1, (f3 b hb).1.2.2.2.2.1, (f3 b hb).1.2.2.2.2.2⟩
      have nC : H5 s3.heap.objs.size = none := by
        have z : H5 ce.locals = none := I6.free
        rw [cL] at z
        exact z
      obtain ⟨m, hn, _⟩ := I6.loc
      have hn : s6.heap.Ns ce.locals m := hn
      rw [cL] at hn
      exact hRR D s3.heap.objs.size s6 m H5 I7 qq hn (I3.fpOk (Nat.le_refl _) nC)
    · have ti := T.item (blkH X s3 H3 scope ce fp) rfl rfl rfl hc i [] s5 _ H5 (fun _ _ => False) I5 (stat I5 n5) st5 go
      refine thnF ti fun r s6 ⟨u, hr, h6⟩ => ?_
      subst hr
      refine thnF h6 fun _ s7 ⟨x, H7, I7, r7, y7, st7, n7⟩ => ?_
      have I7' := I7.pinned (stat I7 n7) (T.obj _ _ st7)
      refine thnF (pg.run _ s7 _ H7 x u _ I7' r7 (step x H7 y7)) fun _ s8 ⟨σ8, H8, I8, hw8, q8⟩ => ?_
      refine thnF (pt.run _ s8 σ8 H8 _ I8 q8) fun b s9 ⟨H9, I9, q9⟩ => ?_
      -- the turn's end
      have fin : ∀ {s' : Shared} {H' : Hp}, Inv (blkH X s3 H3 scope ce fp) ([] ++ pinsAt fp s7.heap) σ8 H' s' → Nx H' → ∃ m, m < n ∧ ∃ i H', Inv (blkH X s3 H3 scope ce fp) [] (wipe σ (own.map (·.2))) H' s' ∧ tn i s'.heap ∧ (∀ b ∈ fp, H' b = none) ∧ W i m H' := fun {s' H'} I' nx => by
        obtain ⟨m', hm, w'⟩ := hNx H' nx
        have pin' : ∀ b ∈ fp, ∀ o, s7.heap.get? b = some o → s'.heap.get? b = some o ∧ H' b = none := fun b hb o e =>
          let z := I'.pin (b, o) (List.mem_append_right _ (List.mem_append_right _ (mem_pinsAt hb e)))
          ⟨z.1, z.2.1⟩
        have hl : (wipe σ (own.map (·.2))).length = σ8.length := by rw [← hw8, wipe_length]
        refine ⟨m', hm, i + 1, H', (I'.unpinned (pins := [])).weak hl (fun j v e => ?_), T.keep _ _ _ st7 fun b hb o e => (pin' b hb o e).1, fun b hb => ?_, w'⟩
        · rw [← hw8] at e
          exact (wipe_some e).1
        · obtain ⟨o, e, _⟩ := T.obj _ _ st7 b hb
          exact (pin' b hb o e).2
      cases b with
      | false =>
        simp only [Bool.false_eq_true, if_false] at q9 ⊢
        exact fin I9 q9
      | true =>
        simp only [if_true] at q9 ⊢
        refine thnF (pe.run _ s9 σ8 H9 _ I9 q9) fun z s10 ⟨yv, H10, I10, r10, acc, hD10, hz10, nx⟩ => ?_
        exact app_ok (X := blkH X s3 H3 scope ce fp) I10 hD10 hz10 r10 fun s11 I11 => fin I11 nx
  exact codeAny_compStart_list loop (T.self X.A 0 _ _ _ st4 loop)
/-- as a value -/
theorem pe_lcH {elt tg iter : Expr} {ifs : List Expr} {scope : Scope} {own : List (Str × Nat)} {pos : Pos} {wi : TI} {g : TG} {tt : TT} {te : TE} (hc : L2H.HotC X) (hN : X.N.Nodup) (hi : L2H.PIH X tg iter wi) (ok : BlkOk X.N X.env.scope scope own)
    (hg : ∀ (s : Shared) (H : Hp) (C : Addr) (cl : List (Str × Addr)) (fp : List Addr), PG (blkH X s H scope (compEnvC scope cl C X.env) fp) tg g) (ht : ∀ (s : Shared) (H : Hp) (C : Addr) (cl : List (Str × Addr)) (fp : List Addr), PTs (blkH X s H scope (compEnvC scope cl C X.env) fp) ifs tt)
    (he : ∀ (s : Shared) (H : Hp) (C : Addr) (cl : List (Str × Addr)) (fp : List Addr), PE (blkH X s H scope (compEnvC scope cl C X.env) fp) elt te) (hs : ∀ x, foldedSetIterable iter X.env x = pure x := by intro _; rfl) :
    PE X (.ListComp elt [⟨tg, iter, ifs, 0⟩] scope pos) (tLc wi g tt te (own.map (·.2))) := by
  refine ⟨fun pins s σ H Q I h => ?_⟩
  rw [eval_ListComp]
  refine lc_coreH hc hN I hi ok hg ht he hs h fun D C s' m H' I' q hn f => ⟨m, hn, fun h'' sb => ?_⟩
  obtain ⟨f0, f1, f2, f3, f4, f5⟩ := f
  exact ⟨.ref D, H', I'.turned (t' := s'.toks) (fun b o hb e => (sb.2 b hb).trans e) f0 f1 f3 f4 f5, rfl, q⟩
/-- name = [..] on one line, the name a local -/
theorem ps_setLcH {i : Nat} {y : Str} {py : Pos} {elt tg iter : Expr} {ifs : List Expr} {scope : Scope} {own : List (Str × Nat)} {pos spos : Pos} {wi : TI} {g : TG} {tt : TT} {te : TE} (hc : L2H.HotC X) (hN : X.N.Nodup) (hy : X.N[i]? = some y) (hyl : X.env.scope.names.lookup y = some .local)
    (hsw : swapsWith (.ListComp elt [⟨tg, iter, ifs, 0⟩] scope pos) (some (.Name y py)) spos.line X.env = pure true) (hi : L2H.PIH X tg iter wi) (ok : BlkOk X.N X.env.scope scope own)
    (hg : ∀ (s : Shared) (H : Hp) (C : Addr) (cl : List (Str × Addr)) (fp : List Addr), PG (blkH X s H scope (compEnvC scope cl C X.env) fp) tg g) (ht : ∀ (s : Shared) (H : Hp) (C : Addr) (cl : List (Str × Addr)) (fp : List Addr), PTs (blkH X s H scope (compEnvC scope cl C X.env) fp) ifs tt)
    (he : ∀ (s : Shared) (H : Hp) (C : Addr) (cl : List (Str × Addr)) (fp : List Addr), PE (blkH X s H scope (compEnvC scope cl C X.env) fp) elt te) (hs : ∀ x, foldedSetIterable iter X.env x = pure x := by intro _; rfl) :
    PS X (.Assign [.Name y py] (.ListComp elt [⟨tg, iter, ifs, 0⟩] scope pos) spos) (tAsg (tLc wi g tt te (own.map (·.2))) (gName i)) := by
  refine ⟨fun pins s σ H D I h => ?_⟩
  rw [exec_Assign_Name_used _ _ _ _ hsw]
  refine wpAny_bind (wpAny_standAt (wpAny_bind ?_))
  show wpAny _ X.A (do let _ ← comprehension (.ListComp elt [⟨tg, iter, ifs, 0⟩] scope pos) scope X.env (firstIterPos [⟨tg, iter, ifs, 0⟩] pos) (newList []) false (eval iter X.env) (some (assign (.Name y py) X.env))) _ _ s
  have h : tLc wi g tt te (own.map (·.2)) σ H (fun x H1 => gName i x σ H1 D.nx) := h
  refine wpAny_bind (thn (lc_coreH (Qf := fun _ s' => SP X pins D .next s') hc hN I hi ok hg ht he hs h fun L C s' m H' I' q hn f => ?_) fun _ s' hq => wpAny_pure (wpAny_pure hq))
  show wpAny _ _ (assign (.Name y py) X.env (.ref L)) _ _ _
  refine wpAny_assign_Name (store_ok2 (v := V.ref L) I' hN hy (.inl hyl) rfl (fun s2 I2 ⟨a, sb, ha⟩ => ?_) (.inr hyl))
  obtain ⟨f0, f1, f2, f3, f4, f5⟩ := f
  have haC : C ≠ a := by
    rcases ha with z | z
    · rw [z]; exact f1
    · exact fun e => f4 y a z e.symm
  refine ⟨m, hn.sameBut sb haC, fun h3 sb3 => ?_⟩
  exact ⟨_, H', I2.turned (t' := s2.toks) (fun b o hb e => (sb3.2 b hb).trans e) f0 f1 f3 f4 f5, q⟩

end
end Lp
set_option Elab.async false
set_option linter.all false
set_option maxRecDepth 100000
set_option maxHeartbeats 1000000
namespace Lp
open PySem PySem.Spec PyProof.Rows L2 GenW
/-! ### list(g(k = v, ..)) of a generator def -/
structure GnrK (P : Program) (w : World) (K : PySem.W.Frag) (mg : Str → Option Value) (base : Heap) (k : Nat) (x : Str) (ks : List Str) (gV : List V → List V → List V) (sp : SpG) : Prop where
  ex : ∃ (f : Addr) (fd : FuncData) (ps : List Str) (g : List Value → List Value → List Value), GFn P w K mg base k f fd ps sp ∧ mg x = some (.ref f) ∧ PySem.W.keepIn K (.ref f) = true ∧ KBn K fd ps 0 ks g gV
def tGenK (sp : SpG) (gV : List V → List V → List V) (n : Nat) (E : XK) (tk : TA) : TGen := fun σ H cont => tk σ H fun zs H2 => zs.length = n ∧ sp (gV [] zs) H2 cont E
section
variable {X : Cx} {k n : Nat} {f : Addr} {fd : FuncData} {ps ks : List Str} {sp : SpG} {E : XK} {x nm : Str} {p p2 pos pos' : Pos} {kws : List Keyword} {tk : TA} {g : List Value → List Value → List Value} {gV : List V → List V → List V}
theorem run_gfnK {pins : List (Addr × Obj)} {σ : L2.St} {H : Hp} {s : Shared} {us ws : List Value} {vs zs : List V} {cont : List V → Hp → Prop} {E1 : Value → Shared → Prop} (F : GFn X.prog X.w X.K X.mg X.base k f fd ps sp) (hr : Room k X.A) (hb : KBn X.K fd ps n ks g gV)
    (I : Inv X pins σ H s) (r : Vals vs us) (rz : Vals zs ws) (l1 : vs.length = n) (l2 : zs.length = ks.length) (h : sp (gV vs zs) H cont E) :
    wpAny (model X.prog X.w) X.A (call (.ref f) us (ks.zip ws)) (fun u s' => ∃ H1 sc ex, Inv X pins σ H1 sc ∧ ExOk X pins ex ∧ GMade X.prog X.w k X.stack H1 sc ex cont E u s') E1 s := by
  have r2 := hb.rel r rz
  refine wpAny_call (codeAny_mono (F.run X.A X.stack s H ⟨us, ks.zip ws⟩ (g us ws) (gV vs zs) cont E hr I.env0 (hb.to s us ws I.kIn (r.length.symm.trans l1) (rz.length.symm.trans l2)) r2 h) fun r s' hq => ?_)
  cases r with
  | error e => exact False.elim hq
  | ok fl =>
    cases fl with
    | ret u => exact ⟨H, s, [], I, .nil, hq⟩
    | next => exact False.elim hq
    | brk => exact False.elim hq
    | cont => exact False.elim hq
theorem pgen_callK0 (F : GFn X.prog X.w X.K X.mg X.base k f fd ps sp) (hr : Room k X.A) (hg : Gl X x) (hm : X.mg x = some (.ref f)) (hk : PySem.W.keepIn X.K (.ref f) = true) (hb : KBn X.K fd ps 0 ks g gV) (hkw : PK X kws tk)
    (hall : (backToKw pos' (keywordEach kws X.env)).all (·.1.isSome) = true := by rfl) (hks : (backToKw pos' (keywordEach kws X.env)).filterMap (·.1) = ks := by rfl) (hdb : (x == ("__debug__" : Str)) = false := by decide)
    (hpl : ((backTo pos' (starEach [] X.env)).any (·.1) || (backToKw pos' (keywordEach kws X.env)).any (·.1.isNone)) = false := by rfl) :
    PGen X k (.Call (.Name x p) [] kws pos') (tGenK sp gV ks.length E tk) E := by
  refine ⟨fun pins s σ H cont I h => ?_⟩
  refine wpAny_Call_Name_kw (ld_glob I hg hm ?_ hdb)
  refine PySem.W.callWith_KW0 (h₀ := X.base) I.ok.mod.kin hk hall ?_ hpl
  refine thn (hkw.run pos' pins s σ H _ I h) fun ws s2 ⟨zs, H2, I2, rz, l2, q2⟩ => ⟨I2.kIn, ?_⟩
  rw [hks]
  exact run_gfnK (us := []) (vs := []) F hr hb I2 .nil rz rfl l2 q2
theorem pe_lgK0 {j : Nat} (c : GnrK X.prog X.w X.K X.mg X.base k x ks gV sp) (hr : Room j X.A) (hk : k + 3 ≤ j) (hg : Gl X x) (hkw : PK X kws tk) (hg2 : Gl X nm) (hmg : X.mg nm = none) (hv : bootBuiltins nm = some (.type "list"))
    (hall : (backToKw pos' (keywordEach kws X.env)).all (·.1.isSome) = true := by rfl) (hks : (backToKw pos' (keywordEach kws X.env)).filterMap (·.1) = ks := by rfl) (hdb : (x == ("__debug__" : Str)) = false := by decide)
    (hpl : ((backTo pos' (starEach [] X.env)).any (·.1) || (backToKw pos' (keywordEach kws X.env)).any (·.1.isNone)) = false := by rfl) (hnm : nm ≠ "__name__" := by decide) (hdb2 : (nm == ("__debug__" : Str)) = false := by decide)
    (he2 : starEach [.Call (.Name x p2) [] kws pos'] X.env = (false, eval (.Call (.Name x p2) [] kws pos') X.env) :: starEach [] X.env := by rfl) :
    PE X (.Call (.Name nm p) [.Call (.Name x p2) [] kws pos'] [] pos) (tListG (tGenK sp gV ks.length E0 tk)) := by
  obtain ⟨g, fd, ps, gg, F, hm, kp, b⟩ := c.ex
  exact pe_listG (pgen_callK0 F (hr.mono (by omega)) hg hm kp b hkw hall hks hdb hpl) passes0 noStop0 (hr.mono hk) hg2 hmg hv hnm hdb2 he2
end
end Lp
set_option Elab.async false
set_option linter.all false
set_option maxRecDepth 100000
set_option maxHeartbeats 2000000
namespace Lp
open PySem PySem.Spec PyProof.Rows L2 NdefX
/-! ### rules where the running code is known: for super() -/
structure PEa (X : Cx) (c : Code) (e : Expr) (t : TE) : Prop where
  run : ∀ (pins : List (Addr × Obj)) (s : Shared) (σ : L2.St) (H : Hp) (Q : VK), Inv X pins σ H s → t σ H Q → _root_.PySem.wpAt (model X.prog X.w) X.A c (eval e X.env) (EP X pins σ Q) X.xe s
structure PSa (X : Cx) (c : Code) (st : Stmt) (t : TS) : Prop where
  run : ∀ (pins : List (Addr × Obj)) (s : Shared) (σ : L2.St) (H : Hp) (D : Ends), Inv X pins σ H s → t D σ H → _root_.PySem.wpAt (model X.prog X.w) X.A c (exec st X.env) (SP X pins D) X.xe s
structure PSsa (X : Cx) (c : Code) (st : List Stmt) (t : TS) : Prop where
  run : ∀ (pins : List (Addr × Obj)) (s : Shared) (σ : L2.St) (H : Hp) (D : Ends), Inv X pins σ H s → t D σ H → _root_.PySem.wpAt (model X.prog X.w) X.A c (execs st X.env) (SP X pins D) X.xe s
section
variable {X : Cx} {c : Code} {e a b : Expr} {st : Stmt} {rest : List Stmt} {te ta tb : TE} {t u : TS} {pos : Pos}
theorem PEa.of (h : PE X e te) : PEa X c e te := ⟨fun pins s σ H Q I q => _root_.PySem.wpAt_of_wpAny (h.run pins s σ H Q I q)⟩
theorem PSa.of (h : PS X st t) : PSa X c st t := ⟨fun pins s σ H D I q => _root_.PySem.wpAt_of_wpAny (h.run pins s σ H D I q)⟩
theorem PSsa.of (h : PSs X rest t) : PSsa X c rest t := ⟨fun pins s σ H D I q => _root_.PySem.wpAt_of_wpAny (h.run pins s σ H D I q)⟩
theorem psa_ret (he : PEa X c e te) : PSa X c (.Return (some e) pos) (tRet te) :=
  ⟨fun pins s σ H D I h => ks_wpAt_Return_some (ks_wpAt_mono (he.run pins s σ H _ I h) (fun v s1 ⟨x, H1, I1, r1, q1⟩ => ⟨x, σ, H1, I1, r1, q1⟩) fun _ _ z => z)⟩
theorem pssa_cons (h1 : PSa X c st t) (h2 : PSsa X c rest u) : PSsa X c (st :: rest) (tSeq t u) := by
  refine ⟨fun pins s σ H D I h => ks_wpAt_execs_cons (ks_wpAt_mono (h1.run pins s σ H { D with nx := u D } I h) (fun f s1 q => ?_) fun _ _ z => z)⟩
  cases f with
  | next =>
    obtain ⟨σ', H', I', q⟩ := q
    exact h2.run pins s1 σ' H' D I' q
  | ret v => exact q
  | brk => exact q
  | cont => exact q
theorem pssa_one (h1 : PSa X c st t) : PSsa X c [st] t := by
  refine ⟨fun pins s σ H D I h => ks_wpAt_execs_cons (ks_wpAt_mono (h1.run pins s σ H D I h) (fun f s1 q => ?_) fun _ _ z => z)⟩
  cases f with
  | next => exact _root_.PySem.wpAt_of_wpAny (wpAny_execs_nil q)
  | ret v => exact q
  | brk => exact q
  | cont => exact q
theorem pea_opl {op : Operator} {r : R2} (ho : OpR X (binaryOp op) r) (ha : PEa X c a ta) (hb : PE X b tb) : PEa X c (.BinOp a op b pos) (tOp r ta tb) := by
  refine ⟨fun pins s σ H Q I h => ks_wpAt_BinOp (ks_wpAt_mono (ha.run pins s σ H _ I h) (fun v s1 ⟨x, H1, I1, r1, q1⟩ => ?_) fun _ _ z => z)⟩
  exact thn (hb.run pins s1 σ H1 _ I1 q1) fun u s2 ⟨y, H2, I2, r2, q2⟩ => ho pins s2 σ H2 x y v u Q I2 r1 r2 q2
theorem pea_ifExp {d : Expr} {tA : TT} (hc : PT X d tA) (ha : PEa X c a ta) (hb : PEa X c b tb) : PEa X c (.IfExp d a b pos) (tIf tA ta tb) := by
  refine ⟨fun pins s σ H Q I h => ?_⟩
  rw [arm_eval_IfExp]
  refine _root_.PySem.wpAt_bind (_root_.PySem.wpAt_of_wpAny (thn (hc.run pins s σ H _ I h) fun d s1 ⟨H1, I1, q1⟩ => ?_))
  cases d with
  | true => exact ha.run pins s1 σ H1 Q I1 q1
  | false => exact hb.run pins s1 σ H1 Q I1 q1
end
/-! ### super().m(..) in a method of the class D -/
/-- what the text must have: the def at f, its first parameter sf, its cell __class__ at cc -/
structure SupC (X : Cx) (c : Code) (f cc D : Addr) (sf : Str) : Prop where
  ex : ∃ (body : List Stmt) (fd : FuncData) (oc : Value) (od : Option Addr) (osl : Array (Option Value)) (ar : Arg) (cda : Addr) (ccl : Value) (cdd : Option Addr) (vs : Array Value) (ccs : Array (Option Value)) (file : Str) (tf : Tok) (cl : Value) (cld : Option Addr) (csl : Array (Option Value)) (cdD : ClassData),
    c = .func body X.env ∧ X.env.func = some f ∧ X.K.lookup f = some ⟨oc, od, .func fd, osl⟩ ∧ (fd.params.posonlyargs ++ fd.params.args).head? = some ar ∧ ar.arg = sf ∧ X.env.code = .ref cda ∧ X.K.lookup cda = some ⟨ccl, cdd, .fields vs, ccs⟩ ∧
    vs[2]? = some (.str file tf) ∧ ((X.prog.main.file : Str) == file) = true ∧ X.K.lookup cc = some ⟨cl, cld, .cell (some (.ref D)), csl⟩ ∧ PySem.W.clsIn X.K D = some cdD ∧ X.env.cells.lookup ("__class__" : Str) = some cc
  ks : X.env.kindOf "super" = some .globalImplicit
  kc : X.env.kindOf "__class__" = some .free
  ka : X.env.kindOf sf = some .local
  sup : X.mg "super" = none
  top : (X.prog.main.scope.names.lookup ("super" : Str)).isSome = false
  loc : X.N[0]? = some sf
/-- the method m of the classes above D is the def at g -/
structure SupM (K : PySem.W.Frag) (D : Addr) (m : Str) (g : Addr) : Prop where
  at_ : PySem.W.ks_superIn K D D m = some (some (.ref g))
  ty : PySem.W.typeIn K (.ref g) = some (.type "function")
  fi : PySem.W.fnIn K g = true
  sub : PySem.W.mroIn K D (.ref D) = some true
  op : PySem.W.nsIn K cStatics "thirdparty.any" = some none
def tSup (D : Addr) (sp : Sp) (E : XK) (t : TA) : TE := fun σ H Q => ∃ a dx fs, σ[0]? = some (some (.ref a)) ∧ H a = some (.ins D dx fs) ∧ t σ H fun vs H2 => sp (.ref a :: vs) H2 Q E
section
variable {X : Cx} {c : Code} {f cc D g a dx : Addr} {sf m : Str} {fs : List (Str × V)} {pins : List (Addr × Obj)} {σ : L2.St} {H : Hp} {s : Shared} {A : Around} {E : Value → Shared → Prop}
theorem sup_base {p0 p1 : Pos} {whole : Sem Value} {Q : Value → Shared → Prop} (S : SupC X c f cc D sf) (M : SupM X.K D m g) (hm : (m == ("__class__" : Str)) = false) (I : Inv X pins σ H s) (e0 : σ[0]? = some (some (.ref a))) (ea : H a = some (.ins D dx fs))
    (h : ∀ (so : Addr) (s' : Shared), Inv X ((so, PySem.W.ks_superObj D a D) :: pins) σ H s' → s.heap.objs.size ≤ so → Q (.ref so) s') :
    _root_.PySem.wpAt (model X.prog X.w) X.A c (attributeBase (.Call (.Name "super" p0) [] [] p1) m X.env whole) Q X.xe s := by
  obtain ⟨body, fd, oc, od, osl, ar, cda, ccl, cdd, vs, ccs, file, tf, cl, cld, csl, cdD, rfl, hfn, hf, hp, har, hcode, hcd, hvs, hfile, hcell, hD, hcl⟩ := S.ex
  have kin := I.kIn
  obtain ⟨oD, hD1, hD2⟩ : ∃ oD, s.heap.get? D = some oD ∧ oD.data = .cls cdD := by
    unfold PySem.W.clsIn at hD
    split at hD
    · rename_i c d cd' sl ho
      cases hD
      exact ⟨_, kin _ _ ho, rfl⟩
    · cases hD
  refine ks_wpAt_super_base S.ks S.kc hm hfn (kin _ _ hf) rfl hp hcode (kin _ _ hcd) rfl hvs hfile S.top ?_
  refine PySem.W.ks_loadName_global I.ok.kind S.ks ?_
  obtain ⟨mb, b1, b2⟩ := I.mod.blt
  refine Calls.loadGlobal_builtin (by rw [I.ok.glob]; exact I.mod.glob.keeps I.bk) S.sup (by rw [I.ok.blt]; exact b1.keeps I.bk) ((b2 _ (by decide)).trans (by first | boot_by_name | rfl | kernel_rfl)) ⟨rfl, ?_⟩
  refine wpAny_loadName_free I.ok.kind S.kc hcl ⟨_, kin _ _ hcell, rfl⟩ ?_
  obtain ⟨mm, hn, hl⟩ := I.loc
  obtain ⟨u, r, l⟩ := hl 0 sf (.ref a) S.loc e0 (.inl S.ka)
  obtain rfl : u = Value.ref a := r
  have hm1 : mm sf = some (.ref a) := by
    rcases l with ⟨_, z⟩ | ⟨z, _⟩
    · exact z
    · have k := S.ka
      rcases z with z | z
      · rw [show X.env.kindOf sf = some .cell from z] at k; cases k
      · rw [show X.env.kindOf sf = some .free from z] at k; cases k
  rw [har]
  refine wpAny_loadName_local I.ok.kind S.ka hn hm1 ?_
  refine ks_wpAny_isType_cls hD1 hD2 ⟨rfl, ?_⟩
  obtain ⟨mA, O, _, _, _, _⟩ := ins_get I.hok ea
  obtain ⟨hh, g', d, t, os⟩ := s
  obtain ⟨od', J, _⟩ := O.look
  refine ks_wpAny_call_super hD1 hD2 J.at_ J.cls (fun c e => ?_) (PySem.W.looks_mroIn kin M.sub) (fun h' e k => ?_)
  · have := J.no
    unfold PySem.W.notCls at this
    rw [e] at this
    exact Bool.noConfusion this
  · exact h _ _ (ClX.pin_new (t' := t) I k (Nat.le_refl _) e (fun v z => nomatch z)) (Nat.le_refl _)
theorem sup_meth {so : Addr} {pl : Sem Bool} {Q : Value × List Value → Shared → Prop} {cdD : ClassData} (M : SupM X.K D m g) (hD : PySem.W.clsIn X.K D = some cdD) (hm : (m == ("__class__" : Str)) = false) (I : Inv X ((so, PySem.W.ks_superObj D a D) :: pins) σ H s) (ea : H a = some (.ins D dx fs))
    (h : ∀ (q : Addr) (s' : Shared), Inv X ((q, PySem.W.methodObj (.ref g) (.ref a)) :: pins) σ H s' → X.base.get? q = none → Q (.ref q, []) s') : wpAny (model X.prog X.w) A (getMethod (.ref so) m pl) Q E s := by
  have kin := I.kIn
  obtain ⟨mA, O, _, _, _, _⟩ := ins_get I.hok ea
  have hx := ClX.pin_at I
  have hb := ClX.base_none (a := s.heap.objs.size) I (Nat.le_refl _)
  obtain ⟨of, hof, hofc⟩ : ∃ of, s.heap.get? g = some of ∧ of.cls = .type "function" := by
    have ht' : (X.K.lookup g).map (·.cls) = some (.type "function") := M.ty
    cases z : X.K.lookup g with
    | none => rw [z] at ht'; cases ht'
    | some of => rw [z] at ht'; exact ⟨of, kin _ _ z, Option.some.inj ht'⟩
  have hm' := M.at_
  unfold PySem.W.ks_superIn at hm'
  rw [hD, Option.bind_some] at hm'
  obtain ⟨hh, g', d, t, os⟩ := s
  obtain ⟨od', J, _⟩ := O.look
  refine ks_wpAny_getMethod_super hx (PySem.W.looks_opaque kin M.op) (l₀ := cdD.mro) ?_ rfl kin hm' hof hofc (PySem.W.ks_ne kin J hD) hm ?_
  · exact fun A Q E s k q => wpAny_bind ((PySem.W.looks_clsIn kin hD) A _ E s k (wpAny_pure q))
  · exact h _ _ (ClX.met_new (ClX.unpin I)) hb
variable {CX : CXT} {k : Nat} {fd : FuncData} {ps : List Str} {sp : Sp} {E1 : XK} {e : Expr} {es : List Expr} {t : TA} {p0 p1 apos pos : Pos} {pl : Sem Bool}
theorem fnR_of (F : FnOk X.prog X.w X.K X.mg X.base CX k g fd ps sp) (b : Binds X.K fd ps []) : FnR X.prog X.w X.K X.mg X.base CX k g sp := fun A outer s H us vs Q E hr e0 r hs => by
  have hl : us.length = ps.length := by rw [← r.length]; exact F.len _ _ _ _ hs
  have kin : X.K.In s.heap := e0.mod.kin.keeps fun b o e => (e0.bs b o e).1
  have bb := b s us kin (by rw [List.append_nil]; exact hl)
  rw [List.append_nil] at bb
  exact F.run A outer s H ⟨us, []⟩ us vs Q E hr e0 bb r hs
theorem pea_sup (S : SupC X c f cc D sf) (M : SupM X.K D m g) (F : FnOk X.prog X.w X.K X.mg X.base CX k g fd ps sp) (b : Binds X.K fd ps []) (hr : Room k X.A) (hx : Passes CX X E1) (ha : PA X (e :: es) t) (hm : (m == ("__class__" : Str)) = false := by decide)
    (hst : starEach (e :: es) X.env = (false, eval e X.env) :: starEach es X.env := by rfl) (hpl : (backTo pos (starEach es X.env)).any (·.1) = false := by rfl)
    (he : eval (.Call (.Attribute (.Call (.Name "super" p0) [] [] p1) m apos) (e :: es) [] pos) X.env = (do
      let ov ← attributeBase (.Call (.Name "super" p0) [] [] p1) m X.env (eval (.Call (.Name "super" p0) [] [] p1) X.env)
      standAt apos.atName
      let (f, first) ← holding [ov] (getMethod ov m pl)
      callWith pos f first (backTo pos (starEach (e :: es) X.env)) []) := by rfl) :
    PEa X c (.Call (.Attribute (.Call (.Name "super" p0) [] [] p1) m apos) (e :: es) [] pos) (tSup D sp E1 t) := by
  refine ⟨fun pins s σ H Q I h => ?_⟩
  obtain ⟨a, dx, fs, e0, ea, q⟩ := h
  obtain ⟨cdD, hD⟩ : ∃ cdD, PySem.W.clsIn X.K D = some cdD := by
    obtain ⟨_, _, _, _, _, _, _, _, _, _, _, _, _, _, _, _, cdD, _, _, _, _, _, _, _, _, _, _, hD, _⟩ := S.ex
    exact ⟨cdD, hD⟩
  refine ks_wpAt_MethodCall (pl := pl) (sup_base S M hm I e0 ea fun so s1 I1 _ => ?_) he
  refine sup_meth M hD hm I1 ea fun q' s2 I2 hb => ?_
  refine ClX.callwith_cm (C := a) I2 hb M.fi (thn (ha.run pos _ s2 σ H _ I2 q) fun us s3 ⟨vs, H2, I3, rv, q2⟩ => ⟨⟨ClX.pin_at I3, I3.kIn⟩, ?_⟩) hst hpl
  exact ClX.run_cm (C := a) (fnR_of F b) hr hx I3 rv q2
theorem pea_sup0 (S : SupC X c f cc D sf) (M : SupM X.K D m g) (F : FnOk X.prog X.w X.K X.mg X.base CX k g fd ps sp) (b : Binds X.K fd ps []) (hr : Room k X.A) (hx : Passes CX X E1) (hm : (m == ("__class__" : Str)) = false := by decide)
    (he : eval (.Call (.Attribute (.Call (.Name "super" p0) [] [] p1) m apos) [] [] pos) X.env = (do
      let ov ← attributeBase (.Call (.Name "super" p0) [] [] p1) m X.env (eval (.Call (.Name "super" p0) [] [] p1) X.env)
      standAt apos.atName
      let (f, first) ← holding [ov] (getMethod ov m pl)
      callWith pos f first (backTo pos (starEach [] X.env)) []) := by rfl) :
    PEa X c (.Call (.Attribute (.Call (.Name "super" p0) [] [] p1) m apos) [] [] pos) (tSup D sp E1 tNil) := by
  refine ⟨fun pins s σ H Q I h => ?_⟩
  obtain ⟨a, dx, fs, e0, ea, q⟩ := h
  obtain ⟨cdD, hD⟩ : ∃ cdD, PySem.W.clsIn X.K D = some cdD := by
    obtain ⟨_, _, _, _, _, _, _, _, _, _, _, _, _, _, _, _, cdD, _, _, _, _, _, _, _, _, _, _, hD, _⟩ := S.ex
    exact ⟨cdD, hD⟩
  refine ks_wpAt_MethodCall (pl := pl) (sup_base S M hm I e0 ea fun so s1 I1 _ => ?_) he
  refine sup_meth M hD hm I1 ea fun q' s2 I2 hb => ?_
  refine PySem.W.callWith_M0 (K := X.K) ⟨ClX.pin_at I2, I2.kIn⟩ M.fi ?_
  exact ClX.run_cm (C := a) (us := []) (vs := []) (fnR_of F b) hr hx I2 .nil q
end
/-! ### a def with the cell __class__, by its body -/
structure FunS (K : PySem.W.Frag) (x qual : Str) (st : Stmt) (f cc cda : Addr) (fd : FuncData) : Prop where
  ex : ∃ (oc : Value) (od : Option Addr) (kV doc pm : Value) (an : Option Addr) (ct : Value) (osl : Array (Option Value)),
    fd = PySem.W.fnX x qual (defArgs st) (defBody st) (defScope st) [("__class__", cc)] .none kV doc pm an (.ref cda) ct ∧ K.lookup f = some ⟨oc, od, .func fd, osl⟩ ∧ PySem.W.codeIn K (.ref cda) qual = true
  kp : PySem.W.keepIn K (.ref f) = true
abbrev NFs (x qual : Str) (st : Stmt) (cc cda : Addr) : NF := ⟨x, qual, defArgs st, defBody st, defScope st, [("__class__", cc)], cda⟩
section
variable {P : Program} {w : World} {K : PySem.W.Frag} {mg : Str → Option Value} {base : Heap} {CX : CXT} {x qual : Str} {st : Stmt} {f cc cda : Addr} {fd : FuncData} {N ps : List Str} {k : Nat} {sp : Sp}
theorem fnok_sup (F : FunS K x qual st f cc cda fd) (S : NScope N ps ["__class__"] (defScope st)) (hcc : ∃ cl cld v csl, K.lookup cc = some ⟨cl, cld, .cell v, csl⟩) (ln : ∀ vs H Q E, sp vs H Q E → vs.length = ps.length)
    (hb : ∀ (A : Around) (out : List Env) (s : Shared) (H : Hp) (vs : List V) (Q : VK) (E : XK), Room k (A.deeper (envF (NFs x qual st cc cda) f s.heap.objs.size)) → sp vs H Q E →
      ∃ t, PSsa (ncx CX P w K mg base N (NFs x qual st cc cda) f A out s H E) (.func (defBody st) (envF (NFs x qual st cc cda) f s.heap.objs.size)) (defBody st) t ∧ t { nx := fun _ H' => Q .non H', rt := Q } (startF N vs [none]) H) :
    FnOk P w K mg base CX (k + 1) f fd ps sp := by
  obtain ⟨oc, od, kV, doc, pm, an, ct, osl, rfl, lk, hcd⟩ := F.ex
  refine ⟨ln, fun A out s H ar us vs Q E room en bd rv hs => ?_⟩
  have KX : K.In s.heap := en.mod.kin.keeps fun b o e => (en.bs b o e).1
  have lim : s.heap.NoLimit := en.mod.nolimit.keeps fun b o e => (en.bs b o e).1
  have hl := ln _ _ _ _ hs
  have hloc : ∀ y ∈ ps.zip us, (defScope st).names.lookup y.1 = some .local := fun ⟨n, _⟩ hy => S.par n (List.of_mem_zip hy).1
  refine ks_codeAny_call_defAt (fd := PySem.W.fnX x qual (defArgs st) (defBody st) (defScope st) [("__class__", cc)] .none kV doc pm an (.ref cda) ct) (body := defBody st) (binds := ps.zip us) room.depth (KX _ _ lk) rfl lim (PySem.W.codeRec_of KX hcd) rfl bd S.nocell hloc (fun h₁ hns kp => ?_) S.co S.gen S.kind
  obtain ⟨t, ht, q⟩ := hb A out s H vs Q E (room.deeper _) hs
  obtain ⟨cl, cld, v, csl, hcell⟩ := hcc
  have C : CellsAt (NFs x qual st cc cda).cl ["__class__"] [none] s.heap H := by
    refine ⟨rfl, fun y c e => ?_, fun y z c e1 e2 => ?_, fun i y e => ?_⟩
    · have ec : c = cc := by
        simp only [NFs, List.lookup] at e
        split at e
        · exact (Option.some.inj e).symm
        · cases e
      subst ec
      exact ⟨(en.bs _ _ (en.mod.kin _ _ hcell)).2, v, _, KX _ _ hcell, rfl⟩
    · have ey : ∀ {y : Str}, (NFs x qual st cc cda).cl.lookup y = some c → y = "__class__" := fun {y} e => by
        simp only [NFs, List.lookup] at e
        split at e
        · rename_i h
          exact eq_of_beq h
        · cases e
      rw [ey e1, ey e2]
    · cases i with
      | zero =>
        cases e
        exact ⟨cc, rfl, fun v hv => nomatch hv⟩
      | succ i => simp at e
  have I : Inv (ncx CX P w K mg base N (NFs x qual st cc cda) f A out s H E) [] (startF N vs [none]) H { s with heap := h₁, toks := s.toks + (ps.zip us).length } := inv_startN S room.hd en hl rv C hns kp
  refine ks_wpAt_mono (ht.run [] _ (startF N vs [none]) H _ I q) (fun fl s' hs => ?_) fun e s' hs => hs
  have fin : ∀ {σ' : L2.St} {H' : Hp} {v : V} {u : Value}, Inv (ncx CX P w K mg base N (NFs x qual st cc cda) f A out s H E) [] σ' H' s' → L2.RelV v u → Q v H' → CE out P w H s Q u s' :=
    fun {σ' H' v u} J rv q => ⟨v, H', J.os, J.bare, J.base, J.hok, rv, q⟩
  cases fl with
  | ret u =>
    obtain ⟨v, σ', H', J, rv, q⟩ := hs
    exact fin J rv q
  | next =>
    obtain ⟨σ', H', J, q⟩ := hs
    exact fin (v := V.non) (u := Value.none) J rfl q
  | brk =>
    obtain ⟨_, _, _, q⟩ := hs
    exact False.elim q
  | cont =>
    obtain ⟨_, _, _, q⟩ := hs
    exact False.elim q
end
end Lp
set_option Elab.async false
set_option linter.all false
set_option maxRecDepth 100000
set_option maxHeartbeats 2000000
namespace Lp
open PySem PySem.Spec PyProof.Rows L2 NdefX
/-! ### a def that may raise, where it doesn't -/
def SpN (sp : Sp) : Sp := fun vs H Q _ => sp vs H Q fun _ _ _ => False
section
variable {P : Program} {w : World} {K : PySem.W.Frag} {mg : Str → Option Value} {base : Heap} {k : Nat} {f : Addr} {fd : FuncData} {ps : List Str} {sp : Sp}
theorem FnOk.low (F : FnOk P w K mg base (L2N.CX P w) k f fd ps sp) : FnOk P w K mg base CX0 k f fd ps (SpN sp) :=
  ⟨fun vs H Q E h => F.len _ _ _ _ h, fun A out s H ar us vs Q E r e b v h => codeAny_mono (F.run A out s H ar us vs Q (fun _ _ _ => False) r e b v h) fun r s' hq => by
    cases r with
    | error e =>
      obtain ⟨_, _, _, _, _, _, _, _, _, _, _, _, z⟩ := hq
      exact z.elim
    | ok fl =>
      cases fl with
      | ret u => exact hq
      | next => exact hq
      | brk => exact hq
      | cont => exact hq⟩
end
theorem passN {X : Cx} : Passes (L2N.CX X.prog X.w) X E0 := fun _ _ _ _ _ _ _ h => by
  obtain ⟨_, _, _, _, _, _, _, _, _, _, _, _, z⟩ := h
  exact z.elim
theorem takesN {X : Cx} : L2N.Takes X (fun _ _ _ _ => False) := fun _ _ x => by
  obtain ⟨_, _, _, _, _, _, _, _, _, _, _, _, _, _, _, _, z⟩ := x
  exact z.elim
/-! ### methods and properties of an object whose class is one of several -/
abbrev Is (C : Addr) : Addr → Prop := fun C' => C' = C
structure MetV (P : Program) (w : World) (K : PySem.W.Frag) (mg : Str → Option Value) (base : Heap) (k : Nat) (An : Addr → Prop) (m : Str) (sp : Sp) : Prop where
  ex : ∀ C, An C → ∃ (f : Addr) (fd : FuncData) (ps : List Str), Cls K C ∧ Meth K C m f ∧ FnOk P w K mg base (L2N.CX P w) k f fd ps sp ∧ Binds K fd ps []
structure PrpV (P : Program) (w : World) (K : PySem.W.Frag) (mg : Str → Option Value) (base : Heap) (k : Nat) (An : Addr → Prop) (f : Str) (sp : Sp) : Prop where
  ex : ∀ C, An C → ∃ (p g : Addr) (fd : FuncData) (ps : List Str), Cls K C ∧ PropOf K C f p g ∧ FnOk P w K mg base (L2N.CX P w) k g fd ps sp ∧ Binds K fd ps []
structure MetVK (P : Program) (w : World) (K : PySem.W.Frag) (mg : Str → Option Value) (base : Heap) (k : Nat) (An : Addr → Prop) (m : Str) (n : Nat) (ks : List Str) (gV : List V → List V → List V) (sp : Sp) : Prop where
  ex : ∀ C, An C → ∃ (f : Addr) (fd : FuncData) (ps : List Str) (g : List Value → List Value → List Value), Cls K C ∧ Meth K C m f ∧ FnOk P w K mg base (L2N.CX P w) k f fd ps sp ∧ KBn K fd ps n ks g gV
def tMetV (An : Addr → Prop) (m : Str) (sp : Sp) (W : WX) (ta : TE) (t : TA) : TE := fun σ H Q => ta σ H fun x H1 => ∃ a C dx fs, x = .ref a ∧ An C ∧ H1 a = some (.ins C dx fs) ∧ fs.lookup m = none ∧ t σ H1 fun vs H2 => sp (.ref a :: vs) H2 Q (WE W σ)
def tMetVK (An : Addr → Prop) (m : Str) (n : Nat) (sp : Sp) (gV : List V → List V → List V) (W : WX) (ta : TE) (t : TA) : TE := fun σ H Q => ta σ H fun x H1 => ∃ a C dx fs, x = .ref a ∧ An C ∧ H1 a = some (.ins C dx fs) ∧ fs.lookup m = none ∧ t σ H1 fun zs H2 => zs.length = n ∧ sp (gV [.ref a] zs) H2 Q (WE W σ)
def tPrpV (An : Addr → Prop) (sp : Sp) (ta : TE) : TE := fun σ H Q => ta σ H fun x H1 => ∃ a C dx fs, x = .ref a ∧ An C ∧ H1 a = some (.ins C dx fs) ∧ sp [.ref a] H1 Q E0
section
variable {X : Cx} {k j n : Nat} {An : Addr → Prop} {m f : Str} {sp : Sp} {W : WX} {p pos apos : Pos} {e o : Expr} {es : List Expr} {kws : List Keyword} {ks : List Str} {gV : List V → List V → List V} {ta : TE} {t tkk : TA}
theorem pe_mV {pl : Sem Bool} (c : MetV X.prog X.w X.K X.mg X.base k An m sp) (hr : Room j X.A) (hk : k ≤ j) (tk : L2N.Takes X W) (he : PE X o ta) (ha : PA X (e :: es) t)
    (hst : starEach (e :: es) X.env = (false, eval e X.env) :: starEach es X.env := by rfl) (hpl : (backTo pos (starEach es X.env)).any (·.1) = false := by rfl)
    (ht : eval (.Call (.Attribute o m apos) (e :: es) [] pos) X.env = (eval o X.env >>= fun ov => standAt apos.atName >>= fun _ => holding [ov] (getMethod ov m pl) >>= fun r => callWith pos r.1 r.2 (backTo pos (starEach (e :: es) X.env)) (backToKw pos (keywordEach [] X.env))) := by rfl) :
    PE X (.Call (.Attribute o m apos) (e :: es) [] pos) (tMetV An m sp W ta t) := by
  refine ⟨fun pins s σ H Q I h => ?_⟩
  refine PySem.W.methodCall_KW (pl := pl) (thn (he.run pins s σ H _ I h) fun u s1 ⟨x, H1, I1, rx, a, C, dx, fs, ex, an, ea, l, q⟩ => ?_) ht
  obtain ⟨g, fd, ps, hc, hm, F, b⟩ := c.ex C an
  subst ex
  obtain rfl : u = Value.ref a := rx
  refine getmeth_ok I1 ea hc hm l ?_
  refine PySem.W.callWith_K (first := [.ref a]) (h₀ := X.base) I.ok.mod.kin hm.kp (thn (ha.run pos pins s1 σ H1 _ I1 q) fun us s2 ⟨vs, H2, I2, r, q2⟩ => ⟨I2.kIn, ?_⟩) hst hpl
  exact run_fnS (E := WE W) (us := .ref a :: us) (vs := .ref a :: vs) F (hr.mono hk) b (L2N.passAt tk σ) I2 (.cons rfl r) q2
theorem pe_mV0 {pl : Sem Bool} (c : MetV X.prog X.w X.K X.mg X.base k An m sp) (hr : Room j X.A) (hk : k ≤ j) (tk : L2N.Takes X W) (he : PE X o ta)
    (ht : eval (.Call (.Attribute o m apos) [] [] pos) X.env = (eval o X.env >>= fun ov => standAt apos.atName >>= fun _ => holding [ov] (getMethod ov m pl) >>= fun r => callWith pos r.1 r.2 (backTo pos (starEach [] X.env)) (backToKw pos (keywordEach [] X.env))) := by rfl) :
    PE X (.Call (.Attribute o m apos) [] [] pos) (tMetV An m sp W ta tNil) := by
  refine ⟨fun pins s σ H Q I h => ?_⟩
  refine PySem.W.methodCall_KW (pl := pl) (thn (he.run pins s σ H _ I h) fun u s1 ⟨x, H1, I1, rx, a, C, dx, fs, ex, an, ea, l, q⟩ => ?_) ht
  obtain ⟨g, fd, ps, hc, hm, F, b⟩ := c.ex C an
  subst ex
  obtain rfl : u = Value.ref a := rx
  refine getmeth_ok I1 ea hc hm l (PySem.W.callWith_K0 (first := [.ref a]) I1.kIn hm.kp ?_)
  exact run_fnS (E := WE W) (us := [.ref a]) (vs := [.ref a]) F (hr.mono hk) b (L2N.passAt tk σ) I1 (.cons rfl .nil) q
theorem pe_pV (c : PrpV X.prog X.w X.K X.mg X.base k An f sp) (hr : Room j X.A) (hk : k + 1 ≤ j) (he : PE X e ta) (hab : attributeBase e f X.env (eval e X.env) = eval e X.env := by rfl) : PE X (.Attribute e f pos) (tPrpV An sp ta) := by
  refine ⟨fun pins s σ H Q I h => ?_⟩
  refine attr_of hab (thn (he.run pins s σ H _ I h) fun u s1 ⟨x, H1, I1, rx, a, C, dx, fs, ex, an, ea, q⟩ => ?_)
  obtain ⟨p, g, fd, ps, hc, hp, F, b⟩ := c.ex C an
  subst ex
  obtain rfl : u = Value.ref a := rx
  exact getprop_ok I1 ea hc hp F (hr.mono hk) b .nil passN q
theorem run_fnNS {CX : CXT} {E : L2.St → XK} {fa : Addr} {fd : FuncData} {ps : List Str} {g : List Value → List Value → List Value} {pins : List (Addr × Obj)} {σ : L2.St} {H : Hp} {s : Shared} {Q : VK} {us ws : List Value} {vs zs : List V} (F : FnOk X.prog X.w X.K X.mg X.base CX k fa fd ps sp) (hr : Room k X.A) (hb : KBn X.K fd ps n ks g gV) (hx : PassesAt CX X σ (E σ))
    (I : Inv X pins σ H s) (r : Vals vs us) (rz : Vals zs ws) (l1 : vs.length = n) (l2 : zs.length = ks.length) (h : sp (gV vs zs) H Q (E σ)) : wpAny (model X.prog X.w) X.A (call (.ref fa) us (ks.zip ws)) (EP X pins σ Q) X.xe s := by
  have r2 := hb.rel r rz
  refine wpAny_call (codeAny_mono (F.run X.A X.stack s H ⟨us, ks.zip ws⟩ (g us ws) (gV vs zs) Q (E σ) hr I.env0 (hb.to s us ws I.kIn (r.length.symm.trans l1) (rz.length.symm.trans l2)) r2 h) fun r s' hq => ?_)
  cases r with
  | error e => exact hx pins H s e s' I hq
  | ok fl =>
    cases fl with
    | ret u => exact I.after hq
    | next => exact False.elim hq
    | brk => exact False.elim hq
    | cont => exact False.elim hq
theorem pe_mVK {pl : Sem Bool} (c : MetVK X.prog X.w X.K X.mg X.base k An m 1 ks gV sp) (hr : Room j X.A) (hk : k ≤ j) (tk : L2N.Takes X W) (he : PE X o ta) (hkw : PK X kws tkk)
    (hall : (backToKw pos (keywordEach kws X.env)).all (·.1.isSome) = true := by rfl) (hks : (backToKw pos (keywordEach kws X.env)).filterMap (·.1) = ks := by rfl)
    (hpl : ((backTo pos (starEach [] X.env)).any (·.1) || (backToKw pos (keywordEach kws X.env)).any (·.1.isNone)) = false := by rfl)
    (ht : eval (.Call (.Attribute o m apos) [] kws pos) X.env = (eval o X.env >>= fun ov => standAt apos.atName >>= fun _ => holding [ov] (getMethod ov m pl) >>= fun r => callWith pos r.1 r.2 (backTo pos (starEach [] X.env)) (backToKw pos (keywordEach kws X.env))) := by rfl) :
    PE X (.Call (.Attribute o m apos) [] kws pos) (tMetVK An m ks.length sp gV W ta tkk) := by
  refine ⟨fun pins s σ H Q I h => ?_⟩
  refine PySem.W.methodCall_KW (pl := pl) (thn (he.run pins s σ H _ I h) fun u s1 ⟨x, H1, I1, rx, a, C, dx, fs, ex, an, ea, l, q⟩ => ?_) ht
  obtain ⟨g, fd, ps, gg, hc, hm, F, b⟩ := c.ex C an
  subst ex
  obtain rfl : u = Value.ref a := rx
  refine getmeth_ok I1 ea hc hm l ?_
  refine PySem.W.callWith_KW0 (first := [.ref a]) (h₀ := X.base) I.ok.mod.kin hm.kp hall ?_ hpl
  refine thn (hkw.run pos pins s1 σ H1 _ I1 q) fun ws s2 ⟨zs, H2, I2, rz, l2, q2⟩ => ⟨I2.kIn, ?_⟩
  rw [hks]
  exact run_fnNS (E := WE W) (us := [.ref a]) (vs := [.ref a]) F (hr.mono hk) b (L2N.passAt tk σ) I2 (.cons rfl .nil) rz rfl l2 q2
end
/-! ### methods that each class of several has by itself -/
structure MetC (P : Program) (w : World) (K : PySem.W.Frag) (mg : Str → Option Value) (base : Heap) (k : Nat) (Kd : Addr → Nat → Prop) (m : Str) (sp : Addr → Nat → Sp) : Prop where
  ex : ∀ C i, Kd C i → ∃ (f : Addr) (fd : FuncData) (ps : List Str), Cls K C ∧ Meth K C m f ∧ FnOk P w K mg base (L2N.CX P w) k f fd ps (sp C i) ∧ Binds K fd ps []
def tMetC (Kd : Addr → Nat → Prop) (m : Str) (sp : Addr → Nat → Sp) (W : WX) (ta : TE) (t : TA) : TE := fun σ H Q => ta σ H fun x H1 => ∃ a C i dx fs, x = .ref a ∧ Kd C i ∧ H1 a = some (.ins C dx fs) ∧ fs.lookup m = none ∧ t σ H1 fun vs H2 => sp C i (.ref a :: vs) H2 Q (WE W σ)
section
variable {X : Cx} {k j : Nat} {Kd : Addr → Nat → Prop} {m : Str} {sp : Addr → Nat → Sp} {W : WX} {p pos apos : Pos} {e o : Expr} {es : List Expr} {ta : TE} {t : TA}
theorem pe_mC {pl : Sem Bool} (c : MetC X.prog X.w X.K X.mg X.base k Kd m sp) (hr : Room j X.A) (hk : k ≤ j) (tk : L2N.Takes X W) (he : PE X o ta) (ha : PA X (e :: es) t)
    (hst : starEach (e :: es) X.env = (false, eval e X.env) :: starEach es X.env := by rfl) (hpl : (backTo pos (starEach es X.env)).any (·.1) = false := by rfl)
    (ht : eval (.Call (.Attribute o m apos) (e :: es) [] pos) X.env = (eval o X.env >>= fun ov => standAt apos.atName >>= fun _ => holding [ov] (getMethod ov m pl) >>= fun r => callWith pos r.1 r.2 (backTo pos (starEach (e :: es) X.env)) (backToKw pos (keywordEach [] X.env))) := by rfl) :
    PE X (.Call (.Attribute o m apos) (e :: es) [] pos) (tMetC Kd m sp W ta t) := by
  refine ⟨fun pins s σ H Q I h => ?_⟩
  refine PySem.W.methodCall_KW (pl := pl) (thn (he.run pins s σ H _ I h) fun u s1 ⟨x, H1, I1, rx, a, C, i, dx, fs, ex, an, ea, l, q⟩ => ?_) ht
  obtain ⟨g, fd, ps, hc, hm, F, b⟩ := c.ex C i an
  subst ex
  obtain rfl : u = Value.ref a := rx
  refine getmeth_ok I1 ea hc hm l ?_
  refine PySem.W.callWith_K (first := [.ref a]) (h₀ := X.base) I.ok.mod.kin hm.kp (thn (ha.run pos pins s1 σ H1 _ I1 q) fun us s2 ⟨vs, H2, I2, r, q2⟩ => ⟨I2.kIn, ?_⟩) hst hpl
  exact run_fnS (E := WE W) (us := .ref a :: us) (vs := .ref a :: vs) F (hr.mono hk) b (L2N.passAt tk σ) I2 (.cons rfl r) q2
theorem pe_mC0 {pl : Sem Bool} (c : MetC X.prog X.w X.K X.mg X.base k Kd m sp) (hr : Room j X.A) (hk : k ≤ j) (tk : L2N.Takes X W) (he : PE X o ta)
    (ht : eval (.Call (.Attribute o m apos) [] [] pos) X.env = (eval o X.env >>= fun ov => standAt apos.atName >>= fun _ => holding [ov] (getMethod ov m pl) >>= fun r => callWith pos r.1 r.2 (backTo pos (starEach [] X.env)) (backToKw pos (keywordEach [] X.env))) := by rfl) :
    PE X (.Call (.Attribute o m apos) [] [] pos) (tMetC Kd m sp W ta tNil) := by
  refine ⟨fun pins s σ H Q I h => ?_⟩
  refine PySem.W.methodCall_KW (pl := pl) (thn (he.run pins s σ H _ I h) fun u s1 ⟨x, H1, I1, rx, a, C, i, dx, fs, ex, an, ea, l, q⟩ => ?_) ht
  obtain ⟨g, fd, ps, hc, hm, F, b⟩ := c.ex C i an
  subst ex
  obtain rfl : u = Value.ref a := rx
  refine getmeth_ok I1 ea hc hm l (PySem.W.callWith_K0 (first := [.ref a]) I1.kIn hm.kp ?_)
  exact run_fnS (E := WE W) (us := [.ref a]) (vs := [.ref a]) F (hr.mono hk) b (L2N.passAt tk σ) I1 (.cons rfl .nil) q
end
/-! ### what a def with super() asks of the text -/
structure SupF (P : Program) (K : PySem.W.Frag) (mg : Str → Option Value) (x qual : Str) (st : Stmt) (f cc cda D : Addr) (fd : FuncData) : Prop where
  F : FunS K x qual st f cc cda fd
  cd : ∃ (ccl : Value) (cdd : Option Addr) (vs : Array Value) (ccs : Array (Option Value)) (file : Str) (tf : Tok), K.lookup cda = some ⟨ccl, cdd, .fields vs, ccs⟩ ∧ vs[2]? = some (.str file tf) ∧ ((P.main.file : Str) == file) = true
  ce : ∃ (cl : Value) (cld : Option Addr) (csl : Array (Option Value)), K.lookup cc = some ⟨cl, cld, .cell (some (.ref D)), csl⟩
  di : ∃ cdD : ClassData, PySem.W.clsIn K D = some cdD
  sup : mg "super" = none
  top : (P.main.scope.names.lookup ("super" : Str)).isSome = false
theorem SupF.hcc {P : Program} {K : PySem.W.Frag} {mg : Str → Option Value} {x qual : Str} {st : Stmt} {f cc cda D : Addr} {fd : FuncData} (S : SupF P K mg x qual st f cc cda D fd) : ∃ cl cld v csl, K.lookup cc = some ⟨cl, cld, .cell v, csl⟩ := by
  obtain ⟨cl, cld, csl, h⟩ := S.ce
  exact ⟨cl, cld, _, csl, h⟩
theorem SupF.sc {CX : CXT} {P : Program} {w : World} {K : PySem.W.Frag} {mg : Str → Option Value} {base : Heap} {x qual : Str} {st : Stmt} {f cc cda D : Addr} {fd : FuncData} {N : List Str} {A : Around} {out : List Env} {s : Shared} {H : Hp} {E : XK} {sf : Str} {ar : Arg} (S : SupF P K mg x qual st f cc cda D fd)
    (hp : ((defArgs st).posonlyargs ++ (defArgs st).args).head? = some ar) (hn : ar.arg = sf)
    (ks : (ncx CX P w K mg base N (NFs x qual st cc cda) f A out s H E).env.kindOf "super" = some .globalImplicit) (kc : (ncx CX P w K mg base N (NFs x qual st cc cda) f A out s H E).env.kindOf "__class__" = some .free) (ka : (ncx CX P w K mg base N (NFs x qual st cc cda) f A out s H E).env.kindOf sf = some .local) (loc : N[0]? = some sf) :
    SupC (ncx CX P w K mg base N (NFs x qual st cc cda) f A out s H E) (.func (defBody st) (envF (NFs x qual st cc cda) f s.heap.objs.size)) f cc D sf := by
  obtain ⟨oc, od, kV, doc, pm, an, ct, osl, rfl, lk, hcd⟩ := S.F.ex
  obtain ⟨ccl, cdd, vs, ccs, file, tf, c1, c2, c3⟩ := S.cd
  obtain ⟨cl, cld, csl, e1⟩ := S.ce
  obtain ⟨cdD, d1⟩ := S.di
  exact ⟨⟨defBody st, _, oc, od, osl, ar, cda, ccl, cdd, vs, ccs, file, tf, cl, cld, csl, cdD, rfl, rfl, lk, hp, hn, rfl, c1, c2, c3, e1, d1, rfl⟩, ks, kc, ka, S.sup, S.top, loc⟩
end Lp
set_option Elab.async false
set_option linter.all false
set_option maxRecDepth 100000
namespace L34
open PySem PySem.Spec PyProof.Rows L2 Lp
def topS (i : Nat) : Stmt := PySem.Challenge.pw_latepatches_k34_whole_long_settings.main.body.getD i (.Pass ⟨0, 0, 0, 0⟩)
abbrev s_wall : Stmt := topS 0
abbrev N_wall : List Str := ["k"]
theorem sc_wall : FnScope N_wall ["k"] (defScope s_wall) := ⟨rfl, rfl, rfl, by decide +kernel, rfl, by decide +kernel, by decide +kernel⟩
abbrev s_is_integer : Stmt := topS 11
abbrev N_is_integer : List Str := ["value"]
theorem sc_is_integer : FnScope N_is_integer ["value"] (defScope s_is_integer) := ⟨rfl, rfl, rfl, by decide +kernel, rfl, by decide +kernel, by decide +kernel⟩
abbrev s_is_integer_within : Stmt := topS 12
abbrev N_is_integer_within : List Str := ["value", "least", "greatest"]
theorem sc_is_integer_within : FnScope N_is_integer_within ["value", "least", "greatest"] (defScope s_is_integer_within) := ⟨rfl, rfl, rfl, by decide +kernel, rfl, by decide +kernel, by decide +kernel⟩
abbrev s_check_number : Stmt := topS 13
abbrev N_check_number : List Str := ["value", "least", "greatest"]
theorem sc_check_number : FnScope N_check_number ["value", "least", "greatest"] (defScope s_check_number) := ⟨rfl, rfl, rfl, by decide +kernel, rfl, by decide +kernel, by decide +kernel⟩
abbrev s_check_settable : Stmt := topS 14
abbrev N_check_settable : List Str := ["value"]
theorem sc_check_settable : FnScope N_check_settable ["value"] (defScope s_check_settable) := ⟨rfl, rfl, rfl, by decide +kernel, rfl, by decide +kernel, by decide +kernel⟩
abbrev s_law_source : Stmt := topS 22
abbrev N_law_source : List Str := ["cell", "nth"]
theorem sc_law_source : FnScope N_law_source ["cell", "nth"] (defScope s_law_source) := ⟨rfl, rfl, rfl, by decide +kernel, rfl, by decide +kernel, by decide +kernel⟩
abbrev s_law_draw : Stmt := topS 23
abbrev N_law_draw : List Str := ["source", "size", "digit"]
theorem sc_law_draw : FnScope N_law_draw ["source", "size"] (defScope s_law_draw) := ⟨rfl, rfl, rfl, by decide +kernel, rfl, by decide +kernel, by decide +kernel⟩
abbrev s_law_cells : Stmt := topS 24
abbrev N_law_cells : List Str := ["script", "most"]
theorem sc_law_cells : FnScope N_law_cells ["script", "most"] (defScope s_law_cells) := ⟨rfl, rfl, rfl, by decide +kernel, rfl, by decide +kernel, by decide +kernel⟩
abbrev s_law_same : Stmt := topS 25
abbrev N_law_same : List Str := ["found", "expected", "one", "other"]
theorem sc_law_same : FnScope N_law_same ["found", "expected"] (defScope s_law_same) := ⟨rfl, rfl, rfl, by decide +kernel, rfl, by decide +kernel, by decide +kernel⟩
abbrev s_law_later : Stmt := topS 26
abbrev N_law_later : List Str := ["state", "words", "event", "present_here", "done", "kept", "spot", "more", "word", "left"]
theorem sc_law_later : FnScope N_law_later ["state", "words", "event"] (defScope s_law_later) := ⟨rfl, rfl, rfl, by decide +kernel, rfl, by decide +kernel, by decide +kernel⟩
abbrev s_law_due : Stmt := topS 27
abbrev N_law_due : List Str := ["state", "integers"]
theorem sc_law_due : FnScope N_law_due ["state", "integers"] (defScope s_law_due) := ⟨rfl, rfl, rfl, by decide +kernel, rfl, by decide +kernel, by decide +kernel⟩
abbrev s_law_seen : Stmt := topS 28
abbrev N_law_seen : List Str := ["one"]
theorem sc_law_seen : FnScope N_law_seen ["one"] (defScope s_law_seen) := ⟨rfl, rfl, rfl, by decide +kernel, rfl, by decide +kernel, by decide +kernel⟩
abbrev s_law_patches_right : Stmt := topS 29
abbrev N_law_patches_right : List Str := ["some", "state", "words", "integers", "k", "one", "due", "told", "running", "word"]
theorem sc_law_patches_right : FnScope N_law_patches_right ["some", "state", "words", "integers"] (defScope s_law_patches_right) := ⟨rfl, rfl, rfl, by decide +kernel, rfl, by decide +kernel, by decide +kernel⟩
abbrev s_law_made : Stmt := topS 30
abbrev N_law_made : List Str := ["source", "one", "most", "style", "some", "words", "integers", "k", "way", "integer"]
theorem sc_law_made : FnScope N_law_made ["source", "one", "most", "style"] (defScope s_law_made) := ⟨rfl, rfl, rfl, by decide +kernel, rfl, by decide +kernel, by decide +kernel⟩
abbrev s_law_event : Stmt := topS 31
abbrev N_law_event : List Str := ["source", "state", "most", "free", "running", "way", "spot"]
theorem sc_law_event : FnScope N_law_event ["source", "state", "most"] (defScope s_law_event) := ⟨rfl, rfl, rfl, by decide +kernel, rfl, by decide +kernel, by decide +kernel⟩
abbrev s_law_pressed : Stmt := topS 32
abbrev N_law_pressed : List Str := ["some", "event", "told"]
theorem sc_law_pressed : FnScope N_law_pressed ["some", "event"] (defScope s_law_pressed) := ⟨rfl, rfl, rfl, by decide +kernel, rfl, by decide +kernel, by decide +kernel⟩
abbrev s_law_long_right : Stmt := topS 33
abbrev N_law_long_right : List Str := ["source", "most", "size", "one", "all_states", "some", "words", "integers", "turn", "calls", "event", "later", "state"]
theorem sc_law_long_right : FnScope N_law_long_right ["source", "most", "size"] (defScope s_law_long_right) := ⟨rfl, rfl, rfl, by decide +kernel, rfl, by decide +kernel, by decide +kernel⟩
abbrev s_law_all_right : Stmt := topS 34
abbrev N_law_all_right : List Str := ["source", "style", "size", "one", "some", "words", "integers", "each", "told", "k"]
theorem sc_law_all_right : FnScope N_law_all_right ["source", "style", "size"] (defScope s_law_all_right) := ⟨rfl, rfl, rfl, by decide +kernel, rfl, by decide +kernel, by decide +kernel⟩
abbrev s_law : Stmt := topS 35
abbrev N_law : List Str := ["script", "k", "cell", "source", "style"]
theorem sc_law : FnScope N_law ["script"] (defScope s_law) := ⟨rfl, rfl, rfl, by decide +kernel, rfl, by decide +kernel, by decide +kernel⟩
abbrev s_Record_init : Stmt := inClass (topS 16) 0
abbrev N_Record_init : List Str := ["self", "integers", "past", "presents"]
theorem sc_Record_init : FnScope N_Record_init ["self", "integers", "past", "presents"] (defScope s_Record_init) := ⟨rfl, rfl, rfl, by decide +kernel, rfl, by decide +kernel, by decide +kernel⟩
abbrev s_Record_twin : Stmt := inClass (topS 16) 1
abbrev N_Record_twin : List Str := ["self"]
theorem sc_Record_twin : FnScope N_Record_twin ["self"] (defScope s_Record_twin) := ⟨rfl, rfl, rfl, by decide +kernel, rfl, by decide +kernel, by decide +kernel⟩
abbrev s_Record_integer_now : Stmt := inClass (topS 16) 2
abbrev N_Record_integer_now : List Str := ["self"]
theorem sc_Record_integer_now : FnScope N_Record_integer_now ["self"] (defScope s_Record_integer_now) := ⟨rfl, rfl, rfl, by decide +kernel, rfl, by decide +kernel, by decide +kernel⟩
abbrev s_Record_found_by : Stmt := inClass (topS 16) 3
abbrev N_Record_found_by : List Str := ["self", "number"]
theorem sc_Record_found_by : FnScope N_Record_found_by ["self", "number"] (defScope s_Record_found_by) := ⟨rfl, rfl, rfl, by decide +kernel, rfl, by decide +kernel, by decide +kernel⟩
abbrev s_Record_is_running : Stmt := inClass (topS 16) 4
abbrev N_Record_is_running : List Str := ["self", "number"]
theorem sc_Record_is_running : FnScope N_Record_is_running ["self", "number"] (defScope s_Record_is_running) := ⟨rfl, rfl, rfl, by decide +kernel, rfl, by decide +kernel, by decide +kernel⟩
abbrev s_Record_go_on_by : Stmt := inClass (topS 16) 5
abbrev N_Record_go_on_by : List Str := ["self", "event", "present"]
theorem sc_Record_go_on_by : FnScope N_Record_go_on_by ["self", "event", "present"] (defScope s_Record_go_on_by) := ⟨rfl, rfl, rfl, by decide +kernel, rfl, by decide +kernel, by decide +kernel⟩
abbrev s_Record_go_back : Stmt := inClass (topS 16) 6
abbrev N_Record_go_back : List Str := ["self"]
theorem sc_Record_go_back : FnScope N_Record_go_back ["self"] (defScope s_Record_go_back) := ⟨rfl, rfl, rfl, by decide +kernel, rfl, by decide +kernel, by decide +kernel⟩
abbrev s_Patch_init : Stmt := inClass (topS 17) 0
abbrev N_Patch_init : List Str := ["self", "record", "number"]
theorem sc_Patch_init : FnScope N_Patch_init ["self", "record", "number"] (defScope s_Patch_init) := ⟨rfl, rfl, rfl, by decide +kernel, rfl, by decide +kernel, by decide +kernel⟩
abbrev s_Patch_number : Stmt := inClass (topS 17) 1
abbrev N_Patch_number : List Str := ["self"]
theorem sc_Patch_number : FnScope N_Patch_number ["self"] (defScope s_Patch_number) := ⟨rfl, rfl, rfl, by decide +kernel, rfl, by decide +kernel, by decide +kernel⟩
abbrev s_Patch_integer : Stmt := inClass (topS 17) 2
abbrev N_Patch_integer : List Str := ["self"]
theorem sc_Patch_integer : FnScope N_Patch_integer ["self"] (defScope s_Patch_integer) := ⟨rfl, rfl, rfl, by decide +kernel, rfl, by decide +kernel, by decide +kernel⟩
abbrev s_Patch_saved : Stmt := inClass (topS 17) 3
abbrev N_Patch_saved : List Str := ["self"]
theorem sc_Patch_saved : FnScope N_Patch_saved ["self"] (defScope s_Patch_saved) := ⟨rfl, rfl, rfl, by decide +kernel, rfl, by decide +kernel, by decide +kernel⟩
abbrev s_Patch_runs : Stmt := inClass (topS 17) 4
abbrev N_Patch_runs : List Str := ["self"]
theorem sc_Patch_runs : FnScope N_Patch_runs ["self"] (defScope s_Patch_runs) := ⟨rfl, rfl, rfl, by decide +kernel, rfl, by decide +kernel, by decide +kernel⟩
abbrev s_Patch_start : Stmt := inClass (topS 17) 5
abbrev N_Patch_start : List Str := ["self"]
theorem sc_Patch_start : FnScope N_Patch_start ["self"] (defScope s_Patch_start) := ⟨rfl, rfl, rfl, by decide +kernel, rfl, by decide +kernel, by decide +kernel⟩
abbrev s_Patch_stop : Stmt := inClass (topS 17) 6
abbrev N_Patch_stop : List Str := ["self"]
theorem sc_Patch_stop : FnScope N_Patch_stop ["self"] (defScope s_Patch_stop) := ⟨rfl, rfl, rfl, by decide +kernel, rfl, by decide +kernel, by decide +kernel⟩
abbrev s_Patch_left_by_stop : Stmt := inClass (topS 17) 7
abbrev N_Patch_left_by_stop : List Str := ["self", "record"]
theorem sc_Patch_left_by_stop : FnScope N_Patch_left_by_stop ["self", "record"] (defScope s_Patch_left_by_stop) := ⟨rfl, rfl, rfl, by decide +kernel, rfl, by decide +kernel, by decide +kernel⟩
abbrev s_Patch_described : Stmt := inClass (topS 17) 8
abbrev N_Patch_described : List Str := ["self"]
theorem sc_Patch_described : FnScope N_Patch_described ["self"] (defScope s_Patch_described) := ⟨rfl, rfl, rfl, by decide +kernel, rfl, by decide +kernel, by decide +kernel⟩
abbrev s_CarefulPatch_number : Stmt := inClass (topS 18) 0
abbrev N_CarefulPatch_number : List Str := ["self"]
theorem sc_CarefulPatch_number : FnScope N_CarefulPatch_number ["self"] (defScope s_CarefulPatch_number) := ⟨rfl, rfl, rfl, by decide +kernel, rfl, by decide +kernel, by decide +kernel⟩
abbrev s_CarefulPatch_integer : Stmt := inClass (topS 18) 1
abbrev N_CarefulPatch_integer : List Str := ["self"]
theorem sc_CarefulPatch_integer : FnScope N_CarefulPatch_integer ["self"] (defScope s_CarefulPatch_integer) := ⟨rfl, rfl, rfl, by decide +kernel, rfl, by decide +kernel, by decide +kernel⟩
abbrev s_CarefulPatch_saved : Stmt := inClass (topS 18) 2
abbrev N_CarefulPatch_saved : List Str := ["self"]
theorem sc_CarefulPatch_saved : FnScope N_CarefulPatch_saved ["self"] (defScope s_CarefulPatch_saved) := ⟨rfl, rfl, rfl, by decide +kernel, rfl, by decide +kernel, by decide +kernel⟩
abbrev s_CarefulPatch_runs : Stmt := inClass (topS 18) 3
abbrev N_CarefulPatch_runs : List Str := ["self"]
theorem sc_CarefulPatch_runs : FnScope N_CarefulPatch_runs ["self"] (defScope s_CarefulPatch_runs) := ⟨rfl, rfl, rfl, by decide +kernel, rfl, by decide +kernel, by decide +kernel⟩
abbrev s_CarefulPatch_start : Stmt := inClass (topS 18) 4
abbrev N_CarefulPatch_start : List Str := ["self", "__class__"]
theorem sc_CarefulPatch_start : NdefX.NScope N_CarefulPatch_start ["self"] ["__class__"] (defScope s_CarefulPatch_start) := NdefX.nscope_by (by decide +kernel)
abbrev s_CarefulPatch_stop : Stmt := inClass (topS 18) 5
abbrev N_CarefulPatch_stop : List Str := ["self", "__class__"]
theorem sc_CarefulPatch_stop : NdefX.NScope N_CarefulPatch_stop ["self"] ["__class__"] (defScope s_CarefulPatch_stop) := NdefX.nscope_by (by decide +kernel)
abbrev s_CarefulPatch_left_by_stop : Stmt := inClass (topS 18) 6
abbrev N_CarefulPatch_left_by_stop : List Str := ["self", "record", "__class__", "present"]
theorem sc_CarefulPatch_left_by_stop : NdefX.NScope N_CarefulPatch_left_by_stop ["self", "record"] ["__class__"] (defScope s_CarefulPatch_left_by_stop) := NdefX.nscope_by (by decide +kernel)
abbrev s_CarefulPatch_described : Stmt := inClass (topS 18) 7
abbrev N_CarefulPatch_described : List Str := ["self", "__class__"]
theorem sc_CarefulPatch_described : NdefX.NScope N_CarefulPatch_described ["self"] ["__class__"] (defScope s_CarefulPatch_described) := NdefX.nscope_by (by decide +kernel)
abbrev s_StrictPatch_number : Stmt := inClass (topS 19) 0
abbrev N_StrictPatch_number : List Str := ["self"]
theorem sc_StrictPatch_number : FnScope N_StrictPatch_number ["self"] (defScope s_StrictPatch_number) := ⟨rfl, rfl, rfl, by decide +kernel, rfl, by decide +kernel, by decide +kernel⟩
abbrev s_StrictPatch_integer : Stmt := inClass (topS 19) 1
abbrev N_StrictPatch_integer : List Str := ["self"]
theorem sc_StrictPatch_integer : FnScope N_StrictPatch_integer ["self"] (defScope s_StrictPatch_integer) := ⟨rfl, rfl, rfl, by decide +kernel, rfl, by decide +kernel, by decide +kernel⟩
abbrev s_StrictPatch_saved : Stmt := inClass (topS 19) 2
abbrev N_StrictPatch_saved : List Str := ["self"]
theorem sc_StrictPatch_saved : FnScope N_StrictPatch_saved ["self"] (defScope s_StrictPatch_saved) := ⟨rfl, rfl, rfl, by decide +kernel, rfl, by decide +kernel, by decide +kernel⟩
abbrev s_StrictPatch_runs : Stmt := inClass (topS 19) 3
abbrev N_StrictPatch_runs : List Str := ["self"]
theorem sc_StrictPatch_runs : FnScope N_StrictPatch_runs ["self"] (defScope s_StrictPatch_runs) := ⟨rfl, rfl, rfl, by decide +kernel, rfl, by decide +kernel, by decide +kernel⟩
abbrev s_StrictPatch_start : Stmt := inClass (topS 19) 4
abbrev N_StrictPatch_start : List Str := ["self", "__class__"]
theorem sc_StrictPatch_start : NdefX.NScope N_StrictPatch_start ["self"] ["__class__"] (defScope s_StrictPatch_start) := NdefX.nscope_by (by decide +kernel)
abbrev s_StrictPatch_stop : Stmt := inClass (topS 19) 5
abbrev N_StrictPatch_stop : List Str := ["self", "__class__"]
theorem sc_StrictPatch_stop : NdefX.NScope N_StrictPatch_stop ["self"] ["__class__"] (defScope s_StrictPatch_stop) := NdefX.nscope_by (by decide +kernel)
abbrev s_StrictPatch_left_by_stop : Stmt := inClass (topS 19) 6
abbrev N_StrictPatch_left_by_stop : List Str := ["self", "record", "__class__"]
theorem sc_StrictPatch_left_by_stop : NdefX.NScope N_StrictPatch_left_by_stop ["self", "record"] ["__class__"] (defScope s_StrictPatch_left_by_stop) := NdefX.nscope_by (by decide +kernel)
abbrev s_StrictPatch_described : Stmt := inClass (topS 19) 7
abbrev N_StrictPatch_described : List Str := ["self", "__class__"]
theorem sc_StrictPatch_described : NdefX.NScope N_StrictPatch_described ["self"] ["__class__"] (defScope s_StrictPatch_described) := NdefX.nscope_by (by decide +kernel)
abbrev s_Setting_init : Stmt := inClass (topS 20) 1
abbrev N_Setting_init : List Str := ["self", "original"]
theorem sc_Setting_init : FnScope N_Setting_init ["self", "original"] (defScope s_Setting_init) := ⟨rfl, rfl, rfl, by decide +kernel, rfl, by decide +kernel, by decide +kernel⟩
abbrev s_Setting_integer : Stmt := inClass (topS 20) 2
abbrev N_Setting_integer : List Str := ["self"]
theorem sc_Setting_integer : FnScope N_Setting_integer ["self"] (defScope s_Setting_integer) := ⟨rfl, rfl, rfl, by decide +kernel, rfl, by decide +kernel, by decide +kernel⟩
abbrev s_Setting_present : Stmt := inClass (topS 20) 3
abbrev N_Setting_present : List Str := ["self"]
theorem sc_Setting_present : FnScope N_Setting_present ["self"] (defScope s_Setting_present) := ⟨rfl, rfl, rfl, by decide +kernel, rfl, by decide +kernel, by decide +kernel⟩
abbrev s_Setting_events : Stmt := inClass (topS 20) 4
abbrev N_Setting_events : List Str := ["self"]
theorem sc_Setting_events : FnScope N_Setting_events ["self"] (defScope s_Setting_events) := ⟨rfl, rfl, rfl, by decide +kernel, rfl, by decide +kernel, by decide +kernel⟩
abbrev s_Setting_original : Stmt := inClass (topS 20) 5
abbrev N_Setting_original : List Str := ["self"]
theorem sc_Setting_original : FnScope N_Setting_original ["self"] (defScope s_Setting_original) := ⟨rfl, rfl, rfl, by decide +kernel, rfl, by decide +kernel, by decide +kernel⟩
abbrev s_Setting_patch : Stmt := inClass (topS 20) 6
abbrev N_Setting_patch : List Str := ["self", "number"]
theorem sc_Setting_patch : FnScope N_Setting_patch ["self", "number"] (defScope s_Setting_patch) := ⟨rfl, rfl, rfl, by decide +kernel, rfl, by decide +kernel, by decide +kernel⟩
abbrev s_Setting_careful : Stmt := inClass (topS 20) 7
abbrev N_Setting_careful : List Str := ["self", "number"]
theorem sc_Setting_careful : FnScope N_Setting_careful ["self", "number"] (defScope s_Setting_careful) := ⟨rfl, rfl, rfl, by decide +kernel, rfl, by decide +kernel, by decide +kernel⟩
abbrev s_Setting_strict : Stmt := inClass (topS 20) 8
abbrev N_Setting_strict : List Str := ["self", "number"]
theorem sc_Setting_strict : FnScope N_Setting_strict ["self", "number"] (defScope s_Setting_strict) := ⟨rfl, rfl, rfl, by decide +kernel, rfl, by decide +kernel, by decide +kernel⟩
abbrev s_Setting_undo : Stmt := inClass (topS 20) 9
abbrev N_Setting_undo : List Str := ["self"]
theorem sc_Setting_undo : FnScope N_Setting_undo ["self"] (defScope s_Setting_undo) := ⟨rfl, rfl, rfl, by decide +kernel, rfl, by decide +kernel, by decide +kernel⟩
abbrev s_Setting_tried : Stmt := inClass (topS 20) 10
abbrev N_Setting_tried : List Str := ["self"]
theorem sc_Setting_tried : FnScope N_Setting_tried ["self"] (defScope s_Setting_tried) := ⟨rfl, rfl, rfl, by decide +kernel, rfl, by decide +kernel, by decide +kernel⟩
abbrev s_Setting_len : Stmt := inClass (topS 20) 11
abbrev N_Setting_len : List Str := ["self"]
theorem sc_Setting_len : FnScope N_Setting_len ["self"] (defScope s_Setting_len) := ⟨rfl, rfl, rfl, by decide +kernel, rfl, by decide +kernel, by decide +kernel⟩
abbrev s_Setting_enlist : Stmt := inClass (topS 20) 12
abbrev N_Setting_enlist : List Str := ["self", "integer"]
theorem sc_Setting_enlist : FnScope N_Setting_enlist ["self", "integer"] (defScope s_Setting_enlist) := ⟨rfl, rfl, rfl, by decide +kernel, rfl, by decide +kernel, by decide +kernel⟩
abbrev s_Setting_keep : Stmt := inClass (topS 20) 13
abbrev N_Setting_keep : List Str := ["self", "patch"]
theorem sc_Setting_keep : FnScope N_Setting_keep ["self", "patch"] (defScope s_Setting_keep) := ⟨rfl, rfl, rfl, by decide +kernel, rfl, by decide +kernel, by decide +kernel⟩
abbrev s_Setting_check_next : Stmt := inClass (topS 20) 14
abbrev N_Setting_check_next : List Str := ["self", "record", "event"]
theorem sc_Setting_check_next : FnScope N_Setting_check_next ["self", "record", "event"] (defScope s_Setting_check_next) := ⟨rfl, rfl, rfl, by decide +kernel, rfl, by decide +kernel, by decide +kernel⟩
end L34
set_option Elab.async false
set_option linter.all false
set_option maxRecDepth 100000
namespace L34
open PySem PySem.Spec PyProof.Rows L2 Lp
theorem idx_first {l : List Int} {x : Int} (h : x ∈ l) : l[l.idxOf x]? = some x ∧ ∀ m, m < l.idxOf x → l[m]? ≠ some x := by
  induction l with
  | nil => exact absurd h List.not_mem_nil
  | cons y l ih =>
    by_cases e : y = x
    · subst e
      rw [List.idxOf_cons, beq_self_eq_true]
      exact ⟨rfl, fun m hm => absurd hm (Nat.not_lt_zero _)⟩
    · have b : (y == x) = false := by simpa using e
      rw [List.idxOf_cons, b]
      have hx : x ∈ l := (List.mem_cons.mp h).resolve_left fun z => e z.symm
      obtain ⟨i1, i2⟩ := ih hx
      refine ⟨i1, fun m hm => ?_⟩
      cases m with
      | zero => exact fun z => e (Option.some.inj z)
      | succ m => exact i2 m (Nat.lt_of_succ_lt_succ hm)
theorem erase_ix {l : List Int} {x : Int} (h : x ∈ l) : l.eraseIdx (l.idxOf x) = l.erase x := by
  induction l with
  | nil => exact absurd h List.not_mem_nil
  | cons y l ih =>
    by_cases e : y = x
    · subst e
      rw [List.idxOf_cons, beq_self_eq_true, List.erase_cons_head]
      rfl
    · have b : (y == x) = false := by simpa using e
      have hx : x ∈ l := (List.mem_cons.mp h).resolve_left fun z => e z.symm
      rw [List.idxOf_cons, b, List.erase_cons_tail (by simpa using e)]
      show y :: l.eraseIdx (l.idxOf x) = _
      rw [ih hx]
/-! ### live settings: what the text says of the classes; records -/
abbrev fR (ai ap aq : Addr) : List (Str × V) := [("integers", .ref ai), ("past", .ref ap), ("presents", .ref aq)]
abbrev fP (r : Addr) (n : Int) : List (Str × V) := [("_record", .ref r), ("_number", .int n)]
abbrev fG (r al : Addr) : List (Str × V) := [("_record", .ref r), ("_patches", .ref al)]
theorem ne_ip : ¬ ("integers" : Str) = "past" := by decide +kernel
theorem ne_iq : ¬ ("integers" : Str) = "presents" := by decide +kernel
theorem ne_pq : ¬ ("past" : Str) = "presents" := by decide +kernel
theorem ne_rn : ¬ ("_record" : Str) = "_number" := by decide +kernel
theorem ne_rl : ¬ ("_record" : Str) = "_patches" := by decide +kernel
theorem fR_new (ai ap aq : Addr) : putF "presents" (.ref aq) (putF "past" (.ref ap) (putF "integers" (.ref ai) [])) = fR ai ap aq := by
  show putF "presents" (.ref aq) (if ("integers" : Str) = "past" then _ else (("integers" : Str), V.ref ai) :: putF "past" (.ref ap) []) = _
  rw [if_neg ne_ip]
  show (if ("integers" : Str) = "presents" then _ else (("integers" : Str), V.ref ai) :: (if ("past" : Str) = "presents" then _ else (("past" : Str), V.ref ap) :: putF "presents" (.ref aq) [])) = _
  rw [if_neg ne_iq, if_neg ne_pq]
  rfl
theorem fR_two (ai ap : Addr) : putF "past" (.ref ap) (putF "integers" (.ref ai) []) = [(("integers" : Str), V.ref ai), (("past" : Str), V.ref ap)] := by
  show (if ("integers" : Str) = "past" then _ else (("integers" : Str), V.ref ai) :: putF "past" (.ref ap) []) = _
  rw [if_neg ne_ip]
  rfl
theorem fP_new (r : Addr) (n : Int) : putF "_number" (.int n) (putF "_record" (.ref r) []) = fP r n := by
  show (if ("_record" : Str) = "_number" then _ else (("_record" : Str), V.ref r) :: putF "_number" (.int n) []) = _
  rw [if_neg ne_rn]
  rfl
theorem fG_new (r al : Addr) : putF "_patches" (.ref al) (putF "_record" (.ref r) []) = fG r al := by
  show (if ("_record" : Str) = "_patches" then _ else (("_record" : Str), V.ref r) :: putF "_patches" (.ref al) []) = _
  rw [if_neg ne_rl]
  rfl
structure TxtL (K : PySem.W.Frag) (CR CP CC CS CG : Addr) : Prop where
  cR : Cls K CR
  cP : Cls K CP
  cC : Cls K CC
  cS : Cls K CS
  cG : Cls K CG
  nR1 : NoAttr K CR "integers"
  nR2 : NoAttr K CR "past"
  nR3 : NoAttr K CR "presents"
  nP1 : NoAttr K CP "_record"
  nP2 : NoAttr K CP "_number"
  nC1 : NoAttr K CC "_record"
  nC2 : NoAttr K CC "_number"
  nS1 : NoAttr K CS "_record"
  nS2 : NoAttr K CS "_number"
  nG1 : NoAttr K CG "_record"
  nG2 : NoAttr K CG "_patches"
/-- the classes of patches -/
def Any3 (CP CC CS : Addr) : Addr → Prop := fun C => C = CP ∨ C = CC ∨ C = CS
section
variable {K : PySem.W.Frag} {CR CP CC CS CG C : Addr}
theorem TxtL.c (T : TxtL K CR CP CC CS CG) (h : Any3 CP CC CS C) : Cls K C := by
  rcases h with rfl | rfl | rfl
  · exact T.cP
  · exact T.cC
  · exact T.cS
theorem TxtL.n1 (T : TxtL K CR CP CC CS CG) (h : Any3 CP CC CS C) : NoAttr K C "_record" := by
  rcases h with rfl | rfl | rfl
  · exact T.nP1
  · exact T.nC1
  · exact T.nS1
theorem TxtL.n2 (T : TxtL K CR CP CC CS CG) (h : Any3 CP CC CS C) : NoAttr K C "_number" := by
  rcases h with rfl | rfl | rfl
  · exact T.nP2
  · exact T.nC2
  · exact T.nS2
end
/-- an error's class, as the text has it -/
structure Er (K : PySem.W.Frag) (mg : Str → Option Value) (x : Str) (C : Addr) : Prop where
  c : mg x = some (.ref C)
  x : PySem.W.excIn K C [.type "ValueError", .type "Exception", .type "BaseException", .type "object"] "ValueError.__new__" = true
  k : PySem.W.keepIn K (.ref C) = true
  b : PySem.W.subIn K (.ref C) (.type "BaseException") = some true
  t : PySem.W.typeIn K (.ref C) = some (.type "type")
/-! ### the integers, the events, the values present -/
def lastI (S : List Int) : Int := S.getLast?.getD 0
def vI (I : List Int) (c : Int) : Int := (I[c.toNat]?).getD 0
def fbI (P S : List Int) (n : Int) : Int := (S[P.idxOf n]?).getD 0
def fbV (P S : List Int) (n : Int) : V := if n ∈ P then .int (fbI P S n) else .non
structure Wf (I P S : List Int) : Prop where
  len : S.length = P.length + 1
  rng : ∀ c ∈ S, 0 ≤ c ∧ c < (I.length : Int)
  p : P.length ≤ 1000
  i : I.length ≤ 1000
theorem atI_vI {I : List Int} {c : Int} (h : 0 ≤ c ∧ c < (I.length : Int)) : atI (I.map V.int) c = some (.int (vI I c)) := by
  obtain ⟨j, rfl⟩ : ∃ j : Nat, c = (j : Int) := ⟨c.toNat, by omega⟩
  have hj : j < I.length := by omega
  refine atI_nat ?_
  have e : vI I (j : Int) = I[j] := by
    show (I[(j : Int).toNat]?).getD 0 = _
    rw [Int.toNat_natCast, List.getElem?_eq_getElem hj]
    rfl
  rw [e, List.getElem?_map, List.getElem?_eq_getElem hj]
  rfl
theorem last_snoc {S : List Int} (h : S ≠ []) : S = S.dropLast ++ [lastI S] := by
  have e := (List.dropLast_concat_getLast h).symm
  have e2 : lastI S = S.getLast h := by
    show (S.getLast?).getD 0 = _
    rw [List.getLast?_eq_some_getLast h]
    rfl
  rw [e2]
  exact e
theorem atI_lastI {S : List Int} (h : S ≠ []) : atI (S.map V.int) (-1) = some (.int (lastI S)) := by
  have e : S.map V.int = S.dropLast.map V.int ++ [V.int (lastI S)] := by
    rw [show [V.int (lastI S)] = [lastI S].map V.int from rfl, ← List.map_append, ← last_snoc h]
  rw [e]
  exact at_last
theorem lastI_snoc (S : List Int) (c : Int) : lastI (S ++ [c]) = c := by
  show ((S ++ [c]).getLast?).getD 0 = _
  rw [List.getLast?_append]
  rfl
theorem Wf.ne {I P S : List Int} (w : Wf I P S) : S ≠ [] := fun z => by
  have := w.len
  rw [z] at this
  exact absurd this (Nat.succ_ne_zero _).symm
theorem Wf.last {I P S : List Int} (w : Wf I P S) : 0 ≤ lastI S ∧ lastI S < (I.length : Int) := w.rng _ (by
  have e := last_snoc w.ne
  rw [e, lastI_snoc]
  simp)
theorem Wf.at {I P S : List Int} {n : Int} (w : Wf I P S) (h : n ∈ P) : S[P.idxOf n]? = some (fbI P S n) := by
  have hl : P.idxOf n < S.length := by
    have := List.idxOf_lt_length_iff.mpr h
    have := w.len
    omega
  show _ = some ((S[P.idxOf n]?).getD 0)
  rw [List.getElem?_eq_getElem hl]
  rfl
theorem Wf.fb {I P S : List Int} {n : Int} (w : Wf I P S) (h : n ∈ P) : 0 ≤ fbI P S n ∧ fbI P S n < (I.length : Int) := w.rng _ (List.mem_of_getElem? (w.at h))
/-- a record in the heap -/
structure Rec (CR : Addr) (H : Hp) (r ai ap aq : Addr) (I P S : List Int) : Prop where
  r : ∃ dr, H r = some (.ins CR dr (fR ai ap aq))
  i : H ai = some (.lst (I.map .int))
  p : H ap = some (.lst (P.map .int))
  q : H aq = some (.lst (S.map .int))
  ip : ai ≠ ap
  iq : ai ≠ aq
  pq : ap ≠ aq
theorem Rec.same {CR : Addr} {H H' : Hp} {r ai ap aq : Addr} {I P S : List Int} (h : Rec CR H r ai ap aq I P S) (s : Same H H') : Rec CR H' r ai ap aq I P S := by
  obtain ⟨⟨dr, e⟩, b, c, d, x, y, z⟩ := h
  exact ⟨⟨dr, s _ _ e⟩, s _ _ b, s _ _ c, s _ _ d, x, y, z⟩
theorem lk1 (ai ap aq : Addr) : (fR ai ap aq).lookup ("integers" : Str) = some (.ref ai) := by rfl
theorem lk2 (ai ap aq : Addr) : (fR ai ap aq).lookup ("past" : Str) = some (.ref ap) := by rfl
theorem lk3 (ai ap aq : Addr) : (fR ai ap aq).lookup ("presents" : Str) = some (.ref aq) := by rfl
theorem lp1 (r : Addr) (n : Int) : (fP r n).lookup ("_record" : Str) = some (.ref r) := by rfl
theorem lp2 (r : Addr) (n : Int) : (fP r n).lookup ("_number" : Str) = some (.int n) := by rfl
theorem lg1 (r al : Addr) : (fG r al).lookup ("_record" : Str) = some (.ref r) := by rfl
theorem lg2 (r al : Addr) : (fG r al).lookup ("_patches" : Str) = some (.ref al) := by rfl
theorem lk_none {l : List (Str × V)} {m : Str} (h : (l.all fun p => !(m == p.1)) = true) : l.lookup m = none := by
  induction l with
  | nil => rfl
  | cons p l ih =>
    obtain ⟨a, v⟩ := p
    rw [List.all_cons, Bool.and_eq_true] at h
    have h1 : (m == a) = false := by simpa using h.1
    show (match m == a with | true => some v | false => List.lookup m l) = none
    rw [h1]
    exact ih h.2
theorem lkR {m : Str} (ai ap aq : Addr) (h : ((["integers", "past", "presents"] : List Str).all fun p => !(m == p)) = true) : (fR ai ap aq).lookup m = none := lk_none h
theorem lkP {m : Str} (r : Addr) (n : Int) (h : ((["_record", "_number"] : List Str).all fun p => !(m == p)) = true) : (fP r n).lookup m = none := lk_none h
theorem lkG {m : Str} (r al : Addr) (h : ((["_record", "_patches"] : List Str).all fun p => !(m == p)) = true) : (fG r al).lookup m = none := lk_none h
section
variable {P : Program} {w : World} {K : PySem.W.Frag} {mg : Str → Option Value} {base : Heap} {CR CP CC CS CG : Addr}
def spRInit (K : PySem.W.Frag) (CR : Addr) : Sp := fun vs H Q _ => ∃ (r dr a b c : Addr) (I P S : List Int), vs = [.ref r, .ref a, .ref b, .ref c] ∧ H r = some (.ins CR dr []) ∧ H a = some (.lst (I.map .int)) ∧ H b = some (.lst (P.map .int)) ∧ H c = some (.lst (S.map .int)) ∧
  I.length ≤ 1000 ∧ P.length ≤ 1000 ∧ S.length ≤ 2000 ∧ ∀ ai ap aq H', Rec CR H' r ai ap aq I P S → Bt r H H' → H ai = none → H ap = none → H aq = none → Q .non H'
theorem ok_Record_init {f : Addr} {fd : FuncData} (F : Fun K "__init__" "Record.__init__" s_Record_init f fd) (B : NoB mg) (T : TxtL K CR CP CC CS CG) : FnOk P w K mg base CX0 1 f fd ["self", "integers", "past", "presents"] (spRInit K CR) := by
  refine F.ok sc_Record_init (fun vs H Q E h => ?_) (fun cdv A outer s H vs Q E hr h => ?_)
  · obtain ⟨r, dr, a, b, c, I, P, S, rfl, _⟩ := h
    rfl
  · obtain ⟨r, dr, a, b, c, I, P, S, rfl, hR, ha, hb, hc, l1, l2, l3, q⟩ := h
    refine ⟨_, (pss_cons (ps_fld (pv 0) (pe_callTy call_list_of (by rfl) B.list (by decide +kernel) (pa_cons (pv 1) pa_nil)) rfl)
        (pss_cons (ps_fld (pv 0) (pe_callTy call_list_of (by rfl) B.list (by decide +kernel) (pa_cons (pv 2) pa_nil)) rfl)
        (pss_one (ps_fld (pv 0) (pe_callTy call_list_of (by rfl) B.list (by decide +kernel) (pa_cons (pv 3) pa_nil)) rfl)))), ?_⟩
    refine ⟨_, rfl, a, _, rfl, .inl (.of ha), fun ai n1 => ?_⟩
    have s1 := same_new (o := .lst (I.map V.int)) n1
    have e1 : (upd H ai (.lst (I.map V.int))) ai = some (.lst (I.map V.int)) := upd_same
    have r1 := s1 _ _ hR
    have b1 := s1 _ _ hb
    have c1 := s1 _ _ hc
    have n1r : ai ≠ r := fun z => by rw [z, hR] at n1; cases n1
    have B1 : Bt r H (upd H ai (.lst (I.map V.int))) := .of s1
    generalize upd H ai (.lst (I.map V.int)) = H1 at e1 r1 b1 c1 B1 s1 ⊢
    refine ⟨_, rfl, r, CR, dr, _, rfl, r1, T.cR, T.nR1, (by show 0 < 1000; decide), ?_⟩
    have ne_b : b ≠ r := fun z => by rw [z, r1] at b1; cases b1
    have ne_c : c ≠ r := fun z => by rw [z, r1] at c1; cases c1
    have B2 := B1.trans (.at_ r H1 (.ins CR dr (putF "integers" (.ref ai) [])))
    have r2 : (upd H1 r (.ins CR dr (putF "integers" (.ref ai) []))) r = some (.ins CR dr (putF "integers" (.ref ai) [])) := upd_same
    have e2 : (upd H1 r (.ins CR dr (putF "integers" (.ref ai) []))) ai = some (.lst (I.map V.int)) := by rw [upd_ne n1r]; exact e1
    have b2 : (upd H1 r (.ins CR dr (putF "integers" (.ref ai) []))) b = some (.lst (P.map V.int)) := by rw [upd_ne ne_b]; exact b1
    have c2 : (upd H1 r (.ins CR dr (putF "integers" (.ref ai) []))) c = some (.lst (S.map V.int)) := by rw [upd_ne ne_c]; exact c1
    generalize upd H1 r (.ins CR dr (putF "integers" (.ref ai) [])) = H2 at B2 r2 e2 b2 c2 ⊢
    refine ⟨_, rfl, b, _, rfl, .inl (.of b2), fun ap n2 => ?_⟩
    have s3 := same_new (o := .lst (P.map V.int)) n2
    have p3 : (upd H2 ap (.lst (P.map V.int))) ap = some (.lst (P.map V.int)) := upd_same
    have r3 := s3 _ _ r2
    have e3 := s3 _ _ e2
    have c3 := s3 _ _ c2
    have n2r : ap ≠ r := fun z => by rw [z, r2] at n2; cases n2
    have n2i : ai ≠ ap := fun z => by rw [← z, e2] at n2; cases n2
    have n2H : H ap = none := by
      cases z : H ap with
      | none => rfl
      | some o => rw [B2 _ _ n2r z] at n2; cases n2
    have B3 := B2.trans (.of s3)
    generalize upd H2 ap (.lst (P.map V.int)) = H3 at p3 r3 e3 c3 B3 ⊢
    refine ⟨_, rfl, r, CR, dr, _, rfl, r3, T.cR, T.nR2, (by show 1 < 1000; decide), ?_⟩
    have B4 := B3.trans (.at_ r H3 (.ins CR dr (putF "past" (.ref ap) (putF "integers" (.ref ai) []))))
    have r4 : (upd H3 r (.ins CR dr (putF "past" (.ref ap) (putF "integers" (.ref ai) [])))) r = some (.ins CR dr (putF "past" (.ref ap) (putF "integers" (.ref ai) []))) := upd_same
    have e4 : (upd H3 r (.ins CR dr (putF "past" (.ref ap) (putF "integers" (.ref ai) [])))) ai = some (.lst (I.map V.int)) := by rw [upd_ne n1r]; exact e3
    have p4 : (upd H3 r (.ins CR dr (putF "past" (.ref ap) (putF "integers" (.ref ai) [])))) ap = some (.lst (P.map V.int)) := by rw [upd_ne n2r]; exact p3
    have c4 : (upd H3 r (.ins CR dr (putF "past" (.ref ap) (putF "integers" (.ref ai) [])))) c = some (.lst (S.map V.int)) := by rw [upd_ne ne_c]; exact c3
    generalize upd H3 r (.ins CR dr (putF "past" (.ref ap) (putF "integers" (.ref ai) []))) = H4 at B4 r4 e4 p4 c4 ⊢
    refine ⟨_, rfl, c, _, rfl, .inl (.of c4), fun aq n3 => ?_⟩
    have s5 := same_new (o := .lst (S.map V.int)) n3
    have q5 : (upd H4 aq (.lst (S.map V.int))) aq = some (.lst (S.map V.int)) := upd_same
    have r5 := s5 _ _ r4
    have e5 := s5 _ _ e4
    have p5 := s5 _ _ p4
    have n3r : aq ≠ r := fun z => by rw [z, r4] at n3; cases n3
    have n3i : ai ≠ aq := fun z => by rw [← z, e4] at n3; cases n3
    have n3p : ap ≠ aq := fun z => by rw [← z, p4] at n3; cases n3
    have n3H : H aq = none := by
      cases z : H aq with
      | none => rfl
      | some o => rw [B4 _ _ n3r z] at n3; cases n3
    have B5 := B4.trans (.of s5)
    generalize upd H4 aq (.lst (S.map V.int)) = H5 at q5 r5 e5 p5 B5 ⊢
    refine ⟨_, rfl, r, CR, dr, _, rfl, r5, T.cR, T.nR3, (by rw [fR_two]; show 2 < 1000; decide), ?_⟩
    rw [fR_new]
    exact q ai ap aq _ ⟨⟨dr, upd_same⟩, by rw [upd_ne n1r]; exact e5, by rw [upd_ne n2r]; exact p5, by rw [upd_ne n3r]; exact q5, n2i, n3i, n3p⟩ (B5.trans (.at_ _ _ _)) n1 n2H n3H
def spNow (CR : Addr) : Sp := fun vs H Q _ => ∃ (r ai ap aq : Addr) (I P S : List Int), vs = [.ref r] ∧ Rec CR H r ai ap aq I P S ∧ Wf I P S ∧ Q (.int (vI I (lastI S))) H
theorem ok_Record_integer_now {f : Addr} {fd : FuncData} (F : Fun K "integer_now" "Record.integer_now" s_Record_integer_now f fd) (T : TxtL K CR CP CC CS CG) : FnOk P w K mg base (L2N.CX P w) 1 f fd ["self"] (spNow CR) := by
  refine F.okN sc_Record_integer_now (fun vs H Q E h => ?_) (fun cdv A outer s H vs Q E hr h => ?_)
  · obtain ⟨r, ai, ap, aq, I, P, S, rfl, _⟩ := h
    rfl
  · obtain ⟨r, ai, ap, aq, I, P, S, rfl, ⟨⟨dr, hR⟩, hi, hp, hq, _⟩, W, q⟩ := h
    refine ⟨_, (pss_one (ps_ret (pe_ix ix_list (pe_fld (pv 0) rfl) (pe_ix ix_list (pe_fld (pv 0) rfl) (pe_un un_neg pe_int) (fun _ _ => rfl)) (fun _ _ => rfl)))), ?_⟩
    refine ⟨_, rfl, r, CR, dr, _, _, rfl, hR, T.cR, T.nR1, lk1 _ _ _, _, rfl, r, CR, dr, _, _, rfl, hR, T.cR, T.nR3, lk3 _ _ _, _, rfl, aq, _, _, _, rfl, rfl, .of hq, atI_lastI W.ne, ?_⟩
    exact ⟨ai, _, _, _, rfl, rfl, .of hi, atI_vI W.last, q⟩
def spFound (CR : Addr) : Sp := fun vs H Q _ => ∃ (r ai ap aq : Addr) (I P S : List Int) (n : Int), vs = [.ref r, .int n] ∧ Rec CR H r ai ap aq I P S ∧ Wf I P S ∧ Q (fbV P S n) H
theorem ok_Record_found_by {f : Addr} {fd : FuncData} (F : Fun K "found_by" "Record.found_by" s_Record_found_by f fd) (T : TxtL K CR CP CC CS CG) : FnOk P w K mg base (L2N.CX P w) 1 f fd ["self", "number"] (spFound CR) := by
  refine F.okN sc_Record_found_by (fun vs H Q E h => ?_) (fun cdv A outer s H vs Q E hr h => ?_)
  · obtain ⟨r, ai, ap, aq, I, P, S, n, rfl, _⟩ := h
    rfl
  · obtain ⟨r, ai, ap, aq, I, P, S, n, rfl, ⟨⟨dr, hR⟩, hi, hp, hq, _⟩, W, q⟩ := h
    refine ⟨_, (pss_one (ps_ret (pe_ifExp (pt_cmpR op_in_seq (pv 1) (pe_fld (pv 0) rfl) (by rfl)) (pe_ix ix_list (pe_fld (pv 0) rfl) (pe_bm PySem.F.plainAttrs_list PySem.F.slot_list_index PySem.F.type_list_index mt_index (pe_fld (pv 0) rfl) (pa_cons (pv 1) pa_nil)) (fun _ _ => rfl)) pe_non))), ?_⟩
    refine ⟨_, rfl, _, rfl, r, CR, dr, _, _, rfl, hR, T.cR, T.nR2, lk2 _ _ _, ap, _, rfl, .inl (.of hp), rfl, flatI _, ?_⟩
    show ∃ b, V.bl (inV (.int n) (P.map V.int)) = V.bl b ∧ _
    refine ⟨decide (n ∈ P), by rw [inVI], ?_⟩
    unfold fbV at q
    by_cases hn : n ∈ P
    · rw [decide_eq_true hn]
      rw [if_pos hn] at q
      obtain ⟨i1, i2⟩ := idx_first hn
      refine iteT ⟨_, rfl, r, CR, dr, _, _, rfl, hR, T.cR, T.nR3, lk3 _ _ _, _, rfl, r, CR, dr, _, _, rfl, hR, T.cR, T.nR2, lk2 _ _ _, .inl ⟨rfl, _, .of hp⟩, _, rfl, ap, _, .int n, P.idxOf n, .int n, rfl, rfl, .of hp, rfl, flatI _, by rw [List.getElem?_map, i1]; rfl, beq_self_eq_true n, fun m z hm hz => ?_, ?_⟩
      · obtain ⟨x, rfl, hx⟩ := get_int hz
        show (x == n) = false
        have : x ≠ n := fun e => i2 m hm (e ▸ hx)
        simpa using this
      · exact ⟨aq, _, _, _, rfl, rfl, .of hq, atI_nat (by rw [List.getElem?_map, W.at hn]; rfl), q⟩
    · rw [decide_eq_false hn]
      rw [if_neg hn] at q
      exact iteF q
def spIsRun (CR : Addr) : Sp := fun vs H Q _ => ∃ (r ai ap aq : Addr) (I P S : List Int) (n : Int), vs = [.ref r, .int n] ∧ Rec CR H r ai ap aq I P S ∧ Q (.bl (decide (n ∈ P ∧ -n ∉ P))) H
theorem ok_Record_is_running {f : Addr} {fd : FuncData} (F : Fun K "is_running" "Record.is_running" s_Record_is_running f fd) (T : TxtL K CR CP CC CS CG) : FnOk P w K mg base (L2N.CX P w) 1 f fd ["self", "number"] (spIsRun CR) := by
  refine F.okN sc_Record_is_running (fun vs H Q E h => ?_) (fun cdv A outer s H vs Q E hr h => ?_)
  · obtain ⟨r, ai, ap, aq, I, P, S, n, rfl, _⟩ := h
    rfl
  · obtain ⟨r, ai, ap, aq, I, P, S, n, rfl, ⟨⟨dr, hR⟩, hi, hp, hq, _⟩, q⟩ := h
    refine ⟨_, (pss_one (ps_ret (pe_and (pe_cmpR op_in_seq (pv 1) (pe_fld (pv 0) rfl) (by rfl)) (pe_one (pe_cmpR op_notIn_seq (pe_un un_neg (pv 1)) (pe_fld (pv 0) rfl) (by rfl)))))), ?_⟩
    refine ⟨_, rfl, _, rfl, r, CR, dr, _, _, rfl, hR, T.cR, T.nR2, lk2 _ _ _, ap, _, rfl, .inl (.of hp), rfl, flatI _, decide (n ∈ P), by show V.bl (inV (.int n) (P.map V.int)) = _; rw [inVI], ?_⟩
    by_cases hn : n ∈ P
    · rw [decide_eq_true hn]
      refine iteT ⟨_, rfl, _, rfl, _, rfl, r, CR, dr, _, _, rfl, hR, T.cR, T.nR2, lk2 _ _ _, ap, _, rfl, .inl (.of hp), rfl, flatI _, ?_⟩
      show Q (.bl (!inV (.int (-n)) (P.map V.int))) H
      rw [inVI]
      have e : (!decide (-n ∈ P)) = decide (n ∈ P ∧ -n ∉ P) := by
        by_cases h : -n ∈ P
        · rw [decide_eq_true h, decide_eq_false (fun z => z.2 h)]
          rfl
        · rw [decide_eq_false h, decide_eq_true ⟨hn, h⟩]
          rfl
      rw [e]
      exact q
    · rw [decide_eq_false hn]
      have e : decide (n ∈ P ∧ -n ∉ P) = false := decide_eq_false fun z => hn z.1
      rw [e] at q
      exact iteF q
def spGoOn (CR : Addr) : Sp := fun vs H Q _ => ∃ (r ai ap aq : Addr) (I P S : List Int) (e c : Int), vs = [.ref r, .int e, .int c] ∧ Rec CR H r ai ap aq I P S ∧ P.length ≤ 1000 ∧ S.length ≤ 2000 ∧ Q .non (upd (upd H ap (.lst ((P ++ [e]).map .int))) aq (.lst ((S ++ [c]).map .int)))
theorem snocI (P : List Int) (e : Int) : P.map V.int ++ [V.int e] = (P ++ [e]).map V.int := by rw [List.map_append]; rfl
theorem ok_Record_go_on_by {f : Addr} {fd : FuncData} (F : Fun K "go_on_by" "Record.go_on_by" s_Record_go_on_by f fd) (T : TxtL K CR CP CC CS CG) : FnOk P w K mg base (L2N.CX P w) 1 f fd ["self", "event", "present"] (spGoOn CR) := by
  refine F.okN sc_Record_go_on_by (fun vs H Q E h => ?_) (fun cdv A outer s H vs Q E hr h => ?_)
  · obtain ⟨r, ai, ap, aq, I, P, S, e, c, rfl, _⟩ := h
    rfl
  · obtain ⟨r, ai, ap, aq, I, P, S, e, c, rfl, ⟨⟨dr, hR⟩, hi, hp, hq, ip, iq, pq⟩, l1, l2, q⟩ := h
    refine ⟨_, (pss_cons (ps_expr (pe_bm PySem.F.plainAttrs_list PySem.F.slot_list_append PySem.F.type_list_append mt_append (pe_fld (pv 0) rfl) (pa_cons (pv 1) pa_nil)))
        (pss_one (ps_expr (pe_bm PySem.F.plainAttrs_list PySem.F.slot_list_append PySem.F.type_list_append mt_append (pe_fld (pv 0) rfl) (pa_cons (pv 2) pa_nil))))), ?_⟩
    have nr : r ≠ ap := fun z => by rw [z, hp] at hR; cases hR
    refine ⟨_, rfl, r, CR, dr, _, _, rfl, hR, T.cR, T.nR2, lk2 _ _ _, .inl ⟨rfl, _, .of hp⟩, _, rfl, ap, _, _, rfl, rfl, hp, zl (by rw [List.length_map]; omega), ?_⟩
    rw [snocI]
    refine ⟨_, rfl, r, CR, dr, _, _, rfl, by rw [upd_ne nr]; exact hR, T.cR, T.nR3, lk3 _ _ _, .inl ⟨rfl, _, .of (by rw [upd_ne pq.symm]; exact hq)⟩, _, rfl, aq, _, _, rfl, rfl, by rw [upd_ne pq.symm]; exact hq, zl (by rw [List.length_map]; omega), ?_⟩
    rw [snocI]
    exact q
def spGoBack (CR : Addr) : Sp := fun vs H Q _ => ∃ (r ai ap aq : Addr) (I P S : List Int), vs = [.ref r] ∧ Rec CR H r ai ap aq I P S ∧ P ≠ [] ∧ S ≠ [] ∧ Q .non (upd (upd H ap (.lst (P.dropLast.map .int))) aq (.lst (S.dropLast.map .int)))
theorem pop_get {P : List Int} (h : P ≠ []) : (P.map V.int)[(P.map V.int).length - 1]? = some (.int (lastI P)) := by
  have e : P.map V.int = P.dropLast.map V.int ++ [V.int (lastI P)] := by
    rw [show [V.int (lastI P)] = [lastI P].map V.int from rfl, ← List.map_append, ← last_snoc h]
  rw [e, List.length_append, List.length_singleton, Nat.add_sub_cancel, List.getElem?_append_right (Nat.le_refl _), Nat.sub_self]
  rfl
theorem ok_Record_go_back {f : Addr} {fd : FuncData} (F : Fun K "go_back" "Record.go_back" s_Record_go_back f fd) (T : TxtL K CR CP CC CS CG) : FnOk P w K mg base (L2N.CX P w) 1 f fd ["self"] (spGoBack CR) := by
  refine F.okN sc_Record_go_back (fun vs H Q E h => ?_) (fun cdv A outer s H vs Q E hr h => ?_)
  · obtain ⟨r, ai, ap, aq, I, P, S, rfl, _⟩ := h
    rfl
  · obtain ⟨r, ai, ap, aq, I, P, S, rfl, ⟨⟨dr, hR⟩, hi, hp, hq, ip, iq, pq⟩, n1, n2, q⟩ := h
    refine ⟨_, (pss_cons (ps_expr (pe_bm0 PySem.F.plainAttrs_list PySem.F.slot_list_pop PySem.F.type_list_pop mt_pop (pe_fld (pv 0) rfl)))
        (pss_one (ps_expr (pe_bm0 PySem.F.plainAttrs_list PySem.F.slot_list_pop PySem.F.type_list_pop mt_pop (pe_fld (pv 0) rfl))))), ?_⟩
    have nr : r ≠ ap := fun z => by rw [z, hp] at hR; cases hR
    refine ⟨_, rfl, r, CR, dr, _, _, rfl, hR, T.cR, T.nR2, lk2 _ _ _, .inl ⟨rfl, _, .of hp⟩, ap, _, _, rfl, rfl, hp, pop_get n1, ?_⟩
    rw [← List.map_dropLast]
    refine ⟨_, rfl, r, CR, dr, _, _, rfl, by rw [upd_ne nr]; exact hR, T.cR, T.nR3, lk3 _ _ _, .inl ⟨rfl, _, .of (by rw [upd_ne pq.symm]; exact hq)⟩, aq, _, _, rfl, rfl, by rw [upd_ne pq.symm]; exact hq, pop_get n2, ?_⟩
    rw [← List.map_dropLast]
    exact q
end
end L34
set_option Elab.async false
set_option linter.all false
set_option maxRecDepth 100000
namespace L34
open PySem PySem.Spec PyProof.Rows L2 Lp
/-! ### patches: their properties -/
/-- the classes of patches, with the kind of each -/
def Kind3 (CP CC CS : Addr) : Addr → Nat → Prop := fun C i => (C = CP ∧ i = 0) ∨ (C = CC ∧ i = 1) ∨ (C = CS ∧ i = 2)
theorem Kind3.any {CP CC CS C : Addr} {i : Nat} (h : Kind3 CP CC CS C i) : Any3 CP CC CS C := by
  rcases h with ⟨h, _⟩ | ⟨h, _⟩ | ⟨h, _⟩
  · exact .inl h
  · exact .inr (.inl h)
  · exact .inr (.inr h)
theorem Rec.ins {CR : Addr} {H : Hp} {r ai ap aq : Addr} {I P S : List Int} (h : Rec CR H r ai ap aq I P S) : ∃ dr, H r = some (.ins CR dr (fR ai ap aq)) := h.r
section
variable {P : Program} {w : World} {K : PySem.W.Frag} {mg : Str → Option Value} {base : Heap} {CR CP CC CS CG : Addr}
def spPInit (CP CC CS : Addr) : Sp := fun vs H Q _ => ∃ (p dp r C : Addr) (n : Int), vs = [.ref p, .ref r, .int n] ∧ Any3 CP CC CS C ∧ H p = some (.ins C dp []) ∧ Q .non (upd H p (.ins C dp (fP r n)))
theorem ok_Patch_init {f : Addr} {fd : FuncData} (F : Fun K "__init__" "Patch.__init__" s_Patch_init f fd) (T : TxtL K CR CP CC CS CG) : FnOk P w K mg base CX0 1 f fd ["self", "record", "number"] (spPInit CP CC CS) := by
  refine F.ok sc_Patch_init (fun vs H Q E h => ?_) (fun cdv A outer s H vs Q E hr h => ?_)
  · obtain ⟨p, dp, r, C, n, rfl, _⟩ := h
    rfl
  · obtain ⟨p, dp, r, C, n, rfl, hC, hp, q⟩ := h
    refine ⟨_, (pss_cons (ps_fld (pv 0) (pv 1) rfl)
        (pss_one (ps_fld (pv 0) (pv 2) rfl))), ?_⟩
    refine ⟨_, rfl, _, rfl, p, C, dp, _, rfl, hp, T.c hC, T.n1 hC, (by show 0 < 1000; decide), ?_⟩
    refine ⟨_, rfl, _, rfl, p, C, dp, _, rfl, upd_same, T.c hC, T.n2 hC, (by show 1 < 1000; decide), ?_⟩
    rw [fP_new, upd_upd]
    exact q
def spNumber (CP CC CS : Addr) : Sp := fun vs H Q _ => ∃ (p dp r C : Addr) (n : Int), vs = [.ref p] ∧ Any3 CP CC CS C ∧ H p = some (.ins C dp (fP r n)) ∧ Q (.int n) H
def spInteger (CR CP CC CS : Addr) : Sp := fun vs H Q _ => ∃ (p dp r C ai ap aq : Addr) (n : Int) (I P S : List Int), vs = [.ref p] ∧ Any3 CP CC CS C ∧ H p = some (.ins C dp (fP r n)) ∧ Rec CR H r ai ap aq I P S ∧ 0 ≤ n ∧ n < (I.length : Int) ∧ Q (.int (vI I n)) H
def spSaved (CR CP CC CS : Addr) : Sp := fun vs H Q _ => ∃ (p dp r C ai ap aq : Addr) (n : Int) (I P S : List Int), vs = [.ref p] ∧ Any3 CP CC CS C ∧ H p = some (.ins C dp (fP r n)) ∧ Rec CR H r ai ap aq I P S ∧ Wf I P S ∧ Q (fbV P S n) H
def spRuns (CR CP CC CS : Addr) : Sp := fun vs H Q _ => ∃ (p dp r C ai ap aq : Addr) (n : Int) (I P S : List Int), vs = [.ref p] ∧ Any3 CP CC CS C ∧ H p = some (.ins C dp (fP r n)) ∧ Rec CR H r ai ap aq I P S ∧ Q (.bl (decide (n ∈ P ∧ -n ∉ P))) H
theorem ok_Patch_number {f : Addr} {fd : FuncData} (F : Fun K "number" "Patch.number" s_Patch_number f fd) (T : TxtL K CR CP CC CS CG) : FnOk P w K mg base (L2N.CX P w) 1 f fd ["self"] (spNumber CP CC CS) := by
  refine F.okN sc_Patch_number (fun vs H Q E h => ?_) (fun cdv A outer s H vs Q E hr h => ?_)
  · obtain ⟨p, dp, r, C, n, rfl, _⟩ := h
    rfl
  · obtain ⟨p, dp, r, C, n, rfl, hC, hp, q⟩ := h
    refine ⟨_, (pss_one (ps_ret (pe_fld (pv 0) rfl))), ?_⟩
    exact ⟨_, rfl, p, C, dp, _, _, rfl, hp, T.c hC, T.n2 hC, lp2 _ _, q⟩
theorem ok_Patch_integer {f : Addr} {fd : FuncData} (F : Fun K "integer" "Patch.integer" s_Patch_integer f fd) (T : TxtL K CR CP CC CS CG) : FnOk P w K mg base (L2N.CX P w) 1 f fd ["self"] (spInteger CR CP CC CS) := by
  refine F.okN sc_Patch_integer (fun vs H Q E h => ?_) (fun cdv A outer s H vs Q E hr h => ?_)
  · obtain ⟨p, dp, r, C, ai, ap, aq, n, I, P, S, rfl, _⟩ := h
    rfl
  · obtain ⟨p, dp, r, C, ai, ap, aq, n, I, P, S, rfl, hC, hp, R, n0, n1, q⟩ := h
    obtain ⟨dr, hR⟩ := R.ins
    refine ⟨_, (pss_one (ps_ret (pe_ix ix_list (pe_fld (pe_fld (pv 0) rfl) rfl) (pe_fld (pv 0) rfl) (fun _ _ => rfl)))), ?_⟩
    refine ⟨_, rfl, p, C, dp, _, _, rfl, hp, T.c hC, T.n1 hC, lp1 _ _, r, CR, dr, _, _, rfl, hR, T.cR, T.nR1, lk1 _ _ _, _, rfl, p, C, dp, _, _, rfl, hp, T.c hC, T.n2 hC, lp2 _ _, ?_⟩
    exact ⟨ai, _, _, _, rfl, rfl, .of R.i, atI_vI ⟨n0, n1⟩, q⟩
theorem ok_Patch_saved {f : Addr} {fd : FuncData} (F : Fun K "saved" "Patch.saved" s_Patch_saved f fd) (T : TxtL K CR CP CC CS CG) (T_Record_found_by : MetV P w K mg base 1 (Is CR) "found_by" (spFound CR)) : FnOk P w K mg base (L2N.CX P w) 2 f fd ["self"] (spSaved CR CP CC CS) := by
  refine F.okN sc_Patch_saved (fun vs H Q E h => ?_) (fun cdv A outer s H vs Q E hr h => ?_)
  · obtain ⟨p, dp, r, C, ai, ap, aq, n, I, P, S, rfl, _⟩ := h
    rfl
  · obtain ⟨p, dp, r, C, ai, ap, aq, n, I, P, S, rfl, hC, hp, R, W, q⟩ := h
    obtain ⟨dr, hR⟩ := R.ins
    refine ⟨_, (pss_one (ps_ret (pe_mV T_Record_found_by hr (by decide) (L2N.takes_of rfl rfl rfl rfl) (pe_fld (pv 0) rfl) (pa_cons (pe_fld (pv 0) rfl) pa_nil)))), ?_⟩
    exact ⟨_, rfl, p, C, dp, _, _, rfl, hp, T.c hC, T.n1 hC, lp1 _ _, r, CR, dr, _, rfl, rfl, hR, lkR _ _ _ (by decide +kernel), _, rfl, p, C, dp, _, _, rfl, hp, T.c hC, T.n2 hC, lp2 _ _, r, ai, ap, aq, I, P, S, n, rfl, R, W, q⟩
theorem ok_Patch_runs {f : Addr} {fd : FuncData} (F : Fun K "runs" "Patch.runs" s_Patch_runs f fd) (T : TxtL K CR CP CC CS CG) (T_Record_is_running : MetV P w K mg base 1 (Is CR) "is_running" (spIsRun CR)) : FnOk P w K mg base (L2N.CX P w) 2 f fd ["self"] (spRuns CR CP CC CS) := by
  refine F.okN sc_Patch_runs (fun vs H Q E h => ?_) (fun cdv A outer s H vs Q E hr h => ?_)
  · obtain ⟨p, dp, r, C, ai, ap, aq, n, I, P, S, rfl, _⟩ := h
    rfl
  · obtain ⟨p, dp, r, C, ai, ap, aq, n, I, P, S, rfl, hC, hp, R, q⟩ := h
    obtain ⟨dr, hR⟩ := R.ins
    refine ⟨_, (pss_one (ps_ret (pe_mV T_Record_is_running hr (by decide) (L2N.takes_of rfl rfl rfl rfl) (pe_fld (pv 0) rfl) (pa_cons (pe_fld (pv 0) rfl) pa_nil)))), ?_⟩
    exact ⟨_, rfl, p, C, dp, _, _, rfl, hp, T.c hC, T.n1 hC, lp1 _ _, r, CR, dr, _, rfl, rfl, hR, lkR _ _ _ (by decide +kernel), _, rfl, p, C, dp, _, _, rfl, hp, T.c hC, T.n2 hC, lp2 _ _, r, ai, ap, aq, I, P, S, n, rfl, R, q⟩
theorem ok_CarefulPatch_number {f : Addr} {fd : FuncData} (F : Fun K "number" "CarefulPatch.number" s_CarefulPatch_number f fd) (T : TxtL K CR CP CC CS CG) : FnOk P w K mg base (L2N.CX P w) 1 f fd ["self"] (spNumber CP CC CS) := by
  refine F.okN sc_CarefulPatch_number (fun vs H Q E h => ?_) (fun cdv A outer s H vs Q E hr h => ?_)
  · obtain ⟨p, dp, r, C, n, rfl, _⟩ := h
    rfl
  · obtain ⟨p, dp, r, C, n, rfl, hC, hp, q⟩ := h
    refine ⟨_, (pss_one (ps_ret (pe_fld (pv 0) rfl))), ?_⟩
    exact ⟨_, rfl, p, C, dp, _, _, rfl, hp, T.c hC, T.n2 hC, lp2 _ _, q⟩
theorem ok_CarefulPatch_integer {f : Addr} {fd : FuncData} (F : Fun K "integer" "CarefulPatch.integer" s_CarefulPatch_integer f fd) (T : TxtL K CR CP CC CS CG) : FnOk P w K mg base (L2N.CX P w) 1 f fd ["self"] (spInteger CR CP CC CS) := by
  refine F.okN sc_CarefulPatch_integer (fun vs H Q E h => ?_) (fun cdv A outer s H vs Q E hr h => ?_)
  · obtain ⟨p, dp, r, C, ai, ap, aq, n, I, P, S, rfl, _⟩ := h
    rfl
  · obtain ⟨p, dp, r, C, ai, ap, aq, n, I, P, S, rfl, hC, hp, R, n0, n1, q⟩ := h
    obtain ⟨dr, hR⟩ := R.ins
    refine ⟨_, (pss_one (ps_ret (pe_ix ix_list (pe_fld (pe_fld (pv 0) rfl) rfl) (pe_fld (pv 0) rfl) (fun _ _ => rfl)))), ?_⟩
    refine ⟨_, rfl, p, C, dp, _, _, rfl, hp, T.c hC, T.n1 hC, lp1 _ _, r, CR, dr, _, _, rfl, hR, T.cR, T.nR1, lk1 _ _ _, _, rfl, p, C, dp, _, _, rfl, hp, T.c hC, T.n2 hC, lp2 _ _, ?_⟩
    exact ⟨ai, _, _, _, rfl, rfl, .of R.i, atI_vI ⟨n0, n1⟩, q⟩
theorem ok_CarefulPatch_saved {f : Addr} {fd : FuncData} (F : Fun K "saved" "CarefulPatch.saved" s_CarefulPatch_saved f fd) (T : TxtL K CR CP CC CS CG) (T_Record_found_by : MetV P w K mg base 1 (Is CR) "found_by" (spFound CR)) : FnOk P w K mg base (L2N.CX P w) 2 f fd ["self"] (spSaved CR CP CC CS) := by
  refine F.okN sc_CarefulPatch_saved (fun vs H Q E h => ?_) (fun cdv A outer s H vs Q E hr h => ?_)
  · obtain ⟨p, dp, r, C, ai, ap, aq, n, I, P, S, rfl, _⟩ := h
    rfl
  · obtain ⟨p, dp, r, C, ai, ap, aq, n, I, P, S, rfl, hC, hp, R, W, q⟩ := h
    obtain ⟨dr, hR⟩ := R.ins
    refine ⟨_, (pss_one (ps_ret (pe_mV T_Record_found_by hr (by decide) (L2N.takes_of rfl rfl rfl rfl) (pe_fld (pv 0) rfl) (pa_cons (pe_fld (pv 0) rfl) pa_nil)))), ?_⟩
    exact ⟨_, rfl, p, C, dp, _, _, rfl, hp, T.c hC, T.n1 hC, lp1 _ _, r, CR, dr, _, rfl, rfl, hR, lkR _ _ _ (by decide +kernel), _, rfl, p, C, dp, _, _, rfl, hp, T.c hC, T.n2 hC, lp2 _ _, r, ai, ap, aq, I, P, S, n, rfl, R, W, q⟩
theorem ok_CarefulPatch_runs {f : Addr} {fd : FuncData} (F : Fun K "runs" "CarefulPatch.runs" s_CarefulPatch_runs f fd) (T : TxtL K CR CP CC CS CG) (T_Record_is_running : MetV P w K mg base 1 (Is CR) "is_running" (spIsRun CR)) : FnOk P w K mg base (L2N.CX P w) 2 f fd ["self"] (spRuns CR CP CC CS) := by
  refine F.okN sc_CarefulPatch_runs (fun vs H Q E h => ?_) (fun cdv A outer s H vs Q E hr h => ?_)
  · obtain ⟨p, dp, r, C, ai, ap, aq, n, I, P, S, rfl, _⟩ := h
    rfl
  · obtain ⟨p, dp, r, C, ai, ap, aq, n, I, P, S, rfl, hC, hp, R, q⟩ := h
    obtain ⟨dr, hR⟩ := R.ins
    refine ⟨_, (pss_one (ps_ret (pe_mV T_Record_is_running hr (by decide) (L2N.takes_of rfl rfl rfl rfl) (pe_fld (pv 0) rfl) (pa_cons (pe_fld (pv 0) rfl) pa_nil)))), ?_⟩
    exact ⟨_, rfl, p, C, dp, _, _, rfl, hp, T.c hC, T.n1 hC, lp1 _ _, r, CR, dr, _, rfl, rfl, hR, lkR _ _ _ (by decide +kernel), _, rfl, p, C, dp, _, _, rfl, hp, T.c hC, T.n2 hC, lp2 _ _, r, ai, ap, aq, I, P, S, n, rfl, R, q⟩
theorem ok_StrictPatch_number {f : Addr} {fd : FuncData} (F : Fun K "number" "StrictPatch.number" s_StrictPatch_number f fd) (T : TxtL K CR CP CC CS CG) : FnOk P w K mg base (L2N.CX P w) 1 f fd ["self"] (spNumber CP CC CS) := by
  refine F.okN sc_StrictPatch_number (fun vs H Q E h => ?_) (fun cdv A outer s H vs Q E hr h => ?_)
  · obtain ⟨p, dp, r, C, n, rfl, _⟩ := h
    rfl
  · obtain ⟨p, dp, r, C, n, rfl, hC, hp, q⟩ := h
    refine ⟨_, (pss_one (ps_ret (pe_fld (pv 0) rfl))), ?_⟩
    exact ⟨_, rfl, p, C, dp, _, _, rfl, hp, T.c hC, T.n2 hC, lp2 _ _, q⟩
theorem ok_StrictPatch_integer {f : Addr} {fd : FuncData} (F : Fun K "integer" "StrictPatch.integer" s_StrictPatch_integer f fd) (T : TxtL K CR CP CC CS CG) : FnOk P w K mg base (L2N.CX P w) 1 f fd ["self"] (spInteger CR CP CC CS) := by
  refine F.okN sc_StrictPatch_integer (fun vs H Q E h => ?_) (fun cdv A outer s H vs Q E hr h => ?_)
  · obtain ⟨p, dp, r, C, ai, ap, aq, n, I, P, S, rfl, _⟩ := h
    rfl
  · obtain ⟨p, dp, r, C, ai, ap, aq, n, I, P, S, rfl, hC, hp, R, n0, n1, q⟩ := h
    obtain ⟨dr, hR⟩ := R.ins
    refine ⟨_, (pss_one (ps_ret (pe_ix ix_list (pe_fld (pe_fld (pv 0) rfl) rfl) (pe_fld (pv 0) rfl) (fun _ _ => rfl)))), ?_⟩
    refine ⟨_, rfl, p, C, dp, _, _, rfl, hp, T.c hC, T.n1 hC, lp1 _ _, r, CR, dr, _, _, rfl, hR, T.cR, T.nR1, lk1 _ _ _, _, rfl, p, C, dp, _, _, rfl, hp, T.c hC, T.n2 hC, lp2 _ _, ?_⟩
    exact ⟨ai, _, _, _, rfl, rfl, .of R.i, atI_vI ⟨n0, n1⟩, q⟩
theorem ok_StrictPatch_saved {f : Addr} {fd : FuncData} (F : Fun K "saved" "StrictPatch.saved" s_StrictPatch_saved f fd) (T : TxtL K CR CP CC CS CG) (T_Record_found_by : MetV P w K mg base 1 (Is CR) "found_by" (spFound CR)) : FnOk P w K mg base (L2N.CX P w) 2 f fd ["self"] (spSaved CR CP CC CS) := by
  refine F.okN sc_StrictPatch_saved (fun vs H Q E h => ?_) (fun cdv A outer s H vs Q E hr h => ?_)
  · obtain ⟨p, dp, r, C, ai, ap, aq, n, I, P, S, rfl, _⟩ := h
    rfl
  · obtain ⟨p, dp, r, C, ai, ap, aq, n, I, P, S, rfl, hC, hp, R, W, q⟩ := h
    obtain ⟨dr, hR⟩ := R.ins
    refine ⟨_, (pss_one (ps_ret (pe_mV T_Record_found_by hr (by decide) (L2N.takes_of rfl rfl rfl rfl) (pe_fld (pv 0) rfl) (pa_cons (pe_fld (pv 0) rfl) pa_nil)))), ?_⟩
    exact ⟨_, rfl, p, C, dp, _, _, rfl, hp, T.c hC, T.n1 hC, lp1 _ _, r, CR, dr, _, rfl, rfl, hR, lkR _ _ _ (by decide +kernel), _, rfl, p, C, dp, _, _, rfl, hp, T.c hC, T.n2 hC, lp2 _ _, r, ai, ap, aq, I, P, S, n, rfl, R, W, q⟩
theorem ok_StrictPatch_runs {f : Addr} {fd : FuncData} (F : Fun K "runs" "StrictPatch.runs" s_StrictPatch_runs f fd) (T : TxtL K CR CP CC CS CG) (T_Record_is_running : MetV P w K mg base 1 (Is CR) "is_running" (spIsRun CR)) : FnOk P w K mg base (L2N.CX P w) 2 f fd ["self"] (spRuns CR CP CC CS) := by
  refine F.okN sc_StrictPatch_runs (fun vs H Q E h => ?_) (fun cdv A outer s H vs Q E hr h => ?_)
  · obtain ⟨p, dp, r, C, ai, ap, aq, n, I, P, S, rfl, _⟩ := h
    rfl
  · obtain ⟨p, dp, r, C, ai, ap, aq, n, I, P, S, rfl, hC, hp, R, q⟩ := h
    obtain ⟨dr, hR⟩ := R.ins
    refine ⟨_, (pss_one (ps_ret (pe_mV T_Record_is_running hr (by decide) (L2N.takes_of rfl rfl rfl rfl) (pe_fld (pv 0) rfl) (pa_cons (pe_fld (pv 0) rfl) pa_nil)))), ?_⟩
    exact ⟨_, rfl, p, C, dp, _, _, rfl, hp, T.c hC, T.n1 hC, lp1 _ _, r, CR, dr, _, rfl, rfl, hR, lkR _ _ _ (by decide +kernel), _, rfl, p, C, dp, _, _, rfl, hp, T.c hC, T.n2 hC, lp2 _ _, r, ai, ap, aq, I, P, S, n, rfl, R, q⟩
/-! ### what a stop leaves -/
def leftK (k : Nat) (P S : List Int) (n : Int) : Option Int := if k = 0 then some (fbI P S n) else if lastI S = n then some (fbI P S n) else if k = 1 then some (lastI S) else none
def spLeft (CR eO : Addr) : Addr → Nat → Sp := fun C k vs H Q E => ∃ (p dp r r' ai ap aq : Addr) (n : Int) (I P S : List Int), vs = [.ref p, .ref r] ∧ H p = some (.ins C dp (fP r' n)) ∧ Rec CR H r ai ap aq I P S ∧ Wf I P S ∧ n ∈ P ∧
  (∀ c, leftK k P S n = some c → Q (.int c) H) ∧ (leftK k P S n = none → E (.ref eO) none H)
/-- .. by the method of the class Patch, for patches of all classes -/
def spLeftP (CR CP CC CS : Addr) : Sp := fun vs H Q _ => ∃ (p dp r r' C ai ap aq : Addr) (n : Int) (I P S : List Int), vs = [.ref p, .ref r] ∧ Any3 CP CC CS C ∧ H p = some (.ins C dp (fP r' n)) ∧ Rec CR H r ai ap aq I P S ∧ Wf I P S ∧ n ∈ P ∧ Q (.int (fbI P S n)) H
theorem ok_Patch_left_by_stop {f : Addr} {fd : FuncData} (F : Fun K "left_by_stop" "Patch.left_by_stop" s_Patch_left_by_stop f fd) (T : TxtL K CR CP CC CS CG) (T_Record_found_by : MetV P w K mg base 1 (Is CR) "found_by" (spFound CR)) : FnOk P w K mg base (L2N.CX P w) 2 f fd ["self", "record"] (spLeftP CR CP CC CS) := by
  refine F.okN sc_Patch_left_by_stop (fun vs H Q E h => ?_) (fun cdv A outer s H vs Q E hr h => ?_)
  · obtain ⟨p, dp, r, r', C, ai, ap, aq, n, I, P, S, rfl, _⟩ := h
    rfl
  · obtain ⟨p, dp, r, r', C, ai, ap, aq, n, I, P, S, rfl, hC, hp, R, W, hn, q⟩ := h
    obtain ⟨dr, hR⟩ := R.ins
    refine ⟨_, (pss_one (ps_ret (pe_mV T_Record_found_by hr (by decide) (L2N.takes_of rfl rfl rfl rfl) (pv 1) (pa_cons (pe_fld (pv 0) rfl) pa_nil)))), ?_⟩
    refine ⟨_, rfl, r, CR, dr, _, rfl, rfl, hR, lkR _ _ _ (by decide +kernel), _, rfl, p, C, dp, _, _, rfl, hp, T.c hC, T.n2 hC, lp2 _ _, r, ai, ap, aq, I, P, S, n, rfl, R, W, ?_⟩
    unfold fbV
    rw [if_pos hn]
    exact q
theorem ok_CarefulPatch_left_by_stop {eO f g cc cda : Addr} {fd gd : FuncData} (Z : SupF P K mg "left_by_stop" "CarefulPatch.left_by_stop" s_CarefulPatch_left_by_stop f cc cda CC fd) (T : TxtL K CR CP CC CS CG) (SM : SupM K CC "left_by_stop" g) (FF : FnOk P w K mg base (L2N.CX P w) 2 g gd ["self", "record"] (spLeftP CR CP CC CS)) (bb : Binds K gd ["self", "record"] []) :
    FnOk P w K mg base (L2N.CX P w) 3 f fd ["self", "record"] (spLeft CR eO CC 1) := by
  refine fnok_sup Z.F sc_CarefulPatch_left_by_stop Z.hcc (fun vs H Q E h => ?_) (fun A out s H vs Q E hr h => ?_)
  · obtain ⟨p, dp, r, r', ai, ap, aq, n, I, U, S, rfl, _⟩ := h
    rfl
  · obtain ⟨p, dp, r, r', ai, ap, aq, n, I, U, S, rfl, hp, R, W, hn, q, x⟩ := h
    obtain ⟨dr, hR⟩ := R.ins
    have hC : Any3 CP CC CS CC := .inr (.inl rfl)
    have SC := Z.sc (CX := L2N.CX P w) (w := w) (base := base) (N := N_CarefulPatch_left_by_stop) (A := A) (out := out) (s := s) (H := H) (E := E) (sf := "self") rfl rfl rfl rfl rfl rfl
    refine ⟨_, (pssa_cons (PSa.of (ps_set (i := 3) sc_CarefulPatch_left_by_stop.nd rfl (Or.inl rfl) (pe_ix ix_list (pe_fld (pv 1) rfl) (pe_un un_neg pe_int) (fun _ _ => rfl)))) (pssa_one (psa_ret (pea_ifExp (pt_cmpR op_eq (pv 3) (pe_fld (pv 0) rfl) (nomark _)) (pea_sup SC SM FF bb hr (L2N.passes_call (L2N.takes_of rfl rfl rfl rfl) fun _ _ _ _ h => h) (pa_cons (pv 1) pa_nil)) (PEa.of (pv 3)))))), ?_⟩
    refine ⟨_, rfl, r, CR, dr, _, _, rfl, hR, T.cR, T.nR3, lk3 _ _ _, _, rfl, aq, _, _, _, rfl, rfl, .of R.q, atI_lastI W.ne, ?_⟩
    refine ⟨_, rfl, _, rfl, p, CC, dp, _, _, rfl, hp, T.c hC, T.n2 hC, lp2 _ _, rfl, decide (lastI S = n), congrArg V.bl (decide_eq_decide.mpr ⟨fun z => V.int.inj z, fun z => congrArg V.int z⟩), ?_⟩
    by_cases e : lastI S = n
    · rw [decide_eq_true e]
      refine iteT ⟨p, dp, _, rfl, hp, _, rfl, p, dp, r, r', CC, ai, ap, aq, n, I, U, S, rfl, hC, hp, R, W, hn, q _ ?_⟩
      unfold leftK
      rw [if_neg (by decide), if_pos e]
    · rw [decide_eq_false e]
      refine iteF ⟨_, rfl, q _ ?_⟩
      unfold leftK
      rw [if_neg (by decide), if_neg e, if_pos rfl]
theorem ok_StrictPatch_left_by_stop {eO f g cc cda : Addr} {fd gd : FuncData} (Z : SupF P K mg "left_by_stop" "StrictPatch.left_by_stop" s_StrictPatch_left_by_stop f cc cda CS fd) (RO : Er K mg "OutOfOrderError" eO) (T : TxtL K CR CP CC CS CG) (SM : SupM K CS "left_by_stop" g) (FF : FnOk P w K mg base (L2N.CX P w) 2 g gd ["self", "record"] (spLeftP CR CP CC CS)) (bb : Binds K gd ["self", "record"] []) :
    FnOk P w K mg base (L2N.CX P w) 3 f fd ["self", "record"] (spLeft CR eO CS 2) := by
  refine fnok_sup Z.F sc_StrictPatch_left_by_stop Z.hcc (fun vs H Q E h => ?_) (fun A out s H vs Q E hr h => ?_)
  · obtain ⟨p, dp, r, r', ai, ap, aq, n, I, U, S, rfl, _⟩ := h
    rfl
  · obtain ⟨p, dp, r, r', ai, ap, aq, n, I, U, S, rfl, hp, R, W, hn, q, x⟩ := h
    obtain ⟨dr, hR⟩ := R.ins
    have hC : Any3 CP CC CS CS := .inr (.inr rfl)
    have SC := Z.sc (CX := L2N.CX P w) (w := w) (base := base) (N := N_StrictPatch_left_by_stop) (A := A) (out := out) (s := s) (H := H) (E := E) (sf := "self") rfl rfl rfl rfl rfl rfl
    refine ⟨_, (pssa_cons (PSa.of (ps_if (pt_cmpR op_ne (pe_ix ix_list (pe_fld (pv 1) rfl) (pe_un un_neg pe_int) (fun _ _ => rfl)) (pe_fld (pv 0) rfl) (nomark _)) (pss_one (L2N.ps_raise rfl (L2N.takes_of rfl rfl rfl rfl) (L2N.pmk_own PySem.F.excBase_ValueError RO.x RO.c RO.k (raises_own RO.b RO.t) rfl))) pss_nil)) (pssa_one (psa_ret (pea_sup SC SM FF bb hr (L2N.passes_call (L2N.takes_of rfl rfl rfl rfl) fun _ _ _ _ h => h) (pa_cons (pv 1) pa_nil))))), ?_⟩
    refine ⟨_, rfl, r, CR, dr, _, _, rfl, hR, T.cR, T.nR3, lk3 _ _ _, _, rfl, aq, _, _, _, rfl, rfl, .of R.q, atI_lastI W.ne, ?_⟩
    refine ⟨_, rfl, p, CS, dp, _, _, rfl, hp, T.c hC, T.n2 hC, lp2 _ _, rfl, !decide (lastI S = n), congrArg (fun b => V.bl (!b)) (decide_eq_decide.mpr ⟨fun z => V.int.inj z, fun z => congrArg V.int z⟩), ?_⟩
    by_cases e : lastI S = n
    · rw [decide_eq_true e]
      refine iteF ⟨p, dp, _, rfl, hp, _, rfl, p, dp, r, r', CS, ai, ap, aq, n, I, U, S, rfl, hC, hp, R, W, hn, q _ ?_⟩
      unfold leftK
      rw [if_neg (by decide), if_pos e]
    · rw [decide_eq_false e]
      refine iteT (x ?_)
      unfold leftK
      rw [if_neg (by decide), if_neg e, if_neg (by decide)]
end
end L34
set_option Elab.async false
set_option linter.all false
set_option maxRecDepth 100000
namespace L34
open PySem PySem.Spec PyProof.Rows L2 Lp
/-! ### patches: start, stop, described -/
theorem Rec.go {CR : Addr} {H : Hp} {r ai ap aq : Addr} {I P S P' S' : List Int} (h : Rec CR H r ai ap aq I P S) : Rec CR (upd (upd H ap (.lst (P'.map .int))) aq (.lst (S'.map .int))) r ai ap aq I P' S' := by
  obtain ⟨⟨dr, hR⟩, hi, hp, hq, ip, iq, pq⟩ := h
  have rp : r ≠ ap := fun z => by rw [z, hp] at hR; cases hR
  have rq : r ≠ aq := fun z => by rw [z, hq] at hR; cases hR
  exact ⟨⟨dr, by rw [upd_ne rq, upd_ne rp]; exact hR⟩, by rw [upd_ne iq, upd_ne ip]; exact hi, by rw [upd_ne pq, upd_same], upd_same, ip, iq, pq⟩
theorem Wf.go {I P S : List Int} {e c : Int} (w : Wf I P S) (h : 0 ≤ c ∧ c < (I.length : Int)) (l : P.length < 1000) : Wf I (P ++ [e]) (S ++ [c]) := by
  refine ⟨by rw [List.length_append, List.length_append, w.len]; rfl, fun x hx => ?_, by rw [List.length_append]; exact l, w.i⟩
  rcases List.mem_append.mp hx with hx | hx
  · exact w.rng x hx
  · rw [List.mem_singleton.mp hx]
    exact h
theorem leftK_rng {I P S : List Int} {n c : Int} {k : Nat} (w : Wf I P S) (h : n ∈ P) (e : leftK k P S n = some c) : 0 ≤ c ∧ c < (I.length : Int) := by
  unfold leftK at e
  split at e
  · rw [← Option.some.inj e]
    exact w.fb h
  · split at e
    · rw [← Option.some.inj e]
      exact w.fb h
    · split at e
      · rw [← Option.some.inj e]
        exact w.last
      · cases e
/-- a patch is told -/
def nameP (n : Int) : Str := ("patch " : Str) ++ Str.ofString (toString n)
def wordK (k : Nat) : List V := if k = 1 then [.str "careful"] else if k = 2 then [.str "strict"] else []
theorem small_log {n : Int} (h : n.natAbs < 100000) : n.natAbs.log2 < 1920 := Nat.lt_of_lt_of_le (PySem.Flt.log2_lt_of (by decide) (show n.natAbs < 2 ^ 20 by omega)) (by decide)
theorem small_len {n : Int} (h : n.natAbs < 100000) : (Str.ofString (toString n)).length ≤ 6 := by
  have z := PySem.int_text_length_le10 (a := n) (k := 5) (by decide) h
  rw [PySem.ofString_length]
  omega
section
variable {P : Program} {w : World} {K : PySem.W.Frag} {mg : Str → Option Value} {base : Heap} {CR CP CC CS CG eS eR eO : Addr}
def spStartP (CR CP CC CS eS : Addr) : Sp := fun vs H Q E => ∃ (p dp r C ai ap aq : Addr) (n : Int) (I U S : List Int), vs = [.ref p] ∧ Any3 CP CC CS C ∧ H p = some (.ins C dp (fP r n)) ∧ Rec CR H r ai ap aq I U S ∧ Wf I U S ∧ 0 ≤ n ∧ n < (I.length : Int) ∧ U.length < 1000 ∧
  (n ∉ U → Q (.int (vI I n)) (upd (upd H ap (.lst ((U ++ [n]).map .int))) aq (.lst ((S ++ [n]).map .int)))) ∧ (n ∈ U → E (.ref eS) none H)
theorem ok_Patch_start {f : Addr} {fd : FuncData} (F : Fun K "start" "Patch.start" s_Patch_start f fd) (T : TxtL K CR CP CC CS CG) (RS : Er K mg "StartedError" eS) (T_AnyPatch_saved : PrpV P w K mg base 2 (Any3 CP CC CS) "saved" (spSaved CR CP CC CS)) (T_Record_go_on_by : MetV P w K mg base 1 (Is CR) "go_on_by" (spGoOn CR)) (T_Record_integer_now : MetV P w K mg base 1 (Is CR) "integer_now" (spNow CR)) :
    FnOk P w K mg base (L2N.CX P w) 4 f fd ["self"] (spStartP CR CP CC CS eS) := by
  refine F.okN sc_Patch_start (fun vs H Q E h => ?_) (fun cdv A outer s H vs Q E hr h => ?_)
  · obtain ⟨p, dp, r, C, ai, ap, aq, n, I, U, S, rfl, _⟩ := h
    rfl
  · obtain ⟨p, dp, r, C, ai, ap, aq, n, I, U, S, rfl, hC, hp, R, W, n0, n1, hl, q, x⟩ := h
    obtain ⟨dr, hR⟩ := R.ins
    refine ⟨_, (pss_cons (ps_if (pt_cmpR op_notN (pe_pV T_AnyPatch_saved hr (by decide) (pv 0)) pe_non (nomark _)) (pss_one (L2N.ps_raise rfl (L2N.takes_of rfl rfl rfl rfl) (L2N.pmk_own PySem.F.excBase_ValueError RS.x RS.c RS.k (raises_own RS.b RS.t) rfl))) pss_nil)
        (pss_cons (ps_expr (pe_mV T_Record_go_on_by hr (by decide) (L2N.takes_of rfl rfl rfl rfl) (pe_fld (pv 0) rfl) (pa_cons (pe_fld (pv 0) rfl) (pa_cons (pe_fld (pv 0) rfl) pa_nil))))
        (pss_one (ps_ret (pe_mV0 T_Record_integer_now hr (by decide) (L2N.takes_of rfl rfl rfl rfl) (pe_fld (pv 0) rfl)))))), ?_⟩
    by_cases hn : n ∈ U
    · refine ⟨_, rfl, p, C, dp, _, rfl, hC, hp, p, dp, r, C, ai, ap, aq, n, I, U, S, rfl, hC, hp, R, W, rfl, true, ?_, x hn⟩
      unfold fbV
      rw [if_pos hn]
      exact nT (fun z => nomatch z)
    · refine ⟨_, rfl, p, C, dp, _, rfl, hC, hp, p, dp, r, C, ai, ap, aq, n, I, U, S, rfl, hC, hp, R, W, rfl, false, ?_, ?_⟩
      · unfold fbV
        rw [if_neg hn]
        exact nF rfl
      · have l2 : S.length ≤ 2000 := by have := W.len; omega
        refine ⟨_, rfl, p, C, dp, _, _, rfl, hp, T.c hC, T.n1 hC, lp1 _ _, r, CR, dr, _, rfl, rfl, hR, lkR _ _ _ (by decide +kernel), _, rfl, p, C, dp, _, _, rfl, hp, T.c hC, T.n2 hC, lp2 _ _, _, rfl, p, C, dp, _, _, rfl, hp, T.c hC, T.n2 hC, lp2 _ _, r, ai, ap, aq, I, U, S, n, n, rfl, R, by omega, l2, ?_⟩
        have R2 := R.go (P' := U ++ [n]) (S' := S ++ [n])
        have W2 : Wf I (U ++ [n]) (S ++ [n]) := W.go ⟨n0, n1⟩ hl
        have q2 := q hn
        have hp2 : (upd (upd H ap (.lst ((U ++ [n]).map .int))) aq (.lst ((S ++ [n]).map .int))) p = some (.ins C dp (fP r n)) := by
          rw [upd_ne (fun z => by rw [z, R.q] at hp; cases hp), upd_ne (fun z => by rw [z, R.p] at hp; cases hp)]
          exact hp
        generalize upd (upd H ap (.lst ((U ++ [n]).map .int))) aq (.lst ((S ++ [n]).map .int)) = H2 at R2 q2 hp2 ⊢
        obtain ⟨dr2, hR2⟩ := R2.ins
        refine ⟨_, rfl, p, C, dp, _, _, rfl, hp2, T.c hC, T.n1 hC, lp1 _ _, r, CR, dr2, _, rfl, rfl, hR2, lkR _ _ _ (by decide +kernel), r, ai, ap, aq, I, U ++ [n], S ++ [n], rfl, R2, W2, ?_⟩
        rw [lastI_snoc]
        exact q2
def spStartC (CR eS : Addr) : Addr → Nat → Sp := fun C _ vs H Q E => ∃ (p dp r ai ap aq : Addr) (n : Int) (I U S : List Int), vs = [.ref p] ∧ H p = some (.ins C dp (fP r n)) ∧ Rec CR H r ai ap aq I U S ∧ Wf I U S ∧ 0 ≤ n ∧ n < (I.length : Int) ∧ U.length < 1000 ∧
  (n ∉ U → Q (.int (vI I n)) (upd (upd H ap (.lst ((U ++ [n]).map .int))) aq (.lst ((S ++ [n]).map .int)))) ∧ (n ∈ U → E (.ref eS) none H)
def spStopK (CR eR eO : Addr) (C : Addr) (k : Nat) : Sp := fun vs H Q E => ∃ (p dp r ai ap aq : Addr) (n : Int) (I U S : List Int), vs = [.ref p] ∧ H p = some (.ins C dp (fP r n)) ∧ Rec CR H r ai ap aq I U S ∧ Wf I U S ∧ U.length < 1000 ∧
  (n ∈ U → -n ∉ U → ∀ c, leftK k U S n = some c → Q (.int (vI I c)) (upd (upd H ap (.lst ((U ++ [-n]).map .int))) aq (.lst ((S ++ [c]).map .int)))) ∧ (n ∈ U → -n ∉ U → leftK k U S n = none → E (.ref eO) none H) ∧ (¬ (n ∈ U ∧ -n ∉ U) → E (.ref eR) none H)
def spStopP (CR CP CC CS eR eO : Addr) : Sp := fun vs H Q E => ∃ C k, Kind3 CP CC CS C k ∧ spStopK CR eR eO C k vs H Q E
theorem ok_Patch_stop {f : Addr} {fd : FuncData} (F : Fun K "stop" "Patch.stop" s_Patch_stop f fd) (T : TxtL K CR CP CC CS CG) (RR : Er K mg "NotRunningError" eR) (T_AnyPatch_runs : PrpV P w K mg base 2 (Any3 CP CC CS) "runs" (spRuns CR CP CC CS)) (T_AnyPatch_left_by_stop : MetC P w K mg base 3 (Kind3 CP CC CS) "left_by_stop" (spLeft CR eO)) (T_Record_go_on_by : MetV P w K mg base 1 (Is CR) "go_on_by" (spGoOn CR)) (T_Record_integer_now : MetV P w K mg base 1 (Is CR) "integer_now" (spNow CR)) :
    FnOk P w K mg base (L2N.CX P w) 4 f fd ["self"] (spStopP CR CP CC CS eR eO) := by
  refine F.okN sc_Patch_stop (fun vs H Q E h => ?_) (fun cdv A outer s H vs Q E hr h => ?_)
  · obtain ⟨C, k, _, p, dp, r, ai, ap, aq, n, I, U, S, rfl, _⟩ := h
    rfl
  · obtain ⟨C, k, hK, p, dp, r, ai, ap, aq, n, I, U, S, rfl, hp, R, W, hl, q, x1, x2⟩ := h
    have hC := hK.any
    obtain ⟨dr, hR⟩ := R.ins
    refine ⟨_, (pss_cons (ps_if (pt_not (pt_val (pe_pV T_AnyPatch_runs hr (by decide) (pv 0)))) (pss_one (L2N.ps_raise rfl (L2N.takes_of rfl rfl rfl rfl) (L2N.pmk_own PySem.F.excBase_ValueError RR.x RR.c RR.k (raises_own RR.b RR.t) rfl))) pss_nil)
        (pss_cons (ps_expr (pe_mV T_Record_go_on_by hr (by decide) (L2N.takes_of rfl rfl rfl rfl) (pe_fld (pv 0) rfl) (pa_cons (pe_un un_neg (pe_fld (pv 0) rfl)) (pa_cons (pe_mC T_AnyPatch_left_by_stop hr (by decide) (L2N.takes_of rfl rfl rfl rfl) (pv 0) (pa_cons (pe_fld (pv 0) rfl) pa_nil)) pa_nil))))
        (pss_one (ps_ret (pe_mV0 T_Record_integer_now hr (by decide) (L2N.takes_of rfl rfl rfl rfl) (pe_fld (pv 0) rfl)))))), ?_⟩
    refine ⟨_, rfl, p, C, dp, _, rfl, hC, hp, p, dp, r, C, ai, ap, aq, n, I, U, S, rfl, hC, hp, R, _, rfl, ?_⟩
    by_cases hn : n ∈ U ∧ -n ∉ U
    · rw [decide_eq_true hn]
      refine iteF ?_
      have l2 : S.length ≤ 2000 := by have := W.len; omega
      cases hL : leftK k U S n with
      | none =>
        exact ⟨_, rfl, p, C, dp, _, _, rfl, hp, T.c hC, T.n1 hC, lp1 _ _, r, CR, dr, _, rfl, rfl, hR, lkR _ _ _ (by decide +kernel), _, rfl, p, C, dp, _, _, rfl, hp, T.c hC, T.n2 hC, lp2 _ _, _, rfl, _, rfl, p, C, k, dp, _, rfl, hK, hp, lkP _ _ (by decide +kernel), _, rfl, p, C, dp, _, _, rfl, hp, T.c hC, T.n1 hC, lp1 _ _,
          p, dp, r, r, ai, ap, aq, n, I, U, S, rfl, hp, R, W, hn.1, fun c e => absurd (hL.symm.trans e) (fun z => nomatch z), fun _ => x1 hn.1 hn.2 hL⟩
      | some c =>
        refine ⟨_, rfl, p, C, dp, _, _, rfl, hp, T.c hC, T.n1 hC, lp1 _ _, r, CR, dr, _, rfl, rfl, hR, lkR _ _ _ (by decide +kernel), _, rfl, p, C, dp, _, _, rfl, hp, T.c hC, T.n2 hC, lp2 _ _, _, rfl, _, rfl, p, C, k, dp, _, rfl, hK, hp, lkP _ _ (by decide +kernel), _, rfl, p, C, dp, _, _, rfl, hp, T.c hC, T.n1 hC, lp1 _ _,
          p, dp, r, r, ai, ap, aq, n, I, U, S, rfl, hp, R, W, hn.1, fun c' e => ?_, fun e => absurd (hL.symm.trans e) (fun z => nomatch z)⟩
        obtain rfl : c = c' := Option.some.inj (hL.symm.trans e)
        have q2 := q hn.1 hn.2 c hL
        have rg := leftK_rng W hn.1 hL
        refine ⟨r, ai, ap, aq, I, U, S, -n, c, rfl, R, by omega, l2, ?_⟩
        have R2 := R.go (P' := U ++ [-n]) (S' := S ++ [c])
        have W2 : Wf I (U ++ [-n]) (S ++ [c]) := W.go rg hl
        have hp2 : (upd (upd H ap (.lst ((U ++ [-n]).map .int))) aq (.lst ((S ++ [c]).map .int))) p = some (.ins C dp (fP r n)) := by
          rw [upd_ne (fun z => by rw [z, R.q] at hp; cases hp), upd_ne (fun z => by rw [z, R.p] at hp; cases hp)]
          exact hp
        generalize upd (upd H ap (.lst ((U ++ [-n]).map .int))) aq (.lst ((S ++ [c]).map .int)) = H2 at R2 q2 hp2 ⊢
        obtain ⟨dr2, hR2⟩ := R2.ins
        refine ⟨_, rfl, p, C, dp, _, _, rfl, hp2, T.c hC, T.n1 hC, lp1 _ _, r, CR, dr2, _, rfl, rfl, hR2, lkR _ _ _ (by decide +kernel), r, ai, ap, aq, I, U ++ [-n], S ++ [c], rfl, R2, W2, ?_⟩
        rw [lastI_snoc]
        exact q2
    · rw [decide_eq_false hn]
      exact iteT (x2 hn)
def spDescP (CP CC CS : Addr) : Sp := fun vs H Q _ => ∃ (p dp r C : Addr) (n : Int), vs = [.ref p] ∧ Any3 CP CC CS C ∧ H p = some (.ins C dp (fP r n)) ∧ n.natAbs < 100000 ∧ ∀ q, H q = none → Q (.ref q) (upd H q (.lst [.str (nameP n)]))
theorem ok_Patch_described {f : Addr} {fd : FuncData} (F : Fun K "described" "Patch.described" s_Patch_described f fd) (T : TxtL K CR CP CC CS CG) : FnOk P w K mg base (L2N.CX P w) 1 f fd ["self"] (spDescP CP CC CS) := by
  refine F.okN sc_Patch_described (fun vs H Q E h => ?_) (fun cdv A outer s H vs Q E hr h => ?_)
  · obtain ⟨p, dp, r, C, n, rfl, _⟩ := h
    rfl
  · obtain ⟨p, dp, r, C, n, rfl, hC, hp, hn, q⟩ := h
    refine ⟨_, (pss_one (ps_ret (pe_lst (pa_cons (pe_joined (.cons pe_str (.cons (pe_fmt (pe_fld (pv 0) rfl)) .nil))) pa_nil)))), ?_⟩
    have l6 := small_len hn
    have e0 : (Str.empty ++ ("patch " : Str)) = ("patch " : Str) := Str.ext' (by simp [Str.cps_append, Str.empty])
    have z6 : ("patch " : Str).length = 6 := by decide +kernel
    refine ⟨_, rfl, by rw [e0, z6]; decide, _, rfl, p, C, dp, _, _, rfl, hp, T.c hC, T.n2 hC, lp2 _ _, .inr ⟨n, rfl, small_log hn, _, rfl, ?_, by show 1 ≤ sizeLine; decide, fun y ny => ?_⟩⟩
    · rw [e0, Str.length_append, z6, sizeLine_eq]
      omega
    · rw [e0]
      exact q y ny
def spDesc : Addr → Nat → Sp := fun C k vs H Q _ => ∃ (p dp r : Addr) (n : Int), vs = [.ref p] ∧ H p = some (.ins C dp (fP r n)) ∧ n.natAbs < 100000 ∧ ∀ q H', Same H H' → H q = none → H' q = some (.lst (.str (nameP n) :: wordK k)) → Q (.ref q) H'

theorem ok_CarefulPatch_start {f g cc cda : Addr} {fd gd : FuncData} (Z : SupF P K mg "start" "CarefulPatch.start" s_CarefulPatch_start f cc cda CC fd) (SM : SupM K CC "start" g) (FF : FnOk P w K mg base (L2N.CX P w) 4 g gd ["self"] (spStartP CR CP CC CS eS)) (bb : Binds K gd ["self"] []) :
    FnOk P w K mg base (L2N.CX P w) 5 f fd ["self"] (spStartC CR eS CC 1) := by
  refine fnok_sup Z.F sc_CarefulPatch_start Z.hcc (fun vs H Q E h => ?_) (fun A out s H vs Q E hr h => ?_)
  · obtain ⟨p, dp, r, ai, ap, aq, n, I, U, S, rfl, _⟩ := h
    rfl
  · obtain ⟨p, dp, r, ai, ap, aq, n, I, U, S, rfl, hp, R, W, n0, n1, hl, q, x⟩ := h
    have hC : Any3 CP CC CS CC := .inr (.inl rfl)
    have SC := Z.sc (CX := L2N.CX P w) (w := w) (base := base) (N := N_CarefulPatch_start) (A := A) (out := out) (s := s) (H := H) (E := E) (sf := "self") rfl rfl rfl rfl rfl rfl
    refine ⟨_, (pssa_one (psa_ret (pea_sup0 SC SM FF bb hr (L2N.passes_call (L2N.takes_of rfl rfl rfl rfl) fun _ _ _ _ h => h)))), ?_⟩
    exact ⟨p, dp, _, rfl, hp, p, dp, r, CC, ai, ap, aq, n, I, U, S, rfl, hC, hp, R, W, n0, n1, hl, q, x⟩
theorem ok_CarefulPatch_stop {f g cc cda : Addr} {fd gd : FuncData} (Z : SupF P K mg "stop" "CarefulPatch.stop" s_CarefulPatch_stop f cc cda CC fd) (SM : SupM K CC "stop" g) (FF : FnOk P w K mg base (L2N.CX P w) 4 g gd ["self"] (spStopP CR CP CC CS eR eO)) (bb : Binds K gd ["self"] []) :
    FnOk P w K mg base (L2N.CX P w) 5 f fd ["self"] (spStopK CR eR eO CC 1) := by
  refine fnok_sup Z.F sc_CarefulPatch_stop Z.hcc (fun vs H Q E h => ?_) (fun A out s H vs Q E hr h => ?_)
  · obtain ⟨p, dp, r, ai, ap, aq, n, I, U, S, rfl, _⟩ := h
    rfl
  · have h0 := h
    obtain ⟨p, dp, r, ai, ap, aq, n, I, U, S, rfl, hp, _⟩ := h0
    have hK : Kind3 CP CC CS CC 1 := .inr (.inl ⟨rfl, rfl⟩)
    have SC := Z.sc (CX := L2N.CX P w) (w := w) (base := base) (N := N_CarefulPatch_stop) (A := A) (out := out) (s := s) (H := H) (E := E) (sf := "self") rfl rfl rfl rfl rfl rfl
    refine ⟨_, (pssa_one (psa_ret (pea_sup0 SC SM FF bb hr (L2N.passes_call (L2N.takes_of rfl rfl rfl rfl) fun _ _ _ _ h => h)))), ?_⟩
    exact ⟨p, dp, _, rfl, hp, CC, 1, hK, h⟩
theorem ok_CarefulPatch_described {f g cc cda : Addr} {fd gd : FuncData} (Z : SupF P K mg "described" "CarefulPatch.described" s_CarefulPatch_described f cc cda CC fd) (SM : SupM K CC "described" g) (FF : FnOk P w K mg base (L2N.CX P w) 1 g gd ["self"] (spDescP CP CC CS)) (bb : Binds K gd ["self"] []) :
    FnOk P w K mg base (L2N.CX P w) 2 f fd ["self"] (spDesc CC 1) := by
  refine fnok_sup Z.F sc_CarefulPatch_described Z.hcc (fun vs H Q E h => ?_) (fun A out s H vs Q E hr h => ?_)
  · obtain ⟨p, dp, r, n, rfl, _⟩ := h
    rfl
  · obtain ⟨p, dp, r, n, rfl, hp, hn, q⟩ := h
    have hC : Any3 CP CC CS CC := .inr (.inl rfl)
    have SC := Z.sc (CX := L2N.CX P w) (w := w) (base := base) (N := N_CarefulPatch_described) (A := A) (out := out) (s := s) (H := H) (E := E) (sf := "self") rfl rfl rfl rfl rfl rfl
    refine ⟨_, (pssa_one (psa_ret (pea_opl op_cat (pea_sup0 SC SM FF bb hr (L2N.passes_call (L2N.takes_of rfl rfl rfl rfl) fun _ _ _ _ h => h)) (pe_lst (pa_cons pe_str pa_nil))))), ?_⟩
    refine ⟨p, dp, _, rfl, hp, p, dp, r, CC, n, rfl, hC, hp, hn, fun y ny => ?_⟩
    have s1 := same_new (o := .lst [.str (nameP n)]) ny
    have e1 : (upd H y (.lst [.str (nameP n)])) y = some (.lst [.str (nameP n)]) := upd_same
    generalize upd H y (.lst [.str (nameP n)]) = H1 at s1 e1 ⊢
    refine ⟨by show 1 ≤ sizeLine; decide, fun z nz => ?_⟩
    have s2 := same_new (o := .lst [.str "careful"]) nz
    refine ⟨y, z, _, _, rfl, rfl, s2 _ _ e1, upd_same, by show 1 + 1 ≤ sizeLine; decide, fun u nu => ?_⟩
    have nH : H u = none := by
      cases zz : H u with
      | none => rfl
      | some ob => rw [s2 _ _ (s1 _ _ zz)] at nu; cases nu
    exact q u _ ((s1.trans s2).trans (same_new nu)) nH upd_same
theorem ok_StrictPatch_start {f g cc cda : Addr} {fd gd : FuncData} (Z : SupF P K mg "start" "StrictPatch.start" s_StrictPatch_start f cc cda CS fd) (SM : SupM K CS "start" g) (FF : FnOk P w K mg base (L2N.CX P w) 4 g gd ["self"] (spStartP CR CP CC CS eS)) (bb : Binds K gd ["self"] []) :
    FnOk P w K mg base (L2N.CX P w) 5 f fd ["self"] (spStartC CR eS CS 2) := by
  refine fnok_sup Z.F sc_StrictPatch_start Z.hcc (fun vs H Q E h => ?_) (fun A out s H vs Q E hr h => ?_)
  · obtain ⟨p, dp, r, ai, ap, aq, n, I, U, S, rfl, _⟩ := h
    rfl
  · obtain ⟨p, dp, r, ai, ap, aq, n, I, U, S, rfl, hp, R, W, n0, n1, hl, q, x⟩ := h
    have hC : Any3 CP CC CS CS := .inr (.inr rfl)
    have SC := Z.sc (CX := L2N.CX P w) (w := w) (base := base) (N := N_StrictPatch_start) (A := A) (out := out) (s := s) (H := H) (E := E) (sf := "self") rfl rfl rfl rfl rfl rfl
    refine ⟨_, (pssa_one (psa_ret (pea_sup0 SC SM FF bb hr (L2N.passes_call (L2N.takes_of rfl rfl rfl rfl) fun _ _ _ _ h => h)))), ?_⟩
    exact ⟨p, dp, _, rfl, hp, p, dp, r, CS, ai, ap, aq, n, I, U, S, rfl, hC, hp, R, W, n0, n1, hl, q, x⟩
theorem ok_StrictPatch_stop {f g cc cda : Addr} {fd gd : FuncData} (Z : SupF P K mg "stop" "StrictPatch.stop" s_StrictPatch_stop f cc cda CS fd) (SM : SupM K CS "stop" g) (FF : FnOk P w K mg base (L2N.CX P w) 4 g gd ["self"] (spStopP CR CP CC CS eR eO)) (bb : Binds K gd ["self"] []) :
    FnOk P w K mg base (L2N.CX P w) 5 f fd ["self"] (spStopK CR eR eO CS 2) := by
  refine fnok_sup Z.F sc_StrictPatch_stop Z.hcc (fun vs H Q E h => ?_) (fun A out s H vs Q E hr h => ?_)
  · obtain ⟨p, dp, r, ai, ap, aq, n, I, U, S, rfl, _⟩ := h
    rfl
  · have h0 := h
    obtain ⟨p, dp, r, ai, ap, aq, n, I, U, S, rfl, hp, _⟩ := h0
    have hK : Kind3 CP CC CS CS 2 := .inr (.inr ⟨rfl, rfl⟩)
    have SC := Z.sc (CX := L2N.CX P w) (w := w) (base := base) (N := N_StrictPatch_stop) (A := A) (out := out) (s := s) (H := H) (E := E) (sf := "self") rfl rfl rfl rfl rfl rfl
    refine ⟨_, (pssa_one (psa_ret (pea_sup0 SC SM FF bb hr (L2N.passes_call (L2N.takes_of rfl rfl rfl rfl) fun _ _ _ _ h => h)))), ?_⟩
    exact ⟨p, dp, _, rfl, hp, CS, 2, hK, h⟩
theorem ok_StrictPatch_described {f g cc cda : Addr} {fd gd : FuncData} (Z : SupF P K mg "described" "StrictPatch.described" s_StrictPatch_described f cc cda CS fd) (SM : SupM K CS "described" g) (FF : FnOk P w K mg base (L2N.CX P w) 1 g gd ["self"] (spDescP CP CC CS)) (bb : Binds K gd ["self"] []) :
    FnOk P w K mg base (L2N.CX P w) 2 f fd ["self"] (spDesc CS 2) := by
  refine fnok_sup Z.F sc_StrictPatch_described Z.hcc (fun vs H Q E h => ?_) (fun A out s H vs Q E hr h => ?_)
  · obtain ⟨p, dp, r, n, rfl, _⟩ := h
    rfl
  · obtain ⟨p, dp, r, n, rfl, hp, hn, q⟩ := h
    have hC : Any3 CP CC CS CS := .inr (.inr rfl)
    have SC := Z.sc (CX := L2N.CX P w) (w := w) (base := base) (N := N_StrictPatch_described) (A := A) (out := out) (s := s) (H := H) (E := E) (sf := "self") rfl rfl rfl rfl rfl rfl
    refine ⟨_, (pssa_one (psa_ret (pea_opl op_cat (pea_sup0 SC SM FF bb hr (L2N.passes_call (L2N.takes_of rfl rfl rfl rfl) fun _ _ _ _ h => h)) (pe_lst (pa_cons pe_str pa_nil))))), ?_⟩
    refine ⟨p, dp, _, rfl, hp, p, dp, r, CS, n, rfl, hC, hp, hn, fun y ny => ?_⟩
    have s1 := same_new (o := .lst [.str (nameP n)]) ny
    have e1 : (upd H y (.lst [.str (nameP n)])) y = some (.lst [.str (nameP n)]) := upd_same
    generalize upd H y (.lst [.str (nameP n)]) = H1 at s1 e1 ⊢
    refine ⟨by show 1 ≤ sizeLine; decide, fun z nz => ?_⟩
    have s2 := same_new (o := .lst [.str "strict"]) nz
    refine ⟨y, z, _, _, rfl, rfl, s2 _ _ e1, upd_same, by show 1 + 1 ≤ sizeLine; decide, fun u nu => ?_⟩
    have nH : H u = none := by
      cases zz : H u with
      | none => rfl
      | some ob => rw [s2 _ _ (s1 _ _ zz)] at nu; cases nu
    exact q u _ ((s1.trans s2).trans (same_new nu)) nH upd_same
end
end L34
set_option Elab.async false
set_option linter.all false
set_option maxRecDepth 100000
namespace L34
open PySem PySem.Spec PyProof.Rows L2 Lp
theorem eqvT {xs ys : List Int} (h : xs = ys) : V.bl (PyData.eqv (dI xs) (dI ys)) = V.bl true := by rw [eqv_ints, decide_eq_true h]
theorem eqvF {xs ys : List Int} (h : ¬ xs = ys) : V.bl (PyData.eqv (dI xs) (dI ys)) = V.bl false := by rw [eqv_ints, decide_eq_false h]
theorem neqT {xs ys : List Int} (h : ¬ xs = ys) : V.bl (!PyData.eqv (dI xs) (dI ys)) = V.bl true := by rw [eqv_ints, decide_eq_false h]; rfl
theorem neqF {xs ys : List Int} (h : xs = ys) : V.bl (!PyData.eqv (dI xs) (dI ys)) = V.bl false := by rw [eqv_ints, decide_eq_true h]; rfl
section
variable {P : Program} {w : World} {K : PySem.W.Frag} {mg : Str → Option Value} {base : Heap}
abbrev T30 : Int := 1000000000000000000000000000000
def spIsInt : Sp := fun vs H Q _ => ∃ i : Int, vs = [.int i] ∧ Q (.bl true) H
theorem ok_is_integer {f : Addr} {fd : FuncData} (F : Fun K "is_integer" "is_integer" s_is_integer f fd) (B : NoB mg) : FnOk P w K mg base CX0 1 f fd ["value"] spIsInt := by
  refine F.ok sc_is_integer (fun vs H Q E h => ?_) (fun cdv A outer s H vs Q E hr h => ?_)
  · obtain ⟨i, rfl, _⟩ := h
    rfl
  · obtain ⟨i, rfl, q⟩ := h
    refine ⟨_, (pss_one (ps_ret (pe_and (pe_callB call_isi (by rfl) B.isinstance (by decide +kernel) (pa_cons (pv 0) (pa_cons (pe_bltn (v := .ty "int") (by rfl) B.int boot_int rfl) pa_nil))) (pe_one (pe_not (pe_callB call_isi (by rfl) B.isinstance (by decide +kernel) (pa_cons (pv 0) (pa_cons (pe_bltn (v := .ty "bool") (by rfl) B.bool boot_bool rfl) pa_nil)))))))), ?_⟩
    refine ⟨_, rfl, _, _, _, _, true, rfl, .ty _, .base (.int i), kit_ty (by decide +kernel), true, rfl, iteT ?_⟩
    exact ⟨_, rfl, _, _, _, _, false, rfl, .ty _, .base (.int i), kit_ty (by decide +kernel), false, rfl, q⟩
def spWithin : Sp := fun vs H Q _ => ∃ i lo hi : Int, vs = [.int i, .int lo, .int hi] ∧ lo ≤ i ∧ i ≤ hi ∧ Q (.bl true) H
theorem ok_is_integer_within {f : Addr} {fd : FuncData} (F : Fun K "is_integer_within" "is_integer_within" s_is_integer_within f fd) (T_is_integer : Cal P w K mg base 1 "is_integer" spIsInt) : FnOk P w K mg base CX0 2 f fd ["value", "least", "greatest"] spWithin := by
  refine F.ok sc_is_integer_within (fun vs H Q E h => ?_) (fun cdv A outer s H vs Q E hr h => ?_)
  · obtain ⟨i, lo, hi, rfl, _⟩ := h
    rfl
  · obtain ⟨i, lo, hi, rfl, h1, h2, q⟩ := h
    refine ⟨_, (pss_one (ps_ret (pe_and (pe_c T_is_integer hr (by decide) (by rfl) (pa_cons (pv 0) pa_nil)) (pe_one (pe_chain op_le op_le (pv 1) (pv 0) (pv 2)))))), ?_⟩
    refine ⟨_, rfl, i, rfl, true, rfl, iteT ?_⟩
    refine ⟨_, rfl, _, rfl, _, _, rfl, rfl, _, rfl, ?_⟩
    rw [decide_eq_true h1]
    refine iteT ⟨_, rfl, _, _, rfl, rfl, ?_⟩
    dsimp only
    rw [decide_eq_true h2]
    exact q
def spCheckN : Sp := fun vs H Q _ => ∃ i lo hi : Int, vs = [.int i, .int lo, .int hi] ∧ lo ≤ i ∧ i ≤ hi ∧ Q .non H
theorem ok_check_number {f : Addr} {fd : FuncData} (F : Fun K "check_number" "check_number" s_check_number f fd) (T_is_integer_within : Cal P w K mg base 2 "is_integer_within" spWithin) : FnOk P w K mg base CX0 3 f fd ["value", "least", "greatest"] spCheckN := by
  refine F.ok sc_check_number (fun vs H Q E h => ?_) (fun cdv A outer s H vs Q E hr h => ?_)
  · obtain ⟨i, lo, hi, rfl, _⟩ := h
    rfl
  · obtain ⟨i, lo, hi, rfl, h1, h2, q⟩ := h
    refine ⟨_, (pss_one (ps_if (pt_not (pt_val (pe_c T_is_integer_within hr (by decide) (by rfl) (pa_cons (pv 0) (pa_cons (pv 1) (pa_cons (pv 2) pa_nil)))))) (pss_one ps_never) pss_nil)), ?_⟩
    exact ⟨_, rfl, _, rfl, _, rfl, i, lo, hi, rfl, h1, h2, _, rfl, iteF q⟩
/-- an integer that may be set -/
def Ok30 (i : Int) : Prop := -T30 ≤ i ∧ i ≤ T30
def spSettable : Sp := fun vs H Q _ => ∃ i : Int, vs = [.int i] ∧ Ok30 i ∧ Q .non H
theorem ok_check_settable {f : Addr} {fd : FuncData} (F : Fun K "check_settable" "check_settable" s_check_settable f fd) {t1 : Tok} (T_g_FARTHEST : mg "FARTHEST" = some (.int T30 t1)) (T_check_number : Cal P w K mg base 3 "check_number" spCheckN) : FnOk P w K mg base CX0 4 f fd ["value"] spSettable := by
  refine F.ok sc_check_settable (fun vs H Q E h => ?_) (fun cdv A outer s H vs Q E hr h => ?_)
  · obtain ⟨i, rfl, _⟩ := h
    rfl
  · obtain ⟨i, rfl, ⟨h1, h2⟩, q⟩ := h
    refine ⟨_, (pss_one (ps_expr (pe_c T_check_number hr (by decide) (by rfl) (pa_cons (pv 0) (pa_cons (pe_un un_neg (pe_glob (v := .int 1000000000000000000000000000000) (by rfl) T_g_FARTHEST ⟨_, rfl⟩)) (pa_cons (pe_glob (v := .int 1000000000000000000000000000000) (by rfl) T_g_FARTHEST ⟨_, rfl⟩) pa_nil)))))), ?_⟩
    exact ⟨_, rfl, _, rfl, i, -T30, T30, rfl, h1, h2, q⟩
end
/-! ### settings -/
structure SetAt (CG : Addr) (H : Hp) (g r al : Addr) (ps : List Addr) : Prop where
  g : ∃ dg, H g = some (.ins CG dg (fG r al))
  l : H al = some (.lst (ps.map .ref))
theorem SetAt.same {CG : Addr} {H H' : Hp} {g r al : Addr} {ps : List Addr} (h : SetAt CG H g r al ps) (s : Same H H') : SetAt CG H' g r al ps := by
  obtain ⟨⟨dg, e⟩, b⟩ := h
  exact ⟨⟨dg, s _ _ e⟩, s _ _ b⟩
theorem Rec.upd {CR : Addr} {H : Hp} {r ai ap aq x : Addr} {I P S : List Int} {o : HO} (h : Rec CR H r ai ap aq I P S) (n1 : x ≠ r) (n2 : x ≠ ai) (n3 : x ≠ ap) (n4 : x ≠ aq) : Rec CR (upd H x o) r ai ap aq I P S := by
  obtain ⟨⟨dr, e⟩, b, c, d, z, z1, z2⟩ := h
  exact ⟨⟨dr, by rw [upd_ne n1.symm]; exact e⟩, by rw [upd_ne n2.symm]; exact b, by rw [upd_ne n3.symm]; exact c, by rw [upd_ne n4.symm]; exact d, z, z1, z2⟩
theorem Rec.more {CR : Addr} {H : Hp} {r ai ap aq : Addr} {I I' P S : List Int} (h : Rec CR H r ai ap aq I P S) : Rec CR (L2.upd H ai (.lst (I'.map .int))) r ai ap aq I' P S := by
  obtain ⟨⟨dr, hR⟩, hi, hp, hq, ip, iq, pq⟩ := h
  have ri : r ≠ ai := fun z => by rw [z, hi] at hR; cases hR
  exact ⟨⟨dr, by rw [upd_ne ri]; exact hR⟩, upd_same, by rw [upd_ne ip.symm]; exact hp, by rw [upd_ne iq.symm]; exact hq, ip, iq, pq⟩
section
variable {P : Program} {w : World} {K : PySem.W.Frag} {mg : Str → Option Value} {base : Heap} {CR CP CC CS CG eF eE : Addr}
def spGInit (CR CG : Addr) : Sp := fun vs H Q _ => ∃ (g dg : Addr) (i : Int), vs = [.ref g, .int i] ∧ Ok30 i ∧ H g = some (.ins CG dg []) ∧
  ∀ r ai ap aq al H', SetAt CG H' g r al [] → Rec CR H' r ai ap aq [i] [] [0] → Bt g H H' → H r = none → H ai = none → H ap = none → H aq = none → H al = none → al ≠ ai → al ≠ ap → al ≠ aq → Q .non H'
theorem ok_Setting_init {f : Addr} {fd : FuncData} (F : FunD K "__init__" "Setting.__init__" (defArgs s_Setting_init) (defBody s_Setting_init) (defScope s_Setting_init) [.int 0] [] f fd) (T : TxtL K CR CP CC CS CG) (T_check_settable : CalN P w K mg base 4 "check_settable" spSettable) (T_mk_Record : Mak P w K mg base 1 "Record" CR (spRInit K CR)) :
    FnOk P w K mg base (L2N.CX P w) 5 f fd ["self", "original"] (spGInit CR CG) := by
  refine FunD.ok F sc_Setting_init (fun vs H Q E h => ?_) (fun cdv A outer s H vs Q E hr h => ?_)
  · obtain ⟨g, dg, i, rfl, _⟩ := h
    rfl
  · obtain ⟨g, dg, i, rfl, hi, hg, q⟩ := h
    refine ⟨_, (pss_cons (ps_expr (pe_cn T_check_settable hr (by decide) (L2N.takes_of rfl rfl rfl rfl) (by rfl) (pa_cons (pv 1) pa_nil)))
        (pss_cons (ps_fld (pv 0) (pe_mk T_mk_Record hr (by decide) (by rfl) (pa_cons (pe_lst (pa_cons (pv 1) pa_nil)) (pa_cons (pe_lst pa_nil) (pa_cons (pe_lst (pa_cons pe_int pa_nil)) pa_nil)))) rfl)
        (pss_one (ps_fld (pv 0) (pe_lst pa_nil) rfl)))), ?_⟩
    refine ⟨_, rfl, i, rfl, hi, ?_⟩
    refine ⟨_, rfl, by show 1 ≤ sizeLine; decide, fun a na => ?_⟩
    have s1 := same_new (o := .lst [.int i]) na
    have a1 : (upd H a (.lst [.int i])) a = some (.lst ([i].map .int)) := upd_same
    generalize upd H a (.lst [.int i]) = H1 at s1 a1 ⊢
    refine ⟨Nat.zero_le _, fun b nb => ?_⟩
    have s2 := s1.trans (same_new (o := .lst []) nb)
    have a2 := same_new (o := .lst []) nb _ _ a1
    have b2 : (upd H1 b (.lst [])) b = some (.lst (([] : List Int).map .int)) := upd_same
    generalize upd H1 b (.lst []) = H2 at s2 a2 b2 ⊢
    refine ⟨by show 1 ≤ sizeLine; decide, fun c nc => ?_⟩
    have s3 := s2.trans (same_new (o := .lst [.int 0]) nc)
    have a3 := same_new (o := .lst [.int 0]) nc _ _ a2
    have b3 := same_new (o := .lst [.int 0]) nc _ _ b2
    have c3 : (upd H2 c (.lst [.int 0])) c = some (.lst (([0] : List Int).map .int)) := upd_same
    generalize upd H2 c (.lst [.int 0]) = H3 at s3 a3 b3 c3 ⊢
    intro r dr nr ndr ne
    have s4 := s3.trans (same_new (o := .own r) ndr)
    have nr4 : (upd H3 dr (.own r)) r = none := by rw [upd_ne ne.symm]; exact nr
    have s5 := s4.trans (same_new (o := .ins CR dr []) nr4)
    have t5 : Same H3 (upd (upd H3 dr (.own r)) r (.ins CR dr [])) := (same_new ndr).trans (same_new nr4)
    have r5 : (upd (upd H3 dr (.own r)) r (.ins CR dr [])) r = some (.ins CR dr []) := upd_same
    have nrH : H r = none := s3.free nr
    generalize upd (upd H3 dr (.own r)) r (.ins CR dr []) = H5 at s5 t5 r5 ⊢
    refine ⟨r, dr, a, b, c, [i], [], [0], rfl, r5, t5 _ _ a3, t5 _ _ b3, t5 _ _ c3, by show 1 ≤ 1000; decide, Nat.zero_le _, by show 1 ≤ 2000; decide, fun ai ap aq H6 R B6 n1 n2 n3 => ⟨rfl, ?_⟩⟩
    have gr : g ≠ r := fun z => by rw [z, nrH] at hg; cases hg
    have B7 : Same H H6 := fun y o e => B6 y o (fun z => by rw [z, nrH] at e; cases e) (s5 _ _ e)
    have hg6 := B7 _ _ hg
    refine ⟨_, rfl, g, CG, dg, _, rfl, hg6, T.cG, T.nG1, (by show 0 < 1000; decide), ?_⟩
    have ng : ∀ {z : Addr}, H z = none → g ≠ z := fun {z} n e => by rw [e, n] at hg; cases hg
    have R7 : Rec CR (upd H6 g (.ins CG dg (putF "_record" (.ref r) []))) r ai ap aq [i] [] [0] := R.upd gr (ng (s5.free n1)) (ng (s5.free n2)) (ng (s5.free n3))
    have g7 : (upd H6 g (.ins CG dg (putF "_record" (.ref r) []))) g = some (.ins CG dg (putF "_record" (.ref r) [])) := upd_same
    have B8 : Bt g H (upd H6 g (.ins CG dg (putF "_record" (.ref r) []))) := (Bt.of B7).trans (.at_ _ _ _)
    generalize upd H6 g (.ins CG dg (putF "_record" (.ref r) [])) = H7 at R7 g7 B8 ⊢
    refine ⟨Nat.zero_le _, fun al nal => ?_⟩
    have s8 := same_new (o := .lst []) nal
    have l8 : (upd H7 al (.lst [])) al = some (.lst (([] : List Addr).map .ref)) := upd_same
    have gl : g ≠ al := fun z => by rw [← z, g7] at nal; cases nal
    have nalH : H al = none := by
      cases z : H al with
      | none => rfl
      | some o => rw [B8 _ _ (fun e => gl e.symm) z] at nal; cases nal
    have la : al ≠ ai := fun z => by rw [z, R7.i] at nal; cases nal
    have lp : al ≠ ap := fun z => by rw [z, R7.p] at nal; cases nal
    have lq : al ≠ aq := fun z => by rw [z, R7.q] at nal; cases nal
    have R8 := R7.same s8
    have g8 := s8 _ _ g7
    have B9 := B8.trans (.of s8)
    generalize upd H7 al (.lst []) = H8 at R8 l8 g8 B9 ⊢
    refine ⟨_, rfl, g, CG, dg, _, rfl, g8, T.cG, T.nG2, (by show 1 < 1000; decide), ?_⟩
    rw [fG_new]
    have al_g : al ≠ g := fun z => gl z.symm
    exact q r ai ap aq al _ ⟨⟨dg, upd_same⟩, by rw [upd_ne al_g]; exact l8⟩ (R8.upd gr (ng (s5.free n1)) (ng (s5.free n2)) (ng (s5.free n3))) (B9.trans (.at_ _ _ _)) nrH (s5.free n1) (s5.free n2) (s5.free n3) nalH la lp lq
/-! ### what a setting tells -/
def spGInt (CR CG : Addr) : Sp := fun vs H Q _ => ∃ (g r al ai ap aq : Addr) (ps : List Addr) (I U S : List Int), vs = [.ref g] ∧ SetAt CG H g r al ps ∧ Rec CR H r ai ap aq I U S ∧ Wf I U S ∧ Q (.int (vI I (lastI S))) H
theorem ok_Setting_integer {f : Addr} {fd : FuncData} (F : Fun K "integer" "Setting.integer" s_Setting_integer f fd) (T : TxtL K CR CP CC CS CG) (T_Record_integer_now : MetV P w K mg base 1 (Is CR) "integer_now" (spNow CR)) : FnOk P w K mg base (L2N.CX P w) 2 f fd ["self"] (spGInt CR CG) := by
  refine F.okN sc_Setting_integer (fun vs H Q E h => ?_) (fun cdv A outer s H vs Q E hr h => ?_)
  · obtain ⟨g, r, al, ai, ap, aq, ps, I, U, S, rfl, _⟩ := h
    rfl
  · obtain ⟨g, r, al, ai, ap, aq, ps, I, U, S, rfl, ⟨⟨dg, hg⟩, hl⟩, R, W, q⟩ := h
    obtain ⟨dr, hR⟩ := R.ins
    refine ⟨_, (pss_one (ps_ret (pe_mV0 T_Record_integer_now hr (by decide) (L2N.takes_of rfl rfl rfl rfl) (pe_fld (pv 0) rfl)))), ?_⟩
    exact ⟨_, rfl, g, CG, dg, _, _, rfl, hg, T.cG, T.nG1, lg1 _ _, r, CR, dr, _, rfl, rfl, hR, lkR _ _ _ (by decide +kernel), r, ai, ap, aq, I, U, S, rfl, R, W, q⟩
def spGPres (CR CG : Addr) : Sp := fun vs H Q _ => ∃ (g r al ai ap aq : Addr) (ps : List Addr) (I U S : List Int), vs = [.ref g] ∧ SetAt CG H g r al ps ∧ Rec CR H r ai ap aq I U S ∧ Wf I U S ∧ Q (.int (lastI S)) H
theorem ok_Setting_present {f : Addr} {fd : FuncData} (F : Fun K "present" "Setting.present" s_Setting_present f fd) (T : TxtL K CR CP CC CS CG) : FnOk P w K mg base (L2N.CX P w) 1 f fd ["self"] (spGPres CR CG) := by
  refine F.okN sc_Setting_present (fun vs H Q E h => ?_) (fun cdv A outer s H vs Q E hr h => ?_)
  · obtain ⟨g, r, al, ai, ap, aq, ps, I, U, S, rfl, _⟩ := h
    rfl
  · obtain ⟨g, r, al, ai, ap, aq, ps, I, U, S, rfl, ⟨⟨dg, hg⟩, hl⟩, R, W, q⟩ := h
    obtain ⟨dr, hR⟩ := R.ins
    refine ⟨_, (pss_one (ps_ret (pe_ix ix_list (pe_fld (pe_fld (pv 0) rfl) rfl) (pe_un un_neg pe_int) (fun _ _ => rfl)))), ?_⟩
    exact ⟨_, rfl, g, CG, dg, _, _, rfl, hg, T.cG, T.nG1, lg1 _ _, r, CR, dr, _, _, rfl, hR, T.cR, T.nR3, lk3 _ _ _, _, rfl, aq, _, _, _, rfl, rfl, .of R.q, atI_lastI W.ne, q⟩
def spGOrig (CR CG : Addr) : Sp := fun vs H Q _ => ∃ (g r al ai ap aq : Addr) (ps : List Addr) (I U S : List Int), vs = [.ref g] ∧ SetAt CG H g r al ps ∧ Rec CR H r ai ap aq I U S ∧ Wf I U S ∧ Q (.bl (decide (lastI S = 0))) H
theorem ok_Setting_original {f : Addr} {fd : FuncData} (F : Fun K "original" "Setting.original" s_Setting_original f fd) (T : TxtL K CR CP CC CS CG) : FnOk P w K mg base (L2N.CX P w) 1 f fd ["self"] (spGOrig CR CG) := by
  refine F.okN sc_Setting_original (fun vs H Q E h => ?_) (fun cdv A outer s H vs Q E hr h => ?_)
  · obtain ⟨g, r, al, ai, ap, aq, ps, I, U, S, rfl, _⟩ := h
    rfl
  · obtain ⟨g, r, al, ai, ap, aq, ps, I, U, S, rfl, ⟨⟨dg, hg⟩, hl⟩, R, W, q⟩ := h
    obtain ⟨dr, hR⟩ := R.ins
    refine ⟨_, (pss_one (ps_ret (pe_cmpR op_eq (pe_ix ix_list (pe_fld (pe_fld (pv 0) rfl) rfl) (pe_un un_neg pe_int) (fun _ _ => rfl)) pe_int (nomark _)))), ?_⟩
    refine ⟨_, rfl, g, CG, dg, _, _, rfl, hg, T.cG, T.nG1, lg1 _ _, r, CR, dr, _, _, rfl, hR, T.cR, T.nR3, lk3 _ _ _, _, rfl, aq, _, _, _, rfl, rfl, .of R.q, atI_lastI W.ne, rfl, ?_⟩
    have e : decide (V.int (lastI S) = V.int 0) = decide (lastI S = 0) := decide_eq_decide.mpr ⟨fun z => V.int.inj z, fun z => congrArg V.int z⟩
    show Q (.bl (decide (V.int (lastI S) = V.int 0))) H
    rw [e]
    exact q
def spGEvents (CR CG : Addr) : Sp := fun vs H Q _ => ∃ (g r al ai ap aq : Addr) (ps : List Addr) (I U S : List Int), vs = [.ref g] ∧ SetAt CG H g r al ps ∧ Rec CR H r ai ap aq I U S ∧ ∀ q, H q = none → Q (.ref q) (upd H q (.lst (U.map .int)))
theorem ok_Setting_events {f : Addr} {fd : FuncData} (F : Fun K "events" "Setting.events" s_Setting_events f fd) (B : NoB mg) (T : TxtL K CR CP CC CS CG) : FnOk P w K mg base (L2N.CX P w) 1 f fd ["self"] (spGEvents CR CG) := by
  refine F.okN sc_Setting_events (fun vs H Q E h => ?_) (fun cdv A outer s H vs Q E hr h => ?_)
  · obtain ⟨g, r, al, ai, ap, aq, ps, I, U, S, rfl, _⟩ := h
    rfl
  · obtain ⟨g, r, al, ai, ap, aq, ps, I, U, S, rfl, ⟨⟨dg, hg⟩, hl⟩, R, q⟩ := h
    obtain ⟨dr, hR⟩ := R.ins
    refine ⟨_, (pss_one (ps_ret (pe_callTy call_list_of (by rfl) B.list (by decide +kernel) (pa_cons (pe_fld (pe_fld (pv 0) rfl) rfl) pa_nil)))), ?_⟩
    exact ⟨_, rfl, g, CG, dg, _, _, rfl, hg, T.cG, T.nG1, lg1 _ _, r, CR, dr, _, _, rfl, hR, T.cR, T.nR2, lk2 _ _ _, ap, _, rfl, .inl (.of R.p), fun y ny => q y ny⟩
def spGLen (CR CG : Addr) : Sp := fun vs H Q _ => ∃ (g r al ai ap aq : Addr) (ps : List Addr) (I U S : List Int), vs = [.ref g] ∧ SetAt CG H g r al ps ∧ Rec CR H r ai ap aq I U S ∧ Q (.int ((U.length : Nat) : Int)) H
theorem ok_Setting_len {f : Addr} {fd : FuncData} (F : Fun K "__len__" "Setting.__len__" s_Setting_len f fd) (B : NoB mg) (T : TxtL K CR CP CC CS CG) : FnOk P w K mg base CX0 1 f fd ["self"] (spGLen CR CG) := by
  refine F.ok sc_Setting_len (fun vs H Q E h => ?_) (fun cdv A outer s H vs Q E hr h => ?_)
  · obtain ⟨g, r, al, ai, ap, aq, ps, I, U, S, rfl, _⟩ := h
    rfl
  · obtain ⟨g, r, al, ai, ap, aq, ps, I, U, S, rfl, ⟨⟨dg, hg⟩, hl⟩, R, q⟩ := h
    obtain ⟨dr, hR⟩ := R.ins
    refine ⟨_, (pss_one (ps_ret (pe_callB call_len_seq (by rfl) B.len PySem.boot_len (pa_cons (pe_fld (pe_fld (pv 0) rfl) rfl) pa_nil)))), ?_⟩
    refine ⟨_, rfl, g, CG, dg, _, _, rfl, hg, T.cG, T.nG1, lg1 _ _, r, CR, dr, _, _, rfl, hR, T.cR, T.nR2, lk2 _ _ _, ap, _, rfl, .inl (.of R.p), ?_⟩
    rw [List.length_map]
    exact q
theorem lenG {H : Hp} {g r al ai ap aq : Addr} {ps : List Addr} {I U S : List Int} {Q : VK} (G : SetAt CG H g r al ps) (R : Rec CR H r ai ap aq I U S) (l : U.length ≤ 1000) (q : Q (.int ((U.length : Nat) : Int)) H) : rLenO CG (spGLen CR CG) [.ref g] H Q := by
  obtain ⟨dg, hg⟩ := G.g
  exact ⟨g, dg, _, rfl, hg, g, r, al, ai, ap, aq, ps, I, U, S, rfl, G, R, _, rfl, by omega, by omega, q⟩
/-! ### patches made -/
def spEnlist (CR CG eF : Addr) : Sp := fun vs H Q E => ∃ (g r al ai ap aq : Addr) (ps : List Addr) (I U S : List Int) (i : Int), vs = [.ref g, .int i] ∧ SetAt CG H g r al ps ∧ Rec CR H r ai ap aq I U S ∧ Ok30 i ∧ I.length ≤ 1000 ∧ ps.length ≤ 100 ∧ al ≠ ai ∧
  (ps.length < 100 → Q (.int ((ps.length : Int) + 1)) (upd H ai (.lst ((I ++ [i]).map .int)))) ∧ (ps.length = 100 → E (.ref eF) none H)
theorem ok_Setting_enlist {f : Addr} {fd : FuncData} (F : Fun K "_enlist" "Setting._enlist" s_Setting_enlist f fd) (B : NoB mg) (T : TxtL K CR CP CC CS CG) (RF : Er K mg "FullError" eF) (T_c_Setting : mg "Setting" = some (.ref CG)) {mc u : Value} (cr : ClX.CRead K CG mc) (cv : ClX.CVal K CG mc "MOST" (.int 100) u) (T_check_settable : CalN P w K mg base 4 "check_settable" spSettable) :
    FnOk P w K mg base (L2N.CX P w) 5 f fd ["self", "integer"] (spEnlist CR CG eF) := by
  refine F.okN sc_Setting_enlist (fun vs H Q E h => ?_) (fun cdv A outer s H vs Q E hr h => ?_)
  · obtain ⟨g, r, al, ai, ap, aq, ps, I, U, S, i, rfl, _⟩ := h
    rfl
  · obtain ⟨g, r, al, ai, ap, aq, ps, I, U, S, i, rfl, ⟨⟨dg, hg⟩, hl⟩, R, hi, li, lp, la, q, x⟩ := h
    obtain ⟨dr, hR⟩ := R.ins
    refine ⟨_, (pss_cons (ps_expr (pe_cn T_check_settable hr (by decide) (L2N.takes_of rfl rfl rfl rfl) (by rfl) (pa_cons (pv 1) pa_nil)))
        (pss_cons (ps_if (pt_cmpR op_eq (pe_callB call_len_seq (by rfl) B.len PySem.boot_len (pa_cons (pe_fld (pv 0) rfl) pa_nil)) (ClX.pe_cval (pe_glob (v := .ref CG) (by rfl) T_c_Setting rfl)) (nomark _)) (pss_one (L2N.ps_raise rfl (L2N.takes_of rfl rfl rfl rfl) (L2N.pmk_own PySem.F.excBase_ValueError RF.x RF.c RF.k (raises_own RF.b RF.t) rfl))) pss_nil)
        (pss_cons (ps_expr (pe_bm PySem.F.plainAttrs_list PySem.F.slot_list_append PySem.F.type_list_append mt_append (pe_fld (pe_fld (pv 0) rfl) rfl) (pa_cons (pv 1) pa_nil)))
        (pss_one (ps_ret (pe_op op_add (pe_callB call_len_seq (by rfl) B.len PySem.boot_len (pa_cons (pe_fld (pv 0) rfl) pa_nil)) pe_int)))))), ?_⟩
    refine ⟨_, rfl, i, rfl, hi, ?_⟩
    refine ⟨_, rfl, g, CG, dg, _, _, rfl, hg, T.cG, T.nG2, lg2 _ _, al, _, rfl, .inl (.of hl), CG, mc, _, u, rfl, cr, cv, rfl, decide (ps.length = 100), ?_, ?_⟩
    · rw [List.length_map]
      exact congrArg V.bl (decide_eq_decide.mpr ⟨fun z => by have := V.int.inj z; omega, fun z => by rw [z]; rfl⟩)
    · by_cases e : ps.length = 100
      · rw [decide_eq_true e]
        exact iteT (x e)
      · rw [decide_eq_false e]
        refine iteF ?_
        refine ⟨_, rfl, g, CG, dg, _, _, rfl, hg, T.cG, T.nG1, lg1 _ _, r, CR, dr, _, _, rfl, hR, T.cR, T.nR1, lk1 _ _ _, .inl ⟨rfl, _, .of R.i⟩, _, rfl, ai, _, _, rfl, rfl, R.i, zl (by rw [List.length_map]; omega), ?_⟩
        rw [snocI]
        have gi : g ≠ ai := fun z => by rw [z, R.i] at hg; cases hg
        have q2 := q (by omega)
        refine ⟨_, rfl, g, CG, dg, _, _, rfl, by rw [upd_ne gi]; exact hg, T.cG, T.nG2, lg2 _ _, al, _, rfl, .inl (.of (by rw [upd_ne la]; exact hl)), _, _, rfl, rfl, ?_⟩
        rw [List.length_map]
        exact q2
def spKeep (CG : Addr) : Sp := fun vs H Q _ => ∃ (g r al p : Addr) (ps : List Addr), vs = [.ref g, .ref p] ∧ SetAt CG H g r al ps ∧ ps.length ≤ 1000 ∧ Q (.ref p) (upd H al (.lst ((ps ++ [p]).map .ref)))
theorem ok_Setting_keep {f : Addr} {fd : FuncData} (F : Fun K "_keep" "Setting._keep" s_Setting_keep f fd) (T : TxtL K CR CP CC CS CG) : FnOk P w K mg base (L2N.CX P w) 1 f fd ["self", "patch"] (spKeep CG) := by
  refine F.okN sc_Setting_keep (fun vs H Q E h => ?_) (fun cdv A outer s H vs Q E hr h => ?_)
  · obtain ⟨g, r, al, p, ps, rfl, _⟩ := h
    rfl
  · obtain ⟨g, r, al, p, ps, rfl, ⟨⟨dg, hg⟩, hl⟩, lp, q⟩ := h
    refine ⟨_, (pss_cons (ps_expr (pe_bm PySem.F.plainAttrs_list PySem.F.slot_list_append PySem.F.type_list_append mt_append (pe_fld (pv 0) rfl) (pa_cons (pv 1) pa_nil)))
        (pss_one (ps_ret (pv 1)))), ?_⟩
    refine ⟨_, rfl, g, CG, dg, _, _, rfl, hg, T.cG, T.nG2, lg2 _ _, .inl ⟨rfl, _, .of hl⟩, _, rfl, al, _, _, rfl, rfl, hl, zl (by rw [List.length_map]; omega), ?_⟩
    have e : ps.map V.ref ++ [V.ref p] = (ps ++ [p]).map V.ref := by rw [List.map_append]; rfl
    rw [e]
    exact ⟨_, rfl, q⟩
/-- a patch is made; by the class C -/
def spMake (CR CG eF C : Addr) : Sp := fun vs H Q E => ∃ (g r al ai ap aq : Addr) (ps : List Addr) (I U S : List Int) (i : Int), vs = [.ref g, .int i] ∧ SetAt CG H g r al ps ∧ Rec CR H r ai ap aq I U S ∧ Ok30 i ∧ I.length ≤ 1000 ∧ ps.length ≤ 100 ∧ al ≠ ai ∧ al ≠ ap ∧ al ≠ aq ∧
  (ps.length < 100 → ∀ p dp H', H p = none → H' p = some (.ins C dp (fP r ((ps.length : Int) + 1))) → SetAt CG H' g r al (ps ++ [p]) → Rec CR H' r ai ap aq (I ++ [i]) U S → (∀ b o, b ≠ ai → b ≠ al → H b = some o → H' b = some o) → Q (.ref p) H') ∧ (ps.length = 100 → E (.ref eF) none H)
theorem ok_Setting_patch {f : Addr} {fd : FuncData} (F : Fun K "patch" "Setting.patch" s_Setting_patch f fd) (T : TxtL K CR CP CC CS CG) (T_mk_Patch : Mak P w K mg base 1 "Patch" CP (spPInit CP CC CS)) (T_Setting_enlist : MetV P w K mg base 5 (Is CG) "_enlist" (spEnlist CR CG eF)) (T_Setting_keep : MetV P w K mg base 1 (Is CG) "_keep" (spKeep CG)) :
    FnOk P w K mg base (L2N.CX P w) 6 f fd ["self", "number"] (spMake CR CG eF CP) := by
  refine F.okN sc_Setting_patch (fun vs H Q E h => ?_) (fun cdv A outer s H vs Q E hr h => ?_)
  · obtain ⟨g, r, al, ai, ap, aq, ps, I, U, S, i, rfl, _⟩ := h
    rfl
  · obtain ⟨g, r, al, ai, ap, aq, ps, I, U, S, i, rfl, G, R, hi, li, lp, la, lb, lc, q, x⟩ := h
    obtain ⟨dg, hg⟩ := G.g
    have hC : Any3 CP CC CS CP := .inl rfl
    refine ⟨_, (pss_one (ps_ret (pe_mV T_Setting_keep hr (by decide) (L2N.takes_of rfl rfl rfl rfl) (pv 0) (pa_cons (pe_mk T_mk_Patch hr (by decide) (by rfl) (pa_cons (pe_fld (pv 0) rfl) (pa_cons (pe_mV T_Setting_enlist hr (by decide) (L2N.takes_of rfl rfl rfl rfl) (pv 0) (pa_cons (pv 1) pa_nil)) pa_nil))) pa_nil)))), ?_⟩
    refine ⟨_, rfl, g, CG, dg, _, rfl, rfl, hg, lkG _ _ (by decide +kernel), _, rfl, g, CG, dg, _, _, rfl, hg, T.cG, T.nG1, lg1 _ _, _, rfl, g, CG, dg, _, rfl, rfl, hg, lkG _ _ (by decide +kernel), _, rfl, g, r, al, ai, ap, aq, ps, I, U, S, i, rfl, G, R, hi, li, lp, la, fun l => ?_, x⟩
    have gi : g ≠ ai := fun z => by rw [z, R.i] at hg; cases hg
    have R1 : Rec CR (upd H ai (.lst ((I ++ [i]).map .int))) r ai ap aq (I ++ [i]) U S := R.more
    have G1 : SetAt CG (upd H ai (.lst ((I ++ [i]).map .int))) g r al ps := ⟨⟨dg, by rw [upd_ne gi]; exact hg⟩, by rw [upd_ne la]; exact G.l⟩
    have k1 : ∀ b o, b ≠ ai → H b = some o → (upd H ai (.lst ((I ++ [i]).map .int))) b = some o := fun b o n e => by rw [upd_ne n]; exact e
    have fr : ∀ b, (upd H ai (.lst ((I ++ [i]).map .int))) b = none → H b = none := fun b e => by
      by_cases z : b = ai
      · rw [z, upd_same] at e; cases e
      · rw [upd_ne z] at e; exact e
    generalize upd H ai (.lst ((I ++ [i]).map .int)) = H1 at R1 G1 k1 fr ⊢
    intro p dp np ndp ne
    have s1 : Same H1 (upd (upd H1 dp (.own p)) p (.ins CP dp [])) := (same_new ndp).trans (same_new (by rw [upd_ne ne.symm]; exact np))
    have p1 : (upd (upd H1 dp (.own p)) p (.ins CP dp [])) p = some (.ins CP dp []) := upd_same
    have R2 := R1.same s1
    have G2 := G1.same s1
    generalize upd (upd H1 dp (.own p)) p (.ins CP dp []) = H2 at s1 p1 R2 G2 ⊢
    refine ⟨p, dp, r, CP, _, rfl, hC, p1, rfl, ?_⟩
    have pn : ∀ {z : Addr} {o : HO}, H1 z = some o → z ≠ p := fun {z o} e n => by rw [n, np] at e; cases e
    obtain ⟨dg1, hg1⟩ := G1.g
    obtain ⟨dr1, hr1⟩ := R1.ins
    have s2 : Same H1 (upd H2 p (.ins CP dp (fP r ((ps.length : Int) + 1)))) := fun b o e => by rw [upd_ne (pn e)]; exact s1 _ _ e
    have p2 : (upd H2 p (.ins CP dp (fP r ((ps.length : Int) + 1)))) p = some (.ins CP dp (fP r ((ps.length : Int) + 1))) := upd_same
    generalize upd H2 p (.ins CP dp (fP r ((ps.length : Int) + 1))) = H3 at s2 p2 ⊢
    refine ⟨g, r, al, p, ps, rfl, G1.same s2, by omega, ?_⟩
    have lpn : al ≠ p := pn G1.l
    have R3 := (R1.same s2).upd (o := .lst ((ps ++ [p]).map .ref)) (x := al) (fun z => by have := G1.l; rw [z, hr1] at this; cases this) la lb lc
    have gl : g ≠ al := fun z => by have := G1.l; rw [← z, hg1] at this; cases this
    exact q l p dp _ (fr p np) (by rw [upd_ne lpn.symm]; exact p2) ⟨⟨dg1, by rw [upd_ne gl]; exact s2 _ _ hg1⟩, upd_same⟩ R3 fun b o n1 n2 e => by rw [upd_ne n2]; exact s2 _ _ (k1 b o n1 e)
theorem ok_Setting_careful {f : Addr} {fd : FuncData} (F : Fun K "careful" "Setting.careful" s_Setting_careful f fd) (T : TxtL K CR CP CC CS CG) (T_mk_CarefulPatch : Mak P w K mg base 1 "CarefulPatch" CC (spPInit CP CC CS)) (T_Setting_enlist : MetV P w K mg base 5 (Is CG) "_enlist" (spEnlist CR CG eF)) (T_Setting_keep : MetV P w K mg base 1 (Is CG) "_keep" (spKeep CG)) :
    FnOk P w K mg base (L2N.CX P w) 6 f fd ["self", "number"] (spMake CR CG eF CC) := by
  refine F.okN sc_Setting_careful (fun vs H Q E h => ?_) (fun cdv A outer s H vs Q E hr h => ?_)
  · obtain ⟨g, r, al, ai, ap, aq, ps, I, U, S, i, rfl, _⟩ := h
    rfl
  · obtain ⟨g, r, al, ai, ap, aq, ps, I, U, S, i, rfl, G, R, hi, li, lp, la, lb, lc, q, x⟩ := h
    obtain ⟨dg, hg⟩ := G.g
    have hC : Any3 CP CC CS CC := .inr (.inl rfl)
    refine ⟨_, (pss_one (ps_ret (pe_mV T_Setting_keep hr (by decide) (L2N.takes_of rfl rfl rfl rfl) (pv 0) (pa_cons (pe_mk T_mk_CarefulPatch hr (by decide) (by rfl) (pa_cons (pe_fld (pv 0) rfl) (pa_cons (pe_mV T_Setting_enlist hr (by decide) (L2N.takes_of rfl rfl rfl rfl) (pv 0) (pa_cons (pv 1) pa_nil)) pa_nil))) pa_nil)))), ?_⟩
    refine ⟨_, rfl, g, CG, dg, _, rfl, rfl, hg, lkG _ _ (by decide +kernel), _, rfl, g, CG, dg, _, _, rfl, hg, T.cG, T.nG1, lg1 _ _, _, rfl, g, CG, dg, _, rfl, rfl, hg, lkG _ _ (by decide +kernel), _, rfl, g, r, al, ai, ap, aq, ps, I, U, S, i, rfl, G, R, hi, li, lp, la, fun l => ?_, x⟩
    have gi : g ≠ ai := fun z => by rw [z, R.i] at hg; cases hg
    have R1 : Rec CR (upd H ai (.lst ((I ++ [i]).map .int))) r ai ap aq (I ++ [i]) U S := R.more
    have G1 : SetAt CG (upd H ai (.lst ((I ++ [i]).map .int))) g r al ps := ⟨⟨dg, by rw [upd_ne gi]; exact hg⟩, by rw [upd_ne la]; exact G.l⟩
    have k1 : ∀ b o, b ≠ ai → H b = some o → (upd H ai (.lst ((I ++ [i]).map .int))) b = some o := fun b o n e => by rw [upd_ne n]; exact e
    have fr : ∀ b, (upd H ai (.lst ((I ++ [i]).map .int))) b = none → H b = none := fun b e => by
      by_cases z : b = ai
      · rw [z, upd_same] at e; cases e
      · rw [upd_ne z] at e; exact e
    generalize upd H ai (.lst ((I ++ [i]).map .int)) = H1 at R1 G1 k1 fr ⊢
    intro p dp np ndp ne
    have s1 : Same H1 (upd (upd H1 dp (.own p)) p (.ins CC dp [])) := (same_new ndp).trans (same_new (by rw [upd_ne ne.symm]; exact np))
    have p1 : (upd (upd H1 dp (.own p)) p (.ins CC dp [])) p = some (.ins CC dp []) := upd_same
    have R2 := R1.same s1
    have G2 := G1.same s1
    generalize upd (upd H1 dp (.own p)) p (.ins CC dp []) = H2 at s1 p1 R2 G2 ⊢
    refine ⟨p, dp, r, CC, _, rfl, hC, p1, rfl, ?_⟩
    have pn : ∀ {z : Addr} {o : HO}, H1 z = some o → z ≠ p := fun {z o} e n => by rw [n, np] at e; cases e
    obtain ⟨dg1, hg1⟩ := G1.g
    obtain ⟨dr1, hr1⟩ := R1.ins
    have s2 : Same H1 (upd H2 p (.ins CC dp (fP r ((ps.length : Int) + 1)))) := fun b o e => by rw [upd_ne (pn e)]; exact s1 _ _ e
    have p2 : (upd H2 p (.ins CC dp (fP r ((ps.length : Int) + 1)))) p = some (.ins CC dp (fP r ((ps.length : Int) + 1))) := upd_same
    generalize upd H2 p (.ins CC dp (fP r ((ps.length : Int) + 1))) = H3 at s2 p2 ⊢
    refine ⟨g, r, al, p, ps, rfl, G1.same s2, by omega, ?_⟩
    have lpn : al ≠ p := pn G1.l
    have R3 := (R1.same s2).upd (o := .lst ((ps ++ [p]).map .ref)) (x := al) (fun z => by have := G1.l; rw [z, hr1] at this; cases this) la lb lc
    have gl : g ≠ al := fun z => by have := G1.l; rw [← z, hg1] at this; cases this
    exact q l p dp _ (fr p np) (by rw [upd_ne lpn.symm]; exact p2) ⟨⟨dg1, by rw [upd_ne gl]; exact s2 _ _ hg1⟩, upd_same⟩ R3 fun b o n1 n2 e => by rw [upd_ne n2]; exact s2 _ _ (k1 b o n1 e)
theorem ok_Setting_strict {f : Addr} {fd : FuncData} (F : Fun K "strict" "Setting.strict" s_Setting_strict f fd) (T : TxtL K CR CP CC CS CG) (T_mk_StrictPatch : Mak P w K mg base 1 "StrictPatch" CS (spPInit CP CC CS)) (T_Setting_enlist : MetV P w K mg base 5 (Is CG) "_enlist" (spEnlist CR CG eF)) (T_Setting_keep : MetV P w K mg base 1 (Is CG) "_keep" (spKeep CG)) :
    FnOk P w K mg base (L2N.CX P w) 6 f fd ["self", "number"] (spMake CR CG eF CS) := by
  refine F.okN sc_Setting_strict (fun vs H Q E h => ?_) (fun cdv A outer s H vs Q E hr h => ?_)
  · obtain ⟨g, r, al, ai, ap, aq, ps, I, U, S, i, rfl, _⟩ := h
    rfl
  · obtain ⟨g, r, al, ai, ap, aq, ps, I, U, S, i, rfl, G, R, hi, li, lp, la, lb, lc, q, x⟩ := h
    obtain ⟨dg, hg⟩ := G.g
    have hC : Any3 CP CC CS CS := .inr (.inr rfl)
    refine ⟨_, (pss_one (ps_ret (pe_mV T_Setting_keep hr (by decide) (L2N.takes_of rfl rfl rfl rfl) (pv 0) (pa_cons (pe_mk T_mk_StrictPatch hr (by decide) (by rfl) (pa_cons (pe_fld (pv 0) rfl) (pa_cons (pe_mV T_Setting_enlist hr (by decide) (L2N.takes_of rfl rfl rfl rfl) (pv 0) (pa_cons (pv 1) pa_nil)) pa_nil))) pa_nil)))), ?_⟩
    refine ⟨_, rfl, g, CG, dg, _, rfl, rfl, hg, lkG _ _ (by decide +kernel), _, rfl, g, CG, dg, _, _, rfl, hg, T.cG, T.nG1, lg1 _ _, _, rfl, g, CG, dg, _, rfl, rfl, hg, lkG _ _ (by decide +kernel), _, rfl, g, r, al, ai, ap, aq, ps, I, U, S, i, rfl, G, R, hi, li, lp, la, fun l => ?_, x⟩
    have gi : g ≠ ai := fun z => by rw [z, R.i] at hg; cases hg
    have R1 : Rec CR (upd H ai (.lst ((I ++ [i]).map .int))) r ai ap aq (I ++ [i]) U S := R.more
    have G1 : SetAt CG (upd H ai (.lst ((I ++ [i]).map .int))) g r al ps := ⟨⟨dg, by rw [upd_ne gi]; exact hg⟩, by rw [upd_ne la]; exact G.l⟩
    have k1 : ∀ b o, b ≠ ai → H b = some o → (upd H ai (.lst ((I ++ [i]).map .int))) b = some o := fun b o n e => by rw [upd_ne n]; exact e
    have fr : ∀ b, (upd H ai (.lst ((I ++ [i]).map .int))) b = none → H b = none := fun b e => by
      by_cases z : b = ai
      · rw [z, upd_same] at e; cases e
      · rw [upd_ne z] at e; exact e
    generalize upd H ai (.lst ((I ++ [i]).map .int)) = H1 at R1 G1 k1 fr ⊢
    intro p dp np ndp ne
    have s1 : Same H1 (upd (upd H1 dp (.own p)) p (.ins CS dp [])) := (same_new ndp).trans (same_new (by rw [upd_ne ne.symm]; exact np))
    have p1 : (upd (upd H1 dp (.own p)) p (.ins CS dp [])) p = some (.ins CS dp []) := upd_same
    have R2 := R1.same s1
    have G2 := G1.same s1
    generalize upd (upd H1 dp (.own p)) p (.ins CS dp []) = H2 at s1 p1 R2 G2 ⊢
    refine ⟨p, dp, r, CS, _, rfl, hC, p1, rfl, ?_⟩
    have pn : ∀ {z : Addr} {o : HO}, H1 z = some o → z ≠ p := fun {z o} e n => by rw [n, np] at e; cases e
    obtain ⟨dg1, hg1⟩ := G1.g
    obtain ⟨dr1, hr1⟩ := R1.ins
    have s2 : Same H1 (upd H2 p (.ins CS dp (fP r ((ps.length : Int) + 1)))) := fun b o e => by rw [upd_ne (pn e)]; exact s1 _ _ e
    have p2 : (upd H2 p (.ins CS dp (fP r ((ps.length : Int) + 1)))) p = some (.ins CS dp (fP r ((ps.length : Int) + 1))) := upd_same
    generalize upd H2 p (.ins CS dp (fP r ((ps.length : Int) + 1))) = H3 at s2 p2 ⊢
    refine ⟨g, r, al, p, ps, rfl, G1.same s2, by omega, ?_⟩
    have lpn : al ≠ p := pn G1.l
    have R3 := (R1.same s2).upd (o := .lst ((ps ++ [p]).map .ref)) (x := al) (fun z => by have := G1.l; rw [z, hr1] at this; cases this) la lb lc
    have gl : g ≠ al := fun z => by have := G1.l; rw [← z, hg1] at this; cases this
    exact q l p dp _ (fr p np) (by rw [upd_ne lpn.symm]; exact p2) ⟨⟨dg1, by rw [upd_ne gl]; exact s2 _ _ hg1⟩, upd_same⟩ R3 fun b o n1 n2 e => by rw [upd_ne n2]; exact s2 _ _ (k1 b o n1 e)
def spUndo (CR CG eE : Addr) : Sp := fun vs H Q E => ∃ (g r al ai ap aq : Addr) (ps : List Addr) (I U S : List Int), vs = [.ref g] ∧ SetAt CG H g r al ps ∧ Rec CR H r ai ap aq I U S ∧ Wf I U S ∧
  (U ≠ [] → ∀ H', (∀ b o, b ≠ ap → b ≠ aq → H b = some o → H' b = some o) → H' ap = some (.lst (U.dropLast.map .int)) → H' aq = some (.lst (S.dropLast.map .int)) → Q .non H') ∧ (U = [] → ∀ H', Same H H' → E (.ref eE) none H')
theorem ok_Setting_undo {f : Addr} {fd : FuncData} (F : Fun K "undo" "Setting.undo" s_Setting_undo f fd) (T : TxtL K CR CP CC CS CG) (RE : Er K mg "EmptyHistoryError" eE) (T_Record_go_back : MetV P w K mg base 1 (Is CR) "go_back" (spGoBack CR)) : FnOk P w K mg base (L2N.CX P w) 2 f fd ["self"] (spUndo CR CG eE) := by
  refine F.okN sc_Setting_undo (fun vs H Q E h => ?_) (fun cdv A outer s H vs Q E hr h => ?_)
  · obtain ⟨g, r, al, ai, ap, aq, ps, I, U, S, rfl, _⟩ := h
    rfl
  · obtain ⟨g, r, al, ai, ap, aq, ps, I, U, S, rfl, ⟨⟨dg, hg⟩, hl⟩, R, W, q, x⟩ := h
    obtain ⟨dr, hR⟩ := R.ins
    have hu64 := hr.units
    refine ⟨_, (pss_cons (ps_if (pt_cmpR (op_eqD hu64) (pe_fld (pe_fld (pv 0) rfl) rfl) (pe_lst pa_nil) (nomark _)) (pss_one (L2N.ps_raise rfl (L2N.takes_of rfl rfl rfl rfl) (L2N.pmk_own PySem.F.excBase_ValueError RE.x RE.c RE.k (raises_own RE.b RE.t) rfl))) pss_nil)
        (pss_one (ps_expr (pe_mV0 T_Record_go_back hr (by decide) (L2N.takes_of rfl rfl rfl rfl) (pe_fld (pv 0) rfl))))), ?_⟩
    refine ⟨_, rfl, g, CG, dg, _, _, rfl, hg, T.cG, T.nG1, lg1 _ _, r, CR, dr, _, _, rfl, hR, T.cR, T.nR2, lk2 _ _ _, Nat.zero_le _, fun z nz => ?_⟩
    have s1 := same_new (o := .lst []) nz
    have z1 : (upd H z (.lst [])) z = some (.lst (([] : List Int).map .int)) := upd_same
    generalize upd H z (.lst []) = H1 at s1 z1 ⊢
    refine ⟨dI U, dI [], dp_ints (.of (s1 _ _ R.p)), dp_ints (ns := []) (.of z1), shaped_ints _, shaped_ints _, ?_⟩
    by_cases e : U = []
    · exact ⟨true, eqvT e, x e _ s1⟩
    · refine ⟨false, eqvF e, ?_⟩
      refine ⟨_, rfl, g, CG, dg, _, _, rfl, s1 _ _ hg, T.cG, T.nG1, lg1 _ _, r, CR, dr, _, rfl, rfl, s1 _ _ hR, lkR _ _ _ (by decide +kernel), r, ai, ap, aq, I, U, S, rfl, R.same s1, e, W.ne, ?_⟩
      exact q e _ (fun b o n1 n2 eb => by rw [upd_ne n2, upd_ne n1]; exact s1 _ _ eb) (by rw [upd_ne R.pq, upd_same]) upd_same
end
end L34
set_option Elab.async false
set_option linter.all false
set_option maxRecDepth 100000
namespace L34
open PySem PySem.Spec PyProof.Rows L2 Lp
section
variable {P : Program} {w : World} {K : PySem.W.Frag} {mg : Str → Option Value} {base : Heap}
/-! ### _law_same (None first) of equal data -/
/-- data of at most so many levels, its lists of a size -/
def okD : Nat → PyData → Prop
  | _, .none => True
  | _, .bool _ => True
  | _, .int _ => True
  | _, .str _ => True
  | n + 1, .list ds => ds.length < 100000 ∧ ∀ x ∈ ds, okD n x
  | _, _ => False
def spEqD (K : PySem.W.Frag) (n : Nat) : Sp := fun vs H Q _ => ∃ (r e : V) (d : PyData), vs = [r, e] ∧ Dp K H r d ∧ Dp K H e d ∧ okD n d ∧ (∀ H', Same H H' → Q (.bl true) H')

theorem same_int {cdv : Value} {f : Addr} {A : Around} {outer : List Env} {s : Shared} {H : Hp} {Q : VK} {E : XK} {k : Nat} (B : NoB mg) (i : Int) (hr : Room k (A.deeper (envOfC "_law_same" (defScope s_law_same) s.heap.objs.size f cdv))) (q : ∀ H', Same H H' → Q (.bl true) H') :
    ∃ t, PSs (cxOf CX0 P w K mg base N_law_same "_law_same" (defScope s_law_same) f cdv A outer s H E).nox (defBody s_law_same) t ∧ t { nx := fun _ H' => Q .non H', rt := Q } (start N_law_same [.int i, .int i]) H := by
  refine ⟨_, (pss_cons (ps_if (pt_cmpR op_isN (pv 1) pe_non (nomark _)) (pss_one (ps_ret (pe_cmpR op_isN (pv 0) pe_non (nomark _)))) pss_nil)
        (pss_cons (ps_if (pt_val (pe_callB call_isiT (by rfl) B.isinstance (by decide +kernel) (pa_cons (pv 1) (pa_cons (pe_tup (pa_cons (pe_bltn (v := .ty "list") (by rfl) B.list boot_list rfl) (pa_cons (pe_bltn (v := .ty "tuple") (by rfl) B.tuple boot_tuple rfl) pa_nil))) pa_nil)))) (pss_cons ps_never (pss_cons ps_never (pss_one ps_never))) pss_nil)
        (pss_one (ps_ret (pe_and (pe_cmpR op_eq (pe_callB call_isi (by rfl) B.isinstance (by decide +kernel) (pa_cons (pv 0) (pa_cons (pe_bltn (v := .ty "bool") (by rfl) B.bool boot_bool rfl) pa_nil))) (pe_callB call_isi (by rfl) B.isinstance (by decide +kernel) (pa_cons (pv 1) (pa_cons (pe_bltn (v := .ty "bool") (by rfl) B.bool boot_bool rfl) pa_nil))) (nomark _)) (pe_one (pe_cmpR op_eq (pv 0) (pv 1) (nomark _)))))))), ?_⟩
  refine ⟨_, rfl, rfl, false, dF (fun z => nomatch z), ?_⟩
  refine ⟨_, rfl, by show 2 ≤ sizeLine; decide, fun T nT => ?_⟩
  have s2 := same_new (o := .tup [.ty "list", .ty "tuple"]) nT
  refine ⟨_, T, _, _, _, false, rfl, upd_same, .cons (.ty _) (.cons (.ty _) .nil), .base (.int i), kitA (kit_ty (by decide +kernel)) (kit_ty (by decide +kernel)), false, rfl, ?_⟩
  refine ⟨_, rfl, _, _, _, _, false, rfl, .ty _, .base (.int i), kit_ty (by decide +kernel), _, rfl, _, _, _, _, false, rfl, .ty _, .base (.int i), kit_ty (by decide +kernel), rfl, true, dT rfl, ?_⟩
  refine ⟨_, rfl, _, rfl, rfl, ?_⟩
  rw [decide_eq_true rfl]
  exact q _ s2
theorem same_str {cdv : Value} {f : Addr} {A : Around} {outer : List Env} {s : Shared} {H : Hp} {Q : VK} {E : XK} {k : Nat} (B : NoB mg) (i : Str) (hr : Room k (A.deeper (envOfC "_law_same" (defScope s_law_same) s.heap.objs.size f cdv))) (q : ∀ H', Same H H' → Q (.bl true) H') :
    ∃ t, PSs (cxOf CX0 P w K mg base N_law_same "_law_same" (defScope s_law_same) f cdv A outer s H E).nox (defBody s_law_same) t ∧ t { nx := fun _ H' => Q .non H', rt := Q } (start N_law_same [.str i, .str i]) H := by
  refine ⟨_, (pss_cons (ps_if (pt_cmpR op_isN (pv 1) pe_non (nomark _)) (pss_one (ps_ret (pe_cmpR op_isN (pv 0) pe_non (nomark _)))) pss_nil)
        (pss_cons (ps_if (pt_val (pe_callB call_isiT (by rfl) B.isinstance (by decide +kernel) (pa_cons (pv 1) (pa_cons (pe_tup (pa_cons (pe_bltn (v := .ty "list") (by rfl) B.list boot_list rfl) (pa_cons (pe_bltn (v := .ty "tuple") (by rfl) B.tuple boot_tuple rfl) pa_nil))) pa_nil)))) (pss_cons ps_never (pss_cons ps_never (pss_one ps_never))) pss_nil)
        (pss_one (ps_ret (pe_and (pe_cmpR op_eq (pe_callB call_isi (by rfl) B.isinstance (by decide +kernel) (pa_cons (pv 0) (pa_cons (pe_bltn (v := .ty "bool") (by rfl) B.bool boot_bool rfl) pa_nil))) (pe_callB call_isi (by rfl) B.isinstance (by decide +kernel) (pa_cons (pv 1) (pa_cons (pe_bltn (v := .ty "bool") (by rfl) B.bool boot_bool rfl) pa_nil))) (nomark _)) (pe_one (pe_cmpR op_eq (pv 0) (pv 1) (nomark _)))))))), ?_⟩
  refine ⟨_, rfl, rfl, false, dF (fun z => nomatch z), ?_⟩
  refine ⟨_, rfl, by show 2 ≤ sizeLine; decide, fun T nT => ?_⟩
  have s2 := same_new (o := .tup [.ty "list", .ty "tuple"]) nT
  refine ⟨_, T, _, _, _, false, rfl, upd_same, .cons (.ty _) (.cons (.ty _) .nil), .base (.str i), kitA (kit_ty (by decide +kernel)) (kit_ty (by decide +kernel)), false, rfl, ?_⟩
  refine ⟨_, rfl, _, _, _, _, false, rfl, .ty _, .base (.str i), kit_ty (by decide +kernel), _, rfl, _, _, _, _, false, rfl, .ty _, .base (.str i), kit_ty (by decide +kernel), rfl, true, dT rfl, ?_⟩
  refine ⟨_, rfl, _, rfl, rfl, ?_⟩
  rw [decide_eq_true rfl]
  exact q _ s2
theorem same_bl {cdv : Value} {f : Addr} {A : Around} {outer : List Env} {s : Shared} {H : Hp} {Q : VK} {E : XK} {k : Nat} (B : NoB mg) (i : Bool) (hr : Room k (A.deeper (envOfC "_law_same" (defScope s_law_same) s.heap.objs.size f cdv))) (q : ∀ H', Same H H' → Q (.bl true) H') :
    ∃ t, PSs (cxOf CX0 P w K mg base N_law_same "_law_same" (defScope s_law_same) f cdv A outer s H E).nox (defBody s_law_same) t ∧ t { nx := fun _ H' => Q .non H', rt := Q } (start N_law_same [.bl i, .bl i]) H := by
  refine ⟨_, (pss_cons (ps_if (pt_cmpR op_isN (pv 1) pe_non (nomark _)) (pss_one (ps_ret (pe_cmpR op_isN (pv 0) pe_non (nomark _)))) pss_nil)
        (pss_cons (ps_if (pt_val (pe_callB call_isiT (by rfl) B.isinstance (by decide +kernel) (pa_cons (pv 1) (pa_cons (pe_tup (pa_cons (pe_bltn (v := .ty "list") (by rfl) B.list boot_list rfl) (pa_cons (pe_bltn (v := .ty "tuple") (by rfl) B.tuple boot_tuple rfl) pa_nil))) pa_nil)))) (pss_cons ps_never (pss_cons ps_never (pss_one ps_never))) pss_nil)
        (pss_one (ps_ret (pe_and (pe_cmpR op_eq (pe_callB call_isi (by rfl) B.isinstance (by decide +kernel) (pa_cons (pv 0) (pa_cons (pe_bltn (v := .ty "bool") (by rfl) B.bool boot_bool rfl) pa_nil))) (pe_callB call_isi (by rfl) B.isinstance (by decide +kernel) (pa_cons (pv 1) (pa_cons (pe_bltn (v := .ty "bool") (by rfl) B.bool boot_bool rfl) pa_nil))) (nomark _)) (pe_one (pe_cmpR op_eq (pv 0) (pv 1) (nomark _)))))))), ?_⟩
  refine ⟨_, rfl, rfl, false, dF (fun z => nomatch z), ?_⟩
  refine ⟨_, rfl, by show 2 ≤ sizeLine; decide, fun T nT => ?_⟩
  have s2 := same_new (o := .tup [.ty "list", .ty "tuple"]) nT
  refine ⟨_, T, _, _, _, false, rfl, upd_same, .cons (.ty _) (.cons (.ty _) .nil), .base (.bl i), kitA (kit_ty (by decide +kernel)) (kit_ty (by decide +kernel)), false, rfl, ?_⟩
  refine ⟨_, rfl, _, _, _, _, true, rfl, .ty _, .base (.bl i), kit_ty (by decide +kernel), _, rfl, _, _, _, _, true, rfl, .ty _, .base (.bl i), kit_ty (by decide +kernel), rfl, true, dT rfl, ?_⟩
  refine ⟨_, rfl, _, rfl, rfl, ?_⟩
  rw [decide_eq_true rfl]
  exact q _ s2
theorem same_non {cdv : Value} {f : Addr} {A : Around} {outer : List Env} {s : Shared} {H : Hp} {Q : VK} {E : XK} {k : Nat} (B : NoB mg) (hr : Room k (A.deeper (envOfC "_law_same" (defScope s_law_same) s.heap.objs.size f cdv))) (q : ∀ H', Same H H' → Q (.bl true) H') :
    ∃ t, PSs (cxOf CX0 P w K mg base N_law_same "_law_same" (defScope s_law_same) f cdv A outer s H E).nox (defBody s_law_same) t ∧ t { nx := fun _ H' => Q .non H', rt := Q } (start N_law_same [.non, .non]) H := by
  refine ⟨_, (pss_cons (ps_if (pt_cmpR op_isN (pv 1) pe_non (nomark _)) (pss_one (ps_ret (pe_cmpR op_isN (pv 0) pe_non (nomark _)))) pss_nil)
        (pss_cons (ps_if (pt_val (pe_callB call_isiT (by rfl) B.isinstance (by decide +kernel) (pa_cons (pv 1) (pa_cons (pe_tup (pa_cons (pe_bltn (v := .ty "list") (by rfl) B.list boot_list rfl) (pa_cons (pe_bltn (v := .ty "tuple") (by rfl) B.tuple boot_tuple rfl) pa_nil))) pa_nil)))) (pss_cons ps_never (pss_cons ps_never (pss_one ps_never))) pss_nil)
        (pss_one (ps_ret (pe_and (pe_cmpR op_eq (pe_callB call_isi (by rfl) B.isinstance (by decide +kernel) (pa_cons (pv 0) (pa_cons (pe_bltn (v := .ty "bool") (by rfl) B.bool boot_bool rfl) pa_nil))) (pe_callB call_isi (by rfl) B.isinstance (by decide +kernel) (pa_cons (pv 1) (pa_cons (pe_bltn (v := .ty "bool") (by rfl) B.bool boot_bool rfl) pa_nil))) (nomark _)) (pe_one (pe_cmpR op_eq (pv 0) (pv 1) (nomark _)))))))), ?_⟩
  refine ⟨_, rfl, rfl, true, dT rfl, ?_⟩
  refine ⟨_, rfl, rfl, ?_⟩
  rw [decide_eq_true rfl]
  exact q _ (.refl _)
theorem ok_law_same_0 {f : Addr} {fd : FuncData} (F : Fun K "_law_same" "_law_same" s_law_same f fd) (B : NoB mg) : FnOk P w K mg base CX0 1 f fd ["found", "expected"] (spEqD K 0) := by
  refine F.ok sc_law_same (fun vs H Q E h => ?_) (fun cdv A outer s H vs Q E hr h => ?_)
  · obtain ⟨r, e, d, rfl, _⟩ := h
    rfl
  · obtain ⟨r, e, d, rfl, h1, h2, hd, q⟩ := h
    cases h1 with
    | non =>
      cases h2
      exact same_non B hr q
    | bl b =>
      cases h2
      exact same_bl B b hr q
    | int i =>
      cases h2
      exact same_int B i hr q
    | str x =>
      cases h2
      exact same_str B x hr q
    | @lst a xs ds hs ha => exact hd.elim
    | @tup a xs ds hs ha => exact hd.elim
theorem ok_law_same_step {f : Addr} {fd : FuncData} (F : Fun K "_law_same" "_law_same" s_law_same f fd) (B : NoB mg) (n : Nat) (T_law_same : Cal P w K mg base n "_law_same" (spEqD K (n - 1))) : FnOk P w K mg base CX0 (n + 1) f fd ["found", "expected"] (spEqD K n) := by
  refine F.ok sc_law_same (fun vs H Q E h => ?_) (fun cdv A outer s H vs Q E hr h => ?_)
  · obtain ⟨r, e, d, rfl, _⟩ := h
    rfl
  · obtain ⟨r, e, d, rfl, h1, h2, hd, q⟩ := h
    cases h1 with
    | non =>
      cases h2
      exact same_non B hr q
    | bl b =>
      cases h2
      exact same_bl B b hr q
    | int i =>
      cases h2
      exact same_int B i hr q
    | str x =>
      cases h2
      exact same_str B x hr q
    | @lst a xs ds hs ha =>
      cases h2 with
      | @lst b ys _ hs2 ha2 =>
      obtain ⟨dsl, dsm⟩ : ds.length < 100000 ∧ ∀ x ∈ ds, okD (n - 1) x := by
        cases n with
        | zero => exact hd.elim
        | succ m => exact hd
      have l1 := dpAll_len ha
      have l2 := dpAll_len ha2
      refine ⟨_, (pss_cons (ps_if (pt_cmpR op_isN (pv 1) pe_non (nomark _)) (pss_one (ps_ret (pe_cmpR op_isN (pv 0) pe_non (nomark _)))) pss_nil)
        (pss_cons (ps_if (pt_val (pe_callB call_isiT (by rfl) B.isinstance (by decide +kernel) (pa_cons (pv 1) (pa_cons (pe_tup (pa_cons (pe_bltn (v := .ty "list") (by rfl) B.list boot_list rfl) (pa_cons (pe_bltn (v := .ty "tuple") (by rfl) B.tuple boot_tuple rfl) pa_nil))) pa_nil)))) (pss_cons (ps_if (PW.pt (pw_or (pt_not (pt_val (pe_callB call_isiT (by rfl) B.isinstance (by decide +kernel) (pa_cons (pv 0) (pa_cons (pe_tup (pa_cons (pe_bltn (v := .ty "list") (by rfl) B.list boot_list rfl) (pa_cons (pe_bltn (v := .ty "tuple") (by rfl) B.tuple boot_tuple rfl) pa_nil))) pa_nil))))) (pw_or1 (pt_cmpR op_ne (pe_callB call_isi (by rfl) B.isinstance (by decide +kernel) (pa_cons (pv 0) (pa_cons (pe_bltn (v := .ty "list") (by rfl) B.list boot_list rfl) pa_nil))) (pe_callB call_isi (by rfl) B.isinstance (by decide +kernel) (pa_cons (pv 1) (pa_cons (pe_bltn (v := .ty "list") (by rfl) B.list boot_list rfl) pa_nil))) (nomark _))))) (pss_one (ps_ret pe_bl)) pss_nil)
          (pss_cons (ps_if (pt_cmpR op_ne (pe_callB call_len_seq (by rfl) B.len PySem.boot_len (pa_cons (pv 0) pa_nil)) (pe_callB call_len_seq (by rfl) B.len PySem.boot_len (pa_cons (pv 1) pa_nil)) (nomark _)) (pss_one (ps_ret pe_bl)) pss_nil)
          (pss_one (ps_ret (pe_callB (cr_all rfl) (by rfl) B.all (by decide +kernel) (pa_cons (pe_lc (own := [("one", 2), ("other", 3)]) (g := _) (tt := tYes) rfl sc_law_same.nd (RZ.pi_zipA (by rfl) B.zip (pa_cons (pv 0) (pa_cons (pv 1) pa_nil))) (blkOk_by (own := [("one", 2), ("other", 3)]) (N := N_law_same) (sc := defScope s_law_same) (by decide +kernel)) (fun _ _ _ _ _ => (k_tup (K := K) (n := 2) rfl rfl (pgs_cons (pg_name (i := 2) sc_law_same.nd rfl (Or.inl rfl)) (pgs_cons (pg_name (i := 3) sc_law_same.nd rfl (Or.inl rfl)) pgs_nil)))) (fun _ _ _ _ _ => pts_nil) (fun _ _ _ _ _ => (pe_c T_law_same hr (Nat.le_refl _) (by rfl) (pa_cons (pv 2) (pa_cons (pv 3) pa_nil))))) pa_nil)))))) pss_nil)
        (pss_one (ps_ret (pe_and (pe_cmpR op_eq (pe_callB call_isi (by rfl) B.isinstance (by decide +kernel) (pa_cons (pv 0) (pa_cons (pe_bltn (v := .ty "bool") (by rfl) B.bool boot_bool rfl) pa_nil))) (pe_callB call_isi (by rfl) B.isinstance (by decide +kernel) (pa_cons (pv 1) (pa_cons (pe_bltn (v := .ty "bool") (by rfl) B.bool boot_bool rfl) pa_nil))) (nomark _)) (pe_one (pe_cmpR op_eq (pv 0) (pv 1) (nomark _)))))))), ?_⟩
      have el : ∀ {K : PySem.W.Frag}, PySem.W.kitOne K (.type "list") (.type "list") = some true := kit_ty (by decide +kernel)
      refine ⟨_, rfl, rfl, false, dF (fun z => nomatch z), ?_⟩
      refine ⟨_, rfl, by show 2 ≤ sizeLine; decide, fun T nT => ?_⟩
      have s1 := same_new (o := .tup [.ty "list", .ty "tuple"]) nT
      refine ⟨_, T, _, _, _, true, rfl, upd_same, .cons (.ty _) (.cons (.ty _) .nil), tyx_l (s1.seq hs2), kitT el, true, rfl, ?_⟩
      refine ⟨_, rfl, by show 2 ≤ sizeLine; decide, fun T2 nT2 => ?_⟩
      have s2 := s1.trans (same_new (o := .tup [.ty "list", .ty "tuple"]) nT2)
      refine ⟨_, T2, _, _, _, true, rfl, upd_same, .cons (.ty _) (.cons (.ty _) .nil), tyx_l (s2.seq hs), kitT el, true, rfl, ?_⟩
      refine ⟨_, rfl, _, _, _, _, true, rfl, .ty _, tyx_l (s2.seq hs), el, _, rfl, _, _, _, _, true, rfl, .ty _, tyx_l (s2.seq hs2), el, rfl, false, nF rfl, ?_⟩
      refine ⟨_, rfl, a, _, rfl, .inl (s2.seq hs), _, rfl, b, _, rfl, .inl (s2.seq hs2), rfl, false, nF (by rw [l1, l2]), ?_⟩
      refine ⟨_, rfl, _, rfl, a, b, xs, ys, rfl, .inl ⟨s2.seq hs, s2.seq hs2, fun D nD => lc_zipL (l1.trans l2.symm) (LcP (upd (upd H T (.tup [.ty "list", .ty "tuple"])) T2 (.tup [.ty "list", .ty "tuple"])) D fun i => (List.replicate i true).map V.bl) (.init nD rfl) (fun i H' _ p => ⟨p.2.1.seq (s2.seq hs), p.2.1.seq (s2.seq hs2)⟩) (fun i x y T3 H' hx hy nT3 p => ?_) (fun H' p => ?_)⟩⟩
      · obtain ⟨d1, e1, p1⟩ := dpAll_get ha hx
        obtain ⟨d2, e2, p2⟩ := dpAll_get ha2 hy
        rw [e1] at e2
        cases e2
        have s3 : Same H (upd H' T3 (.tup [x, y])) := (s2.trans p.2.1).trans (same_new nT3)
        have dd : okD (n - 1) d1 := dsm d1 (List.mem_of_getElem? e1)
        refine ⟨T3, _, rfl, .of upd_same, rfl, _, _, rfl, _, _, rfl, rfl, rfl, ?_⟩
        refine ⟨_, rfl, _, rfl, x, y, d1, rfl, dp_same s3 p1, dp_same s3 p2, dd, fun H4 s4 => ?_⟩
        refine p.put ((same_new nT3).trans s4) ?_ (by have := lt_get hx; rw [List.length_map, List.length_replicate]; omega)
        show (List.replicate (i + 1) true).map V.bl = _
        rw [List.replicate_succ', List.map_append]
        rfl
      · refine ⟨D, _, rfl, .of p.2.2, ?_⟩
        have e : (List.replicate xs.length true).all id = true := by
          rw [List.all_eq_true]
          intro z hz
          exact (List.eq_of_mem_replicate hz)
        rw [e]
        exact q _ (s2.trans p.2.1)
    | @tup a xs ds hs ha =>
      cases n with
      | zero => exact hd.elim
      | succ m => exact hd.elim
theorem ok_law_same_D {f : Addr} {fd : FuncData} (F : Fun K "_law_same" "_law_same" s_law_same f fd) (B : NoB mg) (hm : mg "_law_same" = some (.ref f)) (b : Binds K fd ["found", "expected"] []) : ∀ n : Nat, FnOk P w K mg base CX0 (n + 1) f fd ["found", "expected"] (spEqD K n)
  | 0 => ok_law_same_0 F B
  | n + 1 => ok_law_same_step F B (n + 1) ⟨f, fd, _, ok_law_same_D F B hm b n, hm, F.kp, b⟩
end
end L34
set_option Elab.async false
set_option linter.all false
set_option maxRecDepth 100000
namespace L34
open PySem PySem.Spec PyProof.Rows L2 Lp
/-! ### the states of the law -/
def kept (U S : List Int) : List (L2.Key × V) := (U.filter fun e => decide (0 < e)).map fun s => (Sum.inl s, V.int (fbI U S s))
def LSt (H : Hp) (t : Addr) (U S : List Int) : Prop := ∃ ad ak, H t = some (.tup [.int (lastI S), .ref ad, .ref ak]) ∧ H ad = some (.lst (U.map .int)) ∧ H ak = some (.dK (kept U S))
theorem LSt.keep {H H' : Hp} {t : Addr} {U S : List Int} (h : LSt H t U S) (s : Same H H') : LSt H' t U S := by
  obtain ⟨ad, ak, a, b, c⟩ := h
  exact ⟨ad, ak, s _ _ a, s _ _ b, s _ _ c⟩
/-- .. whose list of events is one of those told by F -/
def LStN (F : Addr → Prop) (H : Hp) (t : Addr) (U S : List Int) : Prop := ∃ ad ak, F ad ∧ H t = some (.tup [.int (lastI S), .ref ad, .ref ak]) ∧ H ad = some (.lst (U.map .int)) ∧ H ak = some (.dK (kept U S))
theorem LStN.st {F : Addr → Prop} {H : Hp} {t : Addr} {U S : List Int} (h : LStN F H t U S) : LSt H t U S := by
  obtain ⟨ad, ak, _, h⟩ := h
  exact ⟨ad, ak, h⟩
theorem LStN.imp {F G : Addr → Prop} {H : Hp} {t : Addr} {U S : List Int} (h : LStN F H t U S) (i : ∀ b, F b → G b) : LStN G H t U S := by
  obtain ⟨ad, ak, f, h⟩ := h
  exact ⟨ad, ak, i _ f, h⟩
def wordV (k : Nat) : V := if k = 1 then .str "careful" else if k = 2 then .str "strict" else .str "patch"
/-- what a start or a stop leaves, none if it can't be done -/
def nxt (ks : List Nat) (U S : List Int) (e : Int) : Option Int := if 0 < e then (if e ∈ U then none else some e) else if (-e) ∉ U ∨ e ∈ U then none else leftK (ks.getD ((-e).toNat - 1) 0) U S (-e)
theorem valV_map {f : Int → V} {n : Int} : ∀ l : List Int, valV (l.map fun s => ((Sum.inl s : L2.Key), f s)) (Sum.inl n) = if n ∈ l then some (f n) else none
  | [] => rfl
  | s :: r => by
    have ih := valV_map (f := f) (n := n) r
    unfold valV at ih ⊢
    rw [List.map_cons, List.find?_cons]
    by_cases e : s = n
    · subst e
      rw [decide_eq_true rfl, if_pos List.mem_cons_self]
      rfl
    · have e2 : ¬ ((Sum.inl s : L2.Key) = Sum.inl n) := fun z => e (Sum.inl.inj z)
      rw [decide_eq_false e2]
      show ((r.map fun s => ((Sum.inl s : L2.Key), f s)).find? fun kv => decide (kv.1 = Sum.inl n)).map (·.2) = _
      rw [ih]
      by_cases m : n ∈ r
      · rw [if_pos m, if_pos (List.mem_cons_of_mem _ m)]
      · rw [if_neg m, if_neg (fun z => (List.mem_cons.mp z).elim (fun q => e q.symm) m)]
theorem valV_kept {U S : List Int} {n : Int} (h : 0 < n) : valV (kept U S) (Sum.inl n) = if n ∈ U then some (.int (fbI U S n)) else none := by
  unfold kept
  rw [valV_map]
  by_cases m : n ∈ U
  · rw [if_pos m, if_pos (List.mem_filter.mpr ⟨m, decide_eq_true h⟩)]
  · rw [if_neg m, if_neg (fun z => m (List.mem_filter.mp z).1)]
theorem fbI_app {U S r q : List Int} {n : Int} (hl : S.length = U.length + 1) (h : n ∈ U) : fbI (U ++ r) (S ++ q) n = fbI U S n := by
  unfold fbI
  have hi := List.idxOf_lt_length_iff.mpr h
  rw [List.idxOf_append, if_pos h, List.getElem?_append_left (by omega)]
theorem fbI_new {U S q : List Int} {n : Int} (hl : S.length = U.length + 1) (h : n ∉ U) : fbI (U ++ [n]) (S ++ q) n = lastI S := by
  unfold fbI
  have hi : (U ++ [n]).idxOf n = U.length := by
    rw [List.idxOf_append, if_neg h, List.idxOf_cons_self, Nat.zero_add]
  have ne : S ≠ [] := fun z => by rw [z] at hl; cases hl
  rw [hi, List.getElem?_append_left (by omega)]
  show _ = (S.getLast?).getD 0
  rw [List.getLast?_eq_getElem?, hl]
  rfl
theorem kept_app {U S r q : List Int} (hl : S.length = U.length + 1) : (U.filter fun e => decide (0 < e)).map (fun s => ((Sum.inl s : L2.Key), V.int (fbI (U ++ r) (S ++ q) s))) = kept U S :=
  List.map_congr_left fun s hs => by rw [fbI_app hl (List.mem_filter.mp hs).1]
theorem kept_start {U S : List Int} {n c : Int} (hl : S.length = U.length + 1) (h : 0 < n) (hn : n ∉ U) : kept (U ++ [n]) (S ++ [c]) = kept U S ++ [(Sum.inl n, .int (lastI S))] := by
  show ((U ++ [n]).filter fun e => decide (0 < e)).map _ = _
  rw [List.filter_append, List.map_append, kept_app hl, List.filter_cons_of_pos (by simpa using h)]
  show kept U S ++ [(Sum.inl n, V.int (fbI (U ++ [n]) (S ++ [c]) n))] = _
  rw [fbI_new hl hn]
theorem kept_stop {U S : List Int} {e c : Int} (hl : S.length = U.length + 1) (h : e < 0) : kept (U ++ [e]) (S ++ [c]) = kept U S := by
  show ((U ++ [e]).filter fun e => decide (0 < e)).map _ = _
  rw [List.filter_append, List.map_append, kept_app hl, List.filter_cons_of_neg (by simp; omega)]
  show kept U S ++ [] = _
  rw [List.append_nil]
theorem kept_len (U S : List Int) : (kept U S).length ≤ U.length := by
  unfold kept
  rw [List.length_map]
  exact List.length_filter_le _ _
theorem put_new {kvs : List (L2.Key × V)} {k : L2.Key} {v : V} (h : valV kvs k = none) : putK kvs k v = kvs ++ [(k, v)] := by
  unfold putK
  have e : (kvs.any fun kv => decide (kv.1 = k)) = false := by
    cases e : (kvs.any fun kv => decide (kv.1 = k)) with
    | false => rfl
    | true =>
      obtain ⟨p, hp, e⟩ := List.any_eq_true.mp e
      unfold valV at h
      cases z : kvs.find? fun kv => decide (kv.1 = k) with
      | none => exact absurd e (List.find?_eq_none.mp z p hp)
      | some y => rw [z] at h; cases h
  rw [e, if_neg (fun z => nomatch z)]
theorem dgI {H : Hp} {ak : Addr} {U S : List Int} {n : Int} (hk : H ak = some (.dK (kept U S))) (h : 0 < n) : DGet H ak (.int n) (if n ∈ U then some (.int (fbI U S n)) else none) := .inl ⟨_, Sum.inl n, .of hk, rfl, (valV_kept h).symm⟩
section
variable {P : Program} {w : World} {K : PySem.W.Frag} {mg : Str → Option Value} {base : Heap} {CR CP CC CS CG eF eE eS eR eO : Addr}
theorem abs_pos {e : Int} (h : 0 < e) : (if e < 0 then -e else e) = e := if_neg (by omega)
theorem abs_neg {e : Int} (h : e < 0) : (if e < 0 then -e else e) = -e := if_pos h
theorem wordV_at {ks : List Nat} {j : Nat} (h : j < ks.length) : atI (ks.map wordV) (j : Int) = some (wordV (ks.getD j 0)) := by
  refine atI_nat ?_
  rw [List.getElem?_map, List.getElem?_eq_getElem h, List.getD_eq_getElem?_getD, List.getElem?_eq_getElem h]
  rfl
theorem word_scal (k : Nat) (s : Str) : scal (wordV k) (.str s) = true := by
  unfold wordV
  split
  · rfl
  · split <;> rfl
theorem word_strict {k : Nat} (h : k < 3) : decide (wordV k = .str "strict") = decide (k = 2) := by
  have h1 : ¬ (V.str "careful" = V.str "strict") := fun z => absurd (V.str.inj z) (by decide +kernel)
  have h2 : ¬ (V.str "patch" = V.str "strict") := fun z => absurd (V.str.inj z) (by decide +kernel)
  unfold wordV
  match k, h with
  | 0, _ => rw [if_neg (by decide), if_neg (by decide), decide_eq_false h2]; rfl
  | 1, _ => rw [if_pos rfl, decide_eq_false h1]; rfl
  | 2, _ => rw [if_neg (by decide), if_pos rfl, decide_eq_true rfl]; rfl
theorem word_careful {k : Nat} (h : k < 3) : decide (wordV k = .str "careful") = decide (k = 1) := by
  have h1 : ¬ (V.str "strict" = V.str "careful") := fun z => absurd (V.str.inj z) (by decide +kernel)
  have h2 : ¬ (V.str "patch" = V.str "careful") := fun z => absurd (V.str.inj z) (by decide +kernel)
  unfold wordV
  match k, h with
  | 0, _ => rw [if_neg (by decide), if_neg (by decide), decide_eq_false h2]; rfl
  | 1, _ => rw [if_pos rfl, decide_eq_true rfl]; rfl
  | 2, _ => rw [if_neg (by decide), if_pos rfl, decide_eq_false h1]; rfl
def spLater (K : PySem.W.Frag) : Sp := fun vs H Q _ => ∃ (t wl : Addr) (e : Int) (ks : List Nat) (U S : List Int), vs = [.ref t, .ref wl, .int e] ∧ LSt H t U S ∧ SqL K H wl (ks.map wordV) ∧ (∀ k ∈ ks, k < 3) ∧ S.length = U.length + 1 ∧ e ≠ 0 ∧ e.natAbs ≤ ks.length ∧ U.length ≤ 1000 ∧
  (nxt ks U S e = none → ∀ s : Str, Q (.str s) H) ∧ (∀ c, nxt ks U S e = some c → ∀ t' H', Same H H' → H t' = none → LStN (fun b => H b = none) H' t' (U ++ [e]) (S ++ [c]) → Q (.ref t') H')
theorem ok_law_later {f : Addr} {fd : FuncData} (F : Fun K "_law_later" "_law_later" s_law_later f fd) (B : NoB mg) (T_z_dict : mg "dict" = none) : FnOk P w K mg base CX0 1 f fd ["state", "words", "event"] (spLater K) := by
  refine F.ok sc_law_later (fun vs H Q E h => ?_) (fun cdv A outer s H vs Q E hr h => ?_)
  · obtain ⟨t, wl, e, ks, U, S, rfl, _⟩ := h
    rfl
  · obtain ⟨t, wl, e, ks, U, S, rfl, ⟨ad, ak, ht, hd, hk⟩, hw, k3, hl, e0, el, ul, qn, qs⟩ := h
    have hu := hu_of hr
    refine ⟨_, (pss_cons (ps_asg (pv 0) (pg_tup rfl (pgs_cons (pg_name (i := 3) sc_law_later.nd rfl (Or.inl rfl)) (pgs_cons (pg_name (i := 4) sc_law_later.nd rfl (Or.inl rfl)) (pgs_cons (pg_name (i := 5) sc_law_later.nd rfl (Or.inl rfl)) pgs_nil)))))
        (pss_cons (ps_set (i := 6) sc_law_later.nd rfl (Or.inl rfl) (pe_callB call_abs (by rfl) B.abs (by decide +kernel) (pa_cons (pv 2) pa_nil)))
        (pss_cons (ps_if (PW.pt (pw_and (pt_cmpR op_gt (pv 2) pe_int (nomark _)) (pw_and1 (pt_cmp (pc_din hu (pv 6) (pv 5)))))) (pss_one (ps_ret pe_str)) pss_nil)
        (pss_cons (ps_if (pt_cmpR op_gt (pv 2) pe_int (nomark _)) (pss_cons (ps_set (i := 7) sc_law_later.nd rfl (Or.inl rfl) (pe_callTy call_dictD (by rfl) T_z_dict (by decide +kernel) (pa_cons (pv 5) pa_nil)))
          (pss_cons (ps_dput hu (pv 7) (pv 6) (pv 3) rfl)
          (pss_one (ps_ret (pe_tup (pa_cons (pv 6) (pa_cons (pe_op op_cat (pv 4) (pe_lst (pa_cons (pv 6) pa_nil))) (pa_cons (pv 7) pa_nil)))))))) pss_nil)
        (pss_cons (ps_if (PW.pt (pw_or (pt_cmp (pc_dnotin hu (pv 6) (pv 5))) (pw_or1 (pt_cmpR op_in_seq (pv 2) (pv 4) (by rfl))))) (pss_one (ps_ret pe_str)) pss_nil)
        (pss_cons (ps_set (i := 8) sc_law_later.nd rfl (Or.inl rfl) (pe_ix ix_list (pv 1) (pe_op op_sub (pv 6) pe_int) (fun _ _ => rfl)))
        (pss_cons (ps_if (PW.pt (pw_and (pt_cmpR op_eq (pv 8) pe_str (nomark _)) (pw_and1 (pt_cmpR op_ne (pv 3) (pv 6) (nomark _))))) (pss_one (ps_ret pe_str)) pss_nil)
        (pss_cons (ps_set (i := 9) sc_law_later.nd rfl (Or.inl rfl) (pe_ifExp (PW.pt (pw_and (pt_cmpR op_eq (pv 8) pe_str (nomark _)) (pw_and1 (pt_cmpR op_ne (pv 3) (pv 6) (nomark _))))) (pv 3) (pe_dget hu (pv 5) (pv 6) (fun _ _ => rfl))))
        (pss_one (ps_ret (pe_tup (pa_cons (pv 9) (pa_cons (pe_op op_cat (pv 4) (pe_lst (pa_cons (pv 2) pa_nil))) (pa_cons (pv 5) pa_nil)))))))))))))), ?_⟩
    refine ⟨_, rfl, t, _, rfl, .of ht, rfl, _, _, rfl, _, _, rfl, _, _, rfl, rfl, ?_⟩
    by_cases hp : 0 < e
    · refine ⟨_, rfl, e, rfl, ?_⟩
      rw [abs_pos hp]
      refine ⟨_, rfl, _, _, rfl, rfl, true, dT hp, ?_⟩
      unfold nxt at qn qs
      rw [if_pos hp] at qn
      by_cases m : e ∈ U
      · rw [if_pos m] at qn
        refine ⟨_, rfl, _, rfl, ak, _, rfl, dgI hk hp, true, by rw [if_pos m]; rfl, ?_⟩
        exact qn rfl _
      · refine ⟨_, rfl, _, rfl, ak, _, rfl, dgI hk hp, false, by rw [if_neg m]; rfl, ?_⟩
        have qs2 := qs e (by rw [if_pos hp, if_neg m])
        refine ⟨_, rfl, _, _, rfl, rfl, true, dT hp, ?_⟩
        refine ⟨_, rfl, ak, _, rfl, .of hk, fun d nd => ?_⟩
        have s1 := same_new (o := .dK (kept U S)) nd
        have d1 : (upd H d (.dK (kept U S))) d = some (.dK (kept U S)) := upd_same
        generalize upd H d (.dK (kept U S)) = H1 at s1 d1 ⊢
        have en : putK (kept U S) (Sum.inl e) (V.int (lastI S)) = kept (U ++ [e]) (S ++ [e]) := by
          rw [put_new (by rw [valV_kept hp, if_neg m]), kept_start hl hp m]
        refine ⟨_, rfl, _, rfl, _, rfl, d, _, rfl, .inl ⟨_, Sum.inl e, d1, rfl, (by have := kept_len U S; exact zl (by omega)), rfl⟩, ?_⟩
        rw [en]
        have s2 : Same H (upd H1 d (.dK (kept (U ++ [e]) (S ++ [e])))) := Lp.Same.mut s1 nd
        have d2 : (upd H1 d (.dK (kept (U ++ [e]) (S ++ [e])))) d = some (.dK (kept (U ++ [e]) (S ++ [e]))) := upd_same
        generalize upd H1 d (.dK (kept (U ++ [e]) (S ++ [e]))) = H2 at s2 d2 ⊢
        refine ⟨_, rfl, _, rfl, _, rfl, by show 1 ≤ sizeLine; decide, fun z nz => ?_⟩
        have s3 := s2.trans (same_new (o := .lst [.int e]) nz)
        have d3 := same_new (o := .lst [.int e]) nz _ _ d2
        have z3 : (upd H2 z (.lst [.int e])) z = some (.lst [.int e]) := upd_same
        generalize upd H2 z (.lst [.int e]) = H3 at s3 d3 z3 ⊢
        refine ⟨ad, z, _, _, rfl, rfl, s3 _ _ hd, z3, by rw [List.length_map]; exact zs (by simp; omega), fun y ny => ?_⟩
        rw [snocI]
        have s4 := s3.trans (same_new (o := .lst ((U ++ [e]).map .int)) ny)
        have d4 := same_new (o := .lst ((U ++ [e]).map .int)) ny _ _ d3
        have y4 : (upd H3 y (.lst ((U ++ [e]).map .int))) y = some (.lst ((U ++ [e]).map .int)) := upd_same
        generalize upd H3 y (.lst ((U ++ [e]).map .int)) = H4 at s4 d4 y4 ⊢
        refine ⟨_, rfl, by show 3 ≤ sizeLine; decide, fun T nT => ?_⟩
        have st := same_new (o := .tup [.int e, .ref y, .ref d]) nT
        exact qs2 T _ (s4.trans st) (s4.free nT) ⟨y, d, s3.free ny, by rw [lastI_snoc]; exact upd_same, st _ _ y4, st _ _ d4⟩
    · have hn : e < 0 := by omega
      have hm : 0 < -e := by omega
      refine ⟨_, rfl, e, rfl, ?_⟩
      rw [abs_neg hn]
      refine ⟨_, rfl, _, _, rfl, rfl, false, dF hp, ?_⟩
      refine ⟨_, rfl, _, _, rfl, rfl, false, dF hp, ?_⟩
      unfold nxt at qn qs
      rw [if_neg hp] at qn
      by_cases m : -e ∈ U
      · refine ⟨_, rfl, _, rfl, ak, _, rfl, dgI hk hm, false, by rw [if_pos m]; rfl, ?_⟩
        by_cases m2 : e ∈ U
        · refine ⟨_, rfl, _, rfl, ad, _, rfl, .inl (.of hd), rfl, flatI _, true, by show V.bl (inV (.int e) (U.map V.int)) = _; rw [inVI, decide_eq_true m2], ?_⟩
          rw [if_pos (.inr m2)] at qn
          exact qn rfl _
        · refine ⟨_, rfl, _, rfl, ad, _, rfl, .inl (.of hd), rfl, flatI _, false, by show V.bl (inV (.int e) (U.map V.int)) = _; rw [inVI, decide_eq_false m2], ?_⟩
          have nn : ¬ (-e ∉ U ∨ e ∈ U) := fun z => z.elim (fun q => q m) m2
          rw [if_neg nn] at qn
          have j1 : (-e).toNat - 1 < ks.length := by omega
          have ej : (-e) - 1 = (((-e).toNat - 1 : Nat) : Int) := by omega
          have hkk : ks.getD ((-e).toNat - 1) 0 < 3 := k3 _ (by rw [List.getD_eq_getElem?_getD, List.getElem?_eq_getElem j1]; exact List.getElem_mem j1)
          refine ⟨_, rfl, _, rfl, _, _, rfl, rfl, wl, _, _, _, rfl, rfl, hw, (by rw [ej]; exact wordV_at j1), ?_⟩
          have qs2 := fun c hc => qs c (by rw [if_neg hp, if_neg nn]; exact hc)
          generalize ks.getD ((-e).toNat - 1) 0 = k at qn qs2 hkk ⊢
          have els : decide (V.int (lastI S) = V.int (-e)) = decide (lastI S = -e) := decide_eq_decide.mpr ⟨fun z => V.int.inj z, fun z => congrArg V.int z⟩
          have fin : ∀ c, leftK k U S (-e) = some c → ∀ H1, Same H H1 → ∀ z, H1 z = none → ∀ y, (upd H1 z (.lst [.int e])) y = none → ∀ T, (upd (upd H1 z (.lst [.int e])) y (.lst (U.map .int ++ [.int e]))) T = none → Q (.ref T) (upd (upd (upd H1 z (.lst [.int e])) y (.lst (U.map .int ++ [.int e]))) T (.tup [.int c, .ref y, .ref ak])) := fun c hc H1 s1 z nz y ny T nT => by
            have s2 := same_new (o := .lst [.int e]) nz
            have s3 := same_new (o := .lst (U.map .int ++ [.int e])) ny
            have s4 := same_new (o := .tup [.int c, .ref y, .ref ak]) nT
            refine qs2 c hc T _ (((s1.trans s2).trans s3).trans s4) (((s1.trans s2).trans s3).free nT) ⟨y, ak, (s1.trans s2).free ny, by rw [lastI_snoc]; exact upd_same, s4 _ _ (by rw [upd_same, snocI]), ?_⟩
            rw [kept_stop hl hn]
            exact s4 _ _ (s3 _ _ (s2 _ _ (s1 _ _ hk)))
          have len3 : (U.map V.int).length + 1 ≤ sizeLine := by rw [List.length_map]; exact zs (by omega)
          by_cases l : lastI S = -e
          · refine ⟨_, rfl, word_scal k _, decide (k = 2), congrArg V.bl (word_strict hkk), ?_⟩
            have nx : leftK k U S (-e) = some (fbI U S (-e)) := by
              unfold leftK
              by_cases k0 : k = 0
              · rw [if_pos k0]
              · rw [if_neg k0, if_pos l]
            by_cases k2 : k = 2
            · rw [decide_eq_true k2]
              refine ⟨_, rfl, _, rfl, rfl, false, by rw [els, decide_eq_true l]; rfl, ?_⟩
              refine ⟨_, rfl, word_scal k _, decide (k = 1), congrArg V.bl (word_careful hkk), ?_⟩
              rw [decide_eq_false (by omega)]
              refine ⟨_, rfl, _, rfl, ak, _, rfl, by have := dgI (S := S) hk hm; rw [if_pos m] at this; exact this, ?_⟩
              refine ⟨_, rfl, _, rfl, _, rfl, by show 1 ≤ sizeLine; decide, fun z nz => ⟨ad, z, _, _, rfl, rfl, same_new nz _ _ hd, upd_same, len3, fun y ny => ⟨_, rfl, by show 3 ≤ sizeLine; decide, fun T nT => ?_⟩⟩⟩
              exact fin _ nx H (.refl _) z nz y ny T nT
            · rw [decide_eq_false k2]
              refine ⟨_, rfl, word_scal k _, decide (k = 1), congrArg V.bl (word_careful hkk), ?_⟩
              by_cases k1 : k = 1
              · rw [decide_eq_true k1]
                refine ⟨_, rfl, _, rfl, rfl, false, by rw [els, decide_eq_true l]; rfl, ?_⟩
                refine ⟨_, rfl, _, rfl, ak, _, rfl, by have := dgI (S := S) hk hm; rw [if_pos m] at this; exact this, ?_⟩
                refine ⟨_, rfl, _, rfl, _, rfl, by show 1 ≤ sizeLine; decide, fun z nz => ⟨ad, z, _, _, rfl, rfl, same_new nz _ _ hd, upd_same, len3, fun y ny => ⟨_, rfl, by show 3 ≤ sizeLine; decide, fun T nT => ?_⟩⟩⟩
                exact fin _ nx H (.refl _) z nz y ny T nT
              · rw [decide_eq_false k1]
                refine ⟨_, rfl, _, rfl, ak, _, rfl, by have := dgI (S := S) hk hm; rw [if_pos m] at this; exact this, ?_⟩
                refine ⟨_, rfl, _, rfl, _, rfl, by show 1 ≤ sizeLine; decide, fun z nz => ⟨ad, z, _, _, rfl, rfl, same_new nz _ _ hd, upd_same, len3, fun y ny => ⟨_, rfl, by show 3 ≤ sizeLine; decide, fun T nT => ?_⟩⟩⟩
                exact fin _ nx H (.refl _) z nz y ny T nT
          · refine ⟨_, rfl, word_scal k _, decide (k = 2), congrArg V.bl (word_strict hkk), ?_⟩
            by_cases k2 : k = 2
            · rw [decide_eq_true k2]
              refine ⟨_, rfl, _, rfl, rfl, true, by rw [els, decide_eq_false l]; rfl, ?_⟩
              refine qn ?_ _
              unfold leftK
              rw [if_neg (by omega), if_neg l, if_neg (by omega)]
            · rw [decide_eq_false k2]
              refine ⟨_, rfl, word_scal k _, decide (k = 1), congrArg V.bl (word_careful hkk), ?_⟩
              by_cases k1 : k = 1
              · rw [decide_eq_true k1]
                refine ⟨_, rfl, _, rfl, rfl, true, by rw [els, decide_eq_false l]; rfl, ?_⟩
                refine ⟨_, rfl, ?_⟩
                refine ⟨_, rfl, _, rfl, _, rfl, by show 1 ≤ sizeLine; decide, fun z nz => ⟨ad, z, _, _, rfl, rfl, same_new nz _ _ hd, upd_same, len3, fun y ny => ⟨_, rfl, by show 3 ≤ sizeLine; decide, fun T nT => ?_⟩⟩⟩
                exact fin _ (by unfold leftK; rw [if_neg (by omega), if_neg l, if_pos k1]) H (.refl _) z nz y ny T nT
              · rw [decide_eq_false k1]
                refine ⟨_, rfl, _, rfl, ak, _, rfl, by have := dgI (S := S) hk hm; rw [if_pos m] at this; exact this, ?_⟩
                refine ⟨_, rfl, _, rfl, _, rfl, by show 1 ≤ sizeLine; decide, fun z nz => ⟨ad, z, _, _, rfl, rfl, same_new nz _ _ hd, upd_same, len3, fun y ny => ⟨_, rfl, by show 3 ≤ sizeLine; decide, fun T nT => ?_⟩⟩⟩
                exact fin _ (by unfold leftK; rw [if_pos (by omega)]) H (.refl _) z nz y ny T nT
      · rw [if_pos (.inl m)] at qn
        refine ⟨_, rfl, _, rfl, ak, _, rfl, dgI hk hm, true, by rw [if_neg m]; rfl, ?_⟩
        exact qn rfl _
end
end L34
set_option Elab.async false
set_option linter.all false
set_option maxRecDepth 100000
namespace L34
open PySem PySem.Spec PyProof.Rows L2 Lp
/-! ### a setting with its patches -/
structure Liv (CR CP CC CS CG : Addr) (H : Hp) (g r al ai ap aq : Addr) (ps : List Addr) (ks : List Nat) (I U S : List Int) : Prop where
  set : SetAt CG H g r al ps
  rc : Rec CR H r ai ap aq I U S
  wf : Wf I U S
  la : al ≠ ai
  lp : al ≠ ap
  lq : al ≠ aq
  il : I.length = ps.length + 1
  kl : ks.length = ps.length
  pat : ∀ (j : Nat) (p : Addr) (k : Nat), ps[j]? = some p → ks[j]? = some k → ∃ C dp, Kind3 CP CC CS C k ∧ H p = some (.ins C dp (fP r ((j : Int) + 1)))
section
variable {CR CP CC CS CG : Addr} {H H' : Hp} {g r al ai ap aq : Addr} {ps : List Addr} {ks : List Nat} {I U S U' S' : List Int}
theorem Liv.same (h : Liv CR CP CC CS CG H g r al ai ap aq ps ks I U S) (s : Same H H') : Liv CR CP CC CS CG H' g r al ai ap aq ps ks I U S :=
  ⟨h.set.same s, h.rc.same s, h.wf, h.la, h.lp, h.lq, h.il, h.kl, fun j p k e1 e2 => by
    obtain ⟨C, dp, a, b⟩ := h.pat j p k e1 e2
    exact ⟨C, dp, a, s _ _ b⟩⟩
/-- all but the record's events and values is as it was -/
theorem Liv.to (h : Liv CR CP CC CS CG H g r al ai ap aq ps ks I U S) (k : ∀ b o, b ≠ ap → b ≠ aq → H b = some o → H' b = some o) (hp : H' ap = some (.lst (U'.map .int))) (hq : H' aq = some (.lst (S'.map .int))) (w : Wf I U' S') :
    Liv CR CP CC CS CG H' g r al ai ap aq ps ks I U' S' := by
  obtain ⟨⟨⟨dg, hg⟩, hl⟩, ⟨⟨dr, hR⟩, hi, p0, q0, ip, iq, pq⟩, _, la, lp, lq, il, kl, pat⟩ := h
  have ni : ∀ {b : Addr} {C d : Addr} {fs : List (Str × V)}, H b = some (.ins C d fs) → b ≠ ap ∧ b ≠ aq := fun {b C d fs} e => ⟨fun z => (by rw [z, p0] at e; cases e), fun z => (by rw [z, q0] at e; cases e)⟩
  exact ⟨⟨⟨dg, k _ _ (ni hg).1 (ni hg).2 hg⟩, k _ _ lp lq hl⟩, ⟨⟨dr, k _ _ (ni hR).1 (ni hR).2 hR⟩, k _ _ ip iq hi, hp, hq, ip, iq, pq⟩, w, la, lp, lq, il, kl, fun j p k' e1 e2 => by
    obtain ⟨C, dp, a, b⟩ := pat j p k' e1 e2
    exact ⟨C, dp, a, k _ _ (ni b).1 (ni b).2 b⟩⟩
theorem Liv.step (h : Liv CR CP CC CS CG H g r al ai ap aq ps ks I U S) {e c : Int} (l : U.length < 1000) (hc : 0 ≤ c ∧ c < (I.length : Int)) :
    Liv CR CP CC CS CG (upd (upd H ap (.lst ((U ++ [e]).map .int))) aq (.lst ((S ++ [c]).map .int))) g r al ai ap aq ps ks I (U ++ [e]) (S ++ [c]) :=
  h.to (fun b o n1 n2 eb => by rw [upd_ne n2, upd_ne n1]; exact eb) (by rw [upd_ne h.rc.pq, upd_same]) upd_same (h.wf.go hc l)
theorem Liv.nxt (h : Liv CR CP CC CS CG H g r al ai ap aq ps ks I U S) {e c : Int} (hn : nxt ks U S e = some c) (he : e.natAbs ≤ ps.length) : 0 ≤ c ∧ c < (I.length : Int) := by
  unfold L34.nxt at hn
  have il := h.il
  split at hn
  · split at hn
    · cases hn
    · have := Option.some.inj hn
      omega
  · split at hn
    · cases hn
    · rename_i z
      exact leftK_rng h.wf (Classical.not_not.mp fun q => z (.inl q)) hn
/-- the patch of a number -/
theorem Liv.at (h : Liv CR CP CC CS CG H g r al ai ap aq ps ks I U S) {n : Int} (h1 : 1 ≤ n) (h2 : n ≤ (ps.length : Int)) : ∃ p C dp, ps[n.toNat - 1]? = some p ∧ atI (ps.map V.ref) (n - 1) = some (.ref p) ∧ Kind3 CP CC CS C (ks.getD (n.toNat - 1) 0) ∧ H p = some (.ins C dp (fP r n)) := by
  have j1 : n.toNat - 1 < ps.length := by omega
  have j2 : n.toNat - 1 < ks.length := by have := h.kl; omega
  obtain ⟨C, dp, hK, hp⟩ := h.pat _ _ _ (List.getElem?_eq_getElem j1) (List.getElem?_eq_getElem j2)
  refine ⟨ps[n.toNat - 1], C, dp, List.getElem?_eq_getElem j1, ?_, ?_, ?_⟩
  · have e : n - 1 = ((n.toNat - 1 : Nat) : Int) := by omega
    rw [e]
    exact atI_nat (by rw [List.getElem?_map, List.getElem?_eq_getElem j1]; rfl)
  · rw [List.getD_eq_getElem?_getD, List.getElem?_eq_getElem j2]
    exact hK
  · have e : ((n.toNat - 1 : Nat) : Int) + 1 = n := by omega
    rw [e] at hp
    exact hp
end
/-- which error each clause takes -/
structure Ex3 (K : PySem.W.Frag) (eS eR eO : Addr) : Prop where
  ss : PySem.W.exmOne K (.ref eS) (.ref eS) = some true
  rs : PySem.W.exmOne K (.ref eR) (.ref eS) = some false
  rr : PySem.W.exmOne K (.ref eR) (.ref eR) = some true
  os : PySem.W.exmOne K (.ref eO) (.ref eS) = some false
  or_ : PySem.W.exmOne K (.ref eO) (.ref eR) = some false
  oo : PySem.W.exmOne K (.ref eO) (.ref eO) = some true
def dueD (I U S : List Int) : PyData := .list [.int (vI I (lastI S)), .int (lastI S), dI U, .bool (decide (lastI S = 0)), .int ((U.length : Nat) : Int)]
section
variable {P : Program} {w : World} {K : PySem.W.Frag} {mg : Str → Option Value} {base : Heap} {CR CP CC CS CG eF eE eS eR eO : Addr}
def spDue (K : PySem.W.Frag) : Sp := fun vs H Q _ => ∃ (t il : Addr) (I U S : List Int), vs = [.ref t, .ref il] ∧ LSt H t U S ∧ SqL K H il (I.map .int) ∧ 0 ≤ lastI S ∧ lastI S < (I.length : Int) ∧ U.length ≤ 1000 ∧ ∀ q H', Same H H' → Dp K H' (.ref q) (dueD I U S) → Q (.ref q) H'
theorem ok_law_due {f : Addr} {fd : FuncData} (F : Fun K "_law_due" "_law_due" s_law_due f fd) (B : NoB mg) : FnOk P w K mg base CX0 1 f fd ["state", "integers"] (spDue K) := by
  refine F.ok sc_law_due (fun vs H Q E h => ?_) (fun cdv A outer s H vs Q E hr h => ?_)
  · obtain ⟨t, il, I, U, S, rfl, _⟩ := h
    rfl
  · obtain ⟨t, il, I, U, S, rfl, ⟨ad, ak, ht, hd, hk⟩, hI, l0, l1, ul, q⟩ := h
    refine ⟨_, (pss_one (ps_ret (pe_lst (pa_cons (pe_ix ix_list (pv 1) (pe_ix ix_tup (pv 0) pe_int (fun _ _ => rfl)) (fun _ _ => rfl)) (pa_cons (pe_ix ix_tup (pv 0) pe_int (fun _ _ => rfl)) (pa_cons (pe_ix ix_tup (pv 0) pe_int (fun _ _ => rfl)) (pa_cons (pe_cmpR op_eq (pe_ix ix_tup (pv 0) pe_int (fun _ _ => rfl)) pe_int (nomark _)) (pa_cons (pe_callB call_len_seq (by rfl) B.len PySem.boot_len (pa_cons (pe_ix ix_tup (pv 0) pe_int (fun _ _ => rfl)) pa_nil)) pa_nil)))))))), ?_⟩
    have hT : SqT K H t [.int (lastI S), .ref ad, .ref ak] := .of ht
    refine ⟨_, rfl, _, rfl, t, _, _, _, rfl, rfl, hT, at0, il, _, _, _, rfl, rfl, hI, atI_vI ⟨l0, l1⟩, ?_⟩
    refine ⟨_, rfl, t, _, _, _, rfl, rfl, hT, at0, _, rfl, t, _, _, _, rfl, rfl, hT, at1, _, rfl, t, _, _, _, rfl, rfl, hT, at0, rfl, ?_⟩
    refine ⟨_, rfl, t, _, _, _, rfl, rfl, hT, at1, ad, _, rfl, .inl (.of hd), ?_⟩
    refine ⟨by show 5 ≤ sizeLine; decide, fun z nz => ?_⟩
    have e : decide (V.int (lastI S) = V.int 0) = decide (lastI S = 0) := decide_eq_decide.mpr ⟨fun z => V.int.inj z, fun z => congrArg V.int z⟩
    refine q z _ (same_new nz) ?_
    refine .lst (.of upd_same) (.cons (.int _) (.cons (.int _) (.cons (dp_ints (.of (same_new nz _ _ hd))) (.cons ?_ (.cons ?_ .nil)))))
    · show Dp _ _ (.bl (decide (V.int (lastI S) = V.int 0))) _
      rw [e]
      exact .bl _
    · rw [List.length_map]
      exact .int _
def spSeen (K : PySem.W.Frag) (CR CP CC CS CG : Addr) : Sp := fun vs H Q _ => ∃ (g r al ai ap aq : Addr) (ps : List Addr) (ks : List Nat) (I U S : List Int), vs = [.ref g] ∧ Liv CR CP CC CS CG H g r al ai ap aq ps ks I U S ∧ ∀ q H', Same H H' → Dp K H' (.ref q) (dueD I U S) → Q (.ref q) H'
theorem ok_law_seen {f : Addr} {fd : FuncData} (F : Fun K "_law_seen" "_law_seen" s_law_seen f fd) (B : NoB mg) (T_Setting_integer : PrpV P w K mg base 2 (Is CG) "integer" (spGInt CR CG)) (T_Setting_present : PrpV P w K mg base 1 (Is CG) "present" (spGPres CR CG)) (T_Setting_events : PrpV P w K mg base 1 (Is CG) "events" (spGEvents CR CG)) (T_Setting_original : PrpV P w K mg base 1 (Is CG) "original" (spGOrig CR CG)) (T_Setting_len : Met P w K mg base 1 CG "__len__" (spGLen CR CG)) :
    FnOk P w K mg base CX0 4 f fd ["one"] (spSeen K CR CP CC CS CG) := by
  refine F.ok sc_law_seen (fun vs H Q E h => ?_) (fun cdv A outer s H vs Q E hr h => ?_)
  · obtain ⟨g, r, al, ai, ap, aq, ps, ks, I, U, S, rfl, _⟩ := h
    rfl
  · obtain ⟨g, r, al, ai, ap, aq, ps, ks, I, U, S, rfl, L, q⟩ := h
    obtain ⟨dg, hg⟩ := L.set.g
    refine ⟨_, (pss_one (ps_ret (pe_lst (pa_cons (pe_pV T_Setting_integer hr (by decide) (pv 0)) (pa_cons (pe_pV T_Setting_present hr (by decide) (pv 0)) (pa_cons (pe_pV T_Setting_events hr (by decide) (pv 0)) (pa_cons (pe_pV T_Setting_original hr (by decide) (pv 0)) (pa_cons (pe_callB (call_lenO T_Setting_len hr (by decide)) (by rfl) B.len PySem.boot_len (pa_cons (pv 0) pa_nil)) pa_nil)))))))), ?_⟩
    refine ⟨_, rfl, g, CG, dg, _, rfl, rfl, hg, g, r, al, ai, ap, aq, ps, I, U, S, rfl, L.set, L.rc, L.wf, ?_⟩
    refine ⟨_, rfl, g, CG, dg, _, rfl, rfl, hg, g, r, al, ai, ap, aq, ps, I, U, S, rfl, L.set, L.rc, L.wf, ?_⟩
    refine ⟨_, rfl, g, CG, dg, _, rfl, rfl, hg, g, r, al, ai, ap, aq, ps, I, U, S, rfl, L.set, L.rc, fun y ny => ?_⟩
    have s1 := same_new (o := .lst (U.map .int)) ny
    have y1 : (upd H y (.lst (U.map .int))) y = some (.lst (U.map .int)) := upd_same
    have L1 := L.same s1
    generalize upd H y (.lst (U.map .int)) = H1 at s1 y1 L1 ⊢
    refine ⟨_, rfl, g, CG, dg, _, rfl, rfl, s1 _ _ hg, g, r, al, ai, ap, aq, ps, I, U, S, rfl, L1.set, L1.rc, L1.wf, ?_⟩
    have ul := L1.wf.p
    refine ⟨_, rfl, g, dg, _, rfl, s1 _ _ hg, g, r, al, ai, ap, aq, ps, I, U, S, rfl, L1.set, L1.rc, _, rfl, by omega, by omega, ?_⟩
    refine ⟨by show 5 ≤ sizeLine; decide, fun z nz => ?_⟩
    exact q z _ (s1.trans (same_new nz)) (.lst (.of upd_same) (.cons (.int _) (.cons (.int _) (.cons (dp_ints (.of (same_new nz _ _ y1))) (.cons (.bl _) (.cons (.int _) .nil))))))
def spPressed (K : PySem.W.Frag) (CR CP CC CS CG : Addr) : Sp := fun vs H Q _ => ∃ (sl g r al ai ap aq : Addr) (ps : List Addr) (ks : List Nat) (I U S : List Int) (e : Int), vs = [.ref sl, .int e] ∧ SqL K H sl (ps.map V.ref) ∧ Liv CR CP CC CS CG H g r al ai ap aq ps ks I U S ∧ e ≠ 0 ∧ e.natAbs ≤ ps.length ∧ U.length < 1000 ∧
  (∀ c, nxt ks U S e = some c → Q (.int (vI I c)) (upd (upd H ap (.lst ((U ++ [e]).map .int))) aq (.lst ((S ++ [c]).map .int)))) ∧ (0 < e → e ∈ U → Q (.str "started") H) ∧ (e < 0 → ¬ (-e ∈ U ∧ e ∉ U) → Q (.str "running") H) ∧ (e < 0 → -e ∈ U → e ∉ U → nxt ks U S e = none → Q (.str "order") H)
theorem ok_law_pressed {f : Addr} {fd : FuncData} (F : Fun K "_law_pressed" "_law_pressed" s_law_pressed f fd) (B : NoB mg) (RS : Er K mg "StartedError" eS) (RR : Er K mg "NotRunningError" eR) (RO : Er K mg "OutOfOrderError" eO) (X3 : Ex3 K eS eR eO)
    (T_AnyPatch_start : MetC P w K mg base 5 (Kind3 CP CC CS) "start" (spStartC CR eS)) (T_AnyPatch_stop : MetC P w K mg base 5 (Kind3 CP CC CS) "stop" (spStopK CR eR eO)) : FnOk P w K mg base CX0 6 f fd ["some", "event"] (spPressed K CR CP CC CS CG) := by
  refine F.ok sc_law_pressed (fun vs H Q E h => ?_) (fun cdv A outer s H vs Q E hr h => ?_)
  · obtain ⟨sl, g, r, al, ai, ap, aq, ps, ks, I, U, S, e, rfl, _⟩ := h
    rfl
  · obtain ⟨sl, g, r, al, ai, ap, aq, ps, ks, I, U, S, e, rfl, hS, L, e0, el, ul, q, q1, q2, q3⟩ := h
    refine ⟨_, (pss_cons (ps_set (i := 2) sc_law_pressed.nd rfl (Or.inl rfl) pe_str)
        (pss_cons (L2N.ps_try_many rfl rfl takesN (fun W pn xe tk _ => (pss_one (ps_set (i := 2) sc_law_pressed.nd rfl (Or.inl rfl) (pe_ifExp (pt_cmpR op_gt (pv 1) pe_int (nomark _)) (pe_mC0 T_AnyPatch_start hr (by decide) tk (pe_ix (k_ix (K := K) rfl) (pv 0) (pe_op op_sub (pe_callB call_abs (by rfl) B.abs (by decide +kernel) (pa_cons (pv 1) pa_nil)) pe_int) (fun _ _ => rfl))) (pe_mC0 T_AnyPatch_stop hr (by decide) tk (pe_ix (k_ix (K := K) rfl) (pv 0) (pe_op op_sub (pe_callB call_abs (by rfl) B.abs (by decide +kernel) (pa_cons (pv 1) pa_nil)) pe_int) (fun _ _ => rfl))))))) (.cons ⟨rfl, by decide, .inl RS.c⟩ (fun a oe cls d pn _ _ => pss_one (ps_ret pe_str)) (.cons ⟨rfl, by decide, .inl RR.c⟩ (fun a oe cls d pn _ _ => pss_one (ps_ret pe_str)) (.cons ⟨rfl, by decide, .inl RO.c⟩ (fun a oe cls d pn _ _ => pss_one (ps_ret pe_str)) .nil))))
        (pss_one (ps_ret (pv 2))))), ?_⟩
    have il := L.il
    unfold nxt at q q3
    by_cases hp : 0 < e
    · obtain ⟨p, C, dp, _, e2, hK, hpp⟩ := L.at (n := e) (by omega) (by omega)
      refine ⟨_, rfl, _, _, rfl, rfl, true, dT hp, ?_⟩
      refine ⟨_, rfl, _, rfl, e, rfl, ?_⟩
      rw [abs_pos hp]
      refine ⟨_, _, rfl, rfl, sl, _, _, _, rfl, rfl, hS, e2, p, C, _, dp, _, rfl, hK, hpp, lkP _ _ (by decide +kernel), p, dp, r, ai, ap, aq, e, I, U, S, rfl, hpp, L.rc, L.wf, by omega, by omega, ul, fun hn => ?_, fun hn => ?_⟩
      · exact ⟨_, rfl, q e (by rw [if_pos hp, if_neg hn])⟩
      · exact ⟨true, X3.ss, fun _ a ha => q1 hp hn, fun z => absurd z.symm Bool.false_ne_true⟩
    · have hn : e < 0 := by omega
      obtain ⟨p, C, dp, _, e2, hK, hpp⟩ := L.at (n := -e) (by omega) (by omega)
      refine ⟨_, rfl, _, _, rfl, rfl, false, dF hp, ?_⟩
      refine ⟨_, rfl, _, rfl, e, rfl, ?_⟩
      rw [abs_neg hn]
      refine ⟨_, _, rfl, rfl, sl, _, _, _, rfl, rfl, hS, e2, p, C, _, dp, _, rfl, hK, hpp, lkP _ _ (by decide +kernel), p, dp, r, ai, ap, aq, -e, I, U, S, rfl, hpp, L.rc, L.wf, ul, fun m1 m2 c hc => ?_, fun m1 m2 hc => ?_, fun m => ?_⟩
      · rw [Int.neg_neg] at m2
        refine ⟨_, rfl, ?_⟩
        have := q c (by rw [if_neg hp, if_neg (fun z => z.elim (fun q => q m1) m2)]; exact hc)
        rw [Int.neg_neg]
        exact this
      · rw [Int.neg_neg] at m2
        exact ⟨false, X3.os, fun z => absurd z Bool.false_ne_true, fun _ => ⟨false, X3.or_, fun z => absurd z Bool.false_ne_true, fun _ => ⟨true, X3.oo, fun _ a ha => q3 hn m1 m2 (by rw [if_neg hp, if_neg (fun z => z.elim (fun q => q m1) m2)]; exact hc), fun z => absurd z.symm Bool.false_ne_true⟩⟩⟩
      · rw [Int.neg_neg] at m
        exact ⟨false, X3.rs, fun z => absurd z Bool.false_ne_true, fun _ => ⟨true, X3.rr, fun _ a ha => q2 hn m, fun z => absurd z.symm Bool.false_ne_true⟩⟩
end
end L34
set_option Elab.async false
set_option linter.all false
set_option maxRecDepth 100000
namespace L34
open PySem PySem.Spec PyProof.Rows L2 Lp
section
variable {P : Program} {w : World} {K : PySem.W.Frag} {mg : Str → Option Value} {base : Heap} {CO CH : Addr}
/-! ### draws -/
def Src (H : Hp) (a : Addr) (n : Nat) : Prop := ∃ x y z : Int, H a = some (.lst [.int x, .int y, .int z]) ∧ 0 ≤ y ∧ y < 2 ^ 400 ∧ 0 ≤ z ∧ z ≤ (n : Int)
theorem Src.mono {H : Hp} {a : Addr} {n m : Nat} (h : Src H a n) (l : n ≤ m) : Src H a m := by
  obtain ⟨x, y, z, h1, h2, h3, h4, h5⟩ := h
  exact ⟨x, y, z, h1, h2, h3, h4, by omega⟩
theorem Src.bt {H H' : Hp} {a b : Addr} {n : Nat} (h : Src H a n) (x : Bt b H H') (e : a ≠ b) : Src H' a n := by
  obtain ⟨p, y, z, h1, h2⟩ := h
  exact ⟨p, y, z, x _ _ e h1, h2⟩
theorem Src.same {H H' : Hp} {a : Addr} {n : Nat} (h : Src H a n) (x : Same H H') : Src H' a n := by
  obtain ⟨p, y, z, h1, h2⟩ := h
  exact ⟨p, y, z, x _ _ h1, h2⟩
theorem Src.new {H : Hp} {a p : Addr} {n : Nat} {o : HO} (h : Src H a n) (e : H p = none) : Src (upd H p o) a n := h.same (same_new e)
theorem Src.ne {H : Hp} {a p : Addr} {n : Nat} (h : Src H a n) (e : H p = none) : p ≠ a := fun z => by
  obtain ⟨_, _, _, h1, _⟩ := h
  rw [← z, e] at h1
  cases h1
theorem Src.upd {H : Hp} {a p : Addr} {n : Nat} {o : HO} (h : Src H a n) (e : p ≠ a) : Src (upd H p o) a n := by
  obtain ⟨x, y, z, h1, h2⟩ := h
  exact ⟨x, y, z, by rw [upd_ne e.symm]; exact h1, h2⟩
def spDraw : Sp := fun vs H Q _ => ∃ (a : Addr) (m : Int) (n : Nat), vs = [.ref a, .int m] ∧ Src H a n ∧ n ≤ 1000000 ∧ 1 ≤ m ∧ m ≤ 1000000000 ∧ ∀ r H', 0 ≤ r → r < m → Src H' a (n + 1) → Bt a H H' → Q (.int r) H'
theorem lt_pow {i : Int} {n : Nat} (h0 : 0 ≤ i) (h : i < 2 ^ n) : i.natAbs < 2 ^ n := by
  have e : ((i.natAbs : Nat) : Int) = i := Int.natAbs_of_nonneg h0
  have h' : ((i.natAbs : Nat) : Int) < ((2 ^ n : Nat) : Int) := by
    rw [e]
    simpa using h
  exact Int.ofNat_lt.mp h'
theorem ok_law_draw {f : Addr} {fd : FuncData} (F : Fun K "_law_draw" "_law_draw" s_law_draw f fd) : FnOk P w K mg base CX0 1 f fd ["source", "size"] spDraw := by
  refine F.ok sc_law_draw (fun vs H Q E h => ?_) (fun cdv A outer s H vs Q E hr h => ?_)
  · obtain ⟨a, m, n, rfl, _⟩ := h
    rfl
  · obtain ⟨a, m, n, rfl, ⟨x, y, z, ha, y0, y1, z0, z1⟩, hn, m0, m1, q⟩ := h
    refine ⟨_, (pss_cons (ps_if (pt_cmpR op_gt (pe_ix ix_list (pv 0) pe_int (fun _ _ => rfl)) pe_int (nomark _)) (pss_cons (ps_set (i := 2) sc_law_draw.nd rfl (Or.inl rfl) (pe_op op_mod (pe_ix ix_list (pv 0) pe_int (fun _ _ => rfl)) (pv 1)))
          (pss_cons (ps_asg (pe_op op_fdivW (pe_ix ix_list (pv 0) pe_int (fun _ _ => rfl)) (pv 1)) (pg_sub (pv 0) pe_int set_list))
          (pss_one (ps_ret (pv 2))))) pss_nil)
        (pss_cons (ps_asg (pe_op op_add (pe_ix ix_list (pv 0) pe_int (fun _ _ => rfl)) pe_int) (pg_sub (pv 0) pe_int set_list))
        (pss_cons (ps_asg (pe_op op_mod (pe_op op_add (pe_op op_add (pe_op op_powW (pe_ix ix_list (pv 0) pe_int (fun _ _ => rfl)) pe_int) (pe_op op_mulW pe_int (pe_ix ix_list (pv 0) pe_int (fun _ _ => rfl)))) pe_int) (pe_op op_add (pe_op op_powW pe_int pe_int) pe_int)) (pg_sub (pv 0) pe_int set_list))
        (pss_one (ps_ret (pe_op op_mod (pe_op op_fdivW (pe_ix ix_list (pv 0) pe_int (fun _ _ => rfl)) (pe_op op_powW pe_int pe_int)) (pv 1))))))), ?_⟩
    have hS : SqL K H a [.int x, .int y, .int z] := .of ha
    by_cases hx : 0 < x
    · refine ⟨_, rfl, a, _, 0, _, rfl, rfl, hS, at0, _, _, rfl, rfl, true, dT hx, ?_⟩
      refine ⟨_, rfl, a, _, 0, _, rfl, rfl, hS, at0, _, rfl, _, _, rfl, rfl, (by show (0 : Int) < m; omega), ?_⟩
      refine ⟨_, rfl, a, _, 0, _, rfl, rfl, hS, at0, _, rfl, _, _, rfl, rfl, wide_div (b := 30) (by omega) (lt_pow (by omega) (by omega)) (by decide) (by decide), ?_⟩
      refine ⟨_, rfl, a, _, 0, 0, rfl, rfl, ha, rfl, _, rfl, ?_⟩
      exact q _ _ (Int.emod_nonneg _ (by omega)) (Int.emod_lt_of_pos _ (by omega)) ⟨_, _, _, upd_same, y0, y1, z0, by omega⟩ (.at_ _ _ _)
    · refine ⟨_, rfl, a, _, 0, _, rfl, rfl, hS, at0, _, _, rfl, rfl, false, dF hx, ?_⟩
      refine ⟨_, rfl, a, _, 2, _, rfl, rfl, hS, at2, _, _, rfl, rfl, _, rfl, a, _, 2, 2, rfl, rfl, ha, rfl, ?_⟩
      have hS2 : SqL K (upd H a (.lst [.int x, .int y, .int (z + 1)])) a [.int x, .int y, .int (z + 1)] := .of upd_same
      have c1 : CPowW y 3 := powW_ok (n := 400) (lt_pow y0 y1) (by decide) (by decide)
      have p1 : CPowW 10 33 := powW_ok (n := 4) (by decide) (by decide) (by decide)
      have p2 : CPowW 10 8 := powW_ok (n := 4) (by decide) (by decide) (by decide)
      have k1 : (10 : Int) ^ (33 : Int).toNat + 61 = 1000000000000000000000000000000061 := by decide +kernel
      have k2 : (10 : Int) ^ (8 : Int).toNat = 100000000 := by decide +kernel
      have n1 : (0 : Int) < 10 ^ (33 : Int).toNat + 61 := by rw [k1]; decide
      refine ⟨_, rfl, a, _, 1, _, rfl, rfl, hS2, at1, _, _, rfl, rfl, c1, _, rfl, a, _, 2, _, rfl, rfl, hS2, at2, _, _, rfl, rfl, wide_mul (a := 30) (b := 30) (by decide) (lt_pow (by omega) (by omega)) (by decide) (by decide) (by decide), _, _, rfl, rfl, _, _, rfl, rfl, _, _, rfl, rfl, p1, _, _, rfl, rfl, _, _, rfl, rfl, n1, ?_⟩
      generalize y ^ (3 : Int).toNat + 961748941 * (z + 1) + 5 = big
      have b0 : 0 ≤ big % (10 ^ (33 : Int).toNat + 61) := Int.emod_nonneg _ (Int.ne_of_gt n1)
      have b1 : big % (10 ^ (33 : Int).toNat + 61) < 2 ^ 400 := by
        have := Int.emod_lt_of_pos big n1
        rw [k1] at this
        rw [k1]
        omega
      refine ⟨_, rfl, a, _, 1, 1, rfl, rfl, upd_same, rfl, ?_⟩
      refine ⟨_, rfl, a, _, 1, _, rfl, rfl, .of upd_same, at1, _, _, rfl, rfl, p2, _, _, rfl, rfl, by rw [k2]; exact wide_div (b := 30) (by decide) (by decide) (by decide) (by decide), _, rfl, _, _, rfl, rfl, (by show (0 : Int) < m; omega), ?_⟩
      refine q _ _ (Int.emod_nonneg _ (by omega)) (Int.emod_lt_of_pos _ (by omega)) ⟨x, _, z + 1, upd_same, b0, b1, by omega, by omega⟩ ?_
      exact (Lp.Bt.at_ _ _ _).trans (.at_ _ _ _)
def spSource : Sp := fun vs H Q _ => ∃ (c : Int) (k : Nat), vs = [.int c, .int (k : Int)] ∧ k ≤ 1000 ∧ ∀ H' p, Same H H' → H p = none → Src H' p 0 → Q (.ref p) H'
theorem ok_law_source {f : Addr} {fd : FuncData} (F : Fun K "_law_source" "_law_source" s_law_source f fd) (B : NoB mg) : FnOk P w K mg base CX0 1 f fd ["cell", "nth"] spSource := by
  refine F.ok sc_law_source (fun vs H Q E h => ?_) (fun cdv A outer s H vs Q E hr h => ?_)
  · obtain ⟨c, k, rfl, _⟩ := h
    rfl
  · obtain ⟨c, k, rfl, hk, q⟩ := h
    refine ⟨_, (pss_one (ps_ret (pe_lst (pa_cons (pe_callB (call_max2 rfl) (by rfl) B.max (by decide +kernel) (pa_cons pe_int (pa_cons (pe_op op_sub (pv 0) (pe_op op_powW pe_int pe_int)) pa_nil))) (pa_cons (pe_op op_add (pe_op op_add (pe_op op_powW (pe_op op_mod (pv 0) (pe_op op_add (pe_op op_powW pe_int pe_int) pe_int)) pe_int) (pe_op op_mulW pe_int (pv 1))) pe_int) (pa_cons pe_int pa_nil)))))), ?_⟩
    have p1 : CPowW 10 18 := powW_ok (n := 4) (by decide) (by decide) (by decide)
    have p2 : CPowW 10 38 := powW_ok (n := 4) (by decide) (by decide) (by decide)
    have e : (10 : Int) ^ (38 : Int).toNat + 133 = 100000000000000000000000000000000000133 := by decide +kernel
    have m0 : (0 : Int) < 10 ^ (38 : Int).toNat + 133 := by rw [e]; decide
    have r0 := Int.emod_nonneg c (Int.ne_of_gt m0)
    have r1 := Int.emod_lt_of_pos c m0
    have r2 : c % (10 ^ (38 : Int).toNat + 133) < 100000000000000000000000000000000000133 := by
      rw [e] at r1
      rw [e]
      exact r1
    have c3 : CPowW (c % (10 ^ (38 : Int).toNat + 133)) 3 := powW_ok (n := 200) (lt_pow r0 (by omega)) (by decide) (by decide)
    refine ⟨_, rfl, _, _, rfl, rfl, p1, _, _, rfl, rfl, _, _, rfl, _, rfl, _, _, rfl, rfl, p2, _, _, rfl, rfl, _, _, rfl, rfl, m0, _, _, rfl, rfl, c3, _, rfl, _, _, rfl, rfl, wide_mul (a := 30) (b := 30) (by decide) (lt_pow (by omega) (by omega)) (by decide) (by decide) (by decide), _, _, rfl, rfl, _, _, rfl, rfl, by show 3 ≤ sizeLine; decide, fun p np => q _ p (same_new np) np ?_⟩
    have cube : ∀ u : Int, 0 ≤ u → u < 100000000000000000000000000000000000133 → 0 ≤ u ^ (3 : Int).toNat ∧ u ^ (3 : Int).toNat < 2 ^ 390 := fun u u0 u1 => by
      have e3 : u ^ (3 : Int).toNat = u * u * u := by
        show u ^ 3 = _
        rw [Int.pow_succ, Int.pow_succ, Int.pow_succ, Int.pow_zero, Int.one_mul]
      rw [e3]
      have a1 : 0 ≤ u * u := Int.mul_nonneg u0 u0
      have a2 : u * u ≤ 2 ^ 260 := Int.le_trans (Int.mul_le_mul (c := 2 ^ 130) (d := 2 ^ 130) (by omega) (by omega) u0 (by decide)) (by decide)
      exact ⟨Int.mul_nonneg a1 u0, Int.lt_of_le_of_lt (Int.mul_le_mul (c := 2 ^ 260) (d := 100000000000000000000000000000000000133) a2 (by omega) u0 (by decide)) (by decide)⟩
    obtain ⟨q0, q1⟩ := cube _ r0 r2
    exact ⟨_, _, _, upd_same, by omega, by omega, Int.le_refl _, Int.le_refl _⟩
end
section
variable {P : Program} {w : World} {K : PySem.W.Frag} {mg : Str → Option Value} {base : Heap} {CR CP CC CS CG eF eE eS eR eO : Addr}
/-! ### events drawn -/
theorem same_lock {H H' : Hp} {d : Addr} {kv : List (L2.Key × V)} {od : Obj} (hd : H d = some (.dK kv)) (s : Same (upd H d (.frz od (.dK kv))) H') : Same H (upd H' d (.dK kv)) := fun b o h => by
  by_cases e : b = d
  · subst e
    rw [hd] at h
    cases h
    exact upd_same
  · rw [upd_ne e]
    exact s b o (by rw [upd_ne e]; exact h)
theorem bt_lock {H : Hp} {d D : Addr} (nD : H D = none) {o : HO} {u : HO} (hd : H d = some u) : D ≠ d := fun z => by rw [z, hd] at nD; cases nD
theorem atI_ints {l : List Int} {j : Int} (h0 : 0 ≤ j) (h1 : j < (l.length : Int)) : ∃ x, x ∈ l ∧ atI (l.map V.int) j = some (.int x) := by
  obtain ⟨n, rfl⟩ : ∃ n : Nat, j = (n : Int) := ⟨j.toNat, by omega⟩
  have hn : n < l.length := by omega
  exact ⟨l[n], List.getElem_mem hn, atI_nat (by rw [List.getElem?_map, List.getElem?_eq_getElem hn]; rfl)⟩
theorem at_dn {j : Int} {a b c : V} (h0 : 0 ≤ j) (h1 : j < 3) : ∃ x, (x = a ∨ x = b ∨ x = c) ∧ atI [a, b, c] j = some x := by
  have : j = 0 ∨ j = 1 ∨ j = 2 := by omega
  rcases this with rfl | rfl | rfl
  · exact ⟨a, .inl rfl, at0⟩
  · exact ⟨b, .inr (.inl rfl), at1⟩
  · exact ⟨c, .inr (.inr rfl), at2⟩
/-- one of three draws from a list -/
def spEvent : Sp := fun vs H Q _ => ∃ (src t : Addr) (m n : Nat) (U S : List Int), vs = [.ref src, .ref t, .int (m : Int)] ∧ Src H src n ∧ n + 5 ≤ 1000000 ∧ LSt H t U S ∧ m ≤ 100 ∧ U.length ≤ 1000 ∧ (∀ x ∈ U, x.natAbs ≤ m) ∧
  ∀ e H', (e : Int).natAbs ≤ m → Src H' src (n + 5) → Bt src H H' → Q (.int e) H'
theorem ok_law_event {f : Addr} {fd : FuncData} (F : Fun K "_law_event" "_law_event" s_law_event f fd) (B : NoB mg) (T_law_draw : Cal P w K mg base 1 "_law_draw" spDraw) : FnOk P w K mg base CX0 2 f fd ["source", "state", "most"] spEvent := by
  refine F.ok sc_law_event (fun vs H Q E h => ?_) (fun cdv A outer s H vs Q E hr h => ?_)
  · obtain ⟨src, t, m, n, U, S, rfl, _⟩ := h
    rfl
  · obtain ⟨src, t, m, n, U, S, rfl, hs, hn, ⟨ad, ak, ht, hd, hk⟩, hm, ul, hU, q⟩ := h
    have hu := hu_of hr
    have hu64 := hr.units
    refine ⟨_, (pss_cons (ps_setLc (i := 3) (own := [("spot", 6)]) (g := gName 6) (tt := _) rfl sc_law_event.nd rfl rfl (sw_true rfl rfl rfl (by decide +kernel)) (pi_range2 rfl B.range (pa_cons pe_int (pa_cons (pe_op op_add (pv 2) pe_int) pa_nil))) (blkOk_by (own := [("spot", 6)]) (N := N_law_event) (sc := defScope s_law_event) (by decide +kernel)) (fun _ _ _ _ _ => (pg_name (i := 6) sc_law_event.nd rfl (Or.inl rfl))) (fun _ _ _ _ _ => (pts_one (pt_cmp (pc_dnotin hu (pv 6) (pe_ix (k_ixT (K := K) rfl) (pv 1) pe_int (fun _ _ => rfl)))))) (fun _ _ _ _ _ => (pv 6)))
        (pss_cons (ps_lock (ps_setLc (i := 4) (own := [("spot", 6)]) (g := gName 6) (tt := _) rfl sc_law_event.nd rfl rfl (sw_true rfl rfl rfl (by decide +kernel)) (pi_keys (pe_ix ix_tup (pv 1) pe_int (fun _ _ => rfl))) (blkOk_by (own := [("spot", 6)]) (N := N_law_event) (sc := defScope s_law_event) (by decide +kernel)) (fun _ _ _ _ _ => (pg_name (i := 6) sc_law_event.nd rfl (Or.inl rfl))) (fun _ _ _ _ _ => (pts_one (pt_cmpR (k_notin (K := K) rfl) (pe_op op_sub pe_int (pv 6)) (pe_ix (k_ixT (K := K) rfl) (pv 1) pe_int (fun _ _ => rfl)) (by rfl)))) (fun _ _ _ _ _ => (pv 6))))
        (pss_cons (ps_set (i := 5) sc_law_event.nd rfl (Or.inl rfl) (pe_c T_law_draw hr (by decide) (by rfl) (pa_cons (pv 0) (pa_cons pe_int pa_nil))))
        (pss_cons (ps_if (PW.pt (pw_and (pt_cmpR (op_neD hu64) (pv 3) (pe_lst pa_nil) (nomark _)) (pw_and1 (PW.pt (pw_or (pt_cmpR op_lt (pv 5) pe_int (nomark _)) (pw_or1 (pt_cmpR (op_eqD hu64) (pv 4) (pe_lst pa_nil) (nomark _)))))))) (pss_one (ps_ret (pe_ix ix_list (pe_lst (pa_cons (pe_ix ix_list (pv 3) pe_int (fun _ _ => rfl)) (pa_cons (pe_ix ix_list (pv 3) (pe_un un_neg pe_int) (fun _ _ => rfl)) (pa_cons (pe_ix ix_list (pv 3) (pe_c T_law_draw hr (by decide) (by rfl) (pa_cons (pv 0) (pa_cons (pe_callB call_len_seq (by rfl) B.len PySem.boot_len (pa_cons (pv 3) pa_nil)) pa_nil))) (fun _ _ => rfl)) pa_nil)))) (pe_c T_law_draw hr (by decide) (by rfl) (pa_cons (pv 0) (pa_cons pe_int pa_nil))) (fun _ _ => rfl)))) pss_nil)
        (pss_cons (ps_if (pt_cmpR (op_eqD hu64) (pv 4) (pe_lst pa_nil) (nomark _)) (pss_one (ps_ret pe_int)) pss_nil)
        (pss_one (ps_ret (pe_op op_sub pe_int (pe_ix ix_list (pe_lst (pa_cons (pe_ix ix_list (pv 4) pe_int (fun _ _ => rfl)) (pa_cons (pe_ix ix_list (pv 4) (pe_un un_neg pe_int) (fun _ _ => rfl)) (pa_cons (pe_ix ix_list (pv 4) (pe_c T_law_draw hr (by decide) (by rfl) (pa_cons (pv 0) (pa_cons (pe_callB call_len_seq (by rfl) B.len PySem.boot_len (pa_cons (pv 4) pa_nil)) pa_nil))) (fun _ _ => rfl)) pa_nil)))) (pe_c T_law_draw hr (by decide) (by rfl) (pa_cons (pv 0) (pa_cons pe_int pa_nil))) (fun _ _ => rfl)))))))))), ?_⟩
    refine ⟨_, rfl, _, _, rfl, rfl, _, _, rfl, ⟨by decide, by decide, by omega, by omega⟩, fun D nD => ?_⟩
    have e1 : ((m : Int) + 1 - 1).toNat = m := by omega
    refine lc_range (lo := 1) (n := ((m : Int) + 1 - 1).toNat) (fun i H' => ∃ ac : List Int, H' D = some (.lst (ac.map V.int)) ∧ ac.length ≤ i ∧ (∀ k ∈ ac, 1 ≤ k ∧ k ≤ (m : Int)) ∧ Same H H') ⟨[], upd_same, Nat.le_refl _, (fun k hk => nomatch hk), same_new nD⟩ (fun i H' hi h => ?_) (fun H1 h => ?_)
    · obtain ⟨ac, hD, li, hac, sm⟩ := h
      refine ⟨rfl, ?_⟩
      refine ⟨_, rfl, _, rfl, t, _, _, _, rfl, rfl, .of (sm _ _ ht), at2, ak, _, rfl, dgI (sm _ _ hk) (by omega), ?_⟩
      by_cases c1 : (1 + (i : Int)) ∈ U
      · refine ⟨false, by rw [if_pos c1]; rfl, ?_⟩
        exact ⟨ac, hD, Nat.le_succ_of_le li, hac, sm⟩
      · refine ⟨true, by rw [if_neg c1]; rfl, ?_⟩
        refine ⟨_, rfl, _, hD, zl (by rw [List.length_map]; omega), ac ++ [1 + (i : Int)], by rw [upd_same, snocI], by rw [List.length_append]; exact Nat.succ_le_succ li, fun k hk => ?_, fun b o e => ?_⟩
        · rcases List.mem_append.mp hk with hk | hk
          · exact hac k hk
          · rw [List.mem_singleton.mp hk]
            omega
        · rw [upd_ne (ne_of_none e nD)]
          exact sm b o e
    obtain ⟨fr, hfr, flen, hf, s1⟩ := h
    rw [e1] at flen
    have nDH : H D = none := nD
    -- running
    refine ⟨ak, _, s1 _ _ hk, trivial, fun od => ?_⟩
    have hk1 := s1 _ _ hk
    have na : ∀ {b : Addr} {o : HO}, H b = some o → (∀ kv, o ≠ .dK kv) → b ≠ ak := fun {b o} e n z => by rw [z, hk] at e; exact n _ (Option.some.inj e).symm
    have tk : t ≠ ak := na ht (fun kv z => nomatch z)
    have dk : ad ≠ ak := na hd (fun kv z => nomatch z)
    have Dk : D ≠ ak := fun z => by rw [z, hk] at nDH; cases nDH
    refine ⟨_, rfl, t, _, _, _, rfl, rfl, .of (by rw [upd_ne tk]; exact s1 _ _ ht), at2, ak, od, rfl, .inl ⟨_, upd_same, fun D2 nD2 => ?_⟩⟩
    have t2 : (upd H1 ak (.frz od (.dK (kept U S)))) t = some (.tup [.int (lastI S), .ref ad, .ref ak]) := by rw [upd_ne tk]; exact s1 _ _ ht
    have d2 : (upd H1 ak (.frz od (.dK (kept U S)))) ad = some (.lst (U.map .int)) := by rw [upd_ne dk]; exact s1 _ _ hd
    refine lc_it walk_keys (fun i H' => ∃ ac : List Int, H' D2 = some (.lst (ac.map V.int)) ∧ ac.length ≤ i ∧ (∀ k ∈ ac, 1 ≤ k ∧ k ≤ (m : Int)) ∧ Same (upd H1 ak (.frz od (.dK (kept U S)))) H') ⟨[], upd_same, Nat.le_refl _, (fun k hk => nomatch hk), same_new nD2⟩ (fun i H'' _ pp => by obtain ⟨_, _, _, _, sm⟩ := pp; exact sm _ _ upd_same) (fun i x H'' H3' hi pp hy => ?_) (fun H7 p7 => ?_)
    · obtain ⟨rfl, kk, vv, hkk, rfl⟩ := hy
      obtain ⟨ac, hD2, li, hac, sm⟩ := pp
      have kl := kept_len U S
      obtain ⟨s, rfl, hsU, s0⟩ : ∃ s : Int, kk = Sum.inl s ∧ s ∈ U ∧ 0 < s := by
        unfold kept at hkk
        rw [List.getElem?_map] at hkk
        cases z : (U.filter fun e => decide (0 < e))[i]? with
        | none => rw [z] at hkk; cases hkk
        | some s =>
          rw [z] at hkk
          have := List.mem_filter.mp (List.mem_of_getElem? z)
          exact ⟨s, (Prod.mk.inj (Option.some.inj hkk)).1.symm, this.1, of_decide_eq_true this.2⟩
      refine ⟨rfl, ?_⟩
      refine ⟨_, rfl, _, _, rfl, rfl, _, rfl, t, _, _, _, rfl, rfl, .of (sm _ _ t2), at1, ad, _, rfl, .inl (.of (sm _ _ d2)), rfl, flatI U, ?_⟩
      by_cases c2 : (0 : Int) - s ∈ U
      · refine ⟨false, notInF c2, ?_⟩
        exact ⟨ac, hD2, Nat.le_succ_of_le li, hac, sm⟩
      · refine ⟨true, notInT c2, ?_⟩
        refine ⟨_, rfl, _, hD2, zl (by rw [List.length_map]; omega), ac ++ [s], by rw [upd_same, ← snocI]; rfl, by rw [List.length_append]; exact Nat.succ_le_succ li, fun k hk => ?_, fun b o e => ?_⟩
        · rcases List.mem_append.mp hk with hk | hk
          · exact hac k hk
          · rw [List.mem_singleton.mp hk]
            have := hU s hsU
            omega
        · rw [upd_ne (ne_of_none e nD2)]
          exact sm b o e
    obtain ⟨ru, hru, rlen, hru1, s7⟩ := p7
    refine ⟨s7 _ _ upd_same, ?_⟩
    have s8 := same_lock hk1 s7
    have nD2k : D2 ≠ ak := (ne_of_none upd_same nD2).symm
    have r8 : (upd H7 ak (.dK (kept U S))) D2 = some (.lst (ru.map V.int)) := by rw [upd_ne nD2k]; exact hru
    have f8 := s8 _ _ hfr
    have s18 := s1.trans s8
    have nD2H1 : H1 D2 = none := by
      rw [upd_ne nD2k] at nD2
      exact nD2
    generalize upd H7 ak (.dK (kept U S)) = H8 at r8 f8 s18 ⊢
    have nds : src ≠ D := fun z => (hs.ne nDH) z.symm
    have nd2s : src ≠ D2 := fun z => ((hs.same s1).ne nD2H1) z.symm
    clear s8 s7 hru t2 d2 e1
    -- the draw of the way
    refine ⟨_, rfl, src, 5, n, rfl, hs.same s18, by omega, by decide, by decide, fun way H9 w0 w1 hs9 b9 => ?_⟩
    have f9 := b9 _ _ nds.symm f8
    have r9 := b9 _ _ nd2s.symm r8
    have b09 : Bt src H H9 := (Bt.of s18).trans b9
    have ends : ∀ (l : List Int), l ≠ [] → ∃ a b, a ∈ l ∧ b ∈ l ∧ atI (l.map V.int) 0 = some (.int a) ∧ atI (l.map V.int) (-1) = some (.int b) := fun l hl => by
      obtain ⟨a, m1, e1⟩ := atI_ints (l := l) (j := 0) (Int.le_refl _) (by have := List.length_pos_iff.mpr hl; omega)
      refine ⟨a, lastI l, m1, ?_, e1, atI_lastI hl⟩
      rw [last_snoc hl, lastI_snoc]
      exact List.mem_append_right _ List.mem_cons_self
    have bnd : ∀ {l : List Int} {x : Int}, x ∈ l → (∀ k ∈ l, 1 ≤ k ∧ k ≤ (m : Int)) → x.natAbs ≤ m := fun {l x} hx h => by
      have := h x hx
      omega
    have rlen1 : ru.length ≤ 1000 := by have := kept_len U S; omega
    -- the last choice
    by_cases c : fr ≠ [] ∧ (way < 2 ∨ ru = [])
    · obtain ⟨c1, c2⟩ := c
      obtain ⟨xa, xb, ma, mb, ea, eb⟩ := ends fr c1
      have flp : 1 ≤ fr.length := List.length_pos_iff.mpr c1
      refine ⟨_, rfl, Nat.zero_le _, fun z nz => ?_⟩
      have s10 := same_new (o := .lst []) nz
      have z10 : (upd H9 z (.lst [])) z = some (.lst (([] : List Int).map .int)) := upd_same
      generalize upd H9 z (.lst []) = H10 at s10 z10 ⊢
      refine ⟨dI fr, dI [], dp_ints (.of (s10 _ _ f9)), dp_ints (ns := []) (.of z10), shaped_ints _, shaped_ints _, true, neqT c1, ?_⟩
      by_cases w2 : way < 2
      · refine ⟨_, rfl, _, _, rfl, rfl, true, dT w2, ?_⟩
        have hs11 := hs9.same s10
        have f11 := s10 _ _ f9
        have b11 := b09.trans (.of s10)
        generalize H10 = H11 at hs11 f11 b11 ⊢
        refine ⟨_, rfl, D, _, _, _, rfl, rfl, .of f11, ea, ?_⟩
        refine ⟨_, rfl, _, rfl, D, _, _, _, rfl, rfl, .of f11, eb, ?_⟩
        refine ⟨_, rfl, _, rfl, _, rfl, D, _, rfl, .inl (.of f11), src, _, _, rfl, hs11, by omega, by rw [List.length_map]; omega, by rw [List.length_map]; omega, fun j1 H12 j0 j1' hs12 b12 => ?_⟩
        rw [List.length_map] at j1'
        obtain ⟨xc, mc, ec⟩ := atI_ints (l := fr) j0 j1'
        have f12 := b12 _ _ nds.symm f11
        refine ⟨D, _, _, _, rfl, rfl, .of f12, ec, ?_⟩
        refine ⟨by show 3 ≤ sizeLine; decide, fun L nL => ?_⟩
        have sL := same_new (o := .lst [.int xa, .int xb, .int xc]) nL
        have nLs : L ≠ src := hs12.ne nL
        refine ⟨_, rfl, src, 3, _, rfl, hs12.same sL, by omega, by decide, by decide, fun j2 H13 k0 k1 hs13 b13 => ?_⟩
        obtain ⟨x, hx, ex⟩ := at_dn (a := .int xa) (b := .int xb) (c := .int xc) k0 k1
        refine ⟨L, _, _, _, rfl, rfl, .of (b13 _ _ nLs upd_same), ex, ?_⟩
        have bf := ((b11.trans b12).trans (.of sL)).trans b13
        rcases hx with rfl | rfl | rfl
        · exact q _ _ (bnd ma hf) (hs13.mono (by omega)) bf
        · exact q _ _ (bnd mb hf) (hs13.mono (by omega)) bf
        · exact q _ _ (bnd mc hf) (hs13.mono (by omega)) bf
      · have c3 : ru = [] := c2.resolve_left w2
        refine ⟨_, rfl, _, _, rfl, rfl, false, dF w2, ?_⟩
        refine ⟨_, rfl, Nat.zero_le _, fun z2 nz2 => ?_⟩
        have s10b := s10.trans (same_new (o := .lst []) nz2)
        have z10b : (upd H10 z2 (.lst [])) z2 = some (.lst (([] : List Int).map .int)) := upd_same
        generalize upd H10 z2 (.lst []) = H11 at s10b z10b ⊢
        refine ⟨dI ru, dI [], dp_ints (.of (s10b _ _ r9)), dp_ints (ns := []) (.of z10b), shaped_ints _, shaped_ints _, true, eqvT c3, ?_⟩
        have hs11 := hs9.same s10b
        have f11 := s10b _ _ f9
        have b11 := b09.trans (.of s10b)
        refine ⟨_, rfl, D, _, _, _, rfl, rfl, .of f11, ea, ?_⟩
        refine ⟨_, rfl, _, rfl, D, _, _, _, rfl, rfl, .of f11, eb, ?_⟩
        refine ⟨_, rfl, _, rfl, _, rfl, D, _, rfl, .inl (.of f11), src, _, _, rfl, hs11, by omega, by rw [List.length_map]; omega, by rw [List.length_map]; omega, fun j1 H12 j0 j1' hs12 b12 => ?_⟩
        rw [List.length_map] at j1'
        obtain ⟨xc, mc, ec⟩ := atI_ints (l := fr) j0 j1'
        have f12 := b12 _ _ nds.symm f11
        refine ⟨D, _, _, _, rfl, rfl, .of f12, ec, ?_⟩
        refine ⟨by show 3 ≤ sizeLine; decide, fun L nL => ?_⟩
        have sL := same_new (o := .lst [.int xa, .int xb, .int xc]) nL
        have nLs : L ≠ src := hs12.ne nL
        refine ⟨_, rfl, src, 3, _, rfl, hs12.same sL, by omega, by decide, by decide, fun j2 H13 k0 k1 hs13 b13 => ?_⟩
        obtain ⟨x, hx, ex⟩ := at_dn (a := .int xa) (b := .int xb) (c := .int xc) k0 k1
        refine ⟨L, _, _, _, rfl, rfl, .of (b13 _ _ nLs upd_same), ex, ?_⟩
        have bf := ((b11.trans b12).trans (.of sL)).trans b13
        rcases hx with rfl | rfl | rfl
        · exact q _ _ (bnd ma hf) (hs13.mono (by omega)) bf
        · exact q _ _ (bnd mb hf) (hs13.mono (by omega)) bf
        · exact q _ _ (bnd mc hf) (hs13.mono (by omega)) bf
    · -- not a start
      refine ⟨_, rfl, Nat.zero_le _, fun z nz => ?_⟩
      have s10 := same_new (o := .lst []) nz
      have z10 : (upd H9 z (.lst [])) z = some (.lst (([] : List Int).map .int)) := upd_same
      generalize upd H9 z (.lst []) = H10 at s10 z10 ⊢
      by_cases c1 : fr = []
      · refine ⟨dI fr, dI [], dp_ints (.of (s10 _ _ f9)), dp_ints (ns := []) (.of z10), shaped_ints _, shaped_ints _, false, neqF c1, ?_⟩
        refine ⟨_, rfl, Nat.zero_le _, fun z3 nz3 => ?_⟩
        have s11 := s10.trans (same_new (o := .lst []) nz3)
        have z11 : (upd H10 z3 (.lst [])) z3 = some (.lst (([] : List Int).map .int)) := upd_same
        generalize upd H10 z3 (.lst []) = H11 at s11 z11 ⊢
        refine ⟨dI ru, dI [], dp_ints (.of (s11 _ _ r9)), dp_ints (ns := []) (.of z11), shaped_ints _, shaped_ints _, ?_⟩
        by_cases c3 : ru = []
        · exact ⟨true, eqvT c3, q 0 _ (Nat.zero_le _) ((hs9.same s11).mono (by omega)) (b09.trans (.of s11))⟩
        · refine ⟨false, eqvF c3, ?_⟩
          obtain ⟨xa, xb, ma, mb, ea, eb⟩ := ends ru c3
          have rlp : 1 ≤ ru.length := List.length_pos_iff.mpr c3
          have hs11 := hs9.same s11
          have r11 := s11 _ _ r9
          have b11 := b09.trans (.of s11)
          refine ⟨_, rfl, D2, _, _, _, rfl, rfl, .of r11, ea, ?_⟩
          refine ⟨_, rfl, _, rfl, D2, _, _, _, rfl, rfl, .of r11, eb, ?_⟩
          refine ⟨_, rfl, _, rfl, _, rfl, D2, _, rfl, .inl (.of r11), src, _, _, rfl, hs11, by omega, by rw [List.length_map]; omega, by rw [List.length_map]; omega, fun j1 H12 j0 j1' hs12 b12 => ?_⟩
          rw [List.length_map] at j1'
          obtain ⟨xc, mc, ec⟩ := atI_ints (l := ru) j0 j1'
          have r12 := b12 _ _ nd2s.symm r11
          refine ⟨D2, _, _, _, rfl, rfl, .of r12, ec, ?_⟩
          refine ⟨by show 3 ≤ sizeLine; decide, fun L nL => ?_⟩
          have sL := same_new (o := .lst [.int xa, .int xb, .int xc]) nL
          have nLs : L ≠ src := hs12.ne nL
          refine ⟨_, rfl, src, 3, _, rfl, hs12.same sL, by omega, by decide, by decide, fun j2 H13 k0 k1 hs13 b13 => ?_⟩
          obtain ⟨x, hx, ex⟩ := at_dn (a := .int xa) (b := .int xb) (c := .int xc) k0 k1
          refine ⟨L, _, _, _, rfl, rfl, .of (b13 _ _ nLs upd_same), ex, ?_⟩
          have bf := ((b11.trans b12).trans (.of sL)).trans b13
          have neg : ∀ {x : Int}, x ∈ ru → ((0 : Int) - x).natAbs ≤ m := fun {x} hx => by
            have := bnd hx hru1
            omega
          rcases hx with rfl | rfl | rfl
          · exact ⟨_, _, rfl, rfl, q _ _ (neg ma) (hs13.mono (by omega)) bf⟩
          · exact ⟨_, _, rfl, rfl, q _ _ (neg mb) (hs13.mono (by omega)) bf⟩
          · exact ⟨_, _, rfl, rfl, q _ _ (neg mc) (hs13.mono (by omega)) bf⟩
      · have w2 : ¬ way < 2 := fun z => c ⟨c1, .inl z⟩
        have c3 : ru ≠ [] := fun z => c ⟨c1, .inr z⟩
        refine ⟨dI fr, dI [], dp_ints (.of (s10 _ _ f9)), dp_ints (ns := []) (.of z10), shaped_ints _, shaped_ints _, true, neqT c1, ?_⟩
        refine ⟨_, rfl, _, _, rfl, rfl, false, dF w2, ?_⟩
        refine ⟨_, rfl, Nat.zero_le _, fun z2 nz2 => ?_⟩
        have s10b := s10.trans (same_new (o := .lst []) nz2)
        have z10b : (upd H10 z2 (.lst [])) z2 = some (.lst (([] : List Int).map .int)) := upd_same
        generalize upd H10 z2 (.lst []) = H10b at s10b z10b ⊢
        refine ⟨dI ru, dI [], dp_ints (.of (s10b _ _ r9)), dp_ints (ns := []) (.of z10b), shaped_ints _, shaped_ints _, false, eqvF c3, ?_⟩
        refine ⟨_, rfl, Nat.zero_le _, fun z3 nz3 => ?_⟩
        have s11 := s10b.trans (same_new (o := .lst []) nz3)
        have z11 : (upd H10b z3 (.lst [])) z3 = some (.lst (([] : List Int).map .int)) := upd_same
        generalize upd H10b z3 (.lst []) = H11 at s11 z11 ⊢
        refine ⟨dI ru, dI [], dp_ints (.of (s11 _ _ r9)), dp_ints (ns := []) (.of z11), shaped_ints _, shaped_ints _, false, eqvF c3, ?_⟩
        obtain ⟨xa, xb, ma, mb, ea, eb⟩ := ends ru c3
        have rlp : 1 ≤ ru.length := List.length_pos_iff.mpr c3
        have hs11 := hs9.same s11
        have r11 := s11 _ _ r9
        have b11 := b09.trans (.of s11)
        refine ⟨_, rfl, D2, _, _, _, rfl, rfl, .of r11, ea, ?_⟩
        refine ⟨_, rfl, _, rfl, D2, _, _, _, rfl, rfl, .of r11, eb, ?_⟩
        refine ⟨_, rfl, _, rfl, _, rfl, D2, _, rfl, .inl (.of r11), src, _, _, rfl, hs11, by omega, by rw [List.length_map]; omega, by rw [List.length_map]; omega, fun j1 H12 j0 j1' hs12 b12 => ?_⟩
        rw [List.length_map] at j1'
        obtain ⟨xc, mc, ec⟩ := atI_ints (l := ru) j0 j1'
        have r12 := b12 _ _ nd2s.symm r11
        refine ⟨D2, _, _, _, rfl, rfl, .of r12, ec, ?_⟩
        refine ⟨by show 3 ≤ sizeLine; decide, fun L nL => ?_⟩
        have sL := same_new (o := .lst [.int xa, .int xb, .int xc]) nL
        have nLs : L ≠ src := hs12.ne nL
        refine ⟨_, rfl, src, 3, _, rfl, hs12.same sL, by omega, by decide, by decide, fun j2 H13 k0 k1 hs13 b13 => ?_⟩
        obtain ⟨x, hx, ex⟩ := at_dn (a := .int xa) (b := .int xb) (c := .int xc) k0 k1
        refine ⟨L, _, _, _, rfl, rfl, .of (b13 _ _ nLs upd_same), ex, ?_⟩
        have bf := ((b11.trans b12).trans (.of sL)).trans b13
        have neg : ∀ {x : Int}, x ∈ ru → ((0 : Int) - x).natAbs ≤ m := fun {x} hx => by
          have := bnd hx hru1
          omega
        rcases hx with rfl | rfl | rfl
        · exact ⟨_, _, rfl, rfl, q _ _ (neg ma) (hs13.mono (by omega)) bf⟩
        · exact ⟨_, _, rfl, rfl, q _ _ (neg mb) (hs13.mono (by omega)) bf⟩
        · exact ⟨_, _, rfl, rfl, q _ _ (neg mc) (hs13.mono (by omega)) bf⟩
end
end L34
set_option Elab.async false
set_option linter.all false
set_option maxRecDepth 100000
namespace L34
open PySem PySem.Spec PyProof.Rows L2 Lp
section
variable {CR CP CC CS CG : Addr} {H H' : Hp} {g r al ai ap aq : Addr} {ps : List Addr} {ks : List Nat} {I U S : List Int}
/-- a source is drawn from -/
theorem Liv.bt (h : Liv CR CP CC CS CG H g r al ai ap aq ps ks I U S) {src : Addr} {n : Nat} (hs : Src H src n) (b : Bt src H H') (n1 : src ≠ al) (n2 : src ≠ ai) (n3 : src ≠ ap) (n4 : src ≠ aq) : Liv CR CP CC CS CG H' g r al ai ap aq ps ks I U S := by
  obtain ⟨⟨⟨dg, hg⟩, hl⟩, ⟨⟨dr, hR⟩, hi, p0, q0, ip, iq, pq⟩, w, la, lp, lq, il, kl, pat⟩ := h
  obtain ⟨x, y, z, hx, _⟩ := hs
  have ni : ∀ {b : Addr} {C d : Addr} {fs : List (Str × V)}, H b = some (.ins C d fs) → b ≠ src := fun {b C d fs} e z => by rw [z, hx] at e; cases e
  exact ⟨⟨⟨dg, b _ _ (ni hg) hg⟩, b _ _ n1.symm hl⟩, ⟨⟨dr, b _ _ (ni hR) hR⟩, b _ _ n2.symm hi, b _ _ n3.symm p0, b _ _ n4.symm q0, ip, iq, pq⟩, w, la, lp, lq, il, kl, fun j p k' e1 e2 => by
    obtain ⟨C, dp, a, e⟩ := pat j p k' e1 e2
    exact ⟨C, dp, a, b _ _ (ni e) e⟩⟩
/-- another patch -/
theorem Liv.make (h : Liv CR CP CC CS CG H g r al ai ap aq ps ks I [] [0]) {p dp C : Addr} {k : Nat} {i : Int} (hp : H' p = some (.ins C dp (fP r ((ps.length : Int) + 1)))) (G : SetAt CG H' g r al (ps ++ [p])) (R : Rec CR H' r ai ap aq (I ++ [i]) [] [0]) (hK : Kind3 CP CC CS C k) (l : ps.length < 100)
    (keep : ∀ b o, b ≠ ai → b ≠ al → H b = some o → H' b = some o) : Liv CR CP CC CS CG H' g r al ai ap aq (ps ++ [p]) (ks ++ [k]) (I ++ [i]) [] [0] := by
  have il := h.il
  have kl := h.kl
  refine ⟨G, R, ⟨rfl, fun c hc => ?_, Nat.zero_le _, by rw [List.length_append]; show I.length + 1 ≤ 1000; omega⟩, h.la, h.lp, h.lq, by rw [List.length_append, List.length_append, il]; rfl, by rw [List.length_append, List.length_append, kl]; rfl, fun j q k' e1 e2 => ?_⟩
  · rw [List.mem_singleton.mp hc, List.length_append]
    exact ⟨Int.le_refl _, by show (0 : Int) < ((I.length + 1 : Nat) : Int); omega⟩
  · by_cases e : j < ps.length
    · rw [List.getElem?_append_left e] at e1
      rw [List.getElem?_append_left (by omega)] at e2
      obtain ⟨C', dp', a, b⟩ := h.pat j q k' e1 e2
      have ni : q ≠ ai ∧ q ≠ al := ⟨fun z => (by rw [z, h.rc.i] at b; cases b), fun z => (by rw [z, h.set.l] at b; cases b)⟩
      exact ⟨C', dp', a, keep _ _ ni.1 ni.2 b⟩
    · have ej : j = ps.length := by
        have := lt_get e1
        rw [List.length_append] at this
        have : j < ps.length + 1 := this
        omega
      subst ej
      rw [List.getElem?_append_right (Nat.le_refl _), Nat.sub_self] at e1
      rw [List.getElem?_append_right (by omega)] at e2
      have e3 : ps.length - ks.length = 0 := by omega
      rw [e3] at e2
      cases e1
      cases e2
      exact ⟨C, dp, hK, hp⟩
end
theorem at_st {s w : Int} (h0 : 0 ≤ s) (h1 : s ≤ 3) (w0 : 0 ≤ w) (w1 : w < 3) : ∃ k : Nat, k < 3 ∧ (s < 3 → (k : Int) = s) ∧ atI [V.int 0, .int 1, .int 2, .int w] s = some (.int (k : Int)) := by
  have : s = 0 ∨ s = 1 ∨ s = 2 ∨ s = 3 := by omega
  rcases this with rfl | rfl | rfl | rfl
  · exact ⟨0, by decide, fun _ => rfl, at0⟩
  · exact ⟨1, by decide, fun _ => rfl, at1⟩
  · exact ⟨2, by decide, fun _ => rfl, at2⟩
  · exact ⟨w.toNat, by omega, fun z => absurd z (by decide), (atI_nat (j := 3) rfl).trans (by rw [show ((w.toNat : Nat) : Int) = w by omega])⟩
theorem at_four {j a b c d : Int} {q : Int → Prop} (h0 : 0 ≤ j) (h1 : j < 4) (ha : q a) (hb : q b) (hc : q c) (hd : q d) : ∃ x, q x ∧ atI [V.int a, .int b, .int c, .int d] j = some (.int x) := by
  have : j = 0 ∨ j = 1 ∨ j = 2 ∨ j = 3 := by omega
  rcases this with rfl | rfl | rfl | rfl
  · exact ⟨a, ha, at0⟩
  · exact ⟨b, hb, at1⟩
  · exact ⟨c, hc, at2⟩
  · exact ⟨d, hd, atI_nat (j := 3) rfl⟩
theorem at_word {k : Nat} (h : k < 3) : atI [V.str "patch", .str "careful", .str "strict"] (k : Int) = some (wordV k) := by
  match k, h with
  | 0, _ => exact at0
  | 1, _ => exact at1
  | 2, _ => exact at2
section
variable {P : Program} {w : World} {K : PySem.W.Frag} {mg : Str → Option Value} {base : Heap} {CR CP CC CS CG eF eE eS eR eO : Addr}
/-! ### patches made -/
def spMade (CR CP CC CS CG : Addr) : Sp := fun vs H Q _ => ∃ (src g r al ai ap aq : Addr) (n m : Nat) (s i0 : Int), vs = [.ref src, .ref g, .int (m : Int), .int s] ∧ Src H src n ∧ n + 6 * m ≤ 900000 ∧ m ≤ 100 ∧ 0 ≤ s ∧ s ≤ 3 ∧ Liv CR CP CC CS CG H g r al ai ap aq [] [] [i0] [] [0] ∧ src ≠ al ∧ src ≠ ai ∧ src ≠ ap ∧ src ≠ aq ∧
  ∀ t a b c ps ks I H', H' t = some (.tup [.ref a, .ref b, .ref c]) → H' a = some (.lst (ps.map .ref)) → H' b = some (.lst (ks.map wordV)) → H' c = some (.lst (I.map .int)) → Liv CR CP CC CS CG H' g r al ai ap aq ps ks I [] [0] → ps.length = m → (∀ k ∈ ks, k < 3) → (s < 3 → ∀ k ∈ ks, (k : Int) = s) → I[0]? = some i0 →
    Src H' src (n + 6 * m) → (∀ x o, x ≠ src → x ≠ ai → x ≠ al → H x = some o → H' x = some o) → H t = none → H a = none → H b = none → H c = none → Q (.ref t) H'
theorem ok_law_made {f : Addr} {fd : FuncData} (F : Fun K "_law_made" "_law_made" s_law_made f fd) (B : NoB mg) (T_law_draw : Cal P w K mg base 1 "_law_draw" spDraw) (T_Setting_integer : PrpV P w K mg base 2 (Is CG) "integer" (spGInt CR CG)) (T_Setting_patch : MetV P w K mg base 6 (Is CG) "patch" (spMake CR CG eF CP)) (T_Setting_careful : MetV P w K mg base 6 (Is CG) "careful" (spMake CR CG eF CC)) (T_K_Setting_strict : MetVK P w K mg base 6 (Is CG) "strict" 1 ["number"] (fun a b => a ++ b) (spMake CR CG eF CS)) :
    FnOk P w K mg base CX0 7 f fd ["source", "one", "most", "style"] (spMade CR CP CC CS CG) := by
  refine F.ok sc_law_made (fun vs H Q E h => ?_) (fun cdv A outer s H vs Q E hr h => ?_)
  · obtain ⟨src, g, r, al, ai, ap, aq, n, m, s, i0, rfl, _⟩ := h
    rfl
  · obtain ⟨src, g, r, al, ai, ap, aq, n, m, s, i0, rfl, hs, hn, hm, s0, s3, L, d1, d2, d3, d4, q⟩ := h
    refine ⟨_, (pss_cons (ps_par3 (i := 4) (j := 5) (l := 6) (by rfl) sc_law_made.nd rfl rfl rfl (by decide) (by decide) (by decide) rfl rfl rfl (pa_cons (pe_lst pa_nil) (pa_cons (pe_lst pa_nil) (pa_cons (pe_lst (pa_cons (pe_pV T_Setting_integer hr (by decide) (pv 1)) pa_nil)) pa_nil))) (by rfl))
        (pss_cons (ps_for PassesOwn.never rfl (pi_range1 rfl B.range (pa_cons (pv 2) pa_nil)) (pg_name (i := 7) sc_law_made.nd rfl (Or.inl rfl))
          (pss_cons (ps_set (i := 8) sc_law_made.nd rfl (Or.inl rfl) (pe_ix ix_list (pe_lst (pa_cons pe_int (pa_cons pe_int (pa_cons pe_int (pa_cons (pe_c T_law_draw hr (by decide) (by rfl) (pa_cons (pv 0) (pa_cons pe_int pa_nil))) pa_nil))))) (pv 3) (fun _ _ => rfl)))
          (pss_cons (ps_set (i := 9) sc_law_made.nd rfl (Or.inl rfl) (pe_lst (pa_cons (pe_c T_law_draw hr (by decide) (by rfl) (pa_cons (pv 0) (pa_cons pe_int pa_nil))) (pa_cons (pe_op op_sub (pe_op op_powW pe_int pe_int) (pe_c T_law_draw hr (by decide) (by rfl) (pa_cons (pv 0) (pa_cons pe_int pa_nil)))) (pa_cons (pe_op op_sub pe_int (pe_c T_law_draw hr (by decide) (by rfl) (pa_cons (pv 0) (pa_cons (pe_op op_powW pe_int pe_int) pa_nil)))) (pa_cons (pe_op op_add (pv 7) pe_int) pa_nil))))))
          (pss_cons (ps_set (i := 9) sc_law_made.nd rfl (Or.inl rfl) (pe_ix ix_list (pv 9) (pe_c T_law_draw hr (by decide) (by rfl) (pa_cons (pv 0) (pa_cons pe_int pa_nil))) (fun _ _ => rfl)))
          (Evl.pss_cut (ps_if (pt_cmpR op_eq (pv 8) pe_int (nomark _)) (pss_one (ps_expr (pe_bm PySem.F.plainAttrs_list PySem.F.slot_list_append PySem.F.type_list_append mt_append (pv 4) (pa_cons (pe_mV T_Setting_patch hr (by decide) takesN (pv 1) (pa_cons (pv 9) pa_nil)) pa_nil)))) (pss_one (ps_if (pt_cmpR op_eq (pv 8) pe_int (nomark _)) (pss_one (ps_expr (pe_bm PySem.F.plainAttrs_list PySem.F.slot_list_append PySem.F.type_list_append mt_append (pv 4) (pa_cons (pe_mV T_Setting_careful hr (by decide) takesN (pv 1) (pa_cons (pv 9) pa_nil)) pa_nil)))) (pss_one (ps_expr (pe_bm PySem.F.plainAttrs_list PySem.F.slot_list_append PySem.F.type_list_append mt_append (pv 4) (pa_cons (pe_mVK T_K_Setting_strict hr (by decide) takesN (pv 1) (pk_cons (pv 9) pk_nil)) pa_nil)))))))
          (pss_cons (ps_expr (pe_bm PySem.F.plainAttrs_list PySem.F.slot_list_append PySem.F.type_list_append mt_append (pv 5) (pa_cons (pe_ix ix_list (pe_lst (pa_cons pe_str (pa_cons pe_str (pa_cons pe_str pa_nil)))) (pv 8) (fun _ _ => rfl)) pa_nil)))
          (pss_one (ps_expr (pe_bm PySem.F.plainAttrs_list PySem.F.slot_list_append PySem.F.type_list_append mt_append (pv 6) (pa_cons (pv 9) pa_nil))))))))))
        (pss_one (ps_ret (pe_tup (pa_cons (pv 4) (pa_cons (pv 5) (pa_cons (pv 6) pa_nil)))))))), ?_⟩
    obtain ⟨dg, hg⟩ := L.set.g
    refine ⟨Nat.zero_le _, fun a na => ?_⟩
    have sa := same_new (o := .lst []) na
    have a1 : (upd H a (.lst [])) a = some (.lst (([] : List Addr).map .ref)) := upd_same
    generalize upd H a (.lst []) = H1 at sa a1 ⊢
    refine ⟨Nat.zero_le _, fun b nb => ?_⟩
    have sb := sa.trans (same_new (o := .lst []) nb)
    have a2 := same_new (o := .lst []) nb _ _ a1
    have b2 : (upd H1 b (.lst [])) b = some (.lst (([] : List Nat).map wordV)) := upd_same
    have nbH := sa.free nb
    generalize upd H1 b (.lst []) = H2 at sb a2 b2 ⊢
    have L2' := L.same sb
    refine ⟨_, rfl, g, CG, dg, _, rfl, rfl, sb _ _ hg, g, r, al, ai, ap, aq, [], [i0], [], [0], rfl, L2'.set, L2'.rc, L2'.wf, ?_⟩
    refine ⟨by show 1 ≤ sizeLine; decide, fun c nc => ?_⟩
    have e0 : vI [i0] (lastI [0]) = i0 := rfl
    rw [e0]
    have sc := sb.trans (same_new (o := .lst [.int i0]) nc)
    have a3 := same_new (o := .lst [.int i0]) nc _ _ a2
    have b3 := same_new (o := .lst [.int i0]) nc _ _ b2
    have c3 : (upd H2 c (.lst [.int i0])) c = some (.lst ([i0].map .int)) := upd_same
    have ncH := sb.free nc
    generalize upd H2 c (.lst [.int i0]) = H3 at sc a3 b3 c3 ⊢
    have nab : a ≠ b := fun z => by rw [← z] at nb; rw [a1] at nb; cases nb
    have nac : a ≠ c := fun z => by rw [← z] at nc; rw [a2] at nc; cases nc
    have nbc : b ≠ c := fun z => by rw [← z] at nc; rw [b2] at nc; cases nc
    have fresh : ∀ {z x : Addr} {o : HO}, H z = none → H x = some o → z ≠ x := fun {z x o} h1 h2 e => by rw [e, h2] at h1; cases h1
    obtain ⟨sx, sy, sz, hsx, _⟩ := id hs
    have hal := L.set.l
    have hai := L.rc.i
    have L3 := L.same sc
    have nax : ∀ {x : Addr} {o : HO}, H x = some o → a ≠ x := fun {x o} e => fresh na e
    have nbx : ∀ {x : Addr} {o : HO}, H x = some o → b ≠ x := fun {x o} e => fresh nbH e
    have ncx : ∀ {x : Addr} {o : HO}, H x = some o → c ≠ x := fun {x o} e => fresh ncH e
    have hap := L.rc.p
    have haq := L.rc.q
    refine ⟨_, _, _, rfl, _, rfl, _, rfl, by omega, by omega, ?_⟩
    have Iat : ∀ {ps : List Addr} {ks : List Nat} {I : List Int} {H' : Hp}, Liv CR CP CC CS CG H' g r al ai ap aq ps ks I [] [0] → ∃ dg, H' g = some (.ins CG dg (fG r al)) := fun {ps ks I H'} h => h.set.g
    refine for_range (lo := 0) (n := ((m : Int)).toNat) (fun i σ H' => (∃ y7 y8 y9, σ = [some (.ref src), some (.ref g), some (.int (m : Int)), some (.int s), some (.ref a), some (.ref b), some (.ref c), y7, y8, y9]) ∧ ∃ (ps : List Addr) (ks : List Nat) (I : List Int), ps.length = i ∧ Liv CR CP CC CS CG H' g r al ai ap aq ps ks I [] [0] ∧ H' a = some (.lst (ps.map .ref)) ∧ H' b = some (.lst (ks.map wordV)) ∧ H' c = some (.lst (I.map .int)) ∧
      (∀ k ∈ ks, k < 3 ∧ (s < 3 → (k : Int) = s)) ∧ I[0]? = some i0 ∧ Src H' src (n + 6 * i) ∧ (∀ x o, x ≠ src → x ≠ ai → x ≠ al → H x = some o → H' x = some o)) ⟨⟨_, _, _, rfl⟩, [], [], [i0], rfl, L3, a3, b3, c3, (fun k hk => nomatch hk), rfl, hs.same sc, fun x o _ _ _ e => sc _ _ e⟩ (fun i σ H4 hi h => ?_) (fun σ H4 h => ?_)
    · obtain ⟨⟨y7, y8, y9, rfl⟩, ps, ks, I, pl, L4, a4, b4, c4, hks, hI, hs4, kp⟩ := h
      have im : i < m := by omega
      have kl := L4.kl
      have il := L4.il
      -- the way
      refine ⟨_, rfl, src, 3, _, rfl, hs4, by omega, by decide, by decide, fun r1 H5 r10 r11 hs5 b5 => ?_⟩
      have L5 := L4.bt hs4 b5 d1 d2 d3 d4
      have nas := nax hsx
      have nbs := nbx hsx
      have ncs := ncx hsx
      have a5 := b5 _ _ nas a4
      have b5' := b5 _ _ nbs b4
      have c5 := b5 _ _ ncs c4
      have kp5 : ∀ x o, x ≠ src → x ≠ ai → x ≠ al → H x = some o → H5 x = some o := fun x o n1 n2 n3 e => b5 _ _ n1 (kp x o n1 n2 n3 e)
      refine ⟨by show 4 ≤ sizeLine; decide, fun z nz => ?_⟩
      have s6 := same_new (o := .lst [.int 0, .int 1, .int 2, .int r1]) nz
      obtain ⟨k, k3, ks', ek⟩ := at_st s0 s3 r10 r11
      refine ⟨_, rfl, z, _, s, _, rfl, rfl, .of upd_same, ek, ?_⟩
      have L6 := L5.same s6
      have hs6 := hs5.same s6
      have a6 := s6 _ _ a5
      have b6 := s6 _ _ b5'
      have c6 := s6 _ _ c5
      have kp6 : ∀ x o, x ≠ src → x ≠ ai → x ≠ al → H x = some o → (upd H5 z (.lst [.int 0, .int 1, .int 2, .int r1])) x = some o := fun x o n1 n2 n3 e => s6 _ _ (kp5 x o n1 n2 n3 e)
      generalize upd H5 z (.lst [.int 0, .int 1, .int 2, .int r1]) = H6 at L6 hs6 a6 b6 c6 kp6 ⊢
      clear kp5 L5 a5 b5' c5 s6 hs5 b5 kp L4 a4 b4 c4 hs4
      -- the integer
      have p1 : CPowW 10 30 := powW_ok (n := 4) (by decide) (by decide) (by decide)
      have p2 : CPowW 10 9 := powW_ok (n := 4) (by decide) (by decide) (by decide)
      have e30 : (10 : Int) ^ (30 : Int).toNat = T30 := by decide +kernel
      have e9 : (10 : Int) ^ (9 : Int).toNat = 1000000000 := by decide +kernel
      have draw : ∀ (H6 H7 : Hp) (k6 : Nat), Src H6 src k6 → Bt src H6 H7 → Liv CR CP CC CS CG H6 g r al ai ap aq ps ks I [] [0] ∧ H6 a = some (.lst (ps.map .ref)) ∧ H6 b = some (.lst (ks.map wordV)) ∧ H6 c = some (.lst (I.map .int)) ∧ (∀ x o, x ≠ src → x ≠ ai → x ≠ al → H x = some o → H6 x = some o) →
          Liv CR CP CC CS CG H7 g r al ai ap aq ps ks I [] [0] ∧ H7 a = some (.lst (ps.map .ref)) ∧ H7 b = some (.lst (ks.map wordV)) ∧ H7 c = some (.lst (I.map .int)) ∧ (∀ x o, x ≠ src → x ≠ ai → x ≠ al → H x = some o → H7 x = some o) := fun H6 H7 k6 h b ⟨l, e1, e2, e3, kp⟩ => ⟨l.bt h b d1 d2 d3 d4, b _ _ nas e1, b _ _ nbs e2, b _ _ ncs e3, fun x o n1 n2 n3 e => b _ _ n1 (kp x o n1 n2 n3 e)⟩
      have W6 := And.intro L6 (And.intro a6 (And.intro b6 (And.intro c6 kp6)))
      clear L6 a6 b6 c6 kp6
      refine ⟨_, rfl, src, 5, _, rfl, hs6, by omega, by decide, by decide, fun v1 H7 v10 v11 hs7 b7 => ?_⟩
      have W7 := draw _ _ _ hs6 b7 W6
      refine ⟨_, _, rfl, rfl, p1, _, rfl, src, 9, _, rfl, hs7, by omega, by decide, by decide, fun v2 H8 v20 v21 hs8 b8 => ?_⟩
      have W8 := draw _ _ _ hs7 b8 W7
      refine ⟨_, _, rfl, rfl, ?_⟩
      rw [e30]
      refine ⟨_, rfl, _, _, rfl, rfl, p2, src, _, _, rfl, hs8, by omega, by rw [e9]; decide, by rw [e9]; decide, fun v3 H9 v30 v31 hs9 b9 => ?_⟩
      rw [e9] at v31
      have W9 := draw _ _ _ hs8 b9 W8
      refine ⟨_, _, rfl, rfl, ?_⟩
      refine ⟨_, rfl, _, _, rfl, rfl, by show 4 ≤ sizeLine; decide, fun z2 nz2 => ?_⟩
      have s10 := same_new (o := .lst [.int v1, .int (T30 - v2), .int (0 - v3), .int (0 + (i : Int) + 1)]) nz2
      have z10 : (upd H9 z2 (.lst [.int v1, .int (T30 - v2), .int (0 - v3), .int (0 + (i : Int) + 1)])) z2 = some (.lst [.int v1, .int (T30 - v2), .int (0 - v3), .int (0 + (i : Int) + 1)]) := upd_same
      have hs10 := hs9.same s10
      have nz2s : z2 ≠ src := hs9.ne nz2
      have W10 : Liv CR CP CC CS CG (upd H9 z2 (.lst [.int v1, .int (T30 - v2), .int (0 - v3), .int (0 + (i : Int) + 1)])) g r al ai ap aq ps ks I [] [0] ∧ (upd H9 z2 (.lst [.int v1, .int (T30 - v2), .int (0 - v3), .int (0 + (i : Int) + 1)])) a = some (.lst (ps.map .ref)) ∧ (upd H9 z2 (.lst [.int v1, .int (T30 - v2), .int (0 - v3), .int (0 + (i : Int) + 1)])) b = some (.lst (ks.map wordV)) ∧ (upd H9 z2 (.lst [.int v1, .int (T30 - v2), .int (0 - v3), .int (0 + (i : Int) + 1)])) c = some (.lst (I.map .int)) ∧ (∀ x o, x ≠ src → x ≠ ai → x ≠ al → H x = some o → (upd H9 z2 (.lst [.int v1, .int (T30 - v2), .int (0 - v3), .int (0 + (i : Int) + 1)])) x = some o) :=
        ⟨W9.1.same s10, s10 _ _ W9.2.1, s10 _ _ W9.2.2.1, s10 _ _ W9.2.2.2.1, fun x o n1 n2 n3 e => s10 _ _ (W9.2.2.2.2 x o n1 n2 n3 e)⟩
      generalize upd H9 z2 (.lst [.int v1, .int (T30 - v2), .int (0 - v3), .int (0 + (i : Int) + 1)]) = H10 at s10 z10 hs10 W10 ⊢
      refine ⟨_, rfl, _, rfl, src, 4, _, rfl, hs10, by omega, by decide, by decide, fun v4 H11 v40 v41 hs11 b11 => ?_⟩
      have W11 := draw _ _ _ hs10 b11 W10
      have t30 : T30 = 1000000000000000000000000000000 := rfl
      obtain ⟨v, hv, ev⟩ := at_four (q := Ok30) (a := v1) (b := T30 - v2) (c := 0 - v3) (d := 0 + (i : Int) + 1) v40 v41 ⟨by show -T30 ≤ v1; omega, by show v1 ≤ T30; omega⟩ ⟨by show -T30 ≤ T30 - v2; omega, by show T30 - v2 ≤ T30; omega⟩ ⟨by show -T30 ≤ 0 - v3; omega, by show 0 - v3 ≤ T30; omega⟩ ⟨by show -T30 ≤ 0 + (i : Int) + 1; omega, by show 0 + (i : Int) + 1 ≤ T30; omega⟩
      refine ⟨z2, _, _, _, rfl, rfl, .of (b11 _ _ nz2s z10), ev, ?_⟩
      clear s10 z10 hs10 W10 W9 W8 W7 W6 draw b11 b9 b8 b7 hs9 hs8 hs7 hs6
      obtain ⟨L11, a11, b11, c11, kp11⟩ := W11
      -- made
      obtain ⟨dg', hg'⟩ := L11.set.g
      have nai : a ≠ ai := nax hai
      have nal : a ≠ al := nax hal
      have nbi : b ≠ ai := nbx hai
      have nbl : b ≠ al := nbx hal
      have nci : c ≠ ai := ncx hai
      have ncl : c ≠ al := ncx hal
      refine ⟨fun σ' H' => σ' = [some (.ref src), some (.ref g), some (.int (m : Int)), some (.int s), some (.ref a), some (.ref b), some (.ref c), some (.int (0 + (i : Int))), some (.int (k : Int)), some (.int v)] ∧ ∃ p, Liv CR CP CC CS CG H' g r al ai ap aq (ps ++ [p]) (ks ++ [k]) (I ++ [v]) [] [0] ∧ H' a = some (.lst ((ps ++ [p]).map .ref)) ∧ H' b = some (.lst (ks.map wordV)) ∧ H' c = some (.lst (I.map .int)) ∧ Src H' src (n + 6 * i + 5) ∧ (∀ x o, x ≠ src → x ≠ ai → x ≠ al → H x = some o → H' x = some o), ?_, fun σ' H' h => ?_⟩
      · have made : ∀ C, Kind3 CP CC CS C k → ∀ p dp H', H11 p = none → H' p = some (.ins C dp (fP r ((ps.length : Int) + 1))) → SetAt CG H' g r al (ps ++ [p]) → Rec CR H' r ai ap aq (I ++ [v]) [] [0] → (∀ b o, b ≠ ai → b ≠ al → H11 b = some o → H' b = some o) →
            H' a = some (.lst (ps.map .ref)) ∧ ∀ H'', H'' = upd H' a (.lst (ps.map V.ref ++ [V.ref p])) → ∃ p, Liv CR CP CC CS CG H'' g r al ai ap aq (ps ++ [p]) (ks ++ [k]) (I ++ [v]) [] [0] ∧ H'' a = some (.lst ((ps ++ [p]).map .ref)) ∧ H'' b = some (.lst (ks.map wordV)) ∧ H'' c = some (.lst (I.map .int)) ∧ Src H'' src (n + 6 * i + 5) ∧ (∀ x o, x ≠ src → x ≠ ai → x ≠ al → H x = some o → H'' x = some o) := fun C hK p dp H' np hp G R keep => by
          have aH := keep _ _ nai nal a11
          refine ⟨aH, fun H'' e => ⟨p, ?_⟩⟩
          have er : ps.map V.ref ++ [V.ref p] = (ps ++ [p]).map V.ref := by rw [List.map_append]; rfl
          rw [er] at e
          subst e
          have LM := L11.make hp G R hK (by omega) keep
          have nra : ∀ {y : Addr} {o : HO}, H' y = some o → (∀ l, o ≠ .lst l) → y ≠ a := fun {y o} e n z => by rw [z, aH] at e; exact n _ (Option.some.inj e).symm
          obtain ⟨⟨⟨dgM, hgM⟩, hlM⟩, ⟨⟨drM, hRM⟩, hiM, hpM, hqM, ip, iq, pq⟩, w, la, lp, lq, il', kl', pat⟩ := LM
          have nap : a ≠ ap := nax hap
          have naq : a ≠ aq := nax haq
          refine ⟨⟨⟨⟨dgM, by rw [upd_ne (nra hgM fun l z => nomatch z)]; exact hgM⟩, by rw [upd_ne nal.symm]; exact hlM⟩, ⟨⟨drM, by rw [upd_ne (nra hRM fun l z => nomatch z)]; exact hRM⟩, by rw [upd_ne nai.symm]; exact hiM, by rw [upd_ne nap.symm]; exact hpM, by rw [upd_ne naq.symm]; exact hqM, ip, iq, pq⟩, w, la, lp, lq, il', kl', fun j q k' e1 e2 => ?_⟩, upd_same, by rw [upd_ne nab.symm]; exact keep _ _ nbi nbl b11, by rw [upd_ne nac.symm]; exact keep _ _ nci ncl c11, ?_, fun x o n1 n2 n3 e => ?_⟩
          · obtain ⟨C', dp', k1, k2⟩ := pat j q k' e1 e2
            exact ⟨C', dp', k1, by rw [upd_ne (nra k2 fun l z => nomatch z)]; exact k2⟩
          · obtain ⟨u1, u2, u3, h1, h2⟩ := hs11
            exact ⟨u1, u2, u3, by rw [upd_ne nas.symm]; exact keep _ _ d2 d1 h1, h2⟩
          · have xa : x ≠ a := fun z => by rw [z, na] at e; cases e
            rw [upd_ne xa]
            exact keep _ _ n2 n3 (kp11 x o n1 n2 n3 e)
        have len : (ps.map V.ref).length < sizeLine := by rw [List.length_map]; exact zl (by omega)
        have full : ¬ ps.length = 100 := by omega
        match k, k3, made, ek, ks' with
        | 0, _, made, _, _ =>
          refine ⟨_, rfl, rfl, true, dT rfl, ?_⟩
          refine ⟨_, rfl, .inl ⟨rfl, _, .of a11⟩, _, rfl, g, CG, dg', _, rfl, rfl, hg', lkG _ _ (by decide +kernel), _, rfl, g, r, al, ai, ap, aq, ps, I, [], [0], v, rfl, L11.set, L11.rc, hv, by omega, by omega, L11.la, L11.lp, L11.lq, fun _ p dp H' np hp G R keep => ?_, fun z => absurd z full⟩
          obtain ⟨aH, fin⟩ := made CP (.inl ⟨rfl, rfl⟩) p dp H' np hp G R keep
          exact ⟨a, _, _, rfl, rfl, aH, len, rfl, fin _ rfl⟩
        | 1, _, made, _, _ =>
          refine ⟨_, rfl, rfl, false, dF (vne (by decide)), ?_⟩
          refine ⟨_, rfl, rfl, true, dT rfl, ?_⟩
          refine ⟨_, rfl, .inl ⟨rfl, _, .of a11⟩, _, rfl, g, CG, dg', _, rfl, rfl, hg', lkG _ _ (by decide +kernel), _, rfl, g, r, al, ai, ap, aq, ps, I, [], [0], v, rfl, L11.set, L11.rc, hv, by omega, by omega, L11.la, L11.lp, L11.lq, fun _ p dp H' np hp G R keep => ?_, fun z => absurd z full⟩
          obtain ⟨aH, fin⟩ := made CC (.inr (.inl ⟨rfl, rfl⟩)) p dp H' np hp G R keep
          exact ⟨a, _, _, rfl, rfl, aH, len, rfl, fin _ rfl⟩
        | 2, _, made, _, _ =>
          refine ⟨_, rfl, rfl, false, dF (vne (by decide)), ?_⟩
          refine ⟨_, rfl, rfl, false, dF (vne (by decide)), ?_⟩
          refine ⟨_, rfl, .inl ⟨rfl, _, .of a11⟩, _, rfl, g, CG, dg', _, rfl, rfl, hg', lkG _ _ (by decide +kernel), _, rfl, rfl, g, r, al, ai, ap, aq, ps, I, [], [0], v, rfl, L11.set, L11.rc, hv, by omega, by omega, L11.la, L11.lp, L11.lq, fun _ p dp H' np hp G R keep => ?_, fun z => absurd z full⟩
          obtain ⟨aH, fin⟩ := made CS (.inr (.inr ⟨rfl, rfl⟩)) p dp H' np hp G R keep
          exact ⟨a, _, _, rfl, rfl, aH, len, rfl, fin _ rfl⟩
      · obtain ⟨rfl, p, LM, aM, bM, cM, hsM, kpM⟩ := h
        have nbp := nbx hap
        refine ⟨_, rfl, .inl ⟨rfl, _, .of bM⟩, by show 3 ≤ sizeLine; decide, fun z nz => ?_⟩
        have sz := same_new (o := .lst [.str "patch", .str "careful", .str "strict"]) nz
        refine ⟨_, rfl, z, _, _, _, rfl, rfl, .of upd_same, at_word k3, ?_⟩
        have LZ := LM.same sz
        have aZ := sz _ _ aM
        have bZ := sz _ _ bM
        have cZ := sz _ _ cM
        have hsZ := hsM.same sz
        have kpZ : ∀ x o, x ≠ src → x ≠ ai → x ≠ al → H x = some o → (upd H' z (.lst [.str "patch", .str "careful", .str "strict"])) x = some o := fun x o n1 n2 n3 e => sz _ _ (kpM x o n1 n2 n3 e)
        generalize upd H' z (.lst [.str "patch", .str "careful", .str "strict"]) = HZ at LZ aZ bZ cZ hsZ kpZ ⊢
        refine ⟨b, _, _, rfl, rfl, bZ, zl (by rw [List.length_map]; omega), ?_⟩
        have ew : ks.map wordV ++ [wordV k] = (ks ++ [k]).map wordV := by rw [List.map_append]; rfl
        rw [ew]
        -- a list that is none of the setting's is changed
        have other : ∀ {H : Hp} {ps : List Addr} {ks : List Nat} {I : List Int} {x : Addr} {l l' : List V}, Liv CR CP CC CS CG H g r al ai ap aq ps ks I [] [0] → H x = some (.lst l) → x ≠ al → x ≠ ai → x ≠ ap → x ≠ aq → Liv CR CP CC CS CG (upd H x (.lst l')) g r al ai ap aq ps ks I [] [0] := fun {H ps ks I x l l'} h e n1 n2 n3 n4 => by
          obtain ⟨⟨⟨dgM, hgM⟩, hlM⟩, ⟨⟨drM, hRM⟩, hiM, hpM, hqM, ip, iq, pq⟩, w, la, lp, lq, il', kl', pat⟩ := h
          have nra : ∀ {y : Addr} {o : HO}, H y = some o → (∀ l, o ≠ .lst l) → y ≠ x := fun {y o} e' n z => by rw [z, e] at e'; exact n _ (Option.some.inj e').symm
          refine ⟨⟨⟨dgM, by rw [upd_ne (nra hgM fun l z => nomatch z)]; exact hgM⟩, by rw [upd_ne n1.symm]; exact hlM⟩, ⟨⟨drM, by rw [upd_ne (nra hRM fun l z => nomatch z)]; exact hRM⟩, by rw [upd_ne n2.symm]; exact hiM, by rw [upd_ne n3.symm]; exact hpM, by rw [upd_ne n4.symm]; exact hqM, ip, iq, pq⟩, w, la, lp, lq, il', kl', fun j q k' e1 e2 => ?_⟩
          obtain ⟨C', dp', k1, k2⟩ := pat j q k' e1 e2
          exact ⟨C', dp', k1, by rw [upd_ne (nra k2 fun l z => nomatch z)]; exact k2⟩
        have LB := other (l' := (ks ++ [k]).map wordV) LZ bZ nbl nbi nbp (nbx haq)
        have aB : (upd HZ b (.lst ((ks ++ [k]).map wordV))) a = some (.lst ((ps ++ [p]).map .ref)) := by rw [upd_ne nab]; exact aZ
        have bB : (upd HZ b (.lst ((ks ++ [k]).map wordV))) b = some (.lst ((ks ++ [k]).map wordV)) := upd_same
        have cB : (upd HZ b (.lst ((ks ++ [k]).map wordV))) c = some (.lst (I.map .int)) := by rw [upd_ne nbc.symm]; exact cZ
        have hsB := hsZ.upd (o := .lst ((ks ++ [k]).map wordV)) nbs
        have kpB : ∀ x o, x ≠ src → x ≠ ai → x ≠ al → H x = some o → (upd HZ b (.lst ((ks ++ [k]).map wordV))) x = some o := fun x o n1 n2 n3 e => by
          rw [upd_ne (fun z => by rw [z, nbH] at e; cases e)]
          exact kpZ x o n1 n2 n3 e
        generalize upd HZ b (.lst ((ks ++ [k]).map wordV)) = HB at LB aB bB cB hsB kpB ⊢
        refine ⟨_, rfl, .inl ⟨rfl, _, .of cB⟩, _, rfl, c, _, _, rfl, rfl, cB, zl (by rw [List.length_map]; omega), ?_⟩
        rw [snocI]
        have LC := other (l' := (I ++ [v]).map V.int) LB cB ncl nci (ncx hap) (ncx haq)
        refine ⟨⟨_, _, _, rfl⟩, ps ++ [p], ks ++ [k], I ++ [v], by rw [List.length_append, pl]; rfl, LC, by rw [upd_ne nac]; exact aB, by rw [upd_ne nbc]; exact bB, upd_same, fun k' hk' => ?_, ?_, (hsB.upd ncs).mono (by omega), fun x o n1 n2 n3 e => ?_⟩
        · rcases List.mem_append.mp hk' with hk' | hk'
          · exact hks k' hk'
          · rw [List.mem_singleton.mp hk']
            exact ⟨k3, ks'⟩
        · rw [List.getElem?_append_left (by omega)]
          exact hI
        · rw [upd_ne (fun z => by rw [z, ncH] at e; cases e)]
          exact kpB x o n1 n2 n3 e
    · obtain ⟨⟨y7, y8, y9, rfl⟩, ps, ks, I, pl, L4, a4, b4, c4, hks, hI, hs4, kp⟩ := h
      have pm : ps.length = m := by omega
      refine ⟨_, rfl, _, rfl, _, rfl, by show 3 ≤ sizeLine; decide, fun T nT => ?_⟩
      have st := same_new (o := .tup [.ref a, .ref b, .ref c]) nT
      have e6 : ((m : Int)).toNat = m := by omega
      rw [e6] at hs4
      have nTH : H T = none := by
        cases z : H T with
        | none => rfl
        | some o =>
          by_cases t1 : T = src
          · obtain ⟨_, _, _, hx, _⟩ := hs4
            rw [t1, hx] at nT
            cases nT
          · by_cases t2 : T = ai
            · rw [t2, L4.rc.i] at nT; cases nT
            · by_cases t3 : T = al
              · rw [t3, L4.set.l] at nT; cases nT
              · rw [kp T o t1 t2 t3 z] at nT; cases nT
      exact q T a b c ps ks I _ upd_same (st _ _ a4) (st _ _ b4) (st _ _ c4) (L4.same st) pm (fun k hk => (hks k hk).1) (fun z k hk => (hks k hk).2 z) hI (hs4.same st) (fun x o n1 n2 n3 e => st _ _ (kp x o n1 n2 n3 e)) nTH na nbH ncH
end
end L34
set_option Elab.async false
set_option linter.all false
set_option maxRecDepth 100000
namespace L34
open PySem PySem.Spec PyProof.Rows L2 Lp
/-! ### what the patches tell -/
def wordD (k : Nat) : List PyData := if k = 1 then [.str "careful"] else if k = 2 then [.str "strict"] else []
theorem dp_word {K : PySem.W.Frag} {H : Hp} (k : Nat) : DpAll K H (wordK k) (wordD k) := by
  unfold wordK wordD
  split
  · exact .cons (.str _) .nil
  · split
    · exact .cons (.str _) .nil
    · exact .nil
theorem wordK_len (k : Nat) : (wordK k).length ≤ 1 := by
  unfold wordK
  split
  · exact Nat.le_refl _
  · split
    · exact Nat.le_refl _
    · exact Nat.zero_le _
theorem okD_word (n : Nat) (k : Nat) : ∀ x ∈ wordD k, okD n x := fun x hx => by
  unfold wordD at hx
  split at hx
  · rw [List.mem_singleton.mp hx]; cases n <;> exact trivial
  · split at hx
    · rw [List.mem_singleton.mp hx]; cases n <;> exact trivial
    · exact absurd hx List.not_mem_nil
theorem wordD_len (k : Nat) : (wordD k).length ≤ 1 := by
  unfold wordD
  split
  · exact Nat.le_refl _
  · split
    · exact Nat.le_refl _
    · exact Nat.zero_le _
theorem word_patch {k : Nat} (h : k < 3) : decide (wordV k = .str "patch") = decide (k = 0) := by
  have h1 : ¬ (V.str "strict" = V.str "patch") := fun z => absurd (V.str.inj z) (by decide +kernel)
  have h2 : ¬ (V.str "careful" = V.str "patch") := fun z => absurd (V.str.inj z) (by decide +kernel)
  unfold wordV
  match k, h with
  | 0, _ => rw [if_neg (by decide), if_neg (by decide), decide_eq_true rfl]; rfl
  | 1, _ => rw [if_pos rfl, decide_eq_false h2]; rfl
  | 2, _ => rw [if_neg (by decide), if_pos rfl, decide_eq_false h1]; rfl
theorem word_some {k : Nat} (h : k < 3) (h0 : k ≠ 0) : [wordV k] = wordK k := by
  unfold wordV wordK
  match k, h with
  | 0, _ => exact absurd rfl h0
  | 1, _ => rfl
  | 2, _ => rfl
theorem cut_one {l : List V} {j : Nat} {x : V} (h : l[j]? = some x) : cutV l (some (j : Int)) (some ((j : Int) + 1)) = [x] := by
  have hj := lt_get h
  unfold cutV
  have e : ((j : Int) + 1) = ((j + 1 : Nat) : Int) := by omega
  rw [HT.sIx_nat, e, HT.sIx_nat, Nat.min_eq_left (Nat.le_of_lt hj), Nat.min_eq_left hj]
  have e2 : j + 1 - j = 1 := by omega
  rw [e2]
  rw [List.drop_eq_getElem_cons hj]
  have := List.getElem?_eq_getElem hj
  rw [h] at this
  rw [← Option.some.inj this]
  rfl
theorem eq_fb {U S : List Int} {n : Int} : (if n ∈ U then some (V.int (fbI U S n)) else none).getD .non = fbV U S n := by
  unfold fbV
  by_cases h : n ∈ U
  · rw [if_pos h, if_pos h]; rfl
  · rw [if_neg h, if_neg h]; rfl
def fbD (U S : List Int) (n : Int) : PyData := if n ∈ U then .int (fbI U S n) else .none
theorem dp_fb {K : PySem.W.Frag} {H : Hp} (U S : List Int) (n : Int) : Dp K H (fbV U S n) (fbD U S n) := by
  unfold fbV fbD
  by_cases h : n ∈ U
  · rw [if_pos h, if_pos h]; exact .int _
  · rw [if_neg h, if_neg h]; exact .non
section
variable {P : Program} {w : World} {K : PySem.W.Frag} {mg : Str → Option Value} {base : Heap} {CR CP CC CS CG eF eE eS eR eO : Addr}
def spPRight (K : PySem.W.Frag) (CR CP CC CS CG : Addr) : Sp := fun vs H Q _ => ∃ (sl t wl il g r al ai ap aq : Addr) (ps : List Addr) (ks : List Nat) (I U S : List Int), vs = [.ref sl, .ref t, .ref wl, .ref il] ∧ SqL K H sl (ps.map V.ref) ∧ LSt H t U S ∧ SqL K H wl (ks.map wordV) ∧ SqL K H il (I.map .int) ∧ Liv CR CP CC CS CG H g r al ai ap aq ps ks I U S ∧
  (∀ k ∈ ks, k < 3) ∧ ps.length ≤ 100 ∧ ∀ H', Same H H' → Q (.bl true) H'
theorem ok_law_patches_right {f : Addr} {fd : FuncData} (F : Fun K "_law_patches_right" "_law_patches_right" s_law_patches_right f fd) (B : NoB mg) (T_AnyPatch_number : PrpV P w K mg base 1 (Any3 CP CC CS) "number" (spNumber CP CC CS)) (T_AnyPatch_integer : PrpV P w K mg base 1 (Any3 CP CC CS) "integer" (spInteger CR CP CC CS))
    (T_AnyPatch_saved : PrpV P w K mg base 2 (Any3 CP CC CS) "saved" (spSaved CR CP CC CS)) (T_AnyPatch_runs : PrpV P w K mg base 2 (Any3 CP CC CS) "runs" (spRuns CR CP CC CS)) (T_AnyPatch_described : MetC P w K mg base 2 (Kind3 CP CC CS) "described" spDesc) (T_law_same : Cal P w K mg base 3 "_law_same" (spEqD K 2)) :
    FnOk P w K mg base CX0 4 f fd ["some", "state", "words", "integers"] (spPRight K CR CP CC CS CG) := by
  refine F.ok sc_law_patches_right (fun vs H Q E h => ?_) (fun cdv A outer s H vs Q E hr h => ?_)
  · obtain ⟨sl, t, wl, il, g, r, al, ai, ap, aq, ps, ks, I, U, S, rfl, _⟩ := h
    rfl
  · obtain ⟨sl, t, wl, il, g, r, al, ai, ap, aq, ps, ks, I, U, S, rfl, hS, ⟨ad, ak, ht, hd, hk⟩, hw, hI, L, k3, pl, q⟩ := h
    have hu := hu_of hr
    refine ⟨_, (pss_cons (ps_for PassesOwn.never rfl (pi_enum (by rfl) B.enumerate (pa_cons (pv 0) pa_nil)) (pg_tup rfl (pgs_cons (pg_name (i := 4) sc_law_patches_right.nd rfl (Or.inl rfl)) (pgs_cons (pg_name (i := 5) sc_law_patches_right.nd rfl (Or.inl rfl)) pgs_nil)))
          (pss_cons (ps_set (i := 6) sc_law_patches_right.nd rfl (Or.inl rfl) (pe_op op_cat (pe_lst (pa_cons (pe_op op_add_str pe_str (pe_callTy call_str_int (by rfl) B.str (by decide +kernel) (pa_cons (pe_op op_add (pv 4) pe_int) pa_nil))) pa_nil)) (pe_lc (own := [("word", 9)]) (g := gName 9) (tt := _) rfl sc_law_patches_right.nd (pi_list (pe_slice sl_list (pv 2) (po_some (pv 4)) (po_some (pe_op op_add (pv 4) pe_int)))) (blkOk_by (own := [("word", 9)]) (N := N_law_patches_right) (sc := defScope s_law_patches_right) (by decide +kernel)) (fun _ _ _ _ _ => (pg_name (i := 9) sc_law_patches_right.nd rfl (Or.inl rfl))) (fun _ _ _ _ _ => (pts_one (pt_cmpR op_ne (pv 9) pe_str (nomark _)))) (fun _ _ _ _ _ => (pv 9)))))
          (pss_cons (ps_set (i := 7) sc_law_patches_right.nd rfl (Or.inl rfl) (pe_lst (pa_cons (pe_pV T_AnyPatch_number hr (by decide) (pv 5)) (pa_cons (pe_pV T_AnyPatch_integer hr (by decide) (pv 5)) (pa_cons (pe_pV T_AnyPatch_saved hr (by decide) (pv 5)) (pa_cons (pe_pV T_AnyPatch_runs hr (by decide) (pv 5)) (pa_cons (pe_mC0 T_AnyPatch_described hr (by decide) takesN (pv 5)) pa_nil)))))))
          (pss_cons (ps_set (i := 8) sc_law_patches_right.nd rfl (Or.inl rfl) (pe_and (pe_cmp (pc_din hu (pe_op op_add (pv 4) pe_int) (pe_ix ix_tup (pv 1) pe_int (fun _ _ => rfl))) rfl) (pe_one (pe_cmpR op_notIn_seq (pe_op op_sub (pe_op op_sub pe_int pe_int) (pv 4)) (pe_ix ix_tup (pv 1) pe_int (fun _ _ => rfl)) (by rfl)))))
          (pss_one (ps_if (pt_not (pt_val (pe_c T_law_same hr (by decide) (by rfl) (pa_cons (pv 7) (pa_cons (pe_lst (pa_cons (pe_op op_add (pv 4) pe_int) (pa_cons (pe_ix ix_list (pv 3) (pe_op op_add (pv 4) pe_int) (fun _ _ => rfl)) (pa_cons (pe_dget1 hu (pe_ix ix_tup (pv 1) pe_int (fun _ _ => rfl)) (pe_op op_add (pv 4) pe_int) (by constructor <;> rfl)) (pa_cons (pv 8) (pa_cons (pv 6) pa_nil)))))) pa_nil))))) (pss_one (ps_ret pe_bl)) pss_nil))))))
        (pss_one (ps_ret pe_bl))), ?_⟩
    have kl := L.kl
    have ilen := L.il
    refine ⟨_, rfl, sl, _, rfl, hS, for_it (walk_enum (xs := ps.map V.ref)) (fun i σ H' => (∃ y1 y2 y3 y4 y5 y6, σ = [some (.ref sl), some (.ref t), some (.ref wl), some (.ref il), y1, y2, y3, y4, y5, y6]) ∧ Same H H') ⟨⟨_, _, _, _, _, _, rfl⟩, .refl _⟩ (fun i σ H' _ h => h.2.seq hS) (fun i x σ H' H2 hi h hy => ?_) (fun σ H' h => ?_)⟩
    · obtain ⟨T, x1, x2, rfl, nT, rfl, e1, e2⟩ := hy
      cases e1
      obtain ⟨p, ep, rfl⟩ : ∃ p, ps[i]? = some p ∧ x2 = V.ref p := by
        have e3 : (ps.map V.ref)[i]? = some x2 := e2
        rw [List.getElem?_map] at e3
        cases z : ps[i]? with
        | none => rw [z] at e3; cases e3
        | some p => rw [z] at e3; exact ⟨p, rfl, (Option.some.inj e3).symm⟩
      obtain ⟨⟨y1, y2, y3, y4, y5, y6, rfl⟩, sm⟩ := h
      have ip := lt_get ep
      have ik : i < ks.length := by omega
      obtain ⟨kk, ek⟩ : ∃ kk, ks[i]? = some kk := ⟨_, List.getElem?_eq_getElem ik⟩
      have kk3 : kk < 3 := k3 _ (List.mem_of_getElem? ek)
      obtain ⟨C, dp, hK, hp⟩ := L.pat i p kk ep ek
      have hC := hK.any
      refine ⟨T, _, rfl, .of upd_same, rfl, _, _, rfl, _, _, rfl, rfl, ?_⟩
      have s2 := sm.trans (same_new (o := .tup [V.int ((i : Nat) : Int), .ref p]) nT)
      generalize upd H' T (.tup [V.int ((i : Nat) : Int), .ref p]) = H2 at s2 ⊢
      clear sm nT
      have n1 : (0 : Int) ≤ (i : Int) + 1 := by omega
      have nab : ((i : Int) + 1).natAbs < 100000 := by omega
      -- due
      have z6 : ("patch " : Str).length = 6 := by decide +kernel
      have l6 := small_len nab
      refine ⟨_, rfl, _, _, rfl, rfl, _, rfl, small_log nab, _, _, rfl, rfl, by rw [z6, sizeLine_eq]; omega, ?_⟩
      refine ⟨by show 1 ≤ sizeLine; decide, fun d1 nd1 => ?_⟩
      have s3 := s2.trans (same_new (o := .lst [.str (nameP ((i : Int) + 1))]) nd1)
      have h3 : (upd H2 d1 (.lst [.str (nameP ((i : Int) + 1))])) d1 = some (.lst [.str (nameP ((i : Int) + 1))]) := upd_same
      show tLc _ _ _ _ _ _ (upd H2 d1 (.lst [.str (nameP ((i : Int) + 1))])) _
      generalize upd H2 d1 (.lst [.str (nameP ((i : Int) + 1))]) = H3 at s3 h3 ⊢
      refine ⟨_, rfl, _, rfl, _, rfl, _, rfl, _, _, rfl, rfl, _, rfl, wl, _, rfl, s3.seq hw, fun cu ncu => ?_⟩
      have ew : (ks.map wordV)[i]? = some (wordV kk) := by rw [List.getElem?_map, ek]; rfl
      rw [cut_one ew]
      have s4 := s3.trans (same_new (o := .lst [wordV kk]) ncu)
      have h4 := same_new (o := .lst [wordV kk]) ncu _ _ h3
      have c4 : (upd H3 cu (.lst [wordV kk])) cu = some (.lst [wordV kk]) := upd_same
      generalize upd H3 cu (.lst [wordV kk]) = H4 at s4 h4 c4 ⊢
      refine ⟨cu, rfl, ⟨_, .of c4⟩, fun D nD => ?_⟩
      refine lc_list (xs := [wordV kk]) (LcP H4 D fun i => if i = 0 then [] else wordK kk) (.init nD rfl) (fun i H' _ p => .of (p.2.1 _ _ c4)) (fun i x H' hx p => ?_) (fun H5 p5 => ?_)
      · obtain rfl : i = 0 := by have := lt_get hx; have : i < 1 := this; omega
        cases hx
        refine ⟨rfl, ?_⟩
        refine ⟨_, rfl, word_scal kk _, !decide (kk = 0), congrArg (fun b => V.bl (!b)) (word_patch kk3), ?_⟩
        by_cases k0 : kk = 0
        · rw [decide_eq_true k0]
          refine p.skip (.refl _) ?_
          subst k0
          rfl
        · rw [decide_eq_false k0]
          refine ⟨_, rfl, p.put (.refl _) ?_ (by show 0 < 100000; decide)⟩
          show wordK kk = [] ++ [wordV kk]
          exact (word_some kk3 k0).symm
      · have s5 := s4.trans p5.2.1
        have h5 := p5.2.1 _ _ h4
        have D5 : H5 D = some (.lst (wordK kk)) := p5.2.2
        have wl1 := wordK_len kk
        refine ⟨d1, D, _, _, rfl, rfl, h5, D5, by show 1 + (wordK kk).length ≤ sizeLine; exact zs (by omega), fun du ndu => ?_⟩
        have s6 := s5.trans (same_new (o := .lst ([V.str (nameP ((i : Int) + 1))] ++ wordK kk)) ndu)
        have u6 : (upd H5 du (.lst ([V.str (nameP ((i : Int) + 1))] ++ wordK kk))) du = some (.lst (V.str (nameP ((i : Int) + 1)) :: wordK kk)) := upd_same
        generalize upd H5 du (.lst ([V.str (nameP ((i : Int) + 1))] ++ wordK kk)) = H6 at s6 u6 ⊢
        clear h5 D5 p5 h4 h3 c4 s5 s4 s3 s2
        -- told
        have L6 := L.same s6
        have hp6 := s6 _ _ hp
        refine ⟨_, rfl, p, C, dp, _, rfl, hC, hp6, p, dp, r, C, _, rfl, hC, hp6, ?_⟩
        refine ⟨_, rfl, p, C, dp, _, rfl, hC, hp6, p, dp, r, C, ai, ap, aq, _, I, U, S, rfl, hC, hp6, L6.rc, n1, by omega, ?_⟩
        refine ⟨_, rfl, p, C, dp, _, rfl, hC, hp6, p, dp, r, C, ai, ap, aq, _, I, U, S, rfl, hC, hp6, L6.rc, L6.wf, ?_⟩
        refine ⟨_, rfl, p, C, dp, _, rfl, hC, hp6, p, dp, r, C, ai, ap, aq, _, I, U, S, rfl, hC, hp6, L6.rc, ?_⟩
        refine ⟨_, rfl, p, C, kk, dp, _, rfl, hK, hp6, lkP _ _ (by decide +kernel), p, dp, r, _, rfl, hp6, nab, fun de H7 s67 nde e7 => ?_⟩
        refine ⟨by show 5 ≤ sizeLine; decide, fun tl ntl => ?_⟩
        have s7 := (s6.trans s67).trans (same_new (o := .lst [.int ((i : Int) + 1), .int (vI I ((i : Int) + 1)), fbV U S ((i : Int) + 1), .bl (decide (((i : Int) + 1) ∈ U ∧ -((i : Int) + 1) ∉ U)), .ref de]) ntl)
        have u7 := same_new (o := .lst [.int ((i : Int) + 1), .int (vI I ((i : Int) + 1)), fbV U S ((i : Int) + 1), .bl (decide (((i : Int) + 1) ∈ U ∧ -((i : Int) + 1) ∉ U)), .ref de]) ntl _ _ (s67 _ _ u6)
        have e7' := same_new (o := .lst [.int ((i : Int) + 1), .int (vI I ((i : Int) + 1)), fbV U S ((i : Int) + 1), .bl (decide (((i : Int) + 1) ∈ U ∧ -((i : Int) + 1) ∉ U)), .ref de]) ntl _ _ e7
        have t7 : (upd H7 tl (.lst [.int ((i : Int) + 1), .int (vI I ((i : Int) + 1)), fbV U S ((i : Int) + 1), .bl (decide (((i : Int) + 1) ∈ U ∧ -((i : Int) + 1) ∉ U)), .ref de])) tl = some (.lst [.int ((i : Int) + 1), .int (vI I ((i : Int) + 1)), fbV U S ((i : Int) + 1), .bl (decide (((i : Int) + 1) ∈ U ∧ -((i : Int) + 1) ∉ U)), .ref de]) := upd_same
        generalize upd H7 tl (.lst [.int ((i : Int) + 1), .int (vI I ((i : Int) + 1)), fbV U S ((i : Int) + 1), .bl (decide (((i : Int) + 1) ∈ U ∧ -((i : Int) + 1) ∉ U)), .ref de]) = H8 at s7 u7 e7' t7 ⊢
        clear s67 e7 u6 s6
        have hT : SqT K H8 t [.int (lastI S), .ref ad, .ref ak] := .of (s7 _ _ ht)
        have hk8 := s7 _ _ hk
        have hd8 := s7 _ _ hd
        have dg : DGet H8 ak (.int ((i : Int) + 1)) (if ((i : Int) + 1) ∈ U then some (.int (fbI U S ((i : Int) + 1))) else none) := dgI hk8 (by omega)
        -- running
        refine ⟨_, rfl, _, _, rfl, rfl, _, rfl, t, _, _, _, rfl, rfl, hT, at2, ak, _, rfl, dg, decide (((i : Int) + 1) ∈ U), ?_, ?_⟩
        · by_cases m : ((i : Int) + 1) ∈ U
          · rw [if_pos m, decide_eq_true m]; rfl
          · rw [if_neg m, decide_eq_false m]; rfl
        · have e01 : (0 : Int) - 1 - (i : Int) = -((i : Int) + 1) := by omega
          by_cases m : ((i : Int) + 1) ∈ U
          · rw [decide_eq_true m]
            refine iteT ⟨_, _, rfl, rfl, _, rfl, _, _, rfl, rfl, _, rfl, t, _, _, _, rfl, rfl, hT, at1, ad, _, rfl, .inl (.of hd8), rfl, flatI _, ?_⟩
            have eb : (if true = true then !inV ((fun i j : Int => V.int (i - j)) (0 - 1) (i : Int)) (U.map V.int) else inV ((fun i j : Int => V.int (i - j)) (0 - 1) (i : Int)) (U.map V.int)) = decide (((i : Int) + 1) ∈ U ∧ -((i : Int) + 1) ∉ U) := by
              show (if true = true then !inV (V.int (0 - 1 - (i : Int))) (U.map V.int) else inV (V.int (0 - 1 - (i : Int))) (U.map V.int)) = _
              rw [e01, if_pos rfl, inVI]
              by_cases m2 : -((i : Int) + 1) ∈ U
              · rw [decide_eq_true m2, decide_eq_false (fun z => z.2 m2)]; rfl
              · rw [decide_eq_false m2, decide_eq_true ⟨m, m2⟩]; rfl
            rw [eb]
            generalize decide (((i : Int) + 1) ∈ U ∧ -((i : Int) + 1) ∉ U) = rb at t7 ⊢
            refine ⟨_, rfl, _, rfl, _, _, rfl, rfl, _, rfl, _, rfl, _, _, rfl, rfl, il, _, _, _, rfl, rfl, s7.seq hI, atI_vI ⟨n1, by omega⟩, ?_⟩
            refine ⟨_, rfl, t, _, _, _, rfl, rfl, hT, at2, ak, rfl, .inl ⟨_, .of hk8⟩, _, rfl, _, _, rfl, rfl, _, dg, ?_⟩
            rw [eq_fb]
            refine ⟨_, rfl, _, rfl, by show 5 ≤ sizeLine; decide, fun ex nex => ?_⟩
            have sx := same_new (o := .lst [.int ((i : Int) + 1), .int (vI I ((i : Int) + 1)), fbV U S ((i : Int) + 1), .bl rb, .ref du]) nex
            refine ⟨.ref tl, .ref ex, .list [.int ((i : Int) + 1), .int (vI I ((i : Int) + 1)), fbD U S ((i : Int) + 1), .bool rb, .list (.str (nameP ((i : Int) + 1)) :: wordD kk)], rfl, ?_, ?_, ?_, fun H9 s9 => ?_⟩
            · exact .lst (.of (sx _ _ t7)) (.cons (.int _) (.cons (.int _) (.cons (dp_fb _ _ _) (.cons (.bl _) (.cons (.lst (.of (sx _ _ e7')) (.cons (.str _) (dp_word kk))) .nil)))))
            · exact .lst (.of upd_same) (.cons (.int _) (.cons (.int _) (.cons (dp_fb _ _ _) (.cons (.bl _) (.cons (.lst (.of (sx _ _ u7)) (.cons (.str _) (dp_word kk))) .nil)))))
            · refine ⟨by show 5 < 100000; decide, fun x hx => ?_⟩
              have hf : okD 1 (fbD U S ((i : Int) + 1)) := by
                unfold fbD
                split <;> exact trivial
              have wd := wordD_len kk
              rcases List.mem_cons.mp hx with rfl | hx
              · exact trivial
              rcases List.mem_cons.mp hx with rfl | hx
              · exact trivial
              rcases List.mem_cons.mp hx with rfl | hx
              · exact hf
              rcases List.mem_cons.mp hx with rfl | hx
              · exact trivial
              rw [List.mem_singleton.mp hx]
              refine ⟨by show (wordD kk).length + 1 < 100000; omega, fun y hy => ?_⟩
              rcases List.mem_cons.mp hy with rfl | hy
              · exact trivial
              · exact okD_word 0 kk y hy
            · exact ⟨_, rfl, iteF ⟨⟨_, _, _, _, _, _, rfl⟩, (s7.trans sx).trans s9⟩⟩
          · rw [decide_eq_false m]
            have eb : decide (((i : Int) + 1) ∈ U ∧ -((i : Int) + 1) ∉ U) = false := decide_eq_false fun z => m z.1
            rw [eb] at t7
            refine iteF ?_
            generalize false = rb at t7 ⊢
            refine ⟨_, rfl, _, rfl, _, _, rfl, rfl, _, rfl, _, rfl, _, _, rfl, rfl, il, _, _, _, rfl, rfl, s7.seq hI, atI_vI ⟨n1, by omega⟩, ?_⟩
            refine ⟨_, rfl, t, _, _, _, rfl, rfl, hT, at2, ak, rfl, .inl ⟨_, .of hk8⟩, _, rfl, _, _, rfl, rfl, _, dg, ?_⟩
            rw [eq_fb]
            refine ⟨_, rfl, _, rfl, by show 5 ≤ sizeLine; decide, fun ex nex => ?_⟩
            have sx := same_new (o := .lst [.int ((i : Int) + 1), .int (vI I ((i : Int) + 1)), fbV U S ((i : Int) + 1), .bl rb, .ref du]) nex
            refine ⟨.ref tl, .ref ex, .list [.int ((i : Int) + 1), .int (vI I ((i : Int) + 1)), fbD U S ((i : Int) + 1), .bool rb, .list (.str (nameP ((i : Int) + 1)) :: wordD kk)], rfl, ?_, ?_, ?_, fun H9 s9 => ?_⟩
            · exact .lst (.of (sx _ _ t7)) (.cons (.int _) (.cons (.int _) (.cons (dp_fb _ _ _) (.cons (.bl _) (.cons (.lst (.of (sx _ _ e7')) (.cons (.str _) (dp_word kk))) .nil)))))
            · exact .lst (.of upd_same) (.cons (.int _) (.cons (.int _) (.cons (dp_fb _ _ _) (.cons (.bl _) (.cons (.lst (.of (sx _ _ u7)) (.cons (.str _) (dp_word kk))) .nil)))))
            · refine ⟨by show 5 < 100000; decide, fun x hx => ?_⟩
              have hf : okD 1 (fbD U S ((i : Int) + 1)) := by
                unfold fbD
                split <;> exact trivial
              have wd := wordD_len kk
              rcases List.mem_cons.mp hx with rfl | hx
              · exact trivial
              rcases List.mem_cons.mp hx with rfl | hx
              · exact trivial
              rcases List.mem_cons.mp hx with rfl | hx
              · exact hf
              rcases List.mem_cons.mp hx with rfl | hx
              · exact trivial
              rw [List.mem_singleton.mp hx]
              refine ⟨by show (wordD kk).length + 1 < 100000; omega, fun y hy => ?_⟩
              rcases List.mem_cons.mp hy with rfl | hy
              · exact trivial
              · exact okD_word 0 kk y hy
            · exact ⟨_, rfl, iteF ⟨⟨_, _, _, _, _, _, rfl⟩, (s7.trans sx).trans s9⟩⟩
    · obtain ⟨_, sm⟩ := h
      exact q _ sm
end
end L34
set_option Elab.async false
set_option linter.all false
set_option maxRecDepth 100000
namespace L34
open PySem PySem.Spec PyProof.Rows L2 Lp
/-! ### what stays while a setting goes on -/
abbrev Fo (src ap aq st : Addr) : Addr → Prop := fun b => b ≠ src ∧ b ≠ ap ∧ b ≠ aq ∧ b ≠ st
/-- all that is no list, and the lists told by F -/
def Kp (F : Addr → Prop) (H H' : Hp) : Prop := ∀ b o, H b = some o → ((∀ l, o ≠ .lst l) ∨ F b) → H' b = some o
section
variable {F : Addr → Prop} {H H1 H2 H' : Hp} {src ap aq st x t : Addr} {n : Nat} {l : List V} {o : HO} {U S : List Int} {ts : List Addr} {e c : Int}
theorem Kp.trans (x : Kp F H H1) (y : Kp F H1 H2) : Kp F H H2 := fun b o e c => y b o (x b o e c) c
theorem Kp.anti {G : Addr → Prop} (x : Kp F H H') (i : ∀ b, G b → F b) : Kp G H H' := fun b o e c => x b o e (c.imp id (i b))
theorem Kp.same (s : Same H H') : Kp F H H' := fun b o e _ => s b o e
theorem Kp.bt (hs : Src H src n) (b : Bt src H H') : Kp (Fo src ap aq st) H H' := fun x o e c => b x o (fun z => by
  obtain ⟨_, _, _, hx, _⟩ := hs
  rcases c with c | c
  · rw [z, hx] at e
    exact c _ (Option.some.inj e).symm
  · exact c.1 z) e
theorem Kp.upd (h : H x = some (.lst l)) (nF : ¬ F x) : Kp F H (L2.upd H x o) := fun b u e c => by
  rw [upd_ne (fun z => by
    rcases c with c | c
    · rw [z, h] at e
      exact c _ (Option.some.inj e).symm
    · exact nF (z ▸ c))]
  exact e
theorem LStN.kp (h : LStN F H t U S) (k : Kp F H H') : LStN F H' t U S := by
  obtain ⟨ad, ak, f, h1, h2, h3⟩ := h
  exact ⟨ad, ak, f, k _ _ h1 (.inl fun l z => nomatch z), k _ _ h2 (.inr f), k _ _ h3 (.inl fun l z => nomatch z)⟩
/-- the states of the law, of all beginnings of a history -/
def Sts (F : Addr → Prop) (H : Hp) (ts : List Addr) (U S : List Int) : Prop := ts.length = U.length + 1 ∧ ∀ (j : Nat) (t : Addr), ts[j]? = some t → LStN F H t (U.take j) (S.take (j + 1))
theorem Sts.kp (h : Sts F H ts U S) (k : Kp F H H') : Sts F H' ts U S := ⟨h.1, fun j t e => (h.2 j t e).kp k⟩
theorem Sts.app (h : Sts F H ts U S) (hl : S.length = U.length + 1) (n : LStN F H t (U ++ [e]) (S ++ [c])) : Sts F H (ts ++ [t]) (U ++ [e]) (S ++ [c]) := by
  obtain ⟨h1, h2⟩ := h
  refine ⟨by rw [List.length_append, List.length_append, h1]; rfl, fun j t' e1 => ?_⟩
  by_cases hj : j < ts.length
  · rw [List.getElem?_append_left hj] at e1
    rw [List.take_append_of_le_length (by omega), List.take_append_of_le_length (by omega)]
    exact h2 j t' e1
  · have ej : j = ts.length := by
      have := lt_get e1
      rw [List.length_append] at this
      have : j < ts.length + 1 := this
      omega
    subst ej
    rw [List.getElem?_append_right (Nat.le_refl _), Nat.sub_self] at e1
    cases e1
    rw [List.take_of_length_le (by rw [List.length_append]; show U.length + 1 ≤ _; omega), List.take_of_length_le (by rw [List.length_append]; show S.length + 1 ≤ _; omega)]
    exact n
end
section
variable {CR CP CC CS CG : Addr} {H H' H0 : Hp} {g r al ai ap aq x src st a b c : Addr} {ps ts : List Addr} {ks : List Nat} {I U S V' T' : List Int} {l : List V} {l' : List V} {n n' m : Nat}
/-- a list that is none of the setting's is changed -/
theorem Liv.other (h : Liv CR CP CC CS CG H g r al ai ap aq ps ks I U S) (e : H x = some (.lst l)) (n1 : x ≠ al) (n2 : x ≠ ai) (n3 : x ≠ ap) (n4 : x ≠ aq) : Liv CR CP CC CS CG (upd H x (.lst l')) g r al ai ap aq ps ks I U S := by
  obtain ⟨⟨⟨dgM, hgM⟩, hlM⟩, ⟨⟨drM, hRM⟩, hiM, hpM, hqM, ip, iq, pq⟩, w, la, lp, lq, il', kl', pat⟩ := h
  have nra : ∀ {y : Addr} {o : HO}, H y = some o → (∀ l, o ≠ .lst l) → y ≠ x := fun {y o} e' n z => by rw [z, e] at e'; exact n _ (Option.some.inj e').symm
  refine ⟨⟨⟨dgM, by rw [upd_ne (nra hgM fun l z => nomatch z)]; exact hgM⟩, by rw [upd_ne n1.symm]; exact hlM⟩, ⟨⟨drM, by rw [upd_ne (nra hRM fun l z => nomatch z)]; exact hRM⟩, by rw [upd_ne n2.symm]; exact hiM, by rw [upd_ne n3.symm]; exact hpM, by rw [upd_ne n4.symm]; exact hqM, ip, iq, pq⟩, w, la, lp, lq, il', kl', fun j q k' e1 e2 => ?_⟩
  obtain ⟨C', dp', k1, k2⟩ := pat j q k' e1 e2
  exact ⟨C', dp', k1, by rw [upd_ne (nra k2 fun l z => nomatch z)]; exact k2⟩
/-- what differs -/
structure Nes (H0 : Hp) (src al ai ap aq st a b c : Addr) (ps : List Addr) (ks : List Nat) (m : Nat) : Prop where
  s1 : src ≠ al
  s2 : src ≠ ai
  s3 : src ≠ ap
  s4 : src ≠ aq
  s5 : src ≠ st
  t1 : st ≠ al
  t2 : st ≠ ai
  t3 : st ≠ ap
  t4 : st ≠ aq
  fa : Fo src ap aq st a
  fb : Fo src ap aq st b
  fc : Fo src ap aq st c
  h1 : H0 ap = none
  h2 : H0 aq = none
  h3 : H0 st = none
  pl : ps.length = m
  m1 : m ≤ 100
  k3 : ∀ k ∈ ks, k < 3
/-- the world of the law: the setting at the history U, the states of the history V' -/
structure LI (CR CP CC CS CG : Addr) (H0 H : Hp) (src g r al ai ap aq st a b c : Addr) (ps : List Addr) (ks : List Nat) (I : List Int) (n m : Nat) (U S : List Int) (ts : List Addr) (V' T' : List Int) : Prop where
  L : Liv CR CP CC CS CG H g r al ai ap aq ps ks I U S
  s : Src H src n
  st_ : H st = some (.lst (ts.map .ref))
  ss : Sts (Fo src ap aq st) H ts V' T'
  ha : H a = some (.lst (ps.map .ref))
  hb : H b = some (.lst (ks.map wordV))
  hc : H c = some (.lst (I.map .int))
  u : ∀ x ∈ V', x.natAbs ≤ m
  bt : Bt src H0 H
theorem LI.same (h : LI CR CP CC CS CG H0 H src g r al ai ap aq st a b c ps ks I n m U S ts V' T') (s : Same H H') : LI CR CP CC CS CG H0 H' src g r al ai ap aq st a b c ps ks I n m U S ts V' T' :=
  ⟨h.L.same s, h.s.same s, s _ _ h.st_, h.ss.kp (.same s), s _ _ h.ha, s _ _ h.hb, s _ _ h.hc, h.u, h.bt.trans (.of s)⟩
theorem LI.draw (h : LI CR CP CC CS CG H0 H src g r al ai ap aq st a b c ps ks I n m U S ts V' T') (N : Nes H0 src al ai ap aq st a b c ps ks m) (bt : Bt src H H') (hs : Src H' src n') : LI CR CP CC CS CG H0 H' src g r al ai ap aq st a b c ps ks I n' m U S ts V' T' :=
  ⟨h.L.bt h.s bt N.s1 N.s2 N.s3 N.s4, hs, bt _ _ N.s5.symm h.st_, h.ss.kp (.bt h.s bt), bt _ _ N.fa.1 h.ha, bt _ _ N.fb.1 h.hb, bt _ _ N.fc.1 h.hc, h.u, h.bt.trans bt⟩
theorem LI.app (h : LI CR CP CC CS CG H0 H src g r al ai ap aq st a b c ps ks I n m U S ts V' T') (N : Nes H0 src al ai ap aq st a b c ps ks m) {t : Addr} {e : Int} {c' : Int} (hl : T'.length = V'.length + 1) (ht : LStN (Fo src ap aq st) H t (V' ++ [e]) (T' ++ [c'])) (he : e.natAbs ≤ m) :
    LI CR CP CC CS CG H0 (upd H st (.lst ((ts ++ [t]).map .ref))) src g r al ai ap aq st a b c ps ks I n m U S (ts ++ [t]) (V' ++ [e]) (T' ++ [c']) := by
  have k : Kp (Fo src ap aq st) H (upd H st (.lst ((ts ++ [t]).map .ref))) := Kp.upd h.st_ fun z => z.2.2.2 rfl
  refine ⟨h.L.other h.st_ N.t1 N.t2 N.t3 N.t4, h.s.upd N.s5.symm, upd_same, (h.ss.app hl ht).kp k, by rw [upd_ne N.fa.2.2.2]; exact h.ha, by rw [upd_ne N.fb.2.2.2]; exact h.hb, by rw [upd_ne N.fc.2.2.2]; exact h.hc, fun x hx => ?_, fun b o n1 e1 => ?_⟩
  · rcases List.mem_append.mp hx with hx | hx
    · exact h.u x hx
    · rw [List.mem_singleton.mp hx]
      exact he
  · rw [upd_ne (fun z => by rw [z, N.h3] at e1; cases e1)]
    exact h.bt b o n1 e1
theorem LI.to (h : LI CR CP CC CS CG H0 H src g r al ai ap aq st a b c ps ks I n m U S ts V' T') (N : Nes H0 src al ai ap aq st a b c ps ks m) {U' S' : List Int} (k : ∀ b o, b ≠ ap → b ≠ aq → H b = some o → H' b = some o) (hp : H' ap = some (.lst (U'.map .int))) (hq : H' aq = some (.lst (S'.map .int))) (w : Wf I U' S') :
    LI CR CP CC CS CG H0 H' src g r al ai ap aq st a b c ps ks I n m U' S' ts V' T' := by
  have kp : Kp (Fo src ap aq st) H H' := fun x o e c => k x o (fun z => by
    rcases c with c | c
    · rw [z, h.L.rc.p] at e; exact c _ (Option.some.inj e).symm
    · exact c.2.1 z) (fun z => by
    rcases c with c | c
    · rw [z, h.L.rc.q] at e; exact c _ (Option.some.inj e).symm
    · exact c.2.2.1 z) e
  obtain ⟨x, y, z, hx, hy⟩ := h.s
  exact ⟨h.L.to k hp hq w, ⟨x, y, z, k _ _ N.s3 N.s4 hx, hy⟩, k _ _ N.t3 N.t4 h.st_, h.ss.kp kp, k _ _ N.fa.2.1 N.fa.2.2.1 h.ha, k _ _ N.fb.2.1 N.fb.2.2.1 h.hb, k _ _ N.fc.2.1 N.fc.2.2.1 h.hc, h.u, fun b o n1 e1 => k b o (fun z => by rw [z, N.h1] at e1; cases e1) (fun z => by rw [z, N.h2] at e1; cases e1) (h.bt b o n1 e1)⟩
theorem LI.step (h : LI CR CP CC CS CG H0 H src g r al ai ap aq st a b c ps ks I n m U S ts V' T') (N : Nes H0 src al ai ap aq st a b c ps ks m) {e c' : Int} (l : U.length < 1000) (hc : 0 ≤ c' ∧ c' < (I.length : Int)) :
    LI CR CP CC CS CG H0 (upd (upd H ap (.lst ((U ++ [e]).map .int))) aq (.lst ((S ++ [c']).map .int))) src g r al ai ap aq st a b c ps ks I n m (U ++ [e]) (S ++ [c']) ts V' T' :=
  h.to N (fun b o n1 n2 eb => by rw [upd_ne n2, upd_ne n1]; exact eb) (by rw [upd_ne h.L.rc.pq, upd_same]) upd_same (h.L.wf.go hc l)
/-- the state at the end -/
theorem LI.last (h : LI CR CP CC CS CG H0 H src g r al ai ap aq st a b c ps ks I n m U S ts V' T') (hl : T'.length = V'.length + 1) : ∃ t, atI (ts.map V.ref) (-1) = some (.ref t) ∧ LStN (Fo src ap aq st) H t V' T' := by
  have l1 := h.ss.1
  have lt : V'.length < ts.length := by omega
  have e := List.getElem?_eq_getElem lt
  refine ⟨ts[V'.length], ?_, ?_⟩
  · have ne : ts ≠ [] := fun z => by rw [z] at l1; cases l1
    have e2 : ts = ts.dropLast ++ [ts[V'.length]] := by
      have z := (List.dropLast_concat_getLast ne).symm
      have z2 : ts.getLast ne = ts[V'.length] := by
        rw [List.getLast_eq_getElem]
        congr 1
        omega
      rw [z2] at z
      exact z
    have e3 : ts.map V.ref = ts.dropLast.map V.ref ++ [V.ref ts[V'.length]] := by
      rw [show [V.ref ts[V'.length]] = [ts[V'.length]].map V.ref from rfl, ← List.map_append, ← e2]
    rw [e3]
    exact at_last
  · have z := h.ss.2 _ _ e
    rw [List.take_of_length_le (Nat.le_refl _), List.take_of_length_le (by omega)] at z
    exact z
end
end L34
set_option Elab.async false
set_option linter.all false
set_option maxRecDepth 100000
namespace L34
open PySem PySem.Spec PyProof.Rows L2 Lp
section
variable {P : Program} {w : World} {K : PySem.W.Frag} {mg : Str → Option Value} {base : Heap} {CR CP CC CS CG eF eE eS eR eO : Addr}
/-! ### a long history, and back -/
theorem okD_due (I U S : List Int) (h : U.length ≤ 1000) : okD 2 (dueD I U S) := by
  refine ⟨by show 5 < 100000; decide, fun x hx => ?_⟩
  rcases List.mem_cons.mp hx with rfl | hx
  · exact trivial
  rcases List.mem_cons.mp hx with rfl | hx
  · exact trivial
  rcases List.mem_cons.mp hx with rfl | hx
  · refine ⟨by rw [List.length_map]; omega, fun y hy => ?_⟩
    obtain ⟨z, _, rfl⟩ := List.mem_map.mp hy
    exact trivial
  rcases List.mem_cons.mp hx with rfl | hx
  · exact trivial
  rw [List.mem_singleton.mp hx]
  exact trivial
def spLong : Sp := fun vs H Q _ => ∃ (src : Addr) (n m z : Nat), vs = [.ref src, .int (m : Int), .int (z : Int)] ∧ Src H src n ∧ n ≤ 1000 ∧ m ≤ 100 ∧ z ≤ 150 ∧ ∀ H', Bt src H H' → Q (.bl true) H'
theorem ok_law_long_right {f : Addr} {fd : FuncData} (F : Fun K "_law_long_right" "_law_long_right" s_law_long_right f fd) (B : NoB mg) (T_mk_Setting : Mak P w K mg base 5 "Setting" CG (SpN (spGInit CR CG))) (T_law_draw : Cal P w K mg base 1 "_law_draw" spDraw) (T_law_made : Cal P w K mg base 7 "_law_made" (spMade CR CP CC CS CG)) (T_law_event : Cal P w K mg base 2 "_law_event" spEvent) (T_law_later : Cal P w K mg base 1 "_law_later" (spLater K))
    (T_law_pressed : Cal P w K mg base 6 "_law_pressed" (spPressed K CR CP CC CS CG)) (T_law_same : Cal P w K mg base 3 "_law_same" (spEqD K 2)) (T_law_seen : Cal P w K mg base 4 "_law_seen" (spSeen K CR CP CC CS CG)) (T_law_due : Cal P w K mg base 1 "_law_due" (spDue K)) (T_law_patches_right : Cal P w K mg base 4 "_law_patches_right" (spPRight K CR CP CC CS CG)) (T_Setting_undo : MetV P w K mg base 2 (Is CG) "undo" (spUndo CR CG eE)) :
    FnOk P w K mg base CX0 8 f fd ["source", "most", "size"] spLong := by
  refine F.ok sc_law_long_right (fun vs H Q E h => ?_) (fun cdv A outer s H vs Q E hr h => ?_)
  · obtain ⟨src, n, m, z, rfl, _⟩ := h
    rfl
  · obtain ⟨src, n, m, z, rfl, hs, hn, hm, hz, q⟩ := h
    refine ⟨_, (pss_cons (ps_par (i := 3) (j := 4) (by rfl) sc_law_long_right.nd rfl rfl (by decide) rfl rfl (pa_cons (pe_mk T_mk_Setting hr (by decide) (by rfl) (pa_cons (pe_op op_sub pe_int pe_int) pa_nil)) (pa_cons (pe_lst (pa_cons (pe_tup (pa_cons pe_int (pa_cons (pe_lst pa_nil) (pa_cons pe_dnewK pa_nil)))) pa_nil)) pa_nil)) (by rfl))
        (pss_cons (ps_asg (pe_c T_law_made hr (by decide) (by rfl) (pa_cons (pv 0) (pa_cons (pv 3) (pa_cons (pv 1) (pa_cons (pe_ix ix_list (pe_lst (pa_cons pe_int (pa_cons pe_int (pa_cons pe_int pa_nil)))) (pe_c T_law_draw hr (by decide) (by rfl) (pa_cons (pv 0) (pa_cons pe_int pa_nil))) (fun _ _ => rfl)) pa_nil))))) (pg_tup rfl (pgs_cons (pg_name (i := 5) sc_law_long_right.nd rfl (Or.inl rfl)) (pgs_cons (pg_name (i := 6) sc_law_long_right.nd rfl (Or.inl rfl)) (pgs_cons (pg_name (i := 7) sc_law_long_right.nd rfl (Or.inl rfl)) pgs_nil)))))
        (pss_cons (ps_asg (pe_tup (pa_cons pe_int (pa_cons pe_int pa_nil))) (pg_tup rfl (pgs_cons (pg_name (i := 8) sc_law_long_right.nd rfl (Or.inl rfl)) (pgs_cons (pg_name (i := 9) sc_law_long_right.nd rfl (Or.inl rfl)) pgs_nil))))
        (pss_cons (ps_while PassesOwn.never (pt_mid (PW.pt (pw_and (pt_cmpR op_lt (pv 9) (pv 2) (nomark _)) (pw_and1 (pt_cmpR op_lt (pv 8) (pe_op op_mulW pe_int (pv 2)) (nomark _)))))) (pss_cons (ps_set (i := 8) sc_law_long_right.nd rfl (Or.inl rfl) (pe_op op_add (pv 8) pe_int))
          (pss_cons (ps_set (i := 10) sc_law_long_right.nd rfl (Or.inl rfl) (pe_c T_law_event hr (by decide) (by rfl) (pa_cons (pv 0) (pa_cons (pe_ix ix_list (pv 4) (pe_un un_neg pe_int) (fun _ _ => rfl)) (pa_cons (pv 1) pa_nil)))))
          (pss_cons (ps_set (i := 11) sc_law_long_right.nd rfl (Or.inl rfl) (pe_ifExp (pt_cmpR op_eq (pv 10) pe_int (nomark _)) pe_str (pe_c T_law_later hr (by decide) (by rfl) (pa_cons (pe_ix ix_list (pv 4) (pe_un un_neg pe_int) (fun _ _ => rfl)) (pa_cons (pv 6) (pa_cons (pv 10) pa_nil))))))
          (pss_one (ps_if (pt_not (pt_val (pe_callB call_isi (by rfl) B.isinstance (by decide +kernel) (pa_cons (pv 11) (pa_cons (pe_bltn (v := .ty "str") (by rfl) B.str boot_str rfl) pa_nil))))) (pss_cons (ps_set (i := 9) sc_law_long_right.nd rfl (Or.inl rfl) (pe_op op_add (pv 9) pe_int))
            (pss_cons (ps_expr (pe_bm PySem.F.plainAttrs_list PySem.F.slot_list_append PySem.F.type_list_append mt_append (pv 4) (pa_cons (pv 11) pa_nil)))
            (pss_cons (ps_if (pt_not (pt_val (pe_c T_law_same hr (by decide) (by rfl) (pa_cons (pe_c T_law_pressed hr (by decide) (by rfl) (pa_cons (pv 5) (pa_cons (pv 10) pa_nil))) (pa_cons (pe_ix ix_list (pv 7) (pe_ix ix_tup (pv 11) pe_int (fun _ _ => rfl)) (fun _ _ => rfl)) pa_nil))))) (pss_one (ps_ret pe_bl)) pss_nil)
            (pss_one (ps_if (PW.pt (pw_and (pt_cmpR op_eq (pe_op op_mod (pv 9) pe_int) pe_int (nomark _)) (pw_and1 (pt_not (pt_val (pe_c T_law_same hr (by decide) (by rfl) (pa_cons (pe_c T_law_seen hr (by decide) (by rfl) (pa_cons (pv 3) pa_nil)) (pa_cons (pe_c T_law_due hr (by decide) (by rfl) (pa_cons (pv 11) (pa_cons (pv 7) pa_nil))) pa_nil)))))))) (pss_one (ps_ret pe_bl)) pss_nil))))) pss_nil))))))
        (pss_cons (ps_if (pt_not (pt_val (pe_c T_law_patches_right hr (by decide) (by rfl) (pa_cons (pv 5) (pa_cons (pe_ix ix_list (pv 4) (pe_un un_neg pe_int) (fun _ _ => rfl)) (pa_cons (pv 6) (pa_cons (pv 7) pa_nil))))))) (pss_one (ps_ret pe_bl)) pss_nil)
        (pss_cons (ps_for PassesOwn.never rfl (pi_list (pe_revL (pe_slice sl_list (pv 4) po_none (po_some (pe_un un_neg pe_int))))) (pg_name (i := 12) sc_law_long_right.nd rfl (Or.inl rfl))
          (pss_cons (ps_expr (pe_mV0 T_Setting_undo hr (by decide) takesN (pv 3)))
          (pss_one (ps_if (pt_not (pt_val (pe_c T_law_same hr (by decide) (by rfl) (pa_cons (pe_c T_law_seen hr (by decide) (by rfl) (pa_cons (pv 3) pa_nil)) (pa_cons (pe_c T_law_due hr (by decide) (by rfl) (pa_cons (pv 12) (pa_cons (pv 7) pa_nil))) pa_nil))))) (pss_one (ps_ret pe_bl)) pss_nil))))
        (pss_one (ps_ret (pe_c T_law_patches_right hr (by decide) (by rfl) (pa_cons (pv 5) (pa_cons (pe_ix ix_list (pv 4) pe_int (fun _ _ => rfl)) (pa_cons (pv 6) (pa_cons (pv 7) pa_nil))))))))))))), ?_⟩
    -- the setting
    refine ⟨_, _, rfl, rfl, fun g dg ng ndg ne => ?_⟩
    have ng' : (upd H dg (.own g)) g = none := by rw [upd_ne ne.symm]; exact ng
    have s1 : Same H (upd (upd H dg (.own g)) g (.ins CG dg [])) := (same_new ndg).trans (same_new ng')
    have g1 : (upd (upd H dg (.own g)) g (.ins CG dg [])) g = some (.ins CG dg []) := upd_same
    generalize upd (upd H dg (.own g)) g (.ins CG dg []) = H1 at s1 g1 ⊢
    refine ⟨g, dg, 0 - 7, rfl, ⟨by decide, by decide⟩, g1, fun r ai ap aq al H2 G R B2 nr nai nap naq nal la lp lq => ⟨rfl, ?_⟩⟩
    have s2 : Same H H2 := fun b o e => B2 b o (fun z => by rw [z, ng] at e; cases e) (s1 _ _ e)
    have L2 : Liv CR CP CC CS CG H2 g r al ai ap aq [] [] [0 - 7] [] [0] := ⟨G, R, ⟨rfl, fun c hc => by rw [List.mem_singleton.mp hc]; exact ⟨by decide, by decide⟩, by decide, by decide⟩, la, lp, lq, rfl, rfl, fun j p k e => by simp at e⟩
    have hs1 := hs.same s1
    have d1 : src ≠ al := fun e => hs1.ne nal e.symm
    have d2 : src ≠ ai := fun e => hs1.ne nai e.symm
    have d3 : src ≠ ap := fun e => hs1.ne nap e.symm
    have d4 : src ≠ aq := fun e => hs1.ne naq e.symm
    have hap : H ap = none := s1.free nap
    have haq : H aq = none := s1.free naq
    have hai : H ai = none := s1.free nai
    have hal : H al = none := s1.free nal
    have hs2 := hs.same s2
    clear B2 G R nr nai nap naq nal g1 s1 hs1
    -- the first state
    refine ⟨Nat.zero_le _, fun ad nad => ?_⟩
    have s3 := s2.trans (same_new (o := .lst []) nad)
    have a3 : (upd H2 ad (.lst [])) ad = some (.lst (([] : List Int).map .int)) := upd_same
    have L3 := L2.same (same_new (o := .lst []) nad)
    have ad1 : ad ≠ src := hs2.ne nad
    have ad2 : ad ≠ ap := fun e => by rw [e, L2.rc.p] at nad; cases nad
    have ad5 : ad ≠ ai := fun e => by rw [e, L2.rc.i] at nad; cases nad
    have ad6 : ad ≠ al := fun e => by rw [e, L2.set.l] at nad; cases nad
    have ad3 : ad ≠ aq := fun e => by rw [e, L2.rc.q] at nad; cases nad
    generalize upd H2 ad (.lst []) = H3 at s3 a3 L3 ⊢
    refine fun ak nak => ?_
    have s4 := s3.trans (same_new (o := .dK []) nak)
    have a4 := same_new (o := .dK []) nak _ _ a3
    have k4 : (upd H3 ak (.dK [])) ak = some (.dK (kept [] [0])) := upd_same
    have L4 := L3.same (same_new (o := .dK []) nak)
    generalize upd H3 ak (.dK []) = H4 at s4 a4 k4 L4 ⊢
    refine ⟨by show 3 ≤ sizeLine; decide, fun t0 nt0 => ?_⟩
    have s5 := s4.trans (same_new (o := .tup [.int 0, .ref ad, .ref ak]) nt0)
    have a5 := same_new (o := .tup [.int 0, .ref ad, .ref ak]) nt0 _ _ a4
    have k5 := same_new (o := .tup [.int 0, .ref ad, .ref ak]) nt0 _ _ k4
    have t5 : (upd H4 t0 (.tup [.int 0, .ref ad, .ref ak])) t0 = some (.tup [.int (lastI [0]), .ref ad, .ref ak]) := upd_same
    have L5 := L4.same (same_new (o := .tup [.int 0, .ref ad, .ref ak]) nt0)
    generalize upd H4 t0 (.tup [.int 0, .ref ad, .ref ak]) = H5 at s5 a5 k5 t5 L5 ⊢
    refine ⟨by show 1 ≤ sizeLine; decide, fun st nst => ?_⟩
    have s6 := s5.trans (same_new (o := .lst [.ref t0]) nst)
    have st6 : (upd H5 st (.lst [.ref t0])) st = some (.lst ([t0].map .ref)) := upd_same
    have ad4 : ad ≠ st := fun e => by rw [← e, a5] at nst; cases nst
    have hst : H st = none := s5.free nst
    have l6 : LStN (fun b => Fo src ap aq st b ∧ b ≠ ai ∧ b ≠ al) (upd H5 st (.lst [.ref t0])) t0 [] [0] := ⟨ad, ak, ⟨⟨ad1, ad2, ad3, ad4⟩, ad5, ad6⟩, same_new nst _ _ t5, same_new nst _ _ a5, same_new nst _ _ k5⟩
    have L6 := L5.same (same_new (o := .lst [.ref t0]) nst)
    have e1 : st ≠ al := fun e => by rw [e, L5.set.l] at nst; cases nst
    have e2 : st ≠ ai := fun e => by rw [e, L5.rc.i] at nst; cases nst
    have e3 : st ≠ ap := fun e => by rw [e, L5.rc.p] at nst; cases nst
    have e4 : st ≠ aq := fun e => by rw [e, L5.rc.q] at nst; cases nst
    have e5 : src ≠ st := fun e => ((hs.same s5).ne nst) e.symm
    generalize upd H5 st (.lst [.ref t0]) = H6 at s6 st6 l6 L6 ⊢
    clear a5 k5 t5 L5 a4 k4 L4 L3 a3 L2 s2 s3 s4 s5 hs2
    refine ⟨_, _, rfl, ?_⟩
    -- the patches
    have hs6 := hs.same s6
    refine ⟨_, rfl, _, rfl, _, rfl, by show 3 ≤ sizeLine; decide, fun y ny => ?_⟩
    have y7 : (upd H6 y (.lst [.int 0, .int 1, .int 3])) y = some (.lst [.int 0, .int 1, .int 3]) := upd_same
    have sy := same_new (o := .lst [.int 0, .int 1, .int 3]) ny
    have s7 := s6.trans sy
    have L7 := L6.same sy
    have st7 := sy _ _ st6
    have l7 := l6.kp (Kp.same sy)
    have hs7 := hs6.same sy
    have nys : y ≠ src := hs6.ne ny
    generalize upd H6 y (.lst [.int 0, .int 1, .int 3]) = H7 at y7 s7 L7 st7 l7 hs7 ⊢
    refine ⟨_, rfl, src, 3, _, rfl, hs7, by omega, by decide, by decide, fun j H8 j0 j1 hs8 b8 => ?_⟩
    obtain ⟨v, hv, ev⟩ := at_dn (a := .int 0) (b := .int 1) (c := .int 3) j0 j1
    obtain ⟨sv, rfl, v0, v3⟩ : ∃ sv : Int, v = .int sv ∧ 0 ≤ sv ∧ sv ≤ 3 := by
      rcases hv with rfl | rfl | rfl
      · exact ⟨0, rfl, by decide, by decide⟩
      · exact ⟨1, rfl, by decide, by decide⟩
      · exact ⟨3, rfl, by decide, by decide⟩
    refine ⟨y, _, _, _, rfl, rfl, .of (b8 _ _ nys y7), ev, ?_⟩
    have L8 := L7.bt hs7 b8 d1 d2 d3 d4
    have st8 := b8 _ _ e5.symm st7
    have l8 := l7.kp ((Kp.bt (ap := ap) (aq := aq) (st := st) hs7 b8).anti fun b h => h.1)
    have bt8 : Bt src H H8 := (Bt.of s7).trans b8
    refine ⟨src, g, r, al, ai, ap, aq, _, m, sv, _, rfl, hs8, by omega, hm, v0, v3, L8, d1, d2, d3, d4, fun t a b c ps ks I H9 ht ha hb hc L9 pl k3 _ _ hs9 keep nt na nb nc => ?_⟩
    have nex : ∀ {x y : Addr} {o : HO}, H8 x = none → H8 y = some o → x ≠ y := fun {x y o} h1 h2 e => by rw [e, h2] at h1; cases h1
    have nsrc : ∀ {x : Addr}, H8 x = none → x ≠ src := fun h => hs8.ne h
    have N : Nes H src al ai ap aq st a b c ps ks m := ⟨d1, d2, d3, d4, e5, e1, e2, e3, e4, ⟨nsrc na, nex na L8.rc.p, nex na L8.rc.q, nex na st8⟩, ⟨nsrc nb, nex nb L8.rc.p, nex nb L8.rc.q, nex nb st8⟩, ⟨nsrc nc, nex nc L8.rc.p, nex nc L8.rc.q, nex nc st8⟩, hap, haq, hst, pl, hm, k3⟩
    have l9 : LStN (Fo src ap aq st) H9 t0 [] [0] := by
      obtain ⟨ad', ak', f, h1, h2, h3⟩ := l8
      have nl : ∀ {x : Addr} {o : HO}, H8 x = some o → (∀ l, o ≠ .lst l) → x ≠ src ∧ x ≠ ai ∧ x ≠ al := fun {x o} e n => ⟨fun z => by
        obtain ⟨_, _, _, hx, _⟩ := hs8
        rw [z, hx] at e; exact n _ (Option.some.inj e).symm, fun z => (by rw [z, L8.rc.i] at e; exact n _ (Option.some.inj e).symm), fun z => (by rw [z, L8.set.l] at e; exact n _ (Option.some.inj e).symm)⟩
      obtain ⟨u1, u2, u3⟩ := nl h1 (fun l z => nomatch z)
      obtain ⟨w1, w2, w3⟩ := nl h3 (fun l z => nomatch z)
      exact ⟨ad', ak', f.1, keep _ _ u1 u2 u3 h1, keep _ _ f.1.1 f.2.1 f.2.2 h2, keep _ _ w1 w2 w3 h3⟩
    have I9 : LI CR CP CC CS CG H H9 src g r al ai ap aq st a b c ps ks I (n + 700) m [] [0] [t0] [] [0] := ⟨L9, hs9.mono (by omega), keep _ _ e5.symm e2 e1 st8, ⟨rfl, fun j t' e => by
      cases j with
      | zero => cases e; exact l9
      | succ j => simp at e⟩, ha, hb, hc, fun x hx => absurd hx List.not_mem_nil, fun x o n1 e => keep _ _ n1 (fun z => by rw [z, hai] at e; cases e) (fun z => by rw [z, hal] at e; cases e) (bt8 _ _ n1 e)⟩
    refine ⟨t, _, rfl, .of ht, rfl, _, _, rfl, _, _, rfl, _, _, rfl, rfl, ?_⟩
    clear keep ht ha hb hc L9 hs9 l9 l8 L8 st8 bt8 l7 L7 st7 hs7 b8 y7 L6 l6 st6 hs6 s6 s7 sy
    refine ⟨by show 2 ≤ sizeLine; decide, fun T nT => ⟨T, _, rfl, .of upd_same, rfl, _, _, rfl, _, _, rfl, rfl, ?_⟩⟩
    have I10 := I9.same (same_new (o := .tup [.int 0, .int 0]) nT)
    generalize upd H9 T (.tup [.int 0, .int 0]) = H10 at I10 ⊢
    clear I9 nT
    refine ⟨fun mm σ H' => ∃ (tn : Nat) (U S : List Int) (ts : List Addr) (tI cl : Int) (y10 y11 y12 : Option V), mm = 4 * z - tn ∧ tn ≤ 4 * z ∧ U.length ≤ tn ∧ U.length ≤ z ∧ tI = (tn : Int) ∧ cl = ((U.length : Nat) : Int) ∧ σ = [some (.ref src), some (.int (m : Int)), some (.int (z : Int)), some (.ref g), some (.ref st), some (.ref a), some (.ref b), some (.ref c), some (.int tI), some (.int cl), y10, y11, y12] ∧
      LI CR CP CC CS CG H H' src g r al ai ap aq st a b c ps ks I (n + 700 + 5 * tn) m U S ts U S, ⟨_, 0, [], [0], [t0], 0, 0, _, _, _, rfl, Nat.zero_le _, Nat.zero_le _, Nat.zero_le _, rfl, rfl, rfl, I10⟩, fun mm σ H' h => ?_⟩
    obtain ⟨tn, U, S, ts, tI, cl, y10, y11, y12, rfl, htn, hU, hU2, htI, hcl, rfl, J⟩ := h
    clear I10
    have hl := J.L.wf.len
    obtain ⟨tl, el1, ll1⟩ := J.last hl
    have kl : ks.length = m := by have := J.L.kl; omega
    refine ⟨fun bb H1 => bb = decide (U.length < z ∧ tn < 4 * z) ∧ H1 = H', ?_, ?_⟩
    · by_cases c1 : cl < (z : Int)
      · refine ⟨_, rfl, _, rfl, _, _, rfl, rfl, true, dT c1, ?_⟩
        refine ⟨_, rfl, _, rfl, _, _, rfl, rfl, wide_mul (a := 30) (b := 30) (by decide) (lt_pow (by omega) (by omega)) (by decide) (by decide) (by decide), _, _, rfl, rfl, decide (tn < 4 * z), ?_, ?_, rfl⟩
        · exact congrArg V.bl (decide_eq_decide.mpr ⟨fun h => by omega, fun h => by omega⟩)
        · exact decide_eq_decide.mpr ⟨fun h => ⟨by omega, h⟩, fun h => h.2⟩
      · refine ⟨_, rfl, _, rfl, _, _, rfl, rfl, false, dF c1, ?_, rfl⟩
        exact (decide_eq_false fun h => c1 (by omega)).symm
    rintro bb H1 ⟨rfl, rfl⟩
    by_cases cnd : U.length < z ∧ tn < 4 * z
    · rw [decide_eq_true cnd]
      refine iteT ⟨fun σ' H' => ∃ (U S : List Int) (ts : List Addr) (tI cl : Int) (y10 y11 y12 : Option V), U.length ≤ tn + 1 ∧ U.length ≤ z ∧ tI = (tn : Int) + 1 ∧ cl = ((U.length : Nat) : Int) ∧ σ' = [some (.ref src), some (.int (m : Int)), some (.int (z : Int)), some (.ref g), some (.ref st), some (.ref a), some (.ref b), some (.ref c), some (.int tI), some (.int cl), y10, y11, y12] ∧
        LI CR CP CC CS CG H H' src g r al ai ap aq st a b c ps ks I (n + 700 + 5 * (tn + 1)) m U S ts U S, fun σ' H' h => ?_, ?_⟩
      · obtain ⟨U', S', ts', t1, c1, y1, y2, y3, h1, h2, h3, h4, h5, h6⟩ := h
        exact ⟨4 * z - (tn + 1), by omega, tn + 1, U', S', ts', t1, c1, y1, y2, y3, rfl, by omega, h1, h2, by omega, h4, h5, h6⟩
      · refine ⟨_, rfl, _, _, rfl, rfl, ?_⟩
        refine ⟨_, rfl, _, rfl, _, rfl, st, _, _, _, rfl, rfl, .of J.st_, el1, _, rfl, src, tl, m, _, U, S, rfl, J.s, by omega, ll1.st, hm, by omega, J.u, fun e H2 el hs2 b2 => ?_⟩
        have J2 := J.draw N b2 hs2
        have en : n + 700 + 5 * tn + 5 = n + 700 + 5 * (tn + 1) := by omega
        rw [en] at J2
        clear hs2 b2
        by_cases e0 : e = 0
        · subst e0
          refine ⟨_, rfl, rfl, true, dT rfl, ?_⟩
          refine ⟨_, rfl, _, _, _, _, true, rfl, .ty _, .base (.str _), kit_ty (by decide +kernel), _, rfl, iteF ?_⟩
          exact ⟨U, S, ts, tI + 1, cl, _, _, _, by omega, hU2, by omega, hcl, rfl, J2⟩
        · refine ⟨_, rfl, rfl, false, dF (vne e0), ?_⟩
          obtain ⟨tl2, el2, ll2⟩ := J2.last hl
          refine ⟨_, rfl, _, rfl, st, _, _, _, rfl, rfl, .of J2.st_, el2, _, rfl, _, rfl, tl2, b, e, ks, U, S, rfl, ll2.st, .of J2.hb, N.k3, hl, e0, by omega, by omega, fun hno str => ?_, fun c' hc' t' H3 s3 nt' l3 => ?_⟩
          · refine ⟨_, rfl, _, _, _, _, true, rfl, .ty _, .base (.str _), kit_ty (by decide +kernel), _, rfl, iteF ?_⟩
            exact ⟨U, S, ts, tI + 1, cl, _, _, _, by omega, hU2, by omega, hcl, rfl, J2⟩
          · have J3 := J2.same s3
            have l3F : LStN (Fo src ap aq st) H3 t' (U ++ [e]) (S ++ [c']) := l3.imp fun x hx => ⟨J2.s.ne hx, fun z => (by rw [z, J2.L.rc.p] at hx; cases hx), fun z => (by rw [z, J2.L.rc.q] at hx; cases hx), fun z => (by rw [z, J2.st_] at hx; cases hx)⟩
            obtain ⟨adx, akx, fx, hT, hD, hK⟩ := id l3F
            refine ⟨_, rfl, _, _, _, _, false, rfl, .ty _, tyx_t (.of hT), kit_ty (by decide +kernel), _, rfl, iteT ?_⟩
            have tsl := J3.ss.1
            have eU : cl + 1 = (((U ++ [e]).length : Nat) : Int) := by rw [List.length_append, hcl]; rfl
            refine ⟨_, rfl, _, _, rfl, rfl, ?_⟩
            refine ⟨_, rfl, .inl ⟨rfl, _, .of J3.st_⟩, _, rfl, st, _, _, rfl, rfl, J3.st_, zl (by rw [List.length_map]; omega), ?_⟩
            have er : ts.map V.ref ++ [V.ref t'] = (ts ++ [t']).map V.ref := by rw [List.map_append]; rfl
            rw [er]
            have J4 := J3.app N hl l3F el
            have hT4 : (upd H3 st (.lst ((ts ++ [t']).map .ref))) t' = some (.tup [.int (lastI (S ++ [c'])), .ref adx, .ref akx]) := by
              rw [upd_ne (fun z => by rw [z, J3.st_] at hT; cases hT)]
              exact hT
            generalize upd H3 st (.lst ((ts ++ [t']).map .ref)) = H4 at J4 hT4 ⊢
            have rg := J4.L.nxt hc' (by have := N.pl; omega)
            -- pressed
            refine ⟨_, rfl, _, rfl, a, g, r, al, ai, ap, aq, ps, ks, I, U, S, e, rfl, .of J4.ha, J4.L, e0, by have := N.pl; omega, by omega, fun c2 hc2 => ?_, fun p1 p2 => ?_, fun p1 p2 => ?_, fun p1 p2 p3 p4 => ?_⟩
            · obtain rfl : c' = c2 := Option.some.inj (hc'.symm.trans hc2)
              have J5 := J4.step N (e := e) (c' := c') (by omega) rg
              have hT5 : (upd (upd H4 ap (.lst ((U ++ [e]).map .int))) aq (.lst ((S ++ [c']).map .int))) t' = some (.tup [.int (lastI (S ++ [c'])), .ref adx, .ref akx]) := by
                rw [upd_ne (fun z => by rw [z, J4.L.rc.q] at hT4; cases hT4), upd_ne (fun z => by rw [z, J4.L.rc.p] at hT4; cases hT4)]
                exact hT4
              generalize upd (upd H4 ap (.lst ((U ++ [e]).map .int))) aq (.lst ((S ++ [c']).map .int)) = H5 at J5 hT5 ⊢
              refine ⟨_, rfl, _, rfl, t', _, _, _, rfl, rfl, .of hT5, at0, c, _, _, _, rfl, rfl, .of J5.hc, by rw [lastI_snoc]; exact atI_vI rg, ?_⟩
              refine ⟨.int _, .int _, .int _, rfl, .int _, .int _, trivial, fun H6 s6 => ⟨_, rfl, iteF ?_⟩⟩
              have J6 := J5.same s6
              have hT6 := s6 _ _ hT5
              have hl2 : (S ++ [c']).length = (U ++ [e]).length + 1 := by rw [List.length_append, List.length_append, hl]; rfl
              have fU : (U ++ [e]).length ≤ tn + 1 := by rw [List.length_append]; exact Nat.succ_le_succ hU
              have fU2 : (U ++ [e]).length ≤ z := by rw [List.length_append]; exact cnd.1
              have p1 : (cl + 1) % 5 = (cl + 1) % 5 := rfl
              by_cases c5 : (cl + 1) % 5 = 4
              · refine ⟨_, rfl, _, _, rfl, rfl, show (0 : Int) < 5 by decide, rfl, true, dT (congrArg V.int c5), ?_⟩
                refine ⟨_, rfl, g, r, al, ai, ap, aq, ps, ks, I, _, _, rfl, J6.L, fun q1 H7 s7 d7 => ?_⟩
                have J7 := J6.same s7
                obtain ⟨t2, f2, m2⟩ := J7.last hl2
                obtain rfl : t' = t2 := by
                  have e : (ts ++ [t']).map V.ref = ts.map V.ref ++ [V.ref t'] := List.map_append
                  rw [e, at_last] at f2
                  exact V.ref.inj (Option.some.inj f2)
                refine ⟨_, rfl, _, rfl, t', c, I, U ++ [e], S ++ [c'], rfl, m2.st, .of J7.hc, by rw [lastI_snoc]; exact rg.1, by rw [lastI_snoc]; exact rg.2, by omega, fun q2 H8 s8 d8 => ?_⟩
                refine ⟨.ref q1, .ref q2, _, rfl, dp_same s8 d7, d8, okD_due _ _ _ (by omega), fun H9 s9 => ⟨_, rfl, iteF ?_⟩⟩
                exact ⟨U ++ [e], S ++ [c'], ts ++ [t'], tI + 1, cl + 1, _, _, _, fU, fU2, by omega, eU, rfl, (J7.same s8).same s9⟩
              · refine ⟨_, rfl, _, _, rfl, rfl, show (0 : Int) < 5 by decide, rfl, false, dF (vne c5), ?_⟩
                exact ⟨U ++ [e], S ++ [c'], ts ++ [t'], tI + 1, cl + 1, _, _, _, fU, fU2, by omega, eU, rfl, J6⟩
            · exact absurd hc' (by unfold nxt; rw [if_pos p1, if_pos p2]; exact fun z => nomatch z)
            · exact absurd hc' (by
                unfold nxt
                rw [if_neg (by omega), if_pos (by
                  by_cases q1 : -e ∈ U
                  · exact .inr (Classical.byContradiction fun q2 => p2 ⟨q1, q2⟩)
                  · exact .inl q1)]
                exact fun z => nomatch z)
            · rw [hc'] at p4
              cases p4
    · rw [decide_eq_false cnd]
      refine iteF ?_
      clear cnd hU htn htI hcl
      generalize some (V.int tI) = y8
      generalize some (V.int cl) = y9
      have UL : U.length ≤ 1000 := J.L.wf.p
      refine ⟨_, rfl, _, rfl, _, rfl, st, _, _, _, rfl, rfl, .of J.st_, el1, _, rfl, _, rfl, a, tl, b, c, g, r, al, ai, ap, aq, ps, ks, I, U, S, rfl, .of J.ha, ll1.st, .of J.hb, .of J.hc, J.L, N.k3, by have := N.pl; omega, fun H2 s2 => ?_⟩
      have J2 := J.same s2
      refine ⟨_, rfl, iteF ?_⟩
      -- back
      refine ⟨_, rfl, _, rfl, _, rfl, st, _, rfl, .of J2.st_, fun p np => ?_⟩
      rw [cut_init]
      have ed : (ts.map V.ref).dropLast = ts.dropLast.map V.ref := by rw [List.map_dropLast]
      rw [ed]
      have J3 := J2.same (same_new (o := .lst (ts.dropLast.map .ref)) np)
      have p3 : (upd H2 p (.lst (ts.dropLast.map .ref))) p = some (.lst (ts.dropLast.map .ref)) := upd_same
      generalize upd H2 p (.lst (ts.dropLast.map .ref)) = H3 at J3 p3 ⊢
      refine ⟨p, _, rfl, .of p3, fun p2 np2 => ?_⟩
      rw [← List.map_reverse]
      have J4 := J3.same (same_new (o := .lst (ts.dropLast.reverse.map .ref)) np2)
      have p4 : (upd H3 p2 (.lst (ts.dropLast.reverse.map .ref))) p2 = some (.lst (ts.dropLast.reverse.map .ref)) := upd_same
      have n1 : p2 ≠ ap := fun e => by rw [e, J3.L.rc.p] at np2; cases np2
      have n2 : p2 ≠ aq := fun e => by rw [e, J3.L.rc.q] at np2; cases np2
      generalize upd H3 p2 (.lst (ts.dropLast.reverse.map .ref)) = H4 at J4 p4 ⊢
      have tsl := J4.ss.1
      have dl : (ts.dropLast.reverse.map V.ref).length = U.length := by rw [List.length_map, List.length_reverse, List.length_dropLast]; omega
      have tU : U.take U.length = U := List.take_of_length_le (Nat.le_refl _)
      have tS : S.take (U.length + 1) = S := List.take_of_length_le (by omega)
      refine ⟨p2, rfl, ⟨_, .of p4⟩, for_list (xs := ts.dropLast.reverse.map V.ref) (fun i σ H' => (∃ y10 y11 y12, σ = [some (.ref src), some (.int (m : Int)), some (.int (z : Int)), some (.ref g), some (.ref st), some (.ref a), some (.ref b), some (.ref c), y8, y9, y10, y11, y12]) ∧ H' p2 = some (.lst (ts.dropLast.reverse.map .ref)) ∧
        LI CR CP CC CS CG H H' src g r al ai ap aq st a b c ps ks I (n + 700 + 5 * tn) m (U.take (U.length - i)) (S.take (U.length - i + 1)) ts U S) ⟨⟨_, _, _, rfl⟩, p4, by rw [Nat.sub_zero, tU, tS]; exact J4⟩ (fun i σ H' _ h => .of h.2.1) (fun i x σ H' hx h => ?_) (fun σ H' h => ?_)⟩
      · obtain ⟨⟨x10, x11, x12, rfl⟩, hp', K⟩ := h
        have iU : i < U.length := by have := lt_get hx; omega
        obtain ⟨tt, rfl, htt⟩ : ∃ tt, x = V.ref tt ∧ ts[U.length - 1 - i]? = some tt := by
          rw [List.getElem?_map] at hx
          have hd : ts.dropLast.length = U.length := by rw [List.length_dropLast]; omega
          rw [List.getElem?_reverse (by omega), hd, List.getElem?_dropLast, if_pos (by omega)] at hx
          cases zz : ts[U.length - 1 - i]? with
          | none => rw [zz] at hx; cases hx
          | some tt => rw [zz] at hx; exact ⟨tt, (Option.some.inj hx).symm, rfl⟩
        obtain ⟨dgx, hgx⟩ := K.L.set.g
        obtain ⟨j, hj⟩ : ∃ j, U.length - i = j + 1 := ⟨U.length - i - 1, by omega⟩
        have hj2 : U.length - (i + 1) = j := by omega
        have hj3 : U.length - 1 - i = j := by omega
        rw [hj] at K
        rw [hj3] at htt
        have dU : (U.take (j + 1)).dropLast = U.take j := by
          rw [take_get (List.getElem?_eq_getElem (show j < U.length by omega)), List.dropLast_concat]
        have dS : (S.take (j + 1 + 1)).dropLast = S.take (j + 1) := by
          rw [take_get (List.getElem?_eq_getElem (show j + 1 < S.length by omega)), List.dropLast_concat]
        have wf' : Wf I (U.take j) (S.take (j + 1)) := by
          have w := J.L.wf
          exact ⟨by rw [List.length_take, List.length_take]; omega, fun c hc => w.rng c (List.mem_of_mem_take hc), by rw [List.length_take]; omega, w.i⟩
        refine ⟨_, rfl, g, CG, dgx, _, rfl, rfl, hgx, lkG _ _ (by decide +kernel), g, r, al, ai, ap, aq, ps, I, _, _, rfl, K.L.set, K.L.rc, K.L.wf, fun _ H5 k5 e5 e6 => ?_, fun e => ?_⟩
        · rw [dU] at e5
          rw [dS] at e6
          have K5 := K.to N k5 e5 e6 wf'
          have p5 := k5 _ _ n1 n2 hp'
          refine ⟨_, rfl, g, r, al, ai, ap, aq, ps, ks, I, _, _, rfl, K5.L, fun q1 H6 s6 d6 => ?_⟩
          have K6 := K5.same s6
          have lt := (K6.ss.2 _ _ htt).st
          have lr := wf'.last
          refine ⟨_, rfl, _, rfl, tt, c, I, U.take j, S.take (j + 1), rfl, lt, .of K6.hc, lr.1, lr.2, wf'.p, fun q2 H7 s7 d7 => ?_⟩
          refine ⟨.ref q1, .ref q2, _, rfl, dp_same s7 d6, d7, okD_due _ _ _ wf'.p, fun H8 s8 => ⟨_, rfl, iteF ?_⟩⟩
          refine ⟨⟨_, _, _, rfl⟩, s8 _ _ (s7 _ _ (s6 _ _ p5)), ?_⟩
          rw [hj2]
          exact (K6.same s7).same s8
        · have := congrArg List.length e
          rw [List.length_take] at this
          have : min (j + 1) U.length = 0 := this
          omega
      · obtain ⟨⟨x10, x11, x12, rfl⟩, hp', K⟩ := h
        rw [dl, Nat.sub_self] at K
        have h0 : 0 < ts.length := by omega
        have e0 := List.getElem?_eq_getElem h0
        have at0' : atI (ts.map V.ref) 0 = some (.ref ts[0]) := atI_nat (j := 0) (by rw [List.getElem?_map, e0]; rfl)
        have lt0 := (K.ss.2 _ _ e0).st
        refine ⟨_, rfl, _, rfl, st, _, _, _, rfl, rfl, .of K.st_, at0', _, rfl, _, rfl, a, _, b, c, g, r, al, ai, ap, aq, ps, ks, I, _, _, rfl, .of K.ha, lt0, .of K.hb, .of K.hc, K.L, N.k3, by have := N.pl; omega, fun H2 s2 => ?_⟩
        exact q _ (K.bt.trans (.of s2))
end
end L34
set_option Elab.async false
set_option linter.all false
set_option maxRecDepth 100000
namespace L34
open PySem PySem.Spec PyProof.Rows L2 Lp
/-! ### all patches started, all stopped -/
def upT (z : Nat) : List Int := (List.range z).map fun j : Nat => (j : Int) + 1
def S0 (z : Nat) : List Int := (List.range (z + 1)).map fun j : Nat => (j : Int)
theorem upT_succ (z : Nat) : upT (z + 1) = upT z ++ [(z : Int) + 1] := by
  unfold upT
  rw [List.range_succ, List.map_append]
  rfl
theorem S0_succ (z : Nat) : S0 (z + 1) = S0 z ++ [(z : Int) + 1] := by
  unfold S0
  rw [List.range_succ (n := z + 1), List.map_append]
  rfl
theorem upT_len (z : Nat) : (upT z).length = z := by
  unfold upT
  rw [List.length_map, List.length_range]
theorem S0_len (z : Nat) : (S0 z).length = z + 1 := by
  unfold S0
  rw [List.length_map, List.length_range]
theorem upT_at {z j : Nat} (h : j < z) : (upT z)[j]? = some ((j : Int) + 1) := by
  unfold upT
  rw [List.getElem?_map, List.getElem?_range h]
  rfl
theorem S0_at {z j : Nat} (h : j ≤ z) : (S0 z)[j]? = some (j : Int) := by
  unfold S0
  rw [List.getElem?_map, List.getElem?_range (by omega)]
  rfl
theorem mem_upT {z : Nat} {x : Int} : x ∈ upT z ↔ 1 ≤ x ∧ x ≤ (z : Int) := by
  constructor
  · intro h
    obtain ⟨j, hj, rfl⟩ := List.mem_map.mp h
    have := List.mem_range.mp hj
    omega
  · intro ⟨h1, h2⟩
    exact List.mem_map.mpr ⟨x.toNat - 1, List.mem_range.mpr (by omega), by omega⟩
theorem last_S0 (z : Nat) : lastI (S0 z) = (z : Int) := by
  unfold S0
  rw [List.range_succ, List.map_append]
  exact lastI_snoc _ _
theorem fb_up {z : Nat} {k : Int} (r q : List Int) (h1 : 1 ≤ k) (h2 : k ≤ (z : Int)) : fbI (upT z ++ r) (S0 z ++ q) k = k - 1 := by
  have hm : k ∈ upT z := mem_upT.mpr ⟨h1, h2⟩
  obtain ⟨i1, _⟩ := idx_first hm
  have hi := lt_get i1
  rw [upT_len] at hi
  rw [upT_at hi] at i1
  have e : (((upT z).idxOf k : Nat) : Int) = k - 1 := by
    have := Option.some.inj i1
    omega
  unfold fbI
  rw [List.idxOf_append, if_pos hm, List.getElem?_append_left (by rw [S0_len]; omega), S0_at (by omega), ← e]
  rfl
/-- the events that stop the first patches, the last patches -/
def negs (i : Nat) : List Int := (List.range i).map fun j : Nat => -((j : Int) + 1)
def dn (z i : Nat) : List Int := (List.range i).map fun j : Nat => -((z : Int) - (j : Int))
def dq (z i : Nat) : List Int := (List.range i).map fun j : Nat => (z : Int) - (j : Int) - 1
theorem negs_succ (i : Nat) : negs (i + 1) = negs i ++ [-((i : Int) + 1)] := by
  unfold negs
  rw [List.range_succ, List.map_append]
  rfl
theorem dn_succ (z i : Nat) : dn z (i + 1) = dn z i ++ [-((z : Int) - (i : Int))] := by
  unfold dn
  rw [List.range_succ, List.map_append]
  rfl
theorem dq_succ (z i : Nat) : dq z (i + 1) = dq z i ++ [(z : Int) - (i : Int) - 1] := by
  unfold dq
  rw [List.range_succ, List.map_append]
  rfl
theorem negs_len (i : Nat) : (negs i).length = i := by unfold negs; rw [List.length_map, List.length_range]
theorem dn_len (z i : Nat) : (dn z i).length = i := by unfold dn; rw [List.length_map, List.length_range]
theorem dq_len (z i : Nat) : (dq z i).length = i := by unfold dq; rw [List.length_map, List.length_range]
theorem mem_negs {i : Nat} {x : Int} (h : x ∈ negs i) : -(i : Int) ≤ x ∧ x < 0 := by
  obtain ⟨j, hj, rfl⟩ := List.mem_map.mp h
  have := List.mem_range.mp hj
  omega
theorem mem_dn {z i : Nat} {x : Int} (h : x ∈ dn z i) : x < (i : Int) - (z : Int) := by
  obtain ⟨j, hj, rfl⟩ := List.mem_map.mp h
  have := List.mem_range.mp hj
  omega
theorem last_dq (z i : Nat) : lastI (S0 z ++ dq z i) = (z : Int) - (i : Int) := by
  cases i with
  | zero =>
    show lastI (S0 z ++ []) = _
    rw [List.append_nil, last_S0]
    omega
  | succ i =>
    rw [dq_succ, ← List.append_assoc, lastI_snoc]
    omega
theorem nxt_stop {ks : List Nat} {z : Nat} {k : Int} {r q : List Int} (h1 : 1 ≤ k) (h2 : k ≤ (z : Int)) (hr : -k ∉ r) : nxt ks (upT z ++ r) (S0 z ++ q) (-k) = leftK (ks.getD (k.toNat - 1) 0) (upT z ++ r) (S0 z ++ q) k := by
  unfold nxt
  have m1 : k ∈ upT z ++ r := List.mem_append_left _ (mem_upT.mpr ⟨h1, h2⟩)
  have m2 : -k ∉ upT z ++ r := fun z => (List.mem_append.mp z).elim (fun q => by have := (mem_upT.mp q).1; omega) hr
  rw [if_neg (by omega), Int.neg_neg, if_neg (fun z => z.elim (fun q => q m1) m2)]
/-- what is told of the stops, by the style -/
def tdV (sty : Nat) (z : Nat) (I : List Int) (i : Nat) : List V := (List.range i).map fun j : Nat => if sty = 0 then .int (vI I (j : Int)) else if sty = 1 then .int (vI I (z : Int)) else .str "order"
theorem tdV_succ (sty z : Nat) (I : List Int) (i : Nat) : tdV sty z I (i + 1) = tdV sty z I i ++ [if sty = 0 then .int (vI I (i : Int)) else if sty = 1 then .int (vI I (z : Int)) else .str "order"] := by
  unfold tdV
  rw [List.range_succ, List.map_append]
  rfl
theorem tdV_len (sty z : Nat) (I : List Int) (i : Nat) : (tdV sty z I i).length = i := by unfold tdV; rw [List.length_map, List.length_range]
section
variable {CR CP CC CS CG : Addr} {H H' H0 : Hp} {g r al ai ap aq src a c : Addr} {ps : List Addr} {ks : List Nat} {I U S : List Int} {n m : Nat}
structure LA (CR CP CC CS CG : Addr) (H0 H : Hp) (src g r al ai ap aq a c : Addr) (ps : List Addr) (ks : List Nat) (I : List Int) (n : Nat) (U S : List Int) : Prop where
  L : Liv CR CP CC CS CG H g r al ai ap aq ps ks I U S
  s : Src H src n
  ha : H a = some (.lst (ps.map .ref))
  hc : H c = some (.lst (I.map .int))
  bt : Bt src H0 H
structure Na (H0 : Hp) (src ap aq a c : Addr) : Prop where
  s1 : src ≠ ap
  s2 : src ≠ aq
  a1 : a ≠ ap
  a2 : a ≠ aq
  c1 : c ≠ ap
  c2 : c ≠ aq
  h1 : H0 ap = none
  h2 : H0 aq = none
theorem LA.same (h : LA CR CP CC CS CG H0 H src g r al ai ap aq a c ps ks I n U S) (s : Same H H') : LA CR CP CC CS CG H0 H' src g r al ai ap aq a c ps ks I n U S :=
  ⟨h.L.same s, h.s.same s, s _ _ h.ha, s _ _ h.hc, h.bt.trans (.of s)⟩
theorem LA.to (h : LA CR CP CC CS CG H0 H src g r al ai ap aq a c ps ks I n U S) (N : Na H0 src ap aq a c) {U' S' : List Int} (k : ∀ b o, b ≠ ap → b ≠ aq → H b = some o → H' b = some o) (hp : H' ap = some (.lst (U'.map .int))) (hq : H' aq = some (.lst (S'.map .int))) (w : Wf I U' S') :
    LA CR CP CC CS CG H0 H' src g r al ai ap aq a c ps ks I n U' S' := by
  obtain ⟨x, y, z, hx, hy⟩ := h.s
  exact ⟨h.L.to k hp hq w, ⟨x, y, z, k _ _ N.s1 N.s2 hx, hy⟩, k _ _ N.a1 N.a2 h.ha, k _ _ N.c1 N.c2 h.hc, fun b o n1 e1 => k b o (fun z => by rw [z, N.h1] at e1; cases e1) (fun z => by rw [z, N.h2] at e1; cases e1) (h.bt b o n1 e1)⟩
theorem LA.step (h : LA CR CP CC CS CG H0 H src g r al ai ap aq a c ps ks I n U S) (N : Na H0 src ap aq a c) {e c' : Int} (l : U.length < 1000) (hc : 0 ≤ c' ∧ c' < (I.length : Int)) :
    LA CR CP CC CS CG H0 (upd (upd H ap (.lst ((U ++ [e]).map .int))) aq (.lst ((S ++ [c']).map .int))) src g r al ai ap aq a c ps ks I n (U ++ [e]) (S ++ [c']) :=
  h.to N (fun b o n1 n2 eb => by rw [upd_ne n2, upd_ne n1]; exact eb) (by rw [upd_ne h.L.rc.pq, upd_same]) upd_same (h.L.wf.go hc l)
theorem LA.keep (h : LA CR CP CC CS CG H0 H src g r al ai ap aq a c ps ks I n U S) {x : Addr} {o o1 o2 : HO} (e : H x = some o) (n1 : x ≠ ap) (n2 : x ≠ aq) : (upd (upd H ap o1) aq o2) x = some o := by
  rw [upd_ne n2, upd_ne n1]
  exact e
end
theorem lay_rep (n : Nat) (x : Str) (h : PyData.canLay0 (.str x) = true) : PyData.canLayAll0 (List.replicate n (.str x)) = true := by
  induction n with
  | zero => rfl
  | succ n ih =>
    rw [List.replicate_succ]
    show (PyData.canLay0 (.str x) && PyData.canLayAll0 (List.replicate n (.str x))) = true
    rw [h, ih]
    rfl
theorem depth_rep (n : Nat) (x : Str) : PyData.depthAll (List.replicate n (.str x)) = 0 := by
  induction n with
  | zero => rfl
  | succ n ih =>
    rw [List.replicate_succ]
    show max (PyData.depth (.str x)) (PyData.depthAll (List.replicate n (.str x))) = 0
    rw [ih]
    rfl
theorem shaped_rep (n : Nat) (x : Str) (h : PyData.canLay0 (.str x) = true) : SeqAt.shaped (.list (List.replicate n (.str x))) = true := by
  show (PyData.canLayAll0 (List.replicate n (.str x)) && decide (PyData.depthAll (List.replicate n (.str x)) + 1 ≤ 64)) = true
  rw [lay_rep n x h, depth_rep]
  rfl
theorem eqv_rep (n : Nat) (x : Str) : PyData.eqv (.list (List.replicate n (.str x))) (.list (List.replicate n (.str x))) = true := by
  show PyData.eqvAll (List.replicate n (.str x)) (List.replicate n (.str x)) = true
  induction n with
  | zero => rfl
  | succ n ih =>
    rw [List.replicate_succ]
    show (PyData.eqv (.str x) (.str x) && PyData.eqvAll (List.replicate n (.str x)) (List.replicate n (.str x))) = true
    rw [ih, show PyData.eqv (.str x) (.str x) = true from by show (x == x) = true; simp]
    rfl
theorem dp_rep {K : PySem.W.Frag} {H : Hp} {a : Addr} {n : Nat} {x : Str} (h : SqL K H a (List.replicate n (V.str x))) : Dp K H (.ref a) (.list (List.replicate n (.str x))) := by
  refine .lst h ?_
  clear h
  induction n with
  | zero => exact .nil
  | succ n ih => rw [List.replicate_succ, List.replicate_succ]; exact .cons (.str _) ih
theorem lay_order : PyData.canLay0 (.str ("order" : Str)) = true := by decide +kernel
end L34
set_option Elab.async false
set_option linter.all false
set_option maxRecDepth 100000
namespace L34
open PySem PySem.Spec PyProof.Rows L2 Lp
section
variable {P : Program} {w : World} {K : PySem.W.Frag} {mg : Str → Option Value} {base : Heap} {CR CP CC CS CG eF eE eS eR eO : Addr}
theorem tdV_two (z : Nat) (I : List Int) (i : Nat) : tdV 2 z I i = List.replicate i (V.str "order") := by
  induction i with
  | zero => rfl
  | succ i ih =>
    rw [tdV_succ, ih, List.replicate_succ']
    rfl
theorem tdV_one (z : Nat) (I : List Int) (i : Nat) : tdV 1 z I i = (List.replicate i (vI I (z : Int))).map V.int := by
  induction i with
  | zero => rfl
  | succ i ih =>
    rw [tdV_succ, ih, List.replicate_succ', List.map_append]
    rfl
theorem tdV_zero (z : Nat) (I : List Int) {i : Nat} (h : i ≤ I.length) : tdV 0 z I i = (I.take i).map V.int := by
  induction i with
  | zero => rfl
  | succ i ih =>
    have hi : i < I.length := h
    rw [tdV_succ, ih (Nat.le_of_lt hi), take_get (List.getElem?_eq_getElem hi), List.map_append]
    show _ ++ [V.int ((I[((i : Int)).toNat]?).getD 0)] = _
    rw [Int.toNat_natCast, List.getElem?_eq_getElem hi]
    rfl
theorem flat_one {n : Nat} {x : V} : (List.replicate n [x]).flatten = List.replicate n x := by
  induction n with
  | zero => rfl
  | succ n ih =>
    rw [List.replicate_succ, List.replicate_succ, List.flatten_cons, ih]
    rfl
def spAll : Sp := fun vs H Q _ => ∃ (src : Addr) (n sty z : Nat), vs = [.ref src, .int (sty : Int), .int (z : Int)] ∧ Src H src n ∧ n ≤ 300000 ∧ sty < 3 ∧ 2 ≤ z ∧ z ≤ 100 ∧ ∀ H', Bt src H H' → Src H' src (n + 6 * z) → Q (.bl true) H'
set_option maxHeartbeats 0 in
theorem ok_law_all_right {f : Addr} {fd : FuncData} (F : Fun K "_law_all_right" "_law_all_right" s_law_all_right f fd) (B : NoB mg) (T_mkK_Setting : MakK P w K mg base 5 "Setting" CG ["original"] (fun a b => a ++ b) (SpN (spGInit CR CG))) (T_law_made : Cal P w K mg base 7 "_law_made" (spMade CR CP CC CS CG)) (T_law_pressed : Cal P w K mg base 6 "_law_pressed" (spPressed K CR CP CC CS CG))
    (T_AnyPatch_start : MetC P w K mg base 5 (Kind3 CP CC CS) "start" (spStartC CR eS)) (T_AnyPatch_stop : MetC P w K mg base 5 (Kind3 CP CC CS) "stop" (spStopK CR eR eO)) (T_AnyPatch_runs : PrpV P w K mg base 2 (Any3 CP CC CS) "runs" (spRuns CR CP CC CS))
    (T_Setting_present : PrpV P w K mg base 1 (Is CG) "present" (spGPres CR CG)) (T_Setting_original : PrpV P w K mg base 1 (Is CG) "original" (spGOrig CR CG)) (T_Setting_integer : PrpV P w K mg base 2 (Is CG) "integer" (spGInt CR CG)) (T_Setting_len : Met P w K mg base 1 CG "__len__" (spGLen CR CG)) (T_Setting_undo : MetV P w K mg base 2 (Is CG) "undo" (spUndo CR CG eE)) :
    FnOk P w K mg base CX0 8 f fd ["source", "style", "size"] spAll := by
  refine F.ok sc_law_all_right (fun vs H Q E h => ?_) (fun cdv A outer s H vs Q E hr h => ?_)
  · obtain ⟨src, n, sty, z, rfl, _⟩ := h
    rfl
  · obtain ⟨src, n, sty, z, rfl, hs, hn, hsty, z2, z100, q⟩ := h
    have hu64 := hr.units
    refine ⟨_, (pss_cons (ps_set (i := 3) sc_law_all_right.nd rfl (Or.inl rfl) (pe_mkK T_mkK_Setting hr (by decide) (by rfl) (pk_cons pe_int pk_nil)))
        (pss_cons (ps_asg (pe_c T_law_made hr (by decide) (by rfl) (pa_cons (pv 0) (pa_cons (pv 3) (pa_cons (pv 2) (pa_cons (pv 1) pa_nil))))) (pg_tup rfl (pgs_cons (pg_name (i := 4) sc_law_all_right.nd rfl (Or.inr rfl)) (pgs_cons (pg_name (i := 5) sc_law_all_right.nd rfl (Or.inl rfl)) (pgs_cons (pg_name (i := 6) sc_law_all_right.nd rfl (Or.inl rfl)) pgs_nil)))))
        (pss_cons (ps_for PassesOwn.never rfl (pi_list (pv 4)) (pg_name (i := 7) sc_law_all_right.nd rfl (Or.inl rfl))
          (pss_one (ps_expr (pe_mC0 T_AnyPatch_start hr (by decide) takesN (pv 7)))))
        (pss_cons (ps_setLc (i := 8) (own := [("k", 9)]) (g := gName 9) (tt := tYes) rfl sc_law_all_right.nd rfl rfl (sw_true rfl rfl rfl (by decide +kernel)) (pi_range2 rfl B.range (pa_cons pe_int (pa_cons (pv 2) pa_nil))) (blkOk_by (own := [("k", 9)]) (N := N_law_all_right) (sc := defScope s_law_all_right) (by decide +kernel)) (fun _ _ _ _ _ => (pg_name (i := 9) sc_law_all_right.nd rfl (Or.inl rfl))) (fun _ _ _ _ _ => pts_nil) (fun _ _ _ _ _ => (pe_c T_law_pressed hr (by decide) (by rfl) (pa_cons (pv 4) (pa_cons (pe_op op_sub pe_int (pv 9)) pa_nil)))))
        (pss_cons (ps_if (pt_mid (PW.pt (pw_or (PW.pt (pw_and (pt_cmpR op_eq (pv 1) pe_int (nomark _)) (pw_and1 (pt_cmpR (op_neD hu64) (pv 8) (pe_op op_rep (pe_lst (pa_cons pe_str pa_nil)) (pe_op op_sub (pv 2) pe_int)) (nomark _))))) (pw_or1 (PW.pt (pw_and (pt_cmpR op_eq (pv 1) pe_int (nomark _)) (pw_and1 (pt_cmpR (op_neD hu64) (pv 8) (pe_op op_rep (pe_lst (pa_cons (pe_ix ix_list (pv 6) (pv 2) (fun _ _ => rfl)) pa_nil)) (pe_op op_sub (pv 2) pe_int)) (nomark _))))))))) (pss_one (ps_ret pe_bl)) pss_nil)
        (pss_cons (ps_if (pt_mid (PW.pt (pw_and (pt_cmpR op_eq (pv 1) pe_int (nomark _)) (pw_and1 (pt_cmpR (op_neD hu64) (pv 8) (pe_slice sl_list (pv 6) po_none (po_some (pe_op op_sub (pv 2) pe_int))) (nomark _)))))) (pss_one (ps_ret pe_bl)) pss_nil)
        (pss_cons (ps_if (pt_mid (PW.pt (pw_and (pt_cmpR op_lt (pv 1) pe_int (nomark _)) (pw_and1 (pt_cmpR op_ne (pe_mC0 T_AnyPatch_stop hr (by decide) takesN (pe_ix ix_list (pv 4) (pe_un un_neg pe_int) (fun _ _ => rfl))) (pe_ix ix_list (pv 6) (pe_op op_sub (pv 2) pe_int) (fun _ _ => rfl)) (nomark _)))))) (pss_one (ps_ret pe_bl)) pss_nil)
        (pss_cons (ps_if (pt_mid (PW.pt (pw_and (pt_cmpR op_lt (pv 1) pe_int (nomark _)) (pw_and1 (PW.pt (pw_or (pt_cmpR op_ne (pe_pV T_Setting_present hr (by decide) (pv 3)) (pe_op op_sub (pv 2) pe_int) (nomark _)) (pw_or1 (pt_cmpR op_ne (pe_callB (call_lenO T_Setting_len hr (by decide)) (by rfl) B.len PySem.boot_len (pa_cons (pv 3) pa_nil)) (pe_op op_mulW pe_int (pv 2)) (nomark _))))))))) (pss_one (ps_ret pe_bl)) pss_nil)
        (pss_cons (ps_for PassesOwn.never rfl (pi_list (pv 4)) (pg_name (i := 7) sc_law_all_right.nd rfl (Or.inl rfl))
          (pss_one (ps_if (pt_cmpR op_lt (pv 1) pe_int (nomark _)) (pss_one (ps_expr (pe_mV0 T_Setting_undo hr (by decide) takesN (pv 3)))) pss_nil)))
        (pss_cons (ps_if (pt_mid (PW.pt (pw_or (pt_cmpR op_ne (pe_pV T_Setting_present hr (by decide) (pv 3)) (pv 2) (nomark _)) (pw_or1 (pt_cmpR op_ne (pe_callB call_len_seq (by rfl) B.len PySem.boot_len (pa_cons (pe_lc (own := [("each", 7)]) (g := gName 7) (tt := _) rfl sc_law_all_right.nd (pi_list (pv 4)) (blkOk_by (own := [("each", 7)]) (N := N_law_all_right) (sc := defScope s_law_all_right) (by decide +kernel)) (fun _ _ _ _ _ => (pg_name (i := 7) sc_law_all_right.nd rfl (Or.inl rfl))) (fun _ _ _ _ _ => (pts_one (pt_val (pe_pV T_AnyPatch_runs hr (by decide) (pv 7))))) (fun _ _ _ _ _ => (pv 7))) pa_nil)) (pv 2) (nomark _)))))) (pss_one (ps_ret pe_bl)) pss_nil)
        (pss_cons (ps_for PassesOwn.never rfl (pi_list (pe_revL (pv 4))) (pg_name (i := 7) sc_law_all_right.nd rfl (Or.inl rfl))
          (pss_one (ps_expr (pe_mC0 T_AnyPatch_stop hr (by decide) takesN (pv 7)))))
        (pss_one (ps_ret (pe_and (pe_pV T_Setting_original hr (by decide) (pv 3)) (pe_and (pe_cmpR op_eq (pe_pV T_Setting_integer hr (by decide) (pv 3)) pe_int (nomark _)) (pe_one (pe_cmpR op_eq (pe_callB (call_lenO T_Setting_len hr (by decide)) (by rfl) B.len PySem.boot_len (pa_cons (pv 3) pa_nil)) (pe_op op_mulW pe_int (pv 2)) (nomark _)))))))))))))))))), ?_⟩
    refine ⟨rfl, rfl, fun g dg ng ndg ne => ?_⟩
    have ng' : (upd H dg (.own g)) g = none := by rw [upd_ne ne.symm]; exact ng
    have s1 : Same H (upd (upd H dg (.own g)) g (.ins CG dg [])) := (same_new ndg).trans (same_new ng')
    have g1 : (upd (upd H dg (.own g)) g (.ins CG dg [])) g = some (.ins CG dg []) := upd_same
    generalize upd (upd H dg (.own g)) g (.ins CG dg []) = H1 at s1 g1 ⊢
    refine ⟨g, dg, 3, rfl, ⟨by decide, by decide⟩, g1, fun r ai ap aq al H2 G R B2 nr nai nap naq nal la lp lq => ⟨rfl, ?_⟩⟩
    have s2 : Same H H2 := fun b o e => B2 b o (fun z => by rw [z, ng] at e; cases e) (s1 _ _ e)
    have L2 : Liv CR CP CC CS CG H2 g r al ai ap aq [] [] [3] [] [0] := ⟨G, R, ⟨rfl, fun c hc => by rw [List.mem_singleton.mp hc]; exact ⟨by decide, by decide⟩, by decide, by decide⟩, la, lp, lq, rfl, rfl, fun j p k e => by simp at e⟩
    have hs1 := hs.same s1
    have d1 : src ≠ al := fun e => hs1.ne nal e.symm
    have d2 : src ≠ ai := fun e => hs1.ne nai e.symm
    have d3 : src ≠ ap := fun e => hs1.ne nap e.symm
    have d4 : src ≠ aq := fun e => hs1.ne naq e.symm
    have hap : H ap = none := s1.free nap
    have haq : H aq = none := s1.free naq
    have hai : H ai = none := s1.free nai
    have hal : H al = none := s1.free nal
    have hs2 := hs.same s2
    clear B2 G R nr nai nap naq nal g1 s1 hs1
    refine ⟨_, rfl, _, rfl, _, rfl, _, rfl, src, g, r, al, ai, ap, aq, _, z, (sty : Int), _, rfl, hs2, by omega, z100, by omega, by omega, L2, d1, d2, d3, d4, fun t a b c ps ks I H3 ht ha hb hc L3 pl k3 ksty hI hs3 keep nt na nb nc => ?_⟩
    have ksty := ksty (by omega)
    have nex : ∀ {x y : Addr} {o : HO}, H2 x = none → H2 y = some o → x ≠ y := fun {x y o} h1 h2 e => by rw [e, h2] at h1; cases h1
    have N : Na H src ap aq a c := ⟨d3, d4, nex na L2.rc.p, nex na L2.rc.q, nex nc L2.rc.p, nex nc L2.rc.q, hap, haq⟩
    have A3 : LA CR CP CC CS CG H H3 src g r al ai ap aq a c ps ks I (n + 6 * z) [] [0] := ⟨L3, hs3, ha, hc, fun x o n1 e => keep _ _ n1 (fun z => by rw [z, hai] at e; cases e) (fun z => by rw [z, hal] at e; cases e) (s2 _ _ e)⟩
    refine ⟨t, _, rfl, .of ht, rfl, _, _, rfl, _, _, rfl, _, _, rfl, rfl, ?_⟩
    clear keep ht ha hb L3 hs3 hs2 s2
    have il : I.length = z + 1 := by have := A3.L.il; omega
    have kl : ks.length = z := by have := A3.L.kl; omega
    have kat : ∀ j, j < z → ks.getD j 0 = sty := fun j hj => by
      rw [List.getD_eq_getElem?_getD, List.getElem?_eq_getElem (by omega)]
      have := ksty _ (List.getElem_mem (by omega : j < ks.length))
      show ks[j] = sty
      omega
    -- all started
    refine ⟨_, rfl, a, rfl, ⟨_, .of A3.ha⟩, for_list (xs := ps.map V.ref) (fun i σ H' => (∃ y7 y8 y9, σ = [some (.ref src), some (.int (sty : Int)), some (.int (z : Int)), some (.ref g), some (.ref a), some (.ref b), some (.ref c), y7, y8, y9]) ∧ LA CR CP CC CS CG H H' src g r al ai ap aq a c ps ks I (n + 6 * z) (upT i) (S0 i)) ⟨⟨_, _, _, rfl⟩, A3⟩ (fun i σ H' _ h => .of h.2.ha) (fun i x σ H' hx h => ?_) (fun σ H4 h => ?_)⟩
    · obtain ⟨⟨y7, y8, y9, rfl⟩, A4⟩ := h
      obtain ⟨p, ep, rfl⟩ : ∃ p, ps[i]? = some p ∧ x = V.ref p := by
        rw [List.getElem?_map] at hx
        cases zz : ps[i]? with
        | none => rw [zz] at hx; cases hx
        | some p => rw [zz] at hx; exact ⟨p, rfl, (Option.some.inj hx).symm⟩
      have ip := lt_get ep
      obtain ⟨C, dp, hK, hp⟩ := A4.L.pat i p _ ep (List.getElem?_eq_getElem (show i < ks.length by omega))
      have ul := upT_len i
      refine ⟨_, rfl, p, C, _, dp, _, rfl, hK, hp, lkP _ _ (by decide +kernel), p, dp, r, ai, ap, aq, _, I, _, _, rfl, hp, A4.L.rc, A4.L.wf, by omega, by omega, by omega, fun _ => ?_, fun hm => ?_⟩
      · refine ⟨⟨_, _, _, rfl⟩, ?_⟩
        rw [upT_succ, S0_succ]
        exact A4.step N (by omega) ⟨by omega, by omega⟩
      · have := (mem_upT.mp hm).2
        omega
    obtain ⟨⟨y7, y8, y9, rfl⟩, A4⟩ := h
    have epl : (ps.map V.ref).length = z := by rw [List.length_map]; omega
    rw [epl] at A4
    clear A3
    -- stopped, as is told
    refine ⟨_, rfl, _, _, rfl, ⟨by decide, by decide, by omega, by omega⟩, fun D nD => ?_⟩
    have Dp1 : D ≠ ap := fun e => by rw [e, A4.L.rc.p] at nD; cases nD
    have Dq1 : D ≠ aq := fun e => by rw [e, A4.L.rc.q] at nD; cases nD
    have A5 := A4.same (same_new (o := .lst []) nD)
    have hD5 : (upd H4 D (.lst [])) D = some (.lst []) := upd_same
    have other : ∀ {H' : Hp} {U S : List Int} {l l' : List V}, LA CR CP CC CS CG H H' src g r al ai ap aq a c ps ks I (n + 6 * z) U S → H' D = some (.lst l) → LA CR CP CC CS CG H (upd H' D (.lst l')) src g r al ai ap aq a c ps ks I (n + 6 * z) U S := fun {H' U S l l'} h e => by
      have nDl : D ≠ al ∧ D ≠ ai ∧ D ≠ a ∧ D ≠ c ∧ D ≠ src := ⟨fun e => (by rw [e, A4.L.set.l] at nD; cases nD), fun e => (by rw [e, A4.L.rc.i] at nD; cases nD), fun e => (by rw [e, A4.ha] at nD; cases nD), fun e => (by rw [e, A4.hc] at nD; cases nD), A4.s.ne nD⟩
      obtain ⟨x1, x2, x3, x4, x5⟩ := nDl
      exact ⟨h.L.other e x1 x2 Dp1 Dq1, h.s.upd x5, by rw [upd_ne x3.symm]; exact h.ha, by rw [upd_ne x4.symm]; exact h.hc, fun b o n1 e1 => by
        rw [upd_ne (fun zz => by rw [zz] at e1; have := A4.bt _ _ x5 e1; rw [nD] at this; cases this)]
        exact h.bt b o n1 e1⟩
    have ez : ((z : Int) - 1).toNat = z - 1 := by omega
    refine lc_range (lo := 1) (n := ((z : Int) - 1).toNat) (fun i H' => ∃ r1 q1 : List Int, LA CR CP CC CS CG H H' src g r al ai ap aq a c ps ks I (n + 6 * z) (upT z ++ r1) (S0 z ++ q1) ∧ H' D = some (.lst (tdV sty z I i)) ∧ (sty = 2 → r1 = [] ∧ q1 = []) ∧ (sty ≠ 2 → r1 = negs i ∧ q1.length = i) ∧ (sty ≠ 0 → lastI (S0 z ++ q1) = (z : Int)))
      ⟨[], [], by rw [List.append_nil, List.append_nil]; exact A5, hD5, fun _ => ⟨rfl, rfl⟩, fun _ => ⟨rfl, rfl⟩, fun _ => by rw [List.append_nil, last_S0]⟩ (fun i H' hi h => ?_) (fun H6 h => ?_)
    · obtain ⟨r1, q1, A6, hD6, f1, f2, f3⟩ := h
      rw [ez] at hi
      have ee : (0 : Int) - (1 + (i : Int)) = -((i : Int) + 1) := by omega
      have hr1 : -((i : Int) + 1) ∉ r1 := fun hm => by
        by_cases s2 : sty = 2
        · rw [(f1 s2).1] at hm; exact absurd hm List.not_mem_nil
        · rw [(f2 s2).1] at hm
          have := (mem_negs hm).1
          omega
      have nx := nxt_stop (ks := ks) (q := q1) (show 1 ≤ (i : Int) + 1 by omega) (show (i : Int) + 1 ≤ (z : Int) by omega) hr1
      have ej : ((i : Int) + 1).toNat - 1 = i := by omega
      rw [ej, kat i (by omega)] at nx
      have m1 : (i : Int) + 1 ∈ upT z ++ r1 := List.mem_append_left _ (mem_upT.mpr ⟨by omega, by omega⟩)
      have m2 : -((i : Int) + 1) ∉ upT z ++ r1 := fun zz => (List.mem_append.mp zz).elim (fun qq => by have := (mem_upT.mp qq).1; omega) hr1
      have ul : (upT z ++ r1).length < 1000 := by
        rw [List.length_append, upT_len]
        by_cases s2 : sty = 2
        · rw [(f1 s2).1]; show z + 0 < 1000; omega
        · rw [(f2 s2).1, negs_len]; omega
      have nn : - -((i : Int) + 1) = (i : Int) + 1 := Int.neg_neg _
      refine ⟨rfl, ?_⟩
      refine ⟨_, rfl, _, rfl, _, _, rfl, rfl, a, g, r, al, ai, ap, aq, ps, ks, I, _, _, _, rfl, .of A6.ha, A6.L, by omega, by omega, ul, fun c' hc' => ?_, fun p1 p2 => ?_, fun p1 p2 => ?_, fun p1 p2 p3 p4 => ?_⟩
      · rw [ee] at hc' ⊢
        have rg := A6.L.nxt hc' (by omega)
        rw [nx] at hc'
        have A7 := A6.step N (e := -((i : Int) + 1)) (c' := c') ul rg
        have hD7 := A6.keep (o1 := .lst (((upT z ++ r1) ++ [-((i : Int) + 1)]).map .int)) (o2 := .lst (((S0 z ++ q1) ++ [c']).map .int)) hD6 Dp1 Dq1
        refine ⟨_, hD7, by rw [tdV_len]; exact zl (by omega), r1 ++ [-((i : Int) + 1)], q1 ++ [c'], by rw [← List.append_assoc, ← List.append_assoc]; exact other A7 hD7, ?_, fun s2 => ?_, fun s2 => ?_, fun s0 => ?_⟩
        · rw [upd_same, tdV_succ]
          by_cases s0 : sty = 0
          · subst s0
            have : c' = fbI (upT z ++ r1) (S0 z ++ q1) ((i : Int) + 1) := (Option.some.inj hc').symm
            rw [this, fb_up _ _ (by omega) (by omega)]
            have e1 : (i : Int) + 1 - 1 = (i : Int) := by omega
            rw [e1]
            rfl
          · have l1 := f3 s0
            unfold leftK at hc'
            rw [if_neg s0, if_neg (by rw [l1]; omega)] at hc'
            by_cases s1 : sty = 1
            · rw [if_pos s1, l1] at hc'
              rw [if_neg s0, if_pos s1, Option.some.inj hc']
            · rw [if_neg s1] at hc'
              cases hc'
        · subst s2
          have l1 := f3 (by decide)
          unfold leftK at hc'
          rw [if_neg (by decide), if_neg (by rw [l1]; omega), if_neg (by decide)] at hc'
          cases hc'
        · rw [(f2 s2).1, negs_succ]
          exact ⟨rfl, by rw [List.length_append, (f2 s2).2]; rfl⟩
        · have l1 := f3 s0
          unfold leftK at hc'
          rw [if_neg s0, if_neg (by rw [l1]; omega)] at hc'
          by_cases s1 : sty = 1
          · rw [if_pos s1, l1] at hc'
            rw [← List.append_assoc, lastI_snoc, Option.some.inj hc']
          · rw [if_neg s1] at hc'
            cases hc'
      · omega
      · rw [ee, nn] at p2
        exact absurd ⟨m1, m2⟩ p2
      · rw [ee, nx] at p4
        have s2 : sty = 2 := by
          unfold leftK at p4
          by_cases s0 : sty = 0
          · rw [if_pos s0] at p4; cases p4
          · rw [if_neg s0, if_neg (by rw [f3 s0]; omega)] at p4
            by_cases s1 : sty = 1
            · rw [if_pos s1] at p4; cases p4
            · omega
        refine ⟨_, hD6, by rw [tdV_len]; exact zl (by omega), r1, q1, other A6 hD6, ?_, f1, fun h => absurd s2 h, f3⟩
        rw [upd_same, tdV_succ, if_neg (by omega), if_neg (by omega)]
    obtain ⟨r1, q1, A6, hD6, f1, f2, f3⟩ := h
    rw [ez] at hD6 f2
    clear other hD5 A5 A4
    have sty3 : sty = 0 ∨ sty = 1 ∨ sty = 2 := by omega
    have evz : atI (I.map V.int) ((z : Int)) = some (.int (vI I (z : Int))) := atI_vI ⟨by omega, by omega⟩
    -- what is told, of the styles 2 and 1
    refine ⟨fun bb H1 => bb = false ∧ Same H6 H1, ?_, ?_⟩
    · rcases sty3 with e | e | e
      · subst e
        exact ⟨_, rfl, rfl, false, dF (vne (by decide)), _, rfl, rfl, false, dF (vne (by decide)), rfl, .refl _⟩
      · subst e
        refine ⟨_, rfl, rfl, false, dF (vne (by decide)), _, rfl, rfl, true, dT rfl, ?_⟩
        refine ⟨_, rfl, _, rfl, _, rfl, c, _, _, _, rfl, rfl, .of A6.hc, evz, by show 1 ≤ sizeLine; decide, fun o1 no1 => ?_⟩
        have s1 := same_new (o := .lst [.int (vI I (z : Int))]) no1
        have u1 : (upd H6 o1 (.lst [.int (vI I (z : Int))])) o1 = some (.lst [.int (vI I (z : Int))]) := upd_same
        generalize upd H6 o1 (.lst [.int (vI I (z : Int))]) = H7 at s1 u1 ⊢
        refine ⟨_, rfl, _, _, rfl, rfl, o1, _, _, rfl, rfl, u1, by omega, by omega, by show 1 * ((z : Int) - 1).toNat ≤ sizeLine; exact zs (by omega), fun o2 no2 => ?_⟩
        rw [flat_one, ez]
        have er : List.replicate (z - 1) (V.int (vI I (z : Int))) = (List.replicate (z - 1) (vI I (z : Int))).map V.int := by rw [List.map_replicate]
        rw [er]
        have s2 := s1.trans (same_new (o := .lst ((List.replicate (z - 1) (vI I (z : Int))).map V.int)) no2)
        have hD8 := s2 _ _ hD6
        rw [tdV_one] at hD8
        exact ⟨dI _, dI _, dp_ints (.of hD8), dp_ints (.of upd_same), shaped_ints _, shaped_ints _, false, neqF rfl, rfl, s2⟩
      · subst e
        refine ⟨_, rfl, rfl, true, dT rfl, ?_⟩
        refine ⟨_, rfl, by show 1 ≤ sizeLine; decide, fun o1 no1 => ?_⟩
        have s1 := same_new (o := .lst [.str "order"]) no1
        have u1 : (upd H6 o1 (.lst [.str "order"])) o1 = some (.lst [.str "order"]) := upd_same
        generalize upd H6 o1 (.lst [.str "order"]) = H7 at s1 u1 ⊢
        refine ⟨_, rfl, _, _, rfl, rfl, o1, _, _, rfl, rfl, u1, by omega, by omega, by show 1 * ((z : Int) - 1).toNat ≤ sizeLine; exact zs (by omega), fun o2 no2 => ?_⟩
        rw [flat_one, ez]
        have s2 := s1.trans (same_new (o := .lst (List.replicate (z - 1) (V.str "order"))) no2)
        have hD8 := s2 _ _ hD6
        rw [tdV_two] at hD8
        refine ⟨_, _, dp_rep (.of hD8), dp_rep (.of upd_same), shaped_rep _ _ lay_order, shaped_rep _ _ lay_order, false, by rw [eqv_rep]; rfl, ?_⟩
        exact ⟨_, rfl, rfl, false, dF (vne (by decide)), rfl, s2⟩
    rintro bb H7 ⟨rfl, s7⟩
    refine iteF ?_
    have A7 := A6.same s7
    have hD7 := s7 _ _ hD6
    clear A6 hD6 s7
    -- .. of the style 0
    refine ⟨fun bb H1 => bb = false ∧ Same H7 H1, ?_, ?_⟩
    · by_cases e : sty = 0
      · subst e
        refine ⟨_, rfl, rfl, true, dT rfl, ?_⟩
        refine ⟨_, rfl, _, rfl, _, rfl, _, _, rfl, rfl, _, rfl, c, _, rfl, .of A7.hc, fun p np => ?_⟩
        have ecut : cutV (I.map V.int) none (some ((z : Int) - 1)) = (I.take (z - 1)).map V.int := by
          have e1 : (z : Int) - 1 = ((z - 1 : Nat) : Int) := by omega
          unfold cutV
          rw [e1, HT.sIx_none, HT.sIx_nat, List.drop_zero, Nat.sub_zero, List.length_map, ← List.map_take, Nat.min_eq_left (by omega)]
        rw [ecut]
        have s1 := same_new (o := .lst ((I.take (z - 1)).map V.int)) np
        have hD8 := s1 _ _ hD7
        rw [tdV_zero z I (by omega)] at hD8
        exact ⟨dI _, dI _, dp_ints (.of hD8), dp_ints (.of upd_same), shaped_ints _, shaped_ints _, false, neqF rfl, rfl, s1⟩
      · exact ⟨_, rfl, rfl, false, dF (vne (by omega)), rfl, .refl _⟩
    rintro bb H8 ⟨rfl, s8⟩
    refine iteF ?_
    have A8 := A7.same s8
    clear A7 hD7 s8 Dp1 Dq1 nD
    -- the last one
    have ul8 : (upT z ++ r1).length < 1000 := by
      rw [List.length_append, upT_len]
      by_cases s2 : sty = 2
      · rw [(f1 s2).1]; show z + 0 < 1000; omega
      · rw [(f2 s2).1, negs_len]; omega
    refine ⟨fun bb H1 => bb = false ∧ ∃ r2 q2 : List Int, LA CR CP CC CS CG H H1 src g r al ai ap aq a c ps ks I (n + 6 * z) (upT z ++ r2) (S0 z ++ q2) ∧ (sty = 2 → r2 = [] ∧ q2 = []) ∧ (sty ≠ 2 → r2.length = z ∧ q2.length = z ∧ lastI (S0 z ++ q2) = (z : Int) - 1), ?_, ?_⟩
    · by_cases e : sty < 2
      · refine ⟨_, rfl, _, _, rfl, rfl, true, dT (by omega), ?_⟩
        obtain ⟨p, C, dp, _, e2, hK, hp⟩ := A8.L.at (n := (z : Int)) (by omega) (by omega)
        have el : atI (ps.map V.ref) (-1) = some (.ref p) := by
          have ne : ps ≠ [] := fun zz => by rw [zz] at pl; simp at pl; omega
          have h1 : atI (ps.map V.ref) (((ps.length - 1 : Nat) : Int)) = some (.ref p) := by
            rw [show ((ps.length - 1 : Nat) : Int) = (z : Int) - 1 by omega]
            exact e2
          have h2 : (ps.map V.ref) = (ps.map V.ref).dropLast ++ [(ps.map V.ref).getLast (by simpa using ne)] := (List.dropLast_concat_getLast _).symm
          have h3 : (ps.map V.ref)[ps.length - 1]? = some (V.ref p) := by
            have lt : ps.length - 1 < (ps.map V.ref).length := by rw [List.length_map]; omega
            have h4 : atI (ps.map V.ref) ((ps.length - 1 : Nat) : Int) = (ps.map V.ref)[ps.length - 1]? := by
              rw [List.getElem?_eq_getElem lt]
              exact atI_nat (List.getElem?_eq_getElem lt)
            rw [← h4]
            exact h1
          have h5 : (ps.map V.ref).getLast (by simpa using ne) = V.ref p := by
            rw [List.getLast_eq_getElem]
            have lt : ps.length - 1 < (ps.map V.ref).length := by rw [List.length_map]; omega
            rw [List.getElem?_eq_getElem lt] at h3
            have := Option.some.inj h3
            rw [← this]
            congr 1
            rw [List.length_map]
          rw [h2, h5]
          exact at_last
        have n2 : sty ≠ 2 := by omega
        have hr : -(z : Int) ∉ r1 := fun hm => by
          rw [(f2 n2).1] at hm
          have := (mem_negs hm).1
          omega
        have nx := nxt_stop (ks := ks) (q := q1) (show 1 ≤ (z : Int) by omega) (Int.le_refl _) hr
        have ej : ((z : Int)).toNat - 1 = z - 1 := by omega
        rw [ej, kat _ (by omega)] at nx
        have lk : leftK sty (upT z ++ r1) (S0 z ++ q1) (z : Int) = some ((z : Int) - 1) := by
          have fb := fb_up r1 q1 (show 1 ≤ (z : Int) by omega) (Int.le_refl _)
          unfold leftK
          by_cases s0 : sty = 0
          · rw [if_pos s0, fb]
          · rw [if_neg s0, if_pos (f3 s0), fb]
        rw [lk] at nx
        rw [ej, kat _ (by omega)] at hK
        have m1 : (z : Int) ∈ upT z ++ r1 := List.mem_append_left _ (mem_upT.mpr ⟨by omega, Int.le_refl _⟩)
        have m2 : -(z : Int) ∉ upT z ++ r1 := fun zz => (List.mem_append.mp zz).elim (fun qq => by have := (mem_upT.mp qq).1; omega) hr
        refine ⟨_, rfl, _, rfl, a, _, _, _, rfl, rfl, .of A8.ha, el, p, C, sty, dp, _, rfl, hK, hp, lkP _ _ (by decide +kernel), p, dp, r, ai, ap, aq, _, I, _, _, rfl, hp, A8.L.rc, A8.L.wf, ul8, fun _ _ c' hc' => ?_, fun _ _ hc' => ?_, fun hh => absurd ⟨m1, m2⟩ hh⟩
        · obtain rfl : (z : Int) - 1 = c' := Option.some.inj (lk.symm.trans hc')
          have A9 := A8.step N (e := -(z : Int)) (c' := (z : Int) - 1) ul8 ⟨by omega, by omega⟩
          refine ⟨_, rfl, _, rfl, _, _, rfl, rfl, c, _, _, _, rfl, rfl, .of A9.hc, atI_vI ⟨by omega, by omega⟩, rfl, false, nF rfl, rfl, r1 ++ [-(z : Int)], q1 ++ [(z : Int) - 1], by rw [← List.append_assoc, ← List.append_assoc]; exact A9, fun h => absurd h n2, fun _ => ⟨?_, ?_, ?_⟩⟩
          · rw [(f2 n2).1, List.length_append, negs_len]; show z - 1 + 1 = z; omega
          · rw [List.length_append, (f2 n2).2]; show z - 1 + 1 = z; omega
          · rw [← List.append_assoc, lastI_snoc]
        · rw [lk] at hc'
          cases hc'
      · have s2 : sty = 2 := by omega
        exact ⟨_, rfl, _, _, rfl, rfl, false, dF (by omega), rfl, r1, q1, A8, f1, fun h => absurd s2 h⟩
    rintro bb H9 ⟨rfl, r2, q2, A9, g1, g2⟩
    refine iteF ?_
    clear A8 f1 f2 f3 ul8 r1 q1
    have rl : r2.length ≤ z := by
      by_cases s2 : sty = 2
      · rw [(g1 s2).1]; exact Nat.zero_le _
      · rw [(g2 s2).1]; exact Nat.le_refl _
    have rq : q2.length = r2.length := by
      by_cases s2 : sty = 2
      · rw [(g1 s2).1, (g1 s2).2]
      · rw [(g2 s2).1, (g2 s2).2.1]
    -- present and length
    have wm : CMulW 2 (z : Int) := wide_mul (a := 30) (b := 30) (by decide) (lt_pow (by omega) (by omega)) (by decide) (by decide) (by decide)
    have hgs : ∀ {H' : Hp} {U S : List Int}, LA CR CP CC CS CG H H' src g r al ai ap aq a c ps ks I (n + 6 * z) U S → ∃ dg, H' g = some (.ins CG dg (fG r al)) := fun h => h.L.set.g
    obtain ⟨dg9, hg9⟩ := hgs A9
    have ul9 : (upT z ++ r2).length = z + r2.length := by rw [List.length_append, upT_len]
    have ps9 := A9.L.wf.p
    refine ⟨fun bb H1 => bb = false ∧ H1 = H9, ?_, ?_⟩
    · by_cases e : sty < 2
      · obtain ⟨w1, w2, w3⟩ := g2 (by omega)
        refine ⟨_, rfl, _, _, rfl, rfl, true, dT (by omega), ?_⟩
        refine ⟨_, rfl, g, CG, dg9, _, rfl, rfl, hg9, g, r, al, ai, ap, aq, ps, I, _, _, rfl, A9.L.set, A9.L.rc, A9.L.wf, ?_⟩
        rw [w3]
        refine ⟨_, rfl, _, _, rfl, rfl, rfl, false, nF rfl, ?_⟩
        refine ⟨_, rfl, g, dg9, _, rfl, hg9, g, r, al, ai, ap, aq, ps, I, _, _, rfl, A9.L.set, A9.L.rc, _, rfl, by omega, by omega, ?_⟩
        refine ⟨_, rfl, _, _, rfl, rfl, wm, rfl, false, ?_, rfl, rfl⟩
        exact nF (congrArg V.int (by rw [ul9, w1]; omega))
      · exact ⟨_, rfl, _, _, rfl, rfl, false, dF (by omega), rfl, rfl⟩
    rintro bb H10 ⟨rfl, rfl⟩
    refine iteF ?_
    clear hg9
    -- the stops are reverted
    refine ⟨_, rfl, a, rfl, ⟨_, .of A9.ha⟩, for_list (xs := ps.map V.ref) (fun i σ H' => (∃ y7 y9, σ = [some (.ref src), some (.int (sty : Int)), some (.int (z : Int)), some (.ref g), some (.ref a), some (.ref b), some (.ref c), y7, some (.ref D), y9]) ∧ LA CR CP CC CS CG H H' src g r al ai ap aq a c ps ks I (n + 6 * z) (upT z ++ r2.take (r2.length - i)) (S0 z ++ q2.take (q2.length - i))) ⟨⟨_, _, rfl⟩, by rw [Nat.sub_zero, Nat.sub_zero, List.take_of_length_le (Nat.le_refl _), List.take_of_length_le (Nat.le_refl _)]; exact A9⟩ (fun i σ H' _ h => .of h.2.ha) (fun i x σ H' hx h => ?_) (fun σ H11 h => ?_)⟩
    · obtain ⟨⟨x7, x9, rfl⟩, A10⟩ := h
      have iz : i < z := by have := lt_get hx; omega
      by_cases e : sty < 2
      · obtain ⟨w1, w2, w3⟩ := g2 (by omega)
        obtain ⟨dgx, hgx⟩ := hgs A10
        obtain ⟨j, hj⟩ : ∃ j, z - i = j + 1 := ⟨z - i - 1, by omega⟩
        have hj2 : z - (i + 1) = j := by omega
        rw [w1, w2, hj] at A10
        have dU : (upT z ++ r2.take (j + 1)).dropLast = upT z ++ r2.take j := by
          rw [take_get (List.getElem?_eq_getElem (show j < r2.length by omega)), ← List.append_assoc, List.dropLast_concat]
        have dS : (S0 z ++ q2.take (j + 1)).dropLast = S0 z ++ q2.take j := by
          rw [take_get (List.getElem?_eq_getElem (show j < q2.length by omega)), ← List.append_assoc, List.dropLast_concat]
        have wf' : Wf I (upT z ++ r2.take j) (S0 z ++ q2.take j) := by
          have w := A10.L.wf
          refine ⟨?_, fun c hc => w.rng c ?_, ?_, w.i⟩
          · rw [List.length_append, List.length_append, upT_len, S0_len, List.length_take, List.length_take]; omega
          · rcases List.mem_append.mp hc with hc | hc
            · exact List.mem_append_left _ hc
            · refine List.mem_append_right _ ?_
              rw [take_get (List.getElem?_eq_getElem (show j < q2.length by omega))]
              exact List.mem_append_left _ hc
          · rw [List.length_append, upT_len, List.length_take]; omega
        refine ⟨_, rfl, _, _, rfl, rfl, true, dT (by omega), ?_⟩
        refine ⟨_, rfl, g, CG, dgx, _, rfl, rfl, hgx, lkG _ _ (by decide +kernel), g, r, al, ai, ap, aq, ps, I, _, _, rfl, A10.L.set, A10.L.rc, A10.L.wf, fun _ H5 k5 e5 e6 => ?_, fun ee => ?_⟩
        · rw [dU] at e5
          rw [dS] at e6
          refine ⟨⟨_, _, rfl⟩, ?_⟩
          rw [w1, w2, hj2]
          exact A10.to N k5 e5 e6 wf'
        · have := congrArg List.length ee
          rw [List.length_append, upT_len] at this
          have : z + _ = 0 := this
          omega
      · have s2 : sty = 2 := by omega
        refine ⟨_, rfl, _, _, rfl, rfl, false, dF (by omega), ?_⟩
        refine ⟨⟨_, _, rfl⟩, ?_⟩
        simp only [(g1 s2).1, (g1 s2).2, List.take_nil] at A10 ⊢
        exact A10
    obtain ⟨⟨x7, x9, rfl⟩, A11⟩ := h
    have t1 : r2.take (r2.length - (ps.map V.ref).length) = [] := by rw [epl, Nat.sub_eq_zero_of_le rl, List.take_zero]
    have t2 : q2.take (q2.length - (ps.map V.ref).length) = [] := by rw [epl, rq, Nat.sub_eq_zero_of_le rl, List.take_zero]
    rw [t1, t2, List.append_nil, List.append_nil] at A11
    clear A9 t1 t2 g1 g2 rl rq ul9 ps9
    -- all run
    obtain ⟨dg11, hg11⟩ := hgs A11
    have lz := last_S0 z
    refine ⟨fun bb H1 => bb = false ∧ Same H11 H1, ?_, ?_⟩
    · refine ⟨_, rfl, g, CG, dg11, _, rfl, rfl, hg11, g, r, al, ai, ap, aq, ps, I, _, _, rfl, A11.L.set, A11.L.rc, A11.L.wf, ?_⟩
      rw [lz]
      refine ⟨_, rfl, rfl, false, nF rfl, ?_⟩
      refine ⟨_, rfl, a, rfl, ⟨_, .of A11.ha⟩, fun E2 nE2 => lc_list (xs := ps.map V.ref) (LcP H11 E2 fun i => (ps.map V.ref).take i) (.init nE2 (by rw [List.take_zero])) (fun i H' _ p => .of (p.2.1 _ _ A11.ha)) (fun i x H' hx p => ?_) (fun H12 p => ?_)⟩
      · obtain ⟨pp, ep, rfl⟩ : ∃ p, ps[i]? = some p ∧ x = V.ref p := by
          have hx2 := hx
          rw [List.getElem?_map] at hx2
          cases zz : ps[i]? with
          | none => rw [zz] at hx2; cases hx2
          | some p => rw [zz] at hx2; exact ⟨p, rfl, (Option.some.inj hx2).symm⟩
        have ip := lt_get ep
        have A12 := A11.same p.2.1
        obtain ⟨C, dp, hK, hp⟩ := A12.L.pat i pp _ ep (List.getElem?_eq_getElem (show i < ks.length by omega))
        refine ⟨rfl, ?_⟩
        have m1 : ((i : Int) + 1) ∈ upT z := mem_upT.mpr ⟨by omega, by omega⟩
        have m2 : -((i : Int) + 1) ∉ upT z := fun hm => by have := (mem_upT.mp hm).1; omega
        refine ⟨_, rfl, pp, C, dp, _, rfl, hK.any, hp, pp, dp, r, C, ai, ap, aq, _, I, _, _, rfl, hK.any, hp, A12.L.rc, ?_⟩
        rw [decide_eq_true (⟨m1, m2⟩ : ((i : Int) + 1) ∈ upT z ∧ -((i : Int) + 1) ∉ upT z)]
        refine ⟨_, rfl, _, rfl, p.put (.refl _) (take_get hx) (by rw [List.length_take]; have := lt_get hx; omega)⟩
      · have e2 : (ps.map V.ref).take (ps.map V.ref).length = ps.map V.ref := List.take_of_length_le (Nat.le_refl _)
        have h12 : H12 E2 = some (.lst ((ps.map V.ref).take (ps.map V.ref).length)) := p.2.2
        rw [e2] at h12
        refine ⟨E2, _, rfl, .inl (.of h12), ?_⟩
        rw [epl]
        exact ⟨_, rfl, rfl, false, nF rfl, rfl, p.2.1⟩
    rintro bb H13 ⟨rfl, s13⟩
    refine iteF ?_
    have A13 := A11.same s13
    clear A11 hg11 s13
    -- stopped from the last one on
    refine ⟨_, rfl, a, _, rfl, .of A13.ha, fun pr npr => ?_⟩
    have A14 := A13.same (same_new (o := .lst (ps.map V.ref).reverse) npr)
    have hp14 : (upd H13 pr (.lst (ps.map V.ref).reverse)) pr = some (.lst (ps.map V.ref).reverse) := upd_same
    have np1 : pr ≠ ap := fun e => by rw [e, A13.L.rc.p] at npr; cases npr
    have np2 : pr ≠ aq := fun e => by rw [e, A13.L.rc.q] at npr; cases npr
    generalize upd H13 pr (.lst (ps.map V.ref).reverse) = H14 at A14 hp14 ⊢
    have epr : ((ps.map V.ref).reverse).length = z := by rw [List.length_reverse]; exact epl
    refine ⟨pr, rfl, ⟨_, .of hp14⟩, for_list (xs := (ps.map V.ref).reverse) (fun i σ H' => (∃ y7 y9, σ = [some (.ref src), some (.int (sty : Int)), some (.int (z : Int)), some (.ref g), some (.ref a), some (.ref b), some (.ref c), y7, some (.ref D), y9]) ∧ H' pr = some (.lst (ps.map V.ref).reverse) ∧ LA CR CP CC CS CG H H' src g r al ai ap aq a c ps ks I (n + 6 * z) (upT z ++ dn z i) (S0 z ++ dq z i)) ⟨⟨_, _, rfl⟩, hp14, by
      show LA CR CP CC CS CG H H14 src g r al ai ap aq a c ps ks I (n + 6 * z) (upT z ++ []) (S0 z ++ [])
      rw [List.append_nil, List.append_nil]
      exact A14⟩ (fun i σ H' _ h => .of h.2.1) (fun i x σ H' hx h => ?_) (fun σ H15 h => ?_)⟩
    · obtain ⟨⟨u7, u9, rfl⟩, hpr, A15⟩ := h
      have iz : i < z := by have := lt_get hx; omega
      obtain ⟨pp, ep, rfl⟩ : ∃ p, ps[z - 1 - i]? = some p ∧ x = V.ref p := by
        rw [List.getElem?_reverse (by omega), epl, List.getElem?_map] at hx
        cases zz : ps[z - 1 - i]? with
        | none => rw [zz] at hx; cases hx
        | some p => rw [zz] at hx; exact ⟨p, rfl, (Option.some.inj hx).symm⟩
      have ip := lt_get ep
      obtain ⟨C, dp, hK, hp⟩ := A15.L.pat _ pp _ ep (List.getElem?_eq_getElem (show z - 1 - i < ks.length by omega))
      have enn : (((z - 1 - i : Nat) : Int)) + 1 = (z : Int) - (i : Int) := by omega
      rw [enn] at hp
      have hr : -((z : Int) - (i : Int)) ∉ dn z i := fun hm => by have := mem_dn hm; omega
      have m1 : (z : Int) - (i : Int) ∈ upT z ++ dn z i := List.mem_append_left _ (mem_upT.mpr ⟨by omega, by omega⟩)
      have m2 : -((z : Int) - (i : Int)) ∉ upT z ++ dn z i := fun zz => (List.mem_append.mp zz).elim (fun qq => by have := (mem_upT.mp qq).1; omega) hr
      have ld := last_dq z i
      have fb := fb_up (dn z i) (dq z i) (show 1 ≤ (z : Int) - (i : Int) by omega) (show (z : Int) - (i : Int) ≤ (z : Int) by omega)
      have ul : (upT z ++ dn z i).length < 1000 := by rw [List.length_append, upT_len, dn_len]; omega
      have lk : ∀ k, leftK k (upT z ++ dn z i) (S0 z ++ dq z i) ((z : Int) - (i : Int)) = some ((z : Int) - (i : Int) - 1) := fun k => by
        unfold leftK
        by_cases s0 : k = 0
        · rw [if_pos s0, fb]
        · rw [if_neg s0, if_pos ld, fb]
      refine ⟨_, rfl, pp, C, _, dp, _, rfl, hK, hp, lkP _ _ (by decide +kernel), pp, dp, r, ai, ap, aq, _, I, _, _, rfl, hp, A15.L.rc, A15.L.wf, ul, fun _ _ c' hc' => ?_, fun _ _ hc' => ?_, fun hh => absurd ⟨m1, m2⟩ hh⟩
      · obtain rfl : (z : Int) - (i : Int) - 1 = c' := Option.some.inj ((lk _).symm.trans hc')
        refine ⟨⟨_, _, rfl⟩, A15.keep hpr np1 np2, ?_⟩
        rw [dn_succ, dq_succ, ← List.append_assoc, ← List.append_assoc]
        exact A15.step N ul ⟨by omega, by omega⟩
      · rw [lk] at hc'
        cases hc'
    obtain ⟨⟨u7, u9, rfl⟩, hpr, A16⟩ := h
    rw [epr] at A16
    -- as at the beginning
    obtain ⟨dg16, hg16⟩ := hgs A16
    have ld : lastI (S0 z ++ dq z z) = 0 := by rw [last_dq]; omega
    have ul16 : (upT z ++ dn z z).length = 2 * z := by rw [List.length_append, upT_len, dn_len]; omega
    have ps16 := A16.L.wf.p
    refine ⟨_, rfl, g, CG, dg16, _, rfl, rfl, hg16, g, r, al, ai, ap, aq, ps, I, _, _, rfl, A16.L.set, A16.L.rc, A16.L.wf, true, ?_, ?_⟩
    · rw [ld]
      rfl
    refine iteT ⟨_, rfl, g, CG, dg16, _, rfl, rfl, hg16, g, r, al, ai, ap, aq, ps, I, _, _, rfl, A16.L.set, A16.L.rc, A16.L.wf, rfl, true, ?_, ?_⟩
    · rw [ld]
      refine dT (congrArg V.int ?_)
      show (I[((0 : Int)).toNat]?).getD 0 = 3
      show (I[0]?).getD 0 = 3
      rw [hI]
      rfl
    refine iteT ⟨_, rfl, g, dg16, _, rfl, hg16, g, r, al, ai, ap, aq, ps, I, _, _, rfl, A16.L.set, A16.L.rc, _, rfl, by omega, by omega, _, rfl, _, _, rfl, rfl, wm, rfl, ?_⟩
    have ef : decide (V.int (((upT z ++ dn z z).length : Nat) : Int) = V.int (2 * (z : Int))) = true := decide_eq_true (congrArg V.int (by rw [ul16]; omega))
    rw [ef]
    exact q _ A16.bt A16.s
end
end L34
set_option Elab.async false
set_option linter.all false
set_option maxRecDepth 100000
namespace L34
open PySem PySem.Spec PyProof.Rows L2 Lp
section
variable {P : Program} {w : World} {K : PySem.W.Frag} {mg : Str → Option Value} {base : Heap} {CO CH : Addr}
/-! ### _law_cells -/
def cellsL (ns : List Int) (m : Nat) : List Int := ns.take m ++ if ns = [] then [0] else []
def spCells (K : PySem.W.Frag) : Sp := fun vs H Q _ => ∃ (a : Addr) (ns : List Int) (m : Nat), vs = [.ref a, .int (m : Int)] ∧ SqL K H a (ns.map V.int) ∧ ns.length ≤ 63 ∧ m ≤ 63 ∧ ∀ H' p, Same H H' → H p = none → H' p = some (.lst ((cellsL ns m).map V.int)) → Q (.ref p) H'
theorem ok_law_cells {f : Addr} {fd : FuncData} (F : Fun K "_law_cells" "_law_cells" s_law_cells f fd) (B : NoB mg) : FnOk P w K mg base CX0 1 f fd ["script", "most"] (spCells K) := by
  refine F.ok sc_law_cells (fun vs H Q E h => ?_) (fun cdv A outer s H vs Q E hr h => ?_)
  · obtain ⟨a, ns, m, rfl, _⟩ := h
    rfl
  · obtain ⟨a, ns, m, rfl, hS, hl, hm, q⟩ := h
    have hu64 := hr.units
    refine ⟨_, (pss_one (ps_ret (pe_op op_cat (pe_slice sl_list (pv 0) po_none (po_some (pv 1))) (pe_op op_rep (pe_lst (pa_cons pe_int pa_nil)) (pe_callTy call_int1 (by rfl) B.int (by decide +kernel) (pa_cons (pe_cmpR (op_eqD hu64) (pv 0) (pe_lst pa_nil) (nomark _)) pa_nil)))))), ?_⟩
    refine ⟨_, rfl, _, rfl, _, rfl, a, _, rfl, hS, fun p np => ?_⟩
    have ecut : cutV (ns.map V.int) none (some (m : Int)) = (ns.take m).map V.int := by
      unfold cutV
      rw [HT.sIx_none, HT.sIx_nat, List.drop_zero, Nat.sub_zero, List.length_map, ← List.map_take]
      by_cases c : m ≤ ns.length
      · rw [Nat.min_eq_left c]
      · rw [Nat.min_eq_right (by omega), List.take_of_length_le (Nat.le_refl _), List.take_of_length_le (by omega)]
    rw [ecut]
    have s1 := same_new (o := .lst ((ns.take m).map V.int)) np
    refine ⟨by show 1 ≤ sizeLine; decide, fun z nz => ?_⟩
    have s2 := s1.trans (same_new (o := .lst [V.int 0]) nz)
    refine ⟨_, rfl, Nat.zero_le _, fun e ne => ?_⟩
    have s3 := s2.trans (same_new (o := .lst []) ne)
    refine ⟨dI ns, dI [], dp_ints (s3.seq hS), dp_ints (ns := []) (.of upd_same), shaped_ints _, shaped_ints _, .inr ⟨_, rfl, ?_⟩⟩
    have e1 : (if PyData.eqv (dI ns) (dI []) = true then (1 : Int) else 0) = if ns = [] then 1 else 0 := by
      rw [eqv_ints]
      by_cases c : ns = []
      · rw [if_pos c, decide_eq_true c, if_pos rfl]
      · rw [if_neg c, decide_eq_false c, if_neg Bool.false_ne_true]
    rw [e1]
    have hz3 : (upd (upd (upd H p (.lst ((ns.take m).map V.int))) z (.lst [V.int 0])) e (.lst [])) z = some (.lst [V.int 0]) := same_new ne _ _ upd_same
    refine ⟨z, _, [V.int 0], rfl, rfl, hz3, by split <;> decide, by split <;> decide, by split <;> decide, fun r nr => ?_⟩
    have s4 := s3.trans (same_new (o := .lst (List.replicate (if ns = [] then (1 : Int) else 0).toNat [V.int 0]).flatten) nr)
    have hp4 : (upd (upd (upd (upd H p (.lst ((ns.take m).map V.int))) z (.lst [V.int 0])) e (.lst [])) r (.lst (List.replicate (if ns = [] then (1 : Int) else 0).toNat [V.int 0]).flatten)) p = some (.lst ((ns.take m).map V.int)) :=
      same_new nr _ _ (same_new ne _ _ (same_new nz _ _ upd_same))
    refine ⟨p, r, _, _, rfl, rfl, hp4, upd_same, ?_, fun t nt => ?_⟩
    · rw [List.length_map, List.length_take]
      split <;> exact zs (by simp; omega)
    · refine q _ t (s4.trans (same_new nt)) (s4.free nt) ?_
      rw [upd_same]
      unfold cellsL
      by_cases c : ns = []
      · rw [if_pos c, if_pos c, List.map_append]
        rfl
      · rw [if_neg c, if_neg c, List.append_nil]
        show some (HO.lst (_ ++ [])) = _
        rw [List.append_nil]
end
section
variable {P : Program} {w : World} {K : PySem.W.Frag} {mg : Str → Option Value} {base : Heap}
/-! ### the law -/
theorem k_eqD {X : Cx} {K : PySem.W.Frag} (e : X.K = K) (hu : X.A.units + 64 < cLine) : OpR X (compareOp .Eq) (rEqD K) := by
  subst e
  exact op_eqD hu
def spLaw (K : PySem.W.Frag) : Sp := fun vs H Q _ => ∃ (a : Addr) (ns : List Int), vs = [.ref a] ∧ SqL K H a (ns.map V.int) ∧ ns.length ≤ 63 ∧ ∀ H', Q (.bl true) H'
theorem ok_law {f : Addr} {fd : FuncData} (F : Fun K "law" "law" s_law f fd) (B : NoB mg) (T_law_cells : Cal P w K mg base 1 "_law_cells" (spCells K)) (T_law_source : Cal P w K mg base 1 "_law_source" spSource) (T_law_long_right : Cal P w K mg base 8 "_law_long_right" spLong) (T_law_all_right : Cal P w K mg base 8 "_law_all_right" spAll) : FnG P w K mg base CX0 9 f fd ["script"] (spLaw K) := by
  refine okG F sc_law (fun vs H Q E h => ?_) (fun cdv A outer s H vs Q E hG hr h => ?_)
  · obtain ⟨a, ns, rfl, _⟩ := h
    rfl
  · obtain ⟨sc, ns, rfl, hS, hl, q⟩ := h
    have hu64 := hr.units
    refine ⟨_, (pss_cons (ps_for PassesOwn.never rfl (pi_enum (by rfl) B.enumerate (pa_cons (pe_c T_law_cells hr (by decide) (by rfl) (pa_cons (pv 0) (pa_cons pe_int pa_nil))) pa_nil)) (pg_tup rfl (pgs_cons (pg_name (i := 1) sc_law.nd rfl (Or.inl rfl)) (pgs_cons (pg_name (i := 2) sc_law.nd rfl (Or.inl rfl)) pgs_nil)))
          (pss_cons (ps_set (i := 3) sc_law.nd rfl (Or.inr rfl) (pe_c T_law_source hr (by decide) (by rfl) (pa_cons (pv 2) (pa_cons (pv 1) pa_nil))))
          (pss_one (ps_if (pt_not (pt_val (pe_c T_law_long_right hr (by decide) (by rfl) (pa_cons (pv 3) (pa_cons (pe_ifExp (pt_cmpR (op_eqD hu64) (pv 0) (pe_lst pa_nil) (nomark _)) pe_int pe_int) (pa_cons (pe_ifExp (pt_cmpR (op_eqD hu64) (pv 0) (pe_lst pa_nil) (nomark _)) pe_int pe_int) pa_nil)))))) (pss_one (ps_ret pe_bl)) pss_nil))))
        (pss_cons (ps_set (i := 3) sc_law.nd rfl (Or.inr rfl) (pe_c T_law_source hr (by decide) (by rfl) (pa_cons pe_int (pa_cons pe_int pa_nil))))
        (pss_one (ps_ret (pe_cmpR (op_eqD hu64) (pe_lc (own := [("style", 4)]) (g := gName 4) (tt := _) rfl sc_law.nd (pi_range1 rfl B.range (pa_cons pe_int pa_nil)) (blkOk_by (own := [("style", 4)]) (N := N_law) (sc := defScope s_law) (by decide +kernel)) (fun _ _ _ _ _ => (pg_name (i := 4) sc_law.nd rfl (Or.inl rfl))) (fun _ _ _ _ _ => (pts_one (pt_not (pt_val (pe_c T_law_all_right hr (by decide) (by rfl) (pa_cons (pv 3) (pa_cons (pv 4) (pa_cons (pe_ifExp (pt_cmpR (k_eqD (K := K) rfl hu64) (pv 0) (pe_lst pa_nil) (nomark _)) pe_int pe_int) pa_nil)))))))) (fun _ _ _ _ _ => (pv 4))) (pe_lst pa_nil) (nomark _)))))), ?_⟩
    refine ⟨_, rfl, sc, ns, 2, rfl, hS, hl, by decide, fun H1 p s1 np hp => ?_⟩
    have cl : (cellsL ns 2).length ≤ 64 := by
      unfold cellsL
      rw [List.length_append, List.length_take]
      split <;> simp <;> omega
    refine ⟨p, _, rfl, .of hp, for_it (walk_enum (xs := (cellsL ns 2).map V.int)) (fun i σ H' => (∃ y1 y2 y3 y4, σ = [some (.ref sc), y1, y2, y3, y4]) ∧ Same H H' ∧ H' p = some (.lst (((cellsL ns 2)).map V.int))) ⟨⟨_, _, _, _, rfl⟩, s1, hp⟩ (fun i σ H' _ h => .of h.2.2) (fun i x σ H' H2 hi h hy => ?_) (fun σ H' h => ?_)⟩
    · obtain ⟨T, x1, x2, rfl, nT, rfl, e1, e2⟩ := hy
      cases e1
      obtain ⟨e, rfl, he⟩ := get_int e2
      obtain ⟨⟨y1, y2, y3, y4, rfl⟩, sm, hpp⟩ := h
      have hi2 := lt_get he
      refine ⟨T, _, rfl, .of upd_same, rfl, _, _, rfl, _, _, rfl, rfl, ?_⟩
      have sT := same_new (o := .tup [V.int ((i : Nat) : Int), .int e]) nT
      refine ⟨_, rfl, _, rfl, e, i, rfl, by omega, fun H3 src s3 nsrc hs3 => ?_⟩
      have nsrc' : H' src = none := sT.free nsrc
      have sm3 : Same H' H3 := sT.trans s3
      refine ⟨_, rfl, _, rfl, Nat.zero_le _, fun z nz => ?_⟩
      have s4 := sm3.trans (same_new (o := .lst []) nz)
      have hs4 := hs3.new (o := .lst []) nz
      have z4 : (upd H3 z (.lst [])) z = some (.lst (([] : List Int).map .int)) := upd_same
      generalize upd H3 z (.lst []) = H4 at s4 hs4 z4 ⊢
      by_cases c : ns = []
      · refine ⟨dI ns, dI [], dp_ints ((sm.trans s4).seq hS), dp_ints (ns := []) (.of z4), shaped_ints _, shaped_ints _, true, eqvT c, ?_⟩
        refine ⟨_, rfl, Nat.zero_le _, fun z2 nz2 => ?_⟩
        have s5 := s4.trans (same_new (o := .lst []) nz2)
        have hs5 := hs4.new (o := .lst []) nz2
        have z5 : (upd H4 z2 (.lst [])) z2 = some (.lst (([] : List Int).map .int)) := upd_same
        generalize upd H4 z2 (.lst []) = H5 at s5 hs5 z5 ⊢
        refine ⟨dI ns, dI [], dp_ints ((sm.trans s5).seq hS), dp_ints (ns := []) (.of z5), shaped_ints _, shaped_ints _, true, eqvT c, ?_⟩
        refine ⟨src, 0, 6, 10, rfl, hs5, by decide, by decide, by decide, fun H6 b6 => ?_⟩
        have key : Same H' H6 := fun b o eb => b6 b o (ne_of_none eb nsrc') (s5 _ _ eb)
        exact ⟨_, rfl, iteF ⟨⟨_, _, _, _, rfl⟩, sm.trans key, key _ _ hpp⟩⟩
      · refine ⟨dI ns, dI [], dp_ints ((sm.trans s4).seq hS), dp_ints (ns := []) (.of z4), shaped_ints _, shaped_ints _, false, eqvF c, ?_⟩
        refine ⟨_, rfl, Nat.zero_le _, fun z2 nz2 => ?_⟩
        have s5 := s4.trans (same_new (o := .lst []) nz2)
        have hs5 := hs4.new (o := .lst []) nz2
        have z5 : (upd H4 z2 (.lst [])) z2 = some (.lst (([] : List Int).map .int)) := upd_same
        generalize upd H4 z2 (.lst []) = H5 at s5 hs5 z5 ⊢
        refine ⟨dI ns, dI [], dp_ints ((sm.trans s5).seq hS), dp_ints (ns := []) (.of z5), shaped_ints _, shaped_ints _, false, eqvF c, ?_⟩
        refine ⟨src, 0, 100, 150, rfl, hs5, by decide, by decide, by decide, fun H6 b6 => ?_⟩
        have key : Same H' H6 := fun b o eb => b6 b o (ne_of_none eb nsrc') (s5 _ _ eb)
        exact ⟨_, rfl, iteF ⟨⟨_, _, _, _, rfl⟩, sm.trans key, key _ _ hpp⟩⟩
    · obtain ⟨⟨y1, y2, y3, y4, rfl⟩, sm, hpp⟩ := h
      refine ⟨0, 77, rfl, by decide, fun H3 src s3 nsrc hs3 => ?_⟩
      refine ⟨_, rfl, by decide, by decide, fun D nD => ?_⟩
      have s4 := s3.trans (same_new (o := .lst []) nD)
      have nDs : D ≠ src := hs3.ne nD
      refine lc_range (lo := 0) (n := 3) (fun i H' => H' D = some (.lst []) ∧ Bt src H3 H' ∧ Src H' src (600 * i)) ⟨upd_same, .new nD, hs3.new nD⟩ (fun i H4 hi h => ?_) (fun H4 h => ?_)
      · obtain ⟨hD, b4, hs4⟩ := h
        have key : Same H' H4 := fun b o eb => b4 b o (ne_of_none eb nsrc) (s3 _ _ eb)
        have hS4 : SqL K H4 sc (ns.map V.int) := (sm.trans key).seq hS
        refine ⟨rfl, ?_⟩
        refine ⟨_, rfl, _, rfl, _, rfl, Nat.zero_le _, fun z nz => ?_⟩
        have s5 := same_new (o := .lst []) nz
        have z5 : (upd H4 z (.lst [])) z = some (.lst (([] : List Int).map .int)) := upd_same
        have hs5 := hs4.new (o := .lst []) nz
        generalize upd H4 z (.lst []) = H5 at s5 hs5 z5 ⊢
        have fin : ∀ {H6 : Hp} {zz : Nat}, zz ≤ 100 → Bt src H5 H6 → Src H6 src (600 * i + 6 * zz) → H6 D = some (.lst []) ∧ Bt src H3 H6 ∧ Src H6 src (600 * (i + 1)) := fun {H6 zz} hz b6 hs6 => ⟨b6 _ _ nDs (s5 _ _ hD), (b4.trans (.of s5)).trans b6, hs6.mono (by omega)⟩
        have ei : (0 : Int) + (i : Int) = (i : Int) := Int.zero_add _
        by_cases c : ns = []
        · refine ⟨dI ns, dI [], dp_ints (s5.seq hS4), dp_ints (ns := []) (.of z5), shaped_ints _, shaped_ints _, true, eqvT c, ?_⟩
          refine ⟨src, _, i, 4, by rw [ei]; rfl, hs5, by omega, hi, by decide, by decide, fun H6 b6 hs6 => ⟨_, rfl, ?_⟩⟩
          exact fin (by decide) b6 hs6
        · refine ⟨dI ns, dI [], dp_ints (s5.seq hS4), dp_ints (ns := []) (.of z5), shaped_ints _, shaped_ints _, false, eqvF c, ?_⟩
          refine ⟨src, _, i, 70, by rw [ei]; rfl, hs5, by omega, hi, by decide, by decide, fun H6 b6 hs6 => ⟨_, rfl, ?_⟩⟩
          exact fin (by decide) b6 hs6
      · obtain ⟨hD, b4, hs4⟩ := h
        refine ⟨Nat.zero_le _, fun z nz => ?_⟩
        have z5 : (upd H4 z (.lst [])) z = some (.lst (([] : List Int).map .int)) := upd_same
        refine ⟨dI [], dI [], dp_ints (ns := []) (.of (same_new nz _ _ hD)), dp_ints (ns := []) (.of z5), shaped_ints _, shaped_ints _, ?_⟩
        rw [eqv_ints, decide_eq_true rfl]
        exact q _
end
end L34
set_option Elab.async false
set_option linter.all false
set_option maxRecDepth 100000
namespace L34
open PySem PySem.Spec PyProof.Rows L2 Lp
/-! ### what the end puts together -/
theorem cls_of_exc {K : PySem.W.Frag} {C : Addr} {bm : List Value} {n : String} (q : PySem.W.excIn K C bm n = true) : (PySem.W.clsIn K C).isSome = true := by
  unfold PySem.W.excIn at q
  unfold PySem.W.clsIn
  split at q
  · rename_i e
    rw [e]
    rfl
  · exact absurd q Bool.false_ne_true
theorem exm_own {K : PySem.W.Frag} {C : Addr} {cls : Value} {bm : List Value} {n : String} {r : Bool} (q : PySem.W.excIn K C bm n = true) (b : PySem.W.subIn K (.ref C) (.type "BaseException") = some true) (t : PySem.W.typeIn K (.ref C) = some (.type "type")) (s : PySem.W.subIn K cls (.ref C) = some r) : PySem.W.exmOne K cls (.ref C) = some r := by
  unfold PySem.W.exmOne PySem.W.kitCls
  rw [b, if_pos (by rfl)]
  show (if ((PySem.W.clsIn K C).isSome && PySem.W.typeIn K (.ref C) == some (.type "type")) = true then PySem.W.subIn K cls (.ref C) else none) = some r
  rw [cls_of_exc q, t, if_pos (by rfl), s]
section
variable {P : Program} {w : World} {K : PySem.W.Frag} {mg : Str → Option Value} {base : Heap} {CR CP CC CS CG eF eE eS eR eO C f f1 f2 f3 p p1 p2 p3 : Addr} {fd fd1 fd2 fd3 : FuncData} {ps ps1 ps2 ps3 : List Str} {k : Nat} {x : Str} {sp : Sp}
theorem calN (c : Cal P w K mg base k x sp) : CalN P w K mg base k x sp := by
  obtain ⟨f, fd, ps, F, m, kp, b⟩ := c.ex
  exact ⟨f, fd, ps, FnOk.liftN F, m, kp, b⟩
theorem metV (cl : Cls K C) (m : Meth K C x f) (F : FnOk P w K mg base (L2N.CX P w) k f fd ps sp) (b : Binds K fd ps []) : MetV P w K mg base k (Is C) x sp := ⟨fun C' e => by
  cases e
  exact ⟨f, fd, ps, cl, m, F, b⟩⟩
theorem prpV (cl : Cls K C) (m : PropOf K C x p f) (F : FnOk P w K mg base (L2N.CX P w) k f fd ps sp) (b : Binds K fd ps []) : PrpV P w K mg base k (Is C) x sp := ⟨fun C' e => by
  cases e
  exact ⟨p, f, fd, ps, cl, m, F, b⟩⟩
theorem prp3 (T : TxtL K CR CP CC CS CG) (m1 : PropOf K CP x p1 f1) (F1 : FnOk P w K mg base (L2N.CX P w) k f1 fd1 ps1 sp) (b1 : Binds K fd1 ps1 []) (m2 : PropOf K CC x p2 f2) (F2 : FnOk P w K mg base (L2N.CX P w) k f2 fd2 ps2 sp) (b2 : Binds K fd2 ps2 [])
    (m3 : PropOf K CS x p3 f3) (F3 : FnOk P w K mg base (L2N.CX P w) k f3 fd3 ps3 sp) (b3 : Binds K fd3 ps3 []) : PrpV P w K mg base k (Any3 CP CC CS) x sp := ⟨fun C h => by
  rcases h with rfl | rfl | rfl
  · exact ⟨p1, f1, fd1, ps1, T.cP, m1, F1, b1⟩
  · exact ⟨p2, f2, fd2, ps2, T.cC, m2, F2, b2⟩
  · exact ⟨p3, f3, fd3, ps3, T.cS, m3, F3, b3⟩⟩
theorem met3 {sp : Addr → Nat → Sp} (T : TxtL K CR CP CC CS CG) (m1 : Meth K CP x f1) (F1 : FnOk P w K mg base (L2N.CX P w) k f1 fd1 ps1 (sp CP 0)) (b1 : Binds K fd1 ps1 []) (m2 : Meth K CC x f2) (F2 : FnOk P w K mg base (L2N.CX P w) k f2 fd2 ps2 (sp CC 1)) (b2 : Binds K fd2 ps2 [])
    (m3 : Meth K CS x f3) (F3 : FnOk P w K mg base (L2N.CX P w) k f3 fd3 ps3 (sp CS 2)) (b3 : Binds K fd3 ps3 []) : MetC P w K mg base k (Kind3 CP CC CS) x sp := ⟨fun C i h => by
  rcases h with ⟨rfl, rfl⟩ | ⟨rfl, rfl⟩ | ⟨rfl, rfl⟩
  · exact ⟨f1, fd1, ps1, T.cP, m1, F1, b1⟩
  · exact ⟨f2, fd2, ps2, T.cC, m2, F2, b2⟩
  · exact ⟨f3, fd3, ps3, T.cS, m3, F3, b3⟩⟩
theorem left_P (F : FnOk P w K mg base (L2N.CX P w) 2 f fd ps (spLeftP CR CP CC CS)) : FnOk P w K mg base (L2N.CX P w) 3 f fd ps (spLeft CR eO CP 0) := (F.imp fun vs H Q E h => by
  obtain ⟨p, dp, r, r', ai, ap, aq, n, I, U, S, rfl, hp, R, W, hn, q, _⟩ := h
  exact ⟨p, dp, r, r', CP, ai, ap, aq, n, I, U, S, rfl, .inl rfl, hp, R, W, hn, q _ (if_pos rfl)⟩).mono (by decide)
theorem start_P (F : FnOk P w K mg base (L2N.CX P w) 4 f fd ps (spStartP CR CP CC CS eS)) : FnOk P w K mg base (L2N.CX P w) 5 f fd ps (spStartC CR eS CP 0) := (F.imp fun vs H Q E h => by
  obtain ⟨p, dp, r, ai, ap, aq, n, I, U, S, rfl, hp, h⟩ := h
  exact ⟨p, dp, r, CP, ai, ap, aq, n, I, U, S, rfl, .inl rfl, hp, h⟩).mono (by decide)
theorem stop_P (F : FnOk P w K mg base (L2N.CX P w) 4 f fd ps (spStopP CR CP CC CS eR eO)) : FnOk P w K mg base (L2N.CX P w) 5 f fd ps (spStopK CR eR eO CP 0) := (F.imp fun vs H Q E h => ⟨CP, 0, .inl ⟨rfl, rfl⟩, h⟩).mono (by decide)
theorem desc_P (F : FnOk P w K mg base (L2N.CX P w) 1 f fd ps (spDescP CP CC CS)) : FnOk P w K mg base (L2N.CX P w) 2 f fd ps (spDesc CP 0) := (F.imp fun vs H Q E h => by
  obtain ⟨p, dp, r, n, rfl, hp, hn, q⟩ := h
  exact ⟨p, dp, r, CP, n, rfl, .inl rfl, hp, hn, fun y ny => q y _ (same_new ny) ny upd_same⟩).mono (by decide)
theorem bindG2 (F : FunD K "__init__" "Setting.__init__" (defArgs s_Setting_init) (defBody s_Setting_init) (defScope s_Setting_init) [.int 0] [] f fd) : Binds K fd ["self", "original"] [] := by
  obtain ⟨ds, r, b⟩ := F.binds1 (ps := ["self", "original"]) 2 1 (by simp) rfl (fun T kV doc pm an cdv ct us its h1 h2 => match us, its, h1, h2 with | [a, b], [d], _, _ => ⟨_, rfl, rfl⟩)
  cases r
  exact b
theorem bindGK (F : FunD K "__init__" "Setting.__init__" (defArgs s_Setting_init) (defBody s_Setting_init) (defScope s_Setting_init) [.int 0] [] f fd) : KBn K fd ["self", "original"] 1 ["original"] (fun a b => a ++ b) (fun a b => a ++ b) := by
  obtain ⟨oc, od, dV, kV, doc, pm, an, cdv, ct, osl, rfl, lk, hcd, hD, hK⟩ := F.ex
  rcases hD with ⟨e, _⟩ | ⟨_, T, o, its, m, rfl, lT, oT, rT⟩
  · cases e
  · refine ⟨fun s us ws X l1 l2 => ?_, fun r1 r2 => r1.append r2⟩
    have li : its.length = 1 := rT.length.symm
    match us, ws, its, l1, l2, li, lT, oT with
    | [a], [b], [d], _, _, _, lT, oT =>
      obtain ⟨k, e1, e2⟩ : ∃ k, bindArgs (PySem.W.fnOf "__init__" "Setting.__init__" (defArgs s_Setting_init) (defBody s_Setting_init) (defScope s_Setting_init) (.ref T) kV doc pm an cdv ct) ⟨[a], [("original", b)]⟩ = seqItems? (.ref T) >>= k ∧ k (some #[d]) = pure ((["self", "original"] : List Str).zip [a, b]) := ⟨_, rfl, rfl⟩
      refine BindsTo.of_looks fun M => ?_
      show PySem.W.Looks M s.heap (bindArgs _ ⟨[a], [("original", b)]⟩) _
      rw [e1]
      exact looks_items X lT oT (.of_pure e2)
end
end L34
set_option Elab.async false
set_option linter.all false
set_option maxRecDepth 100000
namespace L34
open PySem PySem.Spec PyProof.Rows L2 Lp
set_option maxHeartbeats 0 in
theorem all_mk {l : PySem.W.OpenLaw} {w : World} {K : PySem.W.Frag} {h : Heap} {mg : Str → Option Value} {fa : Addr} (X : K.In h) (G : h.Ns mainGlobals mg) (hfa : mg "law" = some (.ref fa))
    {CR : Addr} (aCCR : PySem.W.nsIn K mainGlobals "Record" = some (some (.ref CR))) (pgCR : PySem.W.plainGet K CR Str.empty = true) (hdCR : PySem.W.hasDictIn K CR = true) (poCR : PySem.W.plainOver K CR = true) (saCR : PySem.W.findIn K (.ref CR) "__setattr__" = some (some (.builtin "object.__setattr__"))) (mkCR : PySem.W.makesIn K CR = true) (kcCR : PySem.W.keepIn K (.ref CR) = true)
    (nCR0 : PySem.W.findIn K (.ref CR) "integers" = some none)
    (nCR1 : PySem.W.findIn K (.ref CR) "past" = some none)
    (nCR2 : PySem.W.findIn K (.ref CR) "presents" = some none)
    {CP : Addr} (aCCP : PySem.W.nsIn K mainGlobals "Patch" = some (some (.ref CP))) (pgCP : PySem.W.plainGet K CP Str.empty = true) (hdCP : PySem.W.hasDictIn K CP = true) (poCP : PySem.W.plainOver K CP = true) (saCP : PySem.W.findIn K (.ref CP) "__setattr__" = some (some (.builtin "object.__setattr__"))) (mkCP : PySem.W.makesIn K CP = true) (kcCP : PySem.W.keepIn K (.ref CP) = true)
    (nCP0 : PySem.W.findIn K (.ref CP) "_record" = some none)
    (nCP1 : PySem.W.findIn K (.ref CP) "_number" = some none)
    {CC : Addr} (aCCC : PySem.W.nsIn K mainGlobals "CarefulPatch" = some (some (.ref CC))) (pgCC : PySem.W.plainGet K CC Str.empty = true) (hdCC : PySem.W.hasDictIn K CC = true) (poCC : PySem.W.plainOver K CC = true) (saCC : PySem.W.findIn K (.ref CC) "__setattr__" = some (some (.builtin "object.__setattr__"))) (mkCC : PySem.W.makesIn K CC = true) (kcCC : PySem.W.keepIn K (.ref CC) = true)
    (nCC0 : PySem.W.findIn K (.ref CC) "_record" = some none)
    (nCC1 : PySem.W.findIn K (.ref CC) "_number" = some none)
    {CS : Addr} (aCCS : PySem.W.nsIn K mainGlobals "StrictPatch" = some (some (.ref CS))) (pgCS : PySem.W.plainGet K CS Str.empty = true) (hdCS : PySem.W.hasDictIn K CS = true) (poCS : PySem.W.plainOver K CS = true) (saCS : PySem.W.findIn K (.ref CS) "__setattr__" = some (some (.builtin "object.__setattr__"))) (mkCS : PySem.W.makesIn K CS = true) (kcCS : PySem.W.keepIn K (.ref CS) = true)
    (nCS0 : PySem.W.findIn K (.ref CS) "_record" = some none)
    (nCS1 : PySem.W.findIn K (.ref CS) "_number" = some none)
    {CG : Addr} (aCCG : PySem.W.nsIn K mainGlobals "Setting" = some (some (.ref CG))) (pgCG : PySem.W.plainGet K CG Str.empty = true) (hdCG : PySem.W.hasDictIn K CG = true) (poCG : PySem.W.plainOver K CG = true) (saCG : PySem.W.findIn K (.ref CG) "__setattr__" = some (some (.builtin "object.__setattr__"))) (mkCG : PySem.W.makesIn K CG = true) (kcCG : PySem.W.keepIn K (.ref CG) = true)
    (nCG0 : PySem.W.findIn K (.ref CG) "_record" = some none)
    (nCG1 : PySem.W.findIn K (.ref CG) "_patches" = some none)
    {f0 : Addr} {oc0 kV0 dc0 pm0 cd0 ct0 : Value} {od0 an0 : Option Addr} {sl0 : Array (Option Value)}
    (a0 : PySem.W.nsIn K mainGlobals "is_integer" = some (some (.ref f0))) (l0 : K.lookup f0 = some ⟨oc0, od0, .func (PySem.W.fnOf "is_integer" "is_integer" (defArgs s_is_integer) (defBody s_is_integer) (defScope s_is_integer) .none kV0 dc0 pm0 an0 cd0 ct0), sl0⟩) (c0 : PySem.W.codeIn K cd0 "is_integer" = true) (k0 : PySem.W.keepIn K (.ref f0) = true)
    {f1 : Addr} {oc1 kV1 dc1 pm1 cd1 ct1 : Value} {od1 an1 : Option Addr} {sl1 : Array (Option Value)}
    (a1 : PySem.W.nsIn K mainGlobals "is_integer_within" = some (some (.ref f1))) (l1 : K.lookup f1 = some ⟨oc1, od1, .func (PySem.W.fnOf "is_integer_within" "is_integer_within" (defArgs s_is_integer_within) (defBody s_is_integer_within) (defScope s_is_integer_within) .none kV1 dc1 pm1 an1 cd1 ct1), sl1⟩) (c1 : PySem.W.codeIn K cd1 "is_integer_within" = true) (k1 : PySem.W.keepIn K (.ref f1) = true)
    {f2 : Addr} {oc2 kV2 dc2 pm2 cd2 ct2 : Value} {od2 an2 : Option Addr} {sl2 : Array (Option Value)}
    (a2 : PySem.W.nsIn K mainGlobals "check_number" = some (some (.ref f2))) (l2 : K.lookup f2 = some ⟨oc2, od2, .func (PySem.W.fnOf "check_number" "check_number" (defArgs s_check_number) (defBody s_check_number) (defScope s_check_number) .none kV2 dc2 pm2 an2 cd2 ct2), sl2⟩) (c2 : PySem.W.codeIn K cd2 "check_number" = true) (k2 : PySem.W.keepIn K (.ref f2) = true)
    {f3 : Addr} {oc3 kV3 dc3 pm3 cd3 ct3 : Value} {od3 an3 : Option Addr} {sl3 : Array (Option Value)}
    (a3 : PySem.W.nsIn K mainGlobals "check_settable" = some (some (.ref f3))) (l3 : K.lookup f3 = some ⟨oc3, od3, .func (PySem.W.fnOf "check_settable" "check_settable" (defArgs s_check_settable) (defBody s_check_settable) (defScope s_check_settable) .none kV3 dc3 pm3 an3 cd3 ct3), sl3⟩) (c3 : PySem.W.codeIn K cd3 "check_settable" = true) (k3 : PySem.W.keepIn K (.ref f3) = true)
    {f4 : Addr} {oc4 kV4 dc4 pm4 cd4 ct4 : Value} {od4 an4 : Option Addr} {sl4 : Array (Option Value)}
    (a4 : PySem.W.findIn K (.ref CR) "__init__" = some (some (.ref f4))) (i4 : PySem.W.isFn K (.ref f4) = true) (l4 : K.lookup f4 = some ⟨oc4, od4, .func (PySem.W.fnOf "__init__" "Record.__init__" (defArgs s_Record_init) (defBody s_Record_init) (defScope s_Record_init) .none kV4 dc4 pm4 an4 cd4 ct4), sl4⟩) (c4 : PySem.W.codeIn K cd4 "Record.__init__" = true) (k4 : PySem.W.keepIn K (.ref f4) = true)
    {f5 : Addr} {oc5 kV5 dc5 pm5 cd5 ct5 : Value} {od5 an5 : Option Addr} {sl5 : Array (Option Value)}
    (a5 : PySem.W.findIn K (.ref CR) "integer_now" = some (some (.ref f5))) (i5 : PySem.W.isFn K (.ref f5) = true) (l5 : K.lookup f5 = some ⟨oc5, od5, .func (PySem.W.fnOf "integer_now" "Record.integer_now" (defArgs s_Record_integer_now) (defBody s_Record_integer_now) (defScope s_Record_integer_now) .none kV5 dc5 pm5 an5 cd5 ct5), sl5⟩) (c5 : PySem.W.codeIn K cd5 "Record.integer_now" = true) (k5 : PySem.W.keepIn K (.ref f5) = true)
    {f6 : Addr} {oc6 kV6 dc6 pm6 cd6 ct6 : Value} {od6 an6 : Option Addr} {sl6 : Array (Option Value)}
    (a6 : PySem.W.findIn K (.ref CR) "found_by" = some (some (.ref f6))) (i6 : PySem.W.isFn K (.ref f6) = true) (l6 : K.lookup f6 = some ⟨oc6, od6, .func (PySem.W.fnOf "found_by" "Record.found_by" (defArgs s_Record_found_by) (defBody s_Record_found_by) (defScope s_Record_found_by) .none kV6 dc6 pm6 an6 cd6 ct6), sl6⟩) (c6 : PySem.W.codeIn K cd6 "Record.found_by" = true) (k6 : PySem.W.keepIn K (.ref f6) = true)
    {f7 : Addr} {oc7 kV7 dc7 pm7 cd7 ct7 : Value} {od7 an7 : Option Addr} {sl7 : Array (Option Value)}
    (a7 : PySem.W.findIn K (.ref CR) "is_running" = some (some (.ref f7))) (i7 : PySem.W.isFn K (.ref f7) = true) (l7 : K.lookup f7 = some ⟨oc7, od7, .func (PySem.W.fnOf "is_running" "Record.is_running" (defArgs s_Record_is_running) (defBody s_Record_is_running) (defScope s_Record_is_running) .none kV7 dc7 pm7 an7 cd7 ct7), sl7⟩) (c7 : PySem.W.codeIn K cd7 "Record.is_running" = true) (k7 : PySem.W.keepIn K (.ref f7) = true)
    {f8 : Addr} {oc8 kV8 dc8 pm8 cd8 ct8 : Value} {od8 an8 : Option Addr} {sl8 : Array (Option Value)}
    (a8 : PySem.W.findIn K (.ref CR) "go_on_by" = some (some (.ref f8))) (i8 : PySem.W.isFn K (.ref f8) = true) (l8 : K.lookup f8 = some ⟨oc8, od8, .func (PySem.W.fnOf "go_on_by" "Record.go_on_by" (defArgs s_Record_go_on_by) (defBody s_Record_go_on_by) (defScope s_Record_go_on_by) .none kV8 dc8 pm8 an8 cd8 ct8), sl8⟩) (c8 : PySem.W.codeIn K cd8 "Record.go_on_by" = true) (k8 : PySem.W.keepIn K (.ref f8) = true)
    {f9 : Addr} {oc9 kV9 dc9 pm9 cd9 ct9 : Value} {od9 an9 : Option Addr} {sl9 : Array (Option Value)}
    (a9 : PySem.W.findIn K (.ref CR) "go_back" = some (some (.ref f9))) (i9 : PySem.W.isFn K (.ref f9) = true) (l9 : K.lookup f9 = some ⟨oc9, od9, .func (PySem.W.fnOf "go_back" "Record.go_back" (defArgs s_Record_go_back) (defBody s_Record_go_back) (defScope s_Record_go_back) .none kV9 dc9 pm9 an9 cd9 ct9), sl9⟩) (c9 : PySem.W.codeIn K cd9 "Record.go_back" = true) (k9 : PySem.W.keepIn K (.ref f9) = true)
    {f10 : Addr} {oc10 kV10 dc10 pm10 cd10 ct10 : Value} {od10 an10 : Option Addr} {sl10 : Array (Option Value)}
    (a10 : PySem.W.findIn K (.ref CP) "__init__" = some (some (.ref f10))) (i10 : PySem.W.isFn K (.ref f10) = true) (l10 : K.lookup f10 = some ⟨oc10, od10, .func (PySem.W.fnOf "__init__" "Patch.__init__" (defArgs s_Patch_init) (defBody s_Patch_init) (defScope s_Patch_init) .none kV10 dc10 pm10 an10 cd10 ct10), sl10⟩) (c10 : PySem.W.codeIn K cd10 "Patch.__init__" = true) (k10 : PySem.W.keepIn K (.ref f10) = true)
    {f11 : Addr} {oc11 kV11 dc11 pm11 cd11 ct11 : Value} {od11 an11 : Option Addr} {sl11 : Array (Option Value)}
    {p11 : Addr} {rest11 : List Value} (a11 : PySem.W.findIn K (.ref CP) "number" = some (some (.ref p11))) (pg11 : PySem.W.specialIn K (.ref p11) "__get__" = some (some (.builtin "property.__get__"))) (pt11 : PySem.W.takesIn K (.ref p11) = some true) (pr11 : PySem.W.recIn K p11 "property" = some (.ref f11 :: rest11)) (l11 : K.lookup f11 = some ⟨oc11, od11, .func (PySem.W.fnOf "number" "Patch.number" (defArgs s_Patch_number) (defBody s_Patch_number) (defScope s_Patch_number) .none kV11 dc11 pm11 an11 cd11 ct11), sl11⟩) (c11 : PySem.W.codeIn K cd11 "Patch.number" = true) (k11 : PySem.W.keepIn K (.ref f11) = true)
    {f12 : Addr} {oc12 kV12 dc12 pm12 cd12 ct12 : Value} {od12 an12 : Option Addr} {sl12 : Array (Option Value)}
    {p12 : Addr} {rest12 : List Value} (a12 : PySem.W.findIn K (.ref CC) "number" = some (some (.ref p12))) (pg12 : PySem.W.specialIn K (.ref p12) "__get__" = some (some (.builtin "property.__get__"))) (pt12 : PySem.W.takesIn K (.ref p12) = some true) (pr12 : PySem.W.recIn K p12 "property" = some (.ref f12 :: rest12)) (l12 : K.lookup f12 = some ⟨oc12, od12, .func (PySem.W.fnOf "number" "CarefulPatch.number" (defArgs s_CarefulPatch_number) (defBody s_CarefulPatch_number) (defScope s_CarefulPatch_number) .none kV12 dc12 pm12 an12 cd12 ct12), sl12⟩) (c12 : PySem.W.codeIn K cd12 "CarefulPatch.number" = true) (k12 : PySem.W.keepIn K (.ref f12) = true)
    {f13 : Addr} {oc13 kV13 dc13 pm13 cd13 ct13 : Value} {od13 an13 : Option Addr} {sl13 : Array (Option Value)}
    {p13 : Addr} {rest13 : List Value} (a13 : PySem.W.findIn K (.ref CS) "number" = some (some (.ref p13))) (pg13 : PySem.W.specialIn K (.ref p13) "__get__" = some (some (.builtin "property.__get__"))) (pt13 : PySem.W.takesIn K (.ref p13) = some true) (pr13 : PySem.W.recIn K p13 "property" = some (.ref f13 :: rest13)) (l13 : K.lookup f13 = some ⟨oc13, od13, .func (PySem.W.fnOf "number" "StrictPatch.number" (defArgs s_StrictPatch_number) (defBody s_StrictPatch_number) (defScope s_StrictPatch_number) .none kV13 dc13 pm13 an13 cd13 ct13), sl13⟩) (c13 : PySem.W.codeIn K cd13 "StrictPatch.number" = true) (k13 : PySem.W.keepIn K (.ref f13) = true)
    {f14 : Addr} {oc14 kV14 dc14 pm14 cd14 ct14 : Value} {od14 an14 : Option Addr} {sl14 : Array (Option Value)}
    {p14 : Addr} {rest14 : List Value} (a14 : PySem.W.findIn K (.ref CP) "integer" = some (some (.ref p14))) (pg14 : PySem.W.specialIn K (.ref p14) "__get__" = some (some (.builtin "property.__get__"))) (pt14 : PySem.W.takesIn K (.ref p14) = some true) (pr14 : PySem.W.recIn K p14 "property" = some (.ref f14 :: rest14)) (l14 : K.lookup f14 = some ⟨oc14, od14, .func (PySem.W.fnOf "integer" "Patch.integer" (defArgs s_Patch_integer) (defBody s_Patch_integer) (defScope s_Patch_integer) .none kV14 dc14 pm14 an14 cd14 ct14), sl14⟩) (c14 : PySem.W.codeIn K cd14 "Patch.integer" = true) (k14 : PySem.W.keepIn K (.ref f14) = true)
    {f15 : Addr} {oc15 kV15 dc15 pm15 cd15 ct15 : Value} {od15 an15 : Option Addr} {sl15 : Array (Option Value)}
    {p15 : Addr} {rest15 : List Value} (a15 : PySem.W.findIn K (.ref CC) "integer" = some (some (.ref p15))) (pg15 : PySem.W.specialIn K (.ref p15) "__get__" = some (some (.builtin "property.__get__"))) (pt15 : PySem.W.takesIn K (.ref p15) = some true) (pr15 : PySem.W.recIn K p15 "property" = some (.ref f15 :: rest15)) (l15 : K.lookup f15 = some ⟨oc15, od15, .func (PySem.W.fnOf "integer" "CarefulPatch.integer" (defArgs s_CarefulPatch_integer) (defBody s_CarefulPatch_integer) (defScope s_CarefulPatch_integer) .none kV15 dc15 pm15 an15 cd15 ct15), sl15⟩) (c15 : PySem.W.codeIn K cd15 "CarefulPatch.integer" = true) (k15 : PySem.W.keepIn K (.ref f15) = true)
    {f16 : Addr} {oc16 kV16 dc16 pm16 cd16 ct16 : Value} {od16 an16 : Option Addr} {sl16 : Array (Option Value)}
    {p16 : Addr} {rest16 : List Value} (a16 : PySem.W.findIn K (.ref CS) "integer" = some (some (.ref p16))) (pg16 : PySem.W.specialIn K (.ref p16) "__get__" = some (some (.builtin "property.__get__"))) (pt16 : PySem.W.takesIn K (.ref p16) = some true) (pr16 : PySem.W.recIn K p16 "property" = some (.ref f16 :: rest16)) (l16 : K.lookup f16 = some ⟨oc16, od16, .func (PySem.W.fnOf "integer" "StrictPatch.integer" (defArgs s_StrictPatch_integer) (defBody s_StrictPatch_integer) (defScope s_StrictPatch_integer) .none kV16 dc16 pm16 an16 cd16 ct16), sl16⟩) (c16 : PySem.W.codeIn K cd16 "StrictPatch.integer" = true) (k16 : PySem.W.keepIn K (.ref f16) = true)
    {f17 : Addr} {oc17 kV17 dc17 pm17 cd17 ct17 : Value} {od17 an17 : Option Addr} {sl17 : Array (Option Value)}
    {p17 : Addr} {rest17 : List Value} (a17 : PySem.W.findIn K (.ref CP) "saved" = some (some (.ref p17))) (pg17 : PySem.W.specialIn K (.ref p17) "__get__" = some (some (.builtin "property.__get__"))) (pt17 : PySem.W.takesIn K (.ref p17) = some true) (pr17 : PySem.W.recIn K p17 "property" = some (.ref f17 :: rest17)) (l17 : K.lookup f17 = some ⟨oc17, od17, .func (PySem.W.fnOf "saved" "Patch.saved" (defArgs s_Patch_saved) (defBody s_Patch_saved) (defScope s_Patch_saved) .none kV17 dc17 pm17 an17 cd17 ct17), sl17⟩) (c17 : PySem.W.codeIn K cd17 "Patch.saved" = true) (k17 : PySem.W.keepIn K (.ref f17) = true)
    {f18 : Addr} {oc18 kV18 dc18 pm18 cd18 ct18 : Value} {od18 an18 : Option Addr} {sl18 : Array (Option Value)}
    {p18 : Addr} {rest18 : List Value} (a18 : PySem.W.findIn K (.ref CC) "saved" = some (some (.ref p18))) (pg18 : PySem.W.specialIn K (.ref p18) "__get__" = some (some (.builtin "property.__get__"))) (pt18 : PySem.W.takesIn K (.ref p18) = some true) (pr18 : PySem.W.recIn K p18 "property" = some (.ref f18 :: rest18)) (l18 : K.lookup f18 = some ⟨oc18, od18, .func (PySem.W.fnOf "saved" "CarefulPatch.saved" (defArgs s_CarefulPatch_saved) (defBody s_CarefulPatch_saved) (defScope s_CarefulPatch_saved) .none kV18 dc18 pm18 an18 cd18 ct18), sl18⟩) (c18 : PySem.W.codeIn K cd18 "CarefulPatch.saved" = true) (k18 : PySem.W.keepIn K (.ref f18) = true)
    {f19 : Addr} {oc19 kV19 dc19 pm19 cd19 ct19 : Value} {od19 an19 : Option Addr} {sl19 : Array (Option Value)}
    {p19 : Addr} {rest19 : List Value} (a19 : PySem.W.findIn K (.ref CS) "saved" = some (some (.ref p19))) (pg19 : PySem.W.specialIn K (.ref p19) "__get__" = some (some (.builtin "property.__get__"))) (pt19 : PySem.W.takesIn K (.ref p19) = some true) (pr19 : PySem.W.recIn K p19 "property" = some (.ref f19 :: rest19)) (l19 : K.lookup f19 = some ⟨oc19, od19, .func (PySem.W.fnOf "saved" "StrictPatch.saved" (defArgs s_StrictPatch_saved) (defBody s_StrictPatch_saved) (defScope s_StrictPatch_saved) .none kV19 dc19 pm19 an19 cd19 ct19), sl19⟩) (c19 : PySem.W.codeIn K cd19 "StrictPatch.saved" = true) (k19 : PySem.W.keepIn K (.ref f19) = true)
    {f20 : Addr} {oc20 kV20 dc20 pm20 cd20 ct20 : Value} {od20 an20 : Option Addr} {sl20 : Array (Option Value)}
    {p20 : Addr} {rest20 : List Value} (a20 : PySem.W.findIn K (.ref CP) "runs" = some (some (.ref p20))) (pg20 : PySem.W.specialIn K (.ref p20) "__get__" = some (some (.builtin "property.__get__"))) (pt20 : PySem.W.takesIn K (.ref p20) = some true) (pr20 : PySem.W.recIn K p20 "property" = some (.ref f20 :: rest20)) (l20 : K.lookup f20 = some ⟨oc20, od20, .func (PySem.W.fnOf "runs" "Patch.runs" (defArgs s_Patch_runs) (defBody s_Patch_runs) (defScope s_Patch_runs) .none kV20 dc20 pm20 an20 cd20 ct20), sl20⟩) (c20 : PySem.W.codeIn K cd20 "Patch.runs" = true) (k20 : PySem.W.keepIn K (.ref f20) = true)
    {f21 : Addr} {oc21 kV21 dc21 pm21 cd21 ct21 : Value} {od21 an21 : Option Addr} {sl21 : Array (Option Value)}
    {p21 : Addr} {rest21 : List Value} (a21 : PySem.W.findIn K (.ref CC) "runs" = some (some (.ref p21))) (pg21 : PySem.W.specialIn K (.ref p21) "__get__" = some (some (.builtin "property.__get__"))) (pt21 : PySem.W.takesIn K (.ref p21) = some true) (pr21 : PySem.W.recIn K p21 "property" = some (.ref f21 :: rest21)) (l21 : K.lookup f21 = some ⟨oc21, od21, .func (PySem.W.fnOf "runs" "CarefulPatch.runs" (defArgs s_CarefulPatch_runs) (defBody s_CarefulPatch_runs) (defScope s_CarefulPatch_runs) .none kV21 dc21 pm21 an21 cd21 ct21), sl21⟩) (c21 : PySem.W.codeIn K cd21 "CarefulPatch.runs" = true) (k21 : PySem.W.keepIn K (.ref f21) = true)
    {f22 : Addr} {oc22 kV22 dc22 pm22 cd22 ct22 : Value} {od22 an22 : Option Addr} {sl22 : Array (Option Value)}
    {p22 : Addr} {rest22 : List Value} (a22 : PySem.W.findIn K (.ref CS) "runs" = some (some (.ref p22))) (pg22 : PySem.W.specialIn K (.ref p22) "__get__" = some (some (.builtin "property.__get__"))) (pt22 : PySem.W.takesIn K (.ref p22) = some true) (pr22 : PySem.W.recIn K p22 "property" = some (.ref f22 :: rest22)) (l22 : K.lookup f22 = some ⟨oc22, od22, .func (PySem.W.fnOf "runs" "StrictPatch.runs" (defArgs s_StrictPatch_runs) (defBody s_StrictPatch_runs) (defScope s_StrictPatch_runs) .none kV22 dc22 pm22 an22 cd22 ct22), sl22⟩) (c22 : PySem.W.codeIn K cd22 "StrictPatch.runs" = true) (k22 : PySem.W.keepIn K (.ref f22) = true)
    {f23 : Addr} {oc23 kV23 dc23 pm23 cd23 ct23 : Value} {od23 an23 : Option Addr} {sl23 : Array (Option Value)}
    (a23 : PySem.W.findIn K (.ref CP) "left_by_stop" = some (some (.ref f23))) (i23 : PySem.W.isFn K (.ref f23) = true) (l23 : K.lookup f23 = some ⟨oc23, od23, .func (PySem.W.fnOf "left_by_stop" "Patch.left_by_stop" (defArgs s_Patch_left_by_stop) (defBody s_Patch_left_by_stop) (defScope s_Patch_left_by_stop) .none kV23 dc23 pm23 an23 cd23 ct23), sl23⟩) (c23 : PySem.W.codeIn K cd23 "Patch.left_by_stop" = true) (k23 : PySem.W.keepIn K (.ref f23) = true)
    {f24 cc24 cda24 : Addr} {oc24 kV24 dc24 pm24 ct24 ccl24 cl24 : Value} {od24 an24 cdd24 cld24 : Option Addr} {sl24 ccs24 csl24 : Array (Option Value)} {vs24 : Array Value} {fi24 : Str} {tf24 : Tok} {cdD24 : ClassData}
    (a24 : PySem.W.findIn K (.ref CC) "left_by_stop" = some (some (.ref f24))) (i24 : PySem.W.isFn K (.ref f24) = true)
    (l24 : K.lookup f24 = some ⟨oc24, od24, .func (PySem.W.fnX "left_by_stop" "CarefulPatch.left_by_stop" (defArgs s_CarefulPatch_left_by_stop) (defBody s_CarefulPatch_left_by_stop) (defScope s_CarefulPatch_left_by_stop) [("__class__", cc24)] .none kV24 dc24 pm24 an24 (.ref cda24) ct24), sl24⟩) (c24 : PySem.W.codeIn K (.ref cda24) "CarefulPatch.left_by_stop" = true) (k24 : PySem.W.keepIn K (.ref f24) = true)
    (d24 : K.lookup cda24 = some ⟨ccl24, cdd24, .fields vs24, ccs24⟩) (v24 : vs24[2]? = some (.str fi24 tf24)) (fe24 : ((l.prog.main.file : Str) == fi24) = true) (e24 : K.lookup cc24 = some ⟨cl24, cld24, .cell (some (.ref CC)), csl24⟩) (x24 : PySem.W.clsIn K CC = some cdD24)
    (sm24 : PySem.W.ks_superIn K CC CC "left_by_stop" = some (some (.ref f23))) (sy24 : PySem.W.typeIn K (.ref f23) = some (.type "function")) (sf24 : PySem.W.fnIn K f23 = true) (sb24 : PySem.W.mroIn K CC (.ref CC) = some true)
    {f25 cc25 cda25 : Addr} {oc25 kV25 dc25 pm25 ct25 ccl25 cl25 : Value} {od25 an25 cdd25 cld25 : Option Addr} {sl25 ccs25 csl25 : Array (Option Value)} {vs25 : Array Value} {fi25 : Str} {tf25 : Tok} {cdD25 : ClassData}
    (a25 : PySem.W.findIn K (.ref CS) "left_by_stop" = some (some (.ref f25))) (i25 : PySem.W.isFn K (.ref f25) = true)
    (l25 : K.lookup f25 = some ⟨oc25, od25, .func (PySem.W.fnX "left_by_stop" "StrictPatch.left_by_stop" (defArgs s_StrictPatch_left_by_stop) (defBody s_StrictPatch_left_by_stop) (defScope s_StrictPatch_left_by_stop) [("__class__", cc25)] .none kV25 dc25 pm25 an25 (.ref cda25) ct25), sl25⟩) (c25 : PySem.W.codeIn K (.ref cda25) "StrictPatch.left_by_stop" = true) (k25 : PySem.W.keepIn K (.ref f25) = true)
    (d25 : K.lookup cda25 = some ⟨ccl25, cdd25, .fields vs25, ccs25⟩) (v25 : vs25[2]? = some (.str fi25 tf25)) (fe25 : ((l.prog.main.file : Str) == fi25) = true) (e25 : K.lookup cc25 = some ⟨cl25, cld25, .cell (some (.ref CS)), csl25⟩) (x25 : PySem.W.clsIn K CS = some cdD25)
    (sm25 : PySem.W.ks_superIn K CS CS "left_by_stop" = some (some (.ref f23))) (sy25 : PySem.W.typeIn K (.ref f23) = some (.type "function")) (sf25 : PySem.W.fnIn K f23 = true) (sb25 : PySem.W.mroIn K CS (.ref CS) = some true)
    {f26 : Addr} {oc26 kV26 dc26 pm26 cd26 ct26 : Value} {od26 an26 : Option Addr} {sl26 : Array (Option Value)}
    (a26 : PySem.W.findIn K (.ref CP) "start" = some (some (.ref f26))) (i26 : PySem.W.isFn K (.ref f26) = true) (l26 : K.lookup f26 = some ⟨oc26, od26, .func (PySem.W.fnOf "start" "Patch.start" (defArgs s_Patch_start) (defBody s_Patch_start) (defScope s_Patch_start) .none kV26 dc26 pm26 an26 cd26 ct26), sl26⟩) (c26 : PySem.W.codeIn K cd26 "Patch.start" = true) (k26 : PySem.W.keepIn K (.ref f26) = true)
    {f27 : Addr} {oc27 kV27 dc27 pm27 cd27 ct27 : Value} {od27 an27 : Option Addr} {sl27 : Array (Option Value)}
    (a27 : PySem.W.findIn K (.ref CP) "stop" = some (some (.ref f27))) (i27 : PySem.W.isFn K (.ref f27) = true) (l27 : K.lookup f27 = some ⟨oc27, od27, .func (PySem.W.fnOf "stop" "Patch.stop" (defArgs s_Patch_stop) (defBody s_Patch_stop) (defScope s_Patch_stop) .none kV27 dc27 pm27 an27 cd27 ct27), sl27⟩) (c27 : PySem.W.codeIn K cd27 "Patch.stop" = true) (k27 : PySem.W.keepIn K (.ref f27) = true)
    {f28 : Addr} {oc28 kV28 dc28 pm28 cd28 ct28 : Value} {od28 an28 : Option Addr} {sl28 : Array (Option Value)}
    (a28 : PySem.W.findIn K (.ref CP) "described" = some (some (.ref f28))) (i28 : PySem.W.isFn K (.ref f28) = true) (l28 : K.lookup f28 = some ⟨oc28, od28, .func (PySem.W.fnOf "described" "Patch.described" (defArgs s_Patch_described) (defBody s_Patch_described) (defScope s_Patch_described) .none kV28 dc28 pm28 an28 cd28 ct28), sl28⟩) (c28 : PySem.W.codeIn K cd28 "Patch.described" = true) (k28 : PySem.W.keepIn K (.ref f28) = true)
    {f29 cc29 cda29 : Addr} {oc29 kV29 dc29 pm29 ct29 ccl29 cl29 : Value} {od29 an29 cdd29 cld29 : Option Addr} {sl29 ccs29 csl29 : Array (Option Value)} {vs29 : Array Value} {fi29 : Str} {tf29 : Tok} {cdD29 : ClassData}
    (a29 : PySem.W.findIn K (.ref CC) "start" = some (some (.ref f29))) (i29 : PySem.W.isFn K (.ref f29) = true)
    (l29 : K.lookup f29 = some ⟨oc29, od29, .func (PySem.W.fnX "start" "CarefulPatch.start" (defArgs s_CarefulPatch_start) (defBody s_CarefulPatch_start) (defScope s_CarefulPatch_start) [("__class__", cc29)] .none kV29 dc29 pm29 an29 (.ref cda29) ct29), sl29⟩) (c29 : PySem.W.codeIn K (.ref cda29) "CarefulPatch.start" = true) (k29 : PySem.W.keepIn K (.ref f29) = true)
    (d29 : K.lookup cda29 = some ⟨ccl29, cdd29, .fields vs29, ccs29⟩) (v29 : vs29[2]? = some (.str fi29 tf29)) (fe29 : ((l.prog.main.file : Str) == fi29) = true) (e29 : K.lookup cc29 = some ⟨cl29, cld29, .cell (some (.ref CC)), csl29⟩) (x29 : PySem.W.clsIn K CC = some cdD29)
    (sm29 : PySem.W.ks_superIn K CC CC "start" = some (some (.ref f26))) (sy29 : PySem.W.typeIn K (.ref f26) = some (.type "function")) (sf29 : PySem.W.fnIn K f26 = true) (sb29 : PySem.W.mroIn K CC (.ref CC) = some true)
    {f30 cc30 cda30 : Addr} {oc30 kV30 dc30 pm30 ct30 ccl30 cl30 : Value} {od30 an30 cdd30 cld30 : Option Addr} {sl30 ccs30 csl30 : Array (Option Value)} {vs30 : Array Value} {fi30 : Str} {tf30 : Tok} {cdD30 : ClassData}
    (a30 : PySem.W.findIn K (.ref CS) "start" = some (some (.ref f30))) (i30 : PySem.W.isFn K (.ref f30) = true)
    (l30 : K.lookup f30 = some ⟨oc30, od30, .func (PySem.W.fnX "start" "StrictPatch.start" (defArgs s_StrictPatch_start) (defBody s_StrictPatch_start) (defScope s_StrictPatch_start) [("__class__", cc30)] .none kV30 dc30 pm30 an30 (.ref cda30) ct30), sl30⟩) (c30 : PySem.W.codeIn K (.ref cda30) "StrictPatch.start" = true) (k30 : PySem.W.keepIn K (.ref f30) = true)
    (d30 : K.lookup cda30 = some ⟨ccl30, cdd30, .fields vs30, ccs30⟩) (v30 : vs30[2]? = some (.str fi30 tf30)) (fe30 : ((l.prog.main.file : Str) == fi30) = true) (e30 : K.lookup cc30 = some ⟨cl30, cld30, .cell (some (.ref CS)), csl30⟩) (x30 : PySem.W.clsIn K CS = some cdD30)
    (sm30 : PySem.W.ks_superIn K CS CS "start" = some (some (.ref f26))) (sy30 : PySem.W.typeIn K (.ref f26) = some (.type "function")) (sf30 : PySem.W.fnIn K f26 = true) (sb30 : PySem.W.mroIn K CS (.ref CS) = some true)
    {f31 cc31 cda31 : Addr} {oc31 kV31 dc31 pm31 ct31 ccl31 cl31 : Value} {od31 an31 cdd31 cld31 : Option Addr} {sl31 ccs31 csl31 : Array (Option Value)} {vs31 : Array Value} {fi31 : Str} {tf31 : Tok} {cdD31 : ClassData}
    (a31 : PySem.W.findIn K (.ref CC) "stop" = some (some (.ref f31))) (i31 : PySem.W.isFn K (.ref f31) = true)
    (l31 : K.lookup f31 = some ⟨oc31, od31, .func (PySem.W.fnX "stop" "CarefulPatch.stop" (defArgs s_CarefulPatch_stop) (defBody s_CarefulPatch_stop) (defScope s_CarefulPatch_stop) [("__class__", cc31)] .none kV31 dc31 pm31 an31 (.ref cda31) ct31), sl31⟩) (c31 : PySem.W.codeIn K (.ref cda31) "CarefulPatch.stop" = true) (k31 : PySem.W.keepIn K (.ref f31) = true)
    (d31 : K.lookup cda31 = some ⟨ccl31, cdd31, .fields vs31, ccs31⟩) (v31 : vs31[2]? = some (.str fi31 tf31)) (fe31 : ((l.prog.main.file : Str) == fi31) = true) (e31 : K.lookup cc31 = some ⟨cl31, cld31, .cell (some (.ref CC)), csl31⟩) (x31 : PySem.W.clsIn K CC = some cdD31)
    (sm31 : PySem.W.ks_superIn K CC CC "stop" = some (some (.ref f27))) (sy31 : PySem.W.typeIn K (.ref f27) = some (.type "function")) (sf31 : PySem.W.fnIn K f27 = true) (sb31 : PySem.W.mroIn K CC (.ref CC) = some true)
    {f32 cc32 cda32 : Addr} {oc32 kV32 dc32 pm32 ct32 ccl32 cl32 : Value} {od32 an32 cdd32 cld32 : Option Addr} {sl32 ccs32 csl32 : Array (Option Value)} {vs32 : Array Value} {fi32 : Str} {tf32 : Tok} {cdD32 : ClassData}
    (a32 : PySem.W.findIn K (.ref CS) "stop" = some (some (.ref f32))) (i32 : PySem.W.isFn K (.ref f32) = true)
    (l32 : K.lookup f32 = some ⟨oc32, od32, .func (PySem.W.fnX "stop" "StrictPatch.stop" (defArgs s_StrictPatch_stop) (defBody s_StrictPatch_stop) (defScope s_StrictPatch_stop) [("__class__", cc32)] .none kV32 dc32 pm32 an32 (.ref cda32) ct32), sl32⟩) (c32 : PySem.W.codeIn K (.ref cda32) "StrictPatch.stop" = true) (k32 : PySem.W.keepIn K (.ref f32) = true)
    (d32 : K.lookup cda32 = some ⟨ccl32, cdd32, .fields vs32, ccs32⟩) (v32 : vs32[2]? = some (.str fi32 tf32)) (fe32 : ((l.prog.main.file : Str) == fi32) = true) (e32 : K.lookup cc32 = some ⟨cl32, cld32, .cell (some (.ref CS)), csl32⟩) (x32 : PySem.W.clsIn K CS = some cdD32)
    (sm32 : PySem.W.ks_superIn K CS CS "stop" = some (some (.ref f27))) (sy32 : PySem.W.typeIn K (.ref f27) = some (.type "function")) (sf32 : PySem.W.fnIn K f27 = true) (sb32 : PySem.W.mroIn K CS (.ref CS) = some true)
    {f33 cc33 cda33 : Addr} {oc33 kV33 dc33 pm33 ct33 ccl33 cl33 : Value} {od33 an33 cdd33 cld33 : Option Addr} {sl33 ccs33 csl33 : Array (Option Value)} {vs33 : Array Value} {fi33 : Str} {tf33 : Tok} {cdD33 : ClassData}
    (a33 : PySem.W.findIn K (.ref CC) "described" = some (some (.ref f33))) (i33 : PySem.W.isFn K (.ref f33) = true)
    (l33 : K.lookup f33 = some ⟨oc33, od33, .func (PySem.W.fnX "described" "CarefulPatch.described" (defArgs s_CarefulPatch_described) (defBody s_CarefulPatch_described) (defScope s_CarefulPatch_described) [("__class__", cc33)] .none kV33 dc33 pm33 an33 (.ref cda33) ct33), sl33⟩) (c33 : PySem.W.codeIn K (.ref cda33) "CarefulPatch.described" = true) (k33 : PySem.W.keepIn K (.ref f33) = true)
    (d33 : K.lookup cda33 = some ⟨ccl33, cdd33, .fields vs33, ccs33⟩) (v33 : vs33[2]? = some (.str fi33 tf33)) (fe33 : ((l.prog.main.file : Str) == fi33) = true) (e33 : K.lookup cc33 = some ⟨cl33, cld33, .cell (some (.ref CC)), csl33⟩) (x33 : PySem.W.clsIn K CC = some cdD33)
    (sm33 : PySem.W.ks_superIn K CC CC "described" = some (some (.ref f28))) (sy33 : PySem.W.typeIn K (.ref f28) = some (.type "function")) (sf33 : PySem.W.fnIn K f28 = true) (sb33 : PySem.W.mroIn K CC (.ref CC) = some true)
    {f34 cc34 cda34 : Addr} {oc34 kV34 dc34 pm34 ct34 ccl34 cl34 : Value} {od34 an34 cdd34 cld34 : Option Addr} {sl34 ccs34 csl34 : Array (Option Value)} {vs34 : Array Value} {fi34 : Str} {tf34 : Tok} {cdD34 : ClassData}
    (a34 : PySem.W.findIn K (.ref CS) "described" = some (some (.ref f34))) (i34 : PySem.W.isFn K (.ref f34) = true)
    (l34 : K.lookup f34 = some ⟨oc34, od34, .func (PySem.W.fnX "described" "StrictPatch.described" (defArgs s_StrictPatch_described) (defBody s_StrictPatch_described) (defScope s_StrictPatch_described) [("__class__", cc34)] .none kV34 dc34 pm34 an34 (.ref cda34) ct34), sl34⟩) (c34 : PySem.W.codeIn K (.ref cda34) "StrictPatch.described" = true) (k34 : PySem.W.keepIn K (.ref f34) = true)
    (d34 : K.lookup cda34 = some ⟨ccl34, cdd34, .fields vs34, ccs34⟩) (v34 : vs34[2]? = some (.str fi34 tf34)) (fe34 : ((l.prog.main.file : Str) == fi34) = true) (e34 : K.lookup cc34 = some ⟨cl34, cld34, .cell (some (.ref CS)), csl34⟩) (x34 : PySem.W.clsIn K CS = some cdD34)
    (sm34 : PySem.W.ks_superIn K CS CS "described" = some (some (.ref f28))) (sy34 : PySem.W.typeIn K (.ref f28) = some (.type "function")) (sf34 : PySem.W.fnIn K f28 = true) (sb34 : PySem.W.mroIn K CS (.ref CS) = some true)
    {f35 T35 : Addr} {oc35 kV35 dc35 pm35 cd35 ct35 tc35 : Value} {od35 an35 td35 : Option Addr} {sl35 tsl35 : Array (Option Value)} {tk35 : Tok} {tn35 : Nat}
    (a35 : PySem.W.findIn K (.ref CG) "__init__" = some (some (.ref f35))) (i35 : PySem.W.isFn K (.ref f35) = true)
    (l35 : K.lookup f35 = some ⟨oc35, od35, .func (PySem.W.fnOf "__init__" "Setting.__init__" (defArgs s_Setting_init) (defBody s_Setting_init) (defScope s_Setting_init) (.ref T35) kV35 dc35 pm35 an35 cd35 ct35), sl35⟩) (c35 : PySem.W.codeIn K cd35 "Setting.__init__" = true) (k35 : PySem.W.keepIn K (.ref f35) = true)
    (lt35 : K.lookup T35 = some ⟨tc35, td35, .seq #[.int 0 tk35] tn35, tsl35⟩)
    {f36 : Addr} {oc36 kV36 dc36 pm36 cd36 ct36 : Value} {od36 an36 : Option Addr} {sl36 : Array (Option Value)}
    {p36 : Addr} {rest36 : List Value} (a36 : PySem.W.findIn K (.ref CG) "integer" = some (some (.ref p36))) (pg36 : PySem.W.specialIn K (.ref p36) "__get__" = some (some (.builtin "property.__get__"))) (pt36 : PySem.W.takesIn K (.ref p36) = some true) (pr36 : PySem.W.recIn K p36 "property" = some (.ref f36 :: rest36)) (l36 : K.lookup f36 = some ⟨oc36, od36, .func (PySem.W.fnOf "integer" "Setting.integer" (defArgs s_Setting_integer) (defBody s_Setting_integer) (defScope s_Setting_integer) .none kV36 dc36 pm36 an36 cd36 ct36), sl36⟩) (c36 : PySem.W.codeIn K cd36 "Setting.integer" = true) (k36 : PySem.W.keepIn K (.ref f36) = true)
    {f37 : Addr} {oc37 kV37 dc37 pm37 cd37 ct37 : Value} {od37 an37 : Option Addr} {sl37 : Array (Option Value)}
    {p37 : Addr} {rest37 : List Value} (a37 : PySem.W.findIn K (.ref CG) "present" = some (some (.ref p37))) (pg37 : PySem.W.specialIn K (.ref p37) "__get__" = some (some (.builtin "property.__get__"))) (pt37 : PySem.W.takesIn K (.ref p37) = some true) (pr37 : PySem.W.recIn K p37 "property" = some (.ref f37 :: rest37)) (l37 : K.lookup f37 = some ⟨oc37, od37, .func (PySem.W.fnOf "present" "Setting.present" (defArgs s_Setting_present) (defBody s_Setting_present) (defScope s_Setting_present) .none kV37 dc37 pm37 an37 cd37 ct37), sl37⟩) (c37 : PySem.W.codeIn K cd37 "Setting.present" = true) (k37 : PySem.W.keepIn K (.ref f37) = true)
    {f38 : Addr} {oc38 kV38 dc38 pm38 cd38 ct38 : Value} {od38 an38 : Option Addr} {sl38 : Array (Option Value)}
    {p38 : Addr} {rest38 : List Value} (a38 : PySem.W.findIn K (.ref CG) "events" = some (some (.ref p38))) (pg38 : PySem.W.specialIn K (.ref p38) "__get__" = some (some (.builtin "property.__get__"))) (pt38 : PySem.W.takesIn K (.ref p38) = some true) (pr38 : PySem.W.recIn K p38 "property" = some (.ref f38 :: rest38)) (l38 : K.lookup f38 = some ⟨oc38, od38, .func (PySem.W.fnOf "events" "Setting.events" (defArgs s_Setting_events) (defBody s_Setting_events) (defScope s_Setting_events) .none kV38 dc38 pm38 an38 cd38 ct38), sl38⟩) (c38 : PySem.W.codeIn K cd38 "Setting.events" = true) (k38 : PySem.W.keepIn K (.ref f38) = true)
    {f39 : Addr} {oc39 kV39 dc39 pm39 cd39 ct39 : Value} {od39 an39 : Option Addr} {sl39 : Array (Option Value)}
    {p39 : Addr} {rest39 : List Value} (a39 : PySem.W.findIn K (.ref CG) "original" = some (some (.ref p39))) (pg39 : PySem.W.specialIn K (.ref p39) "__get__" = some (some (.builtin "property.__get__"))) (pt39 : PySem.W.takesIn K (.ref p39) = some true) (pr39 : PySem.W.recIn K p39 "property" = some (.ref f39 :: rest39)) (l39 : K.lookup f39 = some ⟨oc39, od39, .func (PySem.W.fnOf "original" "Setting.original" (defArgs s_Setting_original) (defBody s_Setting_original) (defScope s_Setting_original) .none kV39 dc39 pm39 an39 cd39 ct39), sl39⟩) (c39 : PySem.W.codeIn K cd39 "Setting.original" = true) (k39 : PySem.W.keepIn K (.ref f39) = true)
    {f40 : Addr} {oc40 kV40 dc40 pm40 cd40 ct40 : Value} {od40 an40 : Option Addr} {sl40 : Array (Option Value)}
    (a40 : PySem.W.findIn K (.ref CG) "__len__" = some (some (.ref f40))) (i40 : PySem.W.isFn K (.ref f40) = true) (l40 : K.lookup f40 = some ⟨oc40, od40, .func (PySem.W.fnOf "__len__" "Setting.__len__" (defArgs s_Setting_len) (defBody s_Setting_len) (defScope s_Setting_len) .none kV40 dc40 pm40 an40 cd40 ct40), sl40⟩) (c40 : PySem.W.codeIn K cd40 "Setting.__len__" = true) (k40 : PySem.W.keepIn K (.ref f40) = true)
    {f41 : Addr} {oc41 kV41 dc41 pm41 cd41 ct41 : Value} {od41 an41 : Option Addr} {sl41 : Array (Option Value)}
    (a41 : PySem.W.findIn K (.ref CG) "_enlist" = some (some (.ref f41))) (i41 : PySem.W.isFn K (.ref f41) = true) (l41 : K.lookup f41 = some ⟨oc41, od41, .func (PySem.W.fnOf "_enlist" "Setting._enlist" (defArgs s_Setting_enlist) (defBody s_Setting_enlist) (defScope s_Setting_enlist) .none kV41 dc41 pm41 an41 cd41 ct41), sl41⟩) (c41 : PySem.W.codeIn K cd41 "Setting._enlist" = true) (k41 : PySem.W.keepIn K (.ref f41) = true)
    {f42 : Addr} {oc42 kV42 dc42 pm42 cd42 ct42 : Value} {od42 an42 : Option Addr} {sl42 : Array (Option Value)}
    (a42 : PySem.W.findIn K (.ref CG) "_keep" = some (some (.ref f42))) (i42 : PySem.W.isFn K (.ref f42) = true) (l42 : K.lookup f42 = some ⟨oc42, od42, .func (PySem.W.fnOf "_keep" "Setting._keep" (defArgs s_Setting_keep) (defBody s_Setting_keep) (defScope s_Setting_keep) .none kV42 dc42 pm42 an42 cd42 ct42), sl42⟩) (c42 : PySem.W.codeIn K cd42 "Setting._keep" = true) (k42 : PySem.W.keepIn K (.ref f42) = true)
    {f43 : Addr} {oc43 kV43 dc43 pm43 cd43 ct43 : Value} {od43 an43 : Option Addr} {sl43 : Array (Option Value)}
    (a43 : PySem.W.findIn K (.ref CG) "patch" = some (some (.ref f43))) (i43 : PySem.W.isFn K (.ref f43) = true) (l43 : K.lookup f43 = some ⟨oc43, od43, .func (PySem.W.fnOf "patch" "Setting.patch" (defArgs s_Setting_patch) (defBody s_Setting_patch) (defScope s_Setting_patch) .none kV43 dc43 pm43 an43 cd43 ct43), sl43⟩) (c43 : PySem.W.codeIn K cd43 "Setting.patch" = true) (k43 : PySem.W.keepIn K (.ref f43) = true)
    {f44 : Addr} {oc44 kV44 dc44 pm44 cd44 ct44 : Value} {od44 an44 : Option Addr} {sl44 : Array (Option Value)}
    (a44 : PySem.W.findIn K (.ref CG) "careful" = some (some (.ref f44))) (i44 : PySem.W.isFn K (.ref f44) = true) (l44 : K.lookup f44 = some ⟨oc44, od44, .func (PySem.W.fnOf "careful" "Setting.careful" (defArgs s_Setting_careful) (defBody s_Setting_careful) (defScope s_Setting_careful) .none kV44 dc44 pm44 an44 cd44 ct44), sl44⟩) (c44 : PySem.W.codeIn K cd44 "Setting.careful" = true) (k44 : PySem.W.keepIn K (.ref f44) = true)
    {f45 : Addr} {oc45 kV45 dc45 pm45 cd45 ct45 : Value} {od45 an45 : Option Addr} {sl45 : Array (Option Value)}
    (a45 : PySem.W.findIn K (.ref CG) "strict" = some (some (.ref f45))) (i45 : PySem.W.isFn K (.ref f45) = true) (l45 : K.lookup f45 = some ⟨oc45, od45, .func (PySem.W.fnOf "strict" "Setting.strict" (defArgs s_Setting_strict) (defBody s_Setting_strict) (defScope s_Setting_strict) .none kV45 dc45 pm45 an45 cd45 ct45), sl45⟩) (c45 : PySem.W.codeIn K cd45 "Setting.strict" = true) (k45 : PySem.W.keepIn K (.ref f45) = true)
    {f46 : Addr} {oc46 kV46 dc46 pm46 cd46 ct46 : Value} {od46 an46 : Option Addr} {sl46 : Array (Option Value)}
    (a46 : PySem.W.findIn K (.ref CG) "undo" = some (some (.ref f46))) (i46 : PySem.W.isFn K (.ref f46) = true) (l46 : K.lookup f46 = some ⟨oc46, od46, .func (PySem.W.fnOf "undo" "Setting.undo" (defArgs s_Setting_undo) (defBody s_Setting_undo) (defScope s_Setting_undo) .none kV46 dc46 pm46 an46 cd46 ct46), sl46⟩) (c46 : PySem.W.codeIn K cd46 "Setting.undo" = true) (k46 : PySem.W.keepIn K (.ref f46) = true)
    {f47 : Addr} {oc47 kV47 dc47 pm47 cd47 ct47 : Value} {od47 an47 : Option Addr} {sl47 : Array (Option Value)}
    (a47 : PySem.W.nsIn K mainGlobals "_law_source" = some (some (.ref f47))) (l47 : K.lookup f47 = some ⟨oc47, od47, .func (PySem.W.fnOf "_law_source" "_law_source" (defArgs s_law_source) (defBody s_law_source) (defScope s_law_source) .none kV47 dc47 pm47 an47 cd47 ct47), sl47⟩) (c47 : PySem.W.codeIn K cd47 "_law_source" = true) (k47 : PySem.W.keepIn K (.ref f47) = true)
    {f48 : Addr} {oc48 kV48 dc48 pm48 cd48 ct48 : Value} {od48 an48 : Option Addr} {sl48 : Array (Option Value)}
    (a48 : PySem.W.nsIn K mainGlobals "_law_draw" = some (some (.ref f48))) (l48 : K.lookup f48 = some ⟨oc48, od48, .func (PySem.W.fnOf "_law_draw" "_law_draw" (defArgs s_law_draw) (defBody s_law_draw) (defScope s_law_draw) .none kV48 dc48 pm48 an48 cd48 ct48), sl48⟩) (c48 : PySem.W.codeIn K cd48 "_law_draw" = true) (k48 : PySem.W.keepIn K (.ref f48) = true)
    {f49 : Addr} {oc49 kV49 dc49 pm49 cd49 ct49 : Value} {od49 an49 : Option Addr} {sl49 : Array (Option Value)}
    (a49 : PySem.W.nsIn K mainGlobals "_law_cells" = some (some (.ref f49))) (l49 : K.lookup f49 = some ⟨oc49, od49, .func (PySem.W.fnOf "_law_cells" "_law_cells" (defArgs s_law_cells) (defBody s_law_cells) (defScope s_law_cells) .none kV49 dc49 pm49 an49 cd49 ct49), sl49⟩) (c49 : PySem.W.codeIn K cd49 "_law_cells" = true) (k49 : PySem.W.keepIn K (.ref f49) = true)
    {f50 : Addr} {oc50 kV50 dc50 pm50 cd50 ct50 : Value} {od50 an50 : Option Addr} {sl50 : Array (Option Value)}
    (a50 : PySem.W.nsIn K mainGlobals "_law_same" = some (some (.ref f50))) (l50 : K.lookup f50 = some ⟨oc50, od50, .func (PySem.W.fnOf "_law_same" "_law_same" (defArgs s_law_same) (defBody s_law_same) (defScope s_law_same) .none kV50 dc50 pm50 an50 cd50 ct50), sl50⟩) (c50 : PySem.W.codeIn K cd50 "_law_same" = true) (k50 : PySem.W.keepIn K (.ref f50) = true)
    {f51 : Addr} {oc51 kV51 dc51 pm51 cd51 ct51 : Value} {od51 an51 : Option Addr} {sl51 : Array (Option Value)}
    (a51 : PySem.W.nsIn K mainGlobals "_law_later" = some (some (.ref f51))) (l51 : K.lookup f51 = some ⟨oc51, od51, .func (PySem.W.fnOf "_law_later" "_law_later" (defArgs s_law_later) (defBody s_law_later) (defScope s_law_later) .none kV51 dc51 pm51 an51 cd51 ct51), sl51⟩) (c51 : PySem.W.codeIn K cd51 "_law_later" = true) (k51 : PySem.W.keepIn K (.ref f51) = true)
    {f52 : Addr} {oc52 kV52 dc52 pm52 cd52 ct52 : Value} {od52 an52 : Option Addr} {sl52 : Array (Option Value)}
    (a52 : PySem.W.nsIn K mainGlobals "_law_due" = some (some (.ref f52))) (l52 : K.lookup f52 = some ⟨oc52, od52, .func (PySem.W.fnOf "_law_due" "_law_due" (defArgs s_law_due) (defBody s_law_due) (defScope s_law_due) .none kV52 dc52 pm52 an52 cd52 ct52), sl52⟩) (c52 : PySem.W.codeIn K cd52 "_law_due" = true) (k52 : PySem.W.keepIn K (.ref f52) = true)
    {f53 : Addr} {oc53 kV53 dc53 pm53 cd53 ct53 : Value} {od53 an53 : Option Addr} {sl53 : Array (Option Value)}
    (a53 : PySem.W.nsIn K mainGlobals "_law_seen" = some (some (.ref f53))) (l53 : K.lookup f53 = some ⟨oc53, od53, .func (PySem.W.fnOf "_law_seen" "_law_seen" (defArgs s_law_seen) (defBody s_law_seen) (defScope s_law_seen) .none kV53 dc53 pm53 an53 cd53 ct53), sl53⟩) (c53 : PySem.W.codeIn K cd53 "_law_seen" = true) (k53 : PySem.W.keepIn K (.ref f53) = true)
    {f54 : Addr} {oc54 kV54 dc54 pm54 cd54 ct54 : Value} {od54 an54 : Option Addr} {sl54 : Array (Option Value)}
    (a54 : PySem.W.nsIn K mainGlobals "_law_patches_right" = some (some (.ref f54))) (l54 : K.lookup f54 = some ⟨oc54, od54, .func (PySem.W.fnOf "_law_patches_right" "_law_patches_right" (defArgs s_law_patches_right) (defBody s_law_patches_right) (defScope s_law_patches_right) .none kV54 dc54 pm54 an54 cd54 ct54), sl54⟩) (c54 : PySem.W.codeIn K cd54 "_law_patches_right" = true) (k54 : PySem.W.keepIn K (.ref f54) = true)
    {f55 : Addr} {oc55 kV55 dc55 pm55 cd55 ct55 : Value} {od55 an55 : Option Addr} {sl55 : Array (Option Value)}
    (a55 : PySem.W.nsIn K mainGlobals "_law_made" = some (some (.ref f55))) (l55 : K.lookup f55 = some ⟨oc55, od55, .func (PySem.W.fnOf "_law_made" "_law_made" (defArgs s_law_made) (defBody s_law_made) (defScope s_law_made) .none kV55 dc55 pm55 an55 cd55 ct55), sl55⟩) (c55 : PySem.W.codeIn K cd55 "_law_made" = true) (k55 : PySem.W.keepIn K (.ref f55) = true)
    {f56 : Addr} {oc56 kV56 dc56 pm56 cd56 ct56 : Value} {od56 an56 : Option Addr} {sl56 : Array (Option Value)}
    (a56 : PySem.W.nsIn K mainGlobals "_law_event" = some (some (.ref f56))) (l56 : K.lookup f56 = some ⟨oc56, od56, .func (PySem.W.fnOf "_law_event" "_law_event" (defArgs s_law_event) (defBody s_law_event) (defScope s_law_event) .none kV56 dc56 pm56 an56 cd56 ct56), sl56⟩) (c56 : PySem.W.codeIn K cd56 "_law_event" = true) (k56 : PySem.W.keepIn K (.ref f56) = true)
    {f57 : Addr} {oc57 kV57 dc57 pm57 cd57 ct57 : Value} {od57 an57 : Option Addr} {sl57 : Array (Option Value)}
    (a57 : PySem.W.nsIn K mainGlobals "_law_pressed" = some (some (.ref f57))) (l57 : K.lookup f57 = some ⟨oc57, od57, .func (PySem.W.fnOf "_law_pressed" "_law_pressed" (defArgs s_law_pressed) (defBody s_law_pressed) (defScope s_law_pressed) .none kV57 dc57 pm57 an57 cd57 ct57), sl57⟩) (c57 : PySem.W.codeIn K cd57 "_law_pressed" = true) (k57 : PySem.W.keepIn K (.ref f57) = true)
    {f58 : Addr} {oc58 kV58 dc58 pm58 cd58 ct58 : Value} {od58 an58 : Option Addr} {sl58 : Array (Option Value)}
    (a58 : PySem.W.nsIn K mainGlobals "_law_long_right" = some (some (.ref f58))) (l58 : K.lookup f58 = some ⟨oc58, od58, .func (PySem.W.fnOf "_law_long_right" "_law_long_right" (defArgs s_law_long_right) (defBody s_law_long_right) (defScope s_law_long_right) .none kV58 dc58 pm58 an58 cd58 ct58), sl58⟩) (c58 : PySem.W.codeIn K cd58 "_law_long_right" = true) (k58 : PySem.W.keepIn K (.ref f58) = true)
    {f59 : Addr} {oc59 kV59 dc59 pm59 cd59 ct59 : Value} {od59 an59 : Option Addr} {sl59 : Array (Option Value)}
    (a59 : PySem.W.nsIn K mainGlobals "_law_all_right" = some (some (.ref f59))) (l59 : K.lookup f59 = some ⟨oc59, od59, .func (PySem.W.fnOf "_law_all_right" "_law_all_right" (defArgs s_law_all_right) (defBody s_law_all_right) (defScope s_law_all_right) .none kV59 dc59 pm59 an59 cd59 ct59), sl59⟩) (c59 : PySem.W.codeIn K cd59 "_law_all_right" = true) (k59 : PySem.W.keepIn K (.ref f59) = true)
    {f60 : Addr} {oc60 kV60 dc60 pm60 cd60 ct60 : Value} {od60 an60 : Option Addr} {sl60 : Array (Option Value)}
    (a60 : PySem.W.nsIn K mainGlobals "law" = some (some (.ref f60))) (l60 : K.lookup f60 = some ⟨oc60, od60, .func (PySem.W.fnOf "law" "law" (defArgs s_law) (defBody s_law) (defScope s_law) .none kV60 dc60 pm60 an60 cd60 ct60), sl60⟩) (c60 : PySem.W.codeIn K cd60 "law" = true) (k60 : PySem.W.keepIn K (.ref f60) = true)
    {t_FARTHEST : Tok} (g_FARTHEST : PySem.W.nsIn K mainGlobals "FARTHEST" = some (some (.int 1000000000000000000000000000000 t_FARTHEST)))
    (z_len : PySem.W.nsIn K mainGlobals "len" = some none)
    (z_list : PySem.W.nsIn K mainGlobals "list" = some none)
    (z_int : PySem.W.nsIn K mainGlobals "int" = some none)
    (z_bool : PySem.W.nsIn K mainGlobals "bool" = some none)
    (z_str : PySem.W.nsIn K mainGlobals "str" = some none)
    (z_tuple : PySem.W.nsIn K mainGlobals "tuple" = some none)
    (z_max : PySem.W.nsIn K mainGlobals "max" = some none)
    (z_min : PySem.W.nsIn K mainGlobals "min" = some none)
    (z_range : PySem.W.nsIn K mainGlobals "range" = some none)
    (z_repr : PySem.W.nsIn K mainGlobals "repr" = some none)
    (z_isinstance : PySem.W.nsIn K mainGlobals "isinstance" = some none)
    (z_type : PySem.W.nsIn K mainGlobals "type" = some none)
    (z_all : PySem.W.nsIn K mainGlobals "all" = some none)
    (z_set : PySem.W.nsIn K mainGlobals "set" = some none)
    (z_zip : PySem.W.nsIn K mainGlobals "zip" = some none)
    (z_enumerate : PySem.W.nsIn K mainGlobals "enumerate" = some none)
    (z_sorted : PySem.W.nsIn K mainGlobals "sorted" = some none)
    (z_abs : PySem.W.nsIn K mainGlobals "abs" = some none)
    (z_super : PySem.W.nsIn K mainGlobals "super" = some none)
    (z_dict : PySem.W.nsIn K mainGlobals "dict" = some none)
    {eS : Addr} (geS : PySem.W.nsIn K mainGlobals "StartedError" = some (some (.ref eS)))
    (xeS : PySem.W.excIn K eS [.type "ValueError", .type "Exception", .type "BaseException", .type "object"] "ValueError.__new__" = true)
    (keS : PySem.W.keepIn K (.ref eS) = true)
    (beS : PySem.W.subIn K (.ref eS) (.type "BaseException") = some true)
    (teS : PySem.W.typeIn K (.ref eS) = some (.type "type"))
    {eR : Addr} (geR : PySem.W.nsIn K mainGlobals "NotRunningError" = some (some (.ref eR)))
    (xeR : PySem.W.excIn K eR [.type "ValueError", .type "Exception", .type "BaseException", .type "object"] "ValueError.__new__" = true)
    (keR : PySem.W.keepIn K (.ref eR) = true)
    (beR : PySem.W.subIn K (.ref eR) (.type "BaseException") = some true)
    (teR : PySem.W.typeIn K (.ref eR) = some (.type "type"))
    {eO : Addr} (geO : PySem.W.nsIn K mainGlobals "OutOfOrderError" = some (some (.ref eO)))
    (xeO : PySem.W.excIn K eO [.type "ValueError", .type "Exception", .type "BaseException", .type "object"] "ValueError.__new__" = true)
    (keO : PySem.W.keepIn K (.ref eO) = true)
    (beO : PySem.W.subIn K (.ref eO) (.type "BaseException") = some true)
    (teO : PySem.W.typeIn K (.ref eO) = some (.type "type"))
    {eF : Addr} (geF : PySem.W.nsIn K mainGlobals "FullError" = some (some (.ref eF)))
    (xeF : PySem.W.excIn K eF [.type "ValueError", .type "Exception", .type "BaseException", .type "object"] "ValueError.__new__" = true)
    (keF : PySem.W.keepIn K (.ref eF) = true)
    (beF : PySem.W.subIn K (.ref eF) (.type "BaseException") = some true)
    (teF : PySem.W.typeIn K (.ref eF) = some (.type "type"))
    {eE : Addr} (geE : PySem.W.nsIn K mainGlobals "EmptyHistoryError" = some (some (.ref eE)))
    (xeE : PySem.W.excIn K eE [.type "ValueError", .type "Exception", .type "BaseException", .type "object"] "ValueError.__new__" = true)
    (keE : PySem.W.keepIn K (.ref eE) = true)
    (beE : PySem.W.subIn K (.ref eE) (.type "BaseException") = some true)
    (teE : PySem.W.typeIn K (.ref eE) = some (.type "type"))
    (seSeS : PySem.W.subIn K (.ref eS) (.ref eS) = some true)
    (seReS : PySem.W.subIn K (.ref eR) (.ref eS) = some false)
    (seReR : PySem.W.subIn K (.ref eR) (.ref eR) = some true)
    (seOeS : PySem.W.subIn K (.ref eO) (.ref eS) = some false)
    (seOeR : PySem.W.subIn K (.ref eO) (.ref eR) = some false)
    (seOeO : PySem.W.subIn K (.ref eO) (.ref eO) = some true)
    (tp : (l.prog.main.scope.names.lookup ("super" : Str)).isSome = false)
    (sop : PySem.W.nsIn K cStatics "thirdparty.any" = some none)
    (crd : PySem.W.readsIn K CG (.type "type") = true)
    (cga : PySem.W.specialIn K (.ref CG) "__getattribute__" = some (some (.builtin "type.__getattribute__")))
    {tkM : Tok} (cat : PySem.W.findCls K (.ref CG) (.type "type") "MOST" = some (.val (.int 100 tkM)))
    (inCC : PySem.W.findIn K (.ref CC) "__init__" = some (some (.ref f10)))
    (inCS : PySem.W.findIn K (.ref CS) "__init__" = some (some (.ref f10))) :
    ∃ fd : FuncData, (∀ (s : Shared) (v : Value), BindsTo s fd ⟨[v], []⟩ [("script", v)]) ∧ ∀ base : Heap, K.In base → base.Ns mainGlobals mg → FnG l.prog w K mg base CX0 9 fa fd ["script"] (spLaw K) := by
  have e := hfa.symm.trans (PySem.W.mg_of X G a60)
  cases e
  have B : NoB mg := ⟨PySem.W.mg_none_of X G z_len, PySem.W.mg_none_of X G z_list, PySem.W.mg_none_of X G z_int, PySem.W.mg_none_of X G z_bool, PySem.W.mg_none_of X G z_str, PySem.W.mg_none_of X G z_tuple, PySem.W.mg_none_of X G z_max, PySem.W.mg_none_of X G z_min, PySem.W.mg_none_of X G z_range, PySem.W.mg_none_of X G z_repr, PySem.W.mg_none_of X G z_isinstance, PySem.W.mg_none_of X G z_type, PySem.W.mg_none_of X G z_all, PySem.W.mg_none_of X G z_set, PySem.W.mg_none_of X G z_zip, PySem.W.mg_none_of X G z_enumerate, PySem.W.mg_none_of X G z_sorted, PySem.W.mg_none_of X G z_abs⟩
  have clCR : Cls K CR := ⟨pgCR, hdCR, poCR, saCR⟩
  have clCP : Cls K CP := ⟨pgCP, hdCP, poCP, saCP⟩
  have clCC : Cls K CC := ⟨pgCC, hdCC, poCC, saCC⟩
  have clCS : Cls K CS := ⟨pgCS, hdCS, poCS, saCS⟩
  have clCG : Cls K CG := ⟨pgCG, hdCG, poCG, saCG⟩
  have T : TxtL K CR CP CC CS CG := ⟨clCR, clCP, clCC, clCS, clCG, nCR0, nCR1, nCR2, nCP0, nCP1, nCC0, nCC1, nCS0, nCS1, nCG0, nCG1⟩
  have RS : Er K mg "StartedError" eS := ⟨PySem.W.mg_of X G geS, xeS, keS, beS, teS⟩
  have RR : Er K mg "NotRunningError" eR := ⟨PySem.W.mg_of X G geR, xeR, keR, beR, teR⟩
  have RO : Er K mg "OutOfOrderError" eO := ⟨PySem.W.mg_of X G geO, xeO, keO, beO, teO⟩
  have RF : Er K mg "FullError" eF := ⟨PySem.W.mg_of X G geF, xeF, keF, beF, teF⟩
  have RE : Er K mg "EmptyHistoryError" eE := ⟨PySem.W.mg_of X G geE, xeE, keE, beE, teE⟩
  have X3 : Ex3 K eS eR eO := ⟨exm_own xeS beS teS seSeS, exm_own xeS beS teS seReS, exm_own xeR beR teR seReR, exm_own xeS beS teS seOeS, exm_own xeR beR teR seOeR, exm_own xeO beO teO seOeO⟩
  have F0 := fun_mk (st := s_is_integer) l0 c0 k0
  have b0 := F0.binds (ps := ["value"]) fun _ _ _ _ _ _ us hl => match us, hl with | [_], _ => rfl
  have F1 := fun_mk (st := s_is_integer_within) l1 c1 k1
  have b1 := F1.binds (ps := ["value", "least", "greatest"]) fun _ _ _ _ _ _ us hl => match us, hl with | [_, _, _], _ => rfl
  have F2 := fun_mk (st := s_check_number) l2 c2 k2
  have b2 := F2.binds (ps := ["value", "least", "greatest"]) fun _ _ _ _ _ _ us hl => match us, hl with | [_, _, _], _ => rfl
  have F3 := fun_mk (st := s_check_settable) l3 c3 k3
  have b3 := F3.binds (ps := ["value"]) fun _ _ _ _ _ _ us hl => match us, hl with | [_], _ => rfl
  have F4 := fun_mk (st := s_Record_init) l4 c4 k4
  have b4 := F4.binds (ps := ["self", "integers", "past", "presents"]) fun _ _ _ _ _ _ us hl => match us, hl with | [_, _, _, _], _ => rfl
  have F5 := fun_mk (st := s_Record_integer_now) l5 c5 k5
  have b5 := F5.binds (ps := ["self"]) fun _ _ _ _ _ _ us hl => match us, hl with | [_], _ => rfl
  have F6 := fun_mk (st := s_Record_found_by) l6 c6 k6
  have b6 := F6.binds (ps := ["self", "number"]) fun _ _ _ _ _ _ us hl => match us, hl with | [_, _], _ => rfl
  have F7 := fun_mk (st := s_Record_is_running) l7 c7 k7
  have b7 := F7.binds (ps := ["self", "number"]) fun _ _ _ _ _ _ us hl => match us, hl with | [_, _], _ => rfl
  have F8 := fun_mk (st := s_Record_go_on_by) l8 c8 k8
  have b8 := F8.binds (ps := ["self", "event", "present"]) fun _ _ _ _ _ _ us hl => match us, hl with | [_, _, _], _ => rfl
  have F9 := fun_mk (st := s_Record_go_back) l9 c9 k9
  have b9 := F9.binds (ps := ["self"]) fun _ _ _ _ _ _ us hl => match us, hl with | [_], _ => rfl
  have F10 := fun_mk (st := s_Patch_init) l10 c10 k10
  have b10 := F10.binds (ps := ["self", "record", "number"]) fun _ _ _ _ _ _ us hl => match us, hl with | [_, _, _], _ => rfl
  have F11 := fun_mk (st := s_Patch_number) l11 c11 k11
  have b11 := F11.binds (ps := ["self"]) fun _ _ _ _ _ _ us hl => match us, hl with | [_], _ => rfl
  have F12 := fun_mk (st := s_CarefulPatch_number) l12 c12 k12
  have b12 := F12.binds (ps := ["self"]) fun _ _ _ _ _ _ us hl => match us, hl with | [_], _ => rfl
  have F13 := fun_mk (st := s_StrictPatch_number) l13 c13 k13
  have b13 := F13.binds (ps := ["self"]) fun _ _ _ _ _ _ us hl => match us, hl with | [_], _ => rfl
  have F14 := fun_mk (st := s_Patch_integer) l14 c14 k14
  have b14 := F14.binds (ps := ["self"]) fun _ _ _ _ _ _ us hl => match us, hl with | [_], _ => rfl
  have F15 := fun_mk (st := s_CarefulPatch_integer) l15 c15 k15
  have b15 := F15.binds (ps := ["self"]) fun _ _ _ _ _ _ us hl => match us, hl with | [_], _ => rfl
  have F16 := fun_mk (st := s_StrictPatch_integer) l16 c16 k16
  have b16 := F16.binds (ps := ["self"]) fun _ _ _ _ _ _ us hl => match us, hl with | [_], _ => rfl
  have F17 := fun_mk (st := s_Patch_saved) l17 c17 k17
  have b17 := F17.binds (ps := ["self"]) fun _ _ _ _ _ _ us hl => match us, hl with | [_], _ => rfl
  have F18 := fun_mk (st := s_CarefulPatch_saved) l18 c18 k18
  have b18 := F18.binds (ps := ["self"]) fun _ _ _ _ _ _ us hl => match us, hl with | [_], _ => rfl
  have F19 := fun_mk (st := s_StrictPatch_saved) l19 c19 k19
  have b19 := F19.binds (ps := ["self"]) fun _ _ _ _ _ _ us hl => match us, hl with | [_], _ => rfl
  have F20 := fun_mk (st := s_Patch_runs) l20 c20 k20
  have b20 := F20.binds (ps := ["self"]) fun _ _ _ _ _ _ us hl => match us, hl with | [_], _ => rfl
  have F21 := fun_mk (st := s_CarefulPatch_runs) l21 c21 k21
  have b21 := F21.binds (ps := ["self"]) fun _ _ _ _ _ _ us hl => match us, hl with | [_], _ => rfl
  have F22 := fun_mk (st := s_StrictPatch_runs) l22 c22 k22
  have b22 := F22.binds (ps := ["self"]) fun _ _ _ _ _ _ us hl => match us, hl with | [_], _ => rfl
  have F23 := fun_mk (st := s_Patch_left_by_stop) l23 c23 k23
  have b23 := F23.binds (ps := ["self", "record"]) fun _ _ _ _ _ _ us hl => match us, hl with | [_, _], _ => rfl
  have FS24 : FunS K "left_by_stop" "CarefulPatch.left_by_stop" s_CarefulPatch_left_by_stop f24 cc24 cda24 _ := ⟨⟨_, _, _, _, _, _, _, _, rfl, l24, c24⟩, k24⟩
  have Z24 : SupF l.prog K mg "left_by_stop" "CarefulPatch.left_by_stop" s_CarefulPatch_left_by_stop f24 cc24 cda24 CC _ := ⟨FS24, ⟨_, _, _, _, _, _, d24, v24, fe24⟩, ⟨_, _, _, e24⟩, ⟨_, x24⟩, PySem.W.mg_none_of X G z_super, tp⟩
  have SM24 : SupM K CC "left_by_stop" f23 := ⟨sm24, sy24, sf24, sb24, sop⟩
  have b24 : Binds K (PySem.W.fnX "left_by_stop" "CarefulPatch.left_by_stop" (defArgs s_CarefulPatch_left_by_stop) (defBody s_CarefulPatch_left_by_stop) (defScope s_CarefulPatch_left_by_stop) [("__class__", cc24)] .none kV24 dc24 pm24 an24 (.ref cda24) ct24) ["self", "record"] [] := fun s us X hl => by
    have h : us.length = 2 := by simpa using hl
    match us, h with
    | [_, _], _ => exact BindsTo.of_eq rfl
  have FS25 : FunS K "left_by_stop" "StrictPatch.left_by_stop" s_StrictPatch_left_by_stop f25 cc25 cda25 _ := ⟨⟨_, _, _, _, _, _, _, _, rfl, l25, c25⟩, k25⟩
  have Z25 : SupF l.prog K mg "left_by_stop" "StrictPatch.left_by_stop" s_StrictPatch_left_by_stop f25 cc25 cda25 CS _ := ⟨FS25, ⟨_, _, _, _, _, _, d25, v25, fe25⟩, ⟨_, _, _, e25⟩, ⟨_, x25⟩, PySem.W.mg_none_of X G z_super, tp⟩
  have SM25 : SupM K CS "left_by_stop" f23 := ⟨sm25, sy25, sf25, sb25, sop⟩
  have b25 : Binds K (PySem.W.fnX "left_by_stop" "StrictPatch.left_by_stop" (defArgs s_StrictPatch_left_by_stop) (defBody s_StrictPatch_left_by_stop) (defScope s_StrictPatch_left_by_stop) [("__class__", cc25)] .none kV25 dc25 pm25 an25 (.ref cda25) ct25) ["self", "record"] [] := fun s us X hl => by
    have h : us.length = 2 := by simpa using hl
    match us, h with
    | [_, _], _ => exact BindsTo.of_eq rfl
  have F26 := fun_mk (st := s_Patch_start) l26 c26 k26
  have b26 := F26.binds (ps := ["self"]) fun _ _ _ _ _ _ us hl => match us, hl with | [_], _ => rfl
  have F27 := fun_mk (st := s_Patch_stop) l27 c27 k27
  have b27 := F27.binds (ps := ["self"]) fun _ _ _ _ _ _ us hl => match us, hl with | [_], _ => rfl
  have F28 := fun_mk (st := s_Patch_described) l28 c28 k28
  have b28 := F28.binds (ps := ["self"]) fun _ _ _ _ _ _ us hl => match us, hl with | [_], _ => rfl
  have FS29 : FunS K "start" "CarefulPatch.start" s_CarefulPatch_start f29 cc29 cda29 _ := ⟨⟨_, _, _, _, _, _, _, _, rfl, l29, c29⟩, k29⟩
  have Z29 : SupF l.prog K mg "start" "CarefulPatch.start" s_CarefulPatch_start f29 cc29 cda29 CC _ := ⟨FS29, ⟨_, _, _, _, _, _, d29, v29, fe29⟩, ⟨_, _, _, e29⟩, ⟨_, x29⟩, PySem.W.mg_none_of X G z_super, tp⟩
  have SM29 : SupM K CC "start" f26 := ⟨sm29, sy29, sf29, sb29, sop⟩
  have b29 : Binds K (PySem.W.fnX "start" "CarefulPatch.start" (defArgs s_CarefulPatch_start) (defBody s_CarefulPatch_start) (defScope s_CarefulPatch_start) [("__class__", cc29)] .none kV29 dc29 pm29 an29 (.ref cda29) ct29) ["self"] [] := fun s us X hl => by
    have h : us.length = 1 := by simpa using hl
    match us, h with
    | [_], _ => exact BindsTo.of_eq rfl
  have FS30 : FunS K "start" "StrictPatch.start" s_StrictPatch_start f30 cc30 cda30 _ := ⟨⟨_, _, _, _, _, _, _, _, rfl, l30, c30⟩, k30⟩
  have Z30 : SupF l.prog K mg "start" "StrictPatch.start" s_StrictPatch_start f30 cc30 cda30 CS _ := ⟨FS30, ⟨_, _, _, _, _, _, d30, v30, fe30⟩, ⟨_, _, _, e30⟩, ⟨_, x30⟩, PySem.W.mg_none_of X G z_super, tp⟩
  have SM30 : SupM K CS "start" f26 := ⟨sm30, sy30, sf30, sb30, sop⟩
  have b30 : Binds K (PySem.W.fnX "start" "StrictPatch.start" (defArgs s_StrictPatch_start) (defBody s_StrictPatch_start) (defScope s_StrictPatch_start) [("__class__", cc30)] .none kV30 dc30 pm30 an30 (.ref cda30) ct30) ["self"] [] := fun s us X hl => by
    have h : us.length = 1 := by simpa using hl
    match us, h with
    | [_], _ => exact BindsTo.of_eq rfl
  have FS31 : FunS K "stop" "CarefulPatch.stop" s_CarefulPatch_stop f31 cc31 cda31 _ := ⟨⟨_, _, _, _, _, _, _, _, rfl, l31, c31⟩, k31⟩
  have Z31 : SupF l.prog K mg "stop" "CarefulPatch.stop" s_CarefulPatch_stop f31 cc31 cda31 CC _ := ⟨FS31, ⟨_, _, _, _, _, _, d31, v31, fe31⟩, ⟨_, _, _, e31⟩, ⟨_, x31⟩, PySem.W.mg_none_of X G z_super, tp⟩
  have SM31 : SupM K CC "stop" f27 := ⟨sm31, sy31, sf31, sb31, sop⟩
  have b31 : Binds K (PySem.W.fnX "stop" "CarefulPatch.stop" (defArgs s_CarefulPatch_stop) (defBody s_CarefulPatch_stop) (defScope s_CarefulPatch_stop) [("__class__", cc31)] .none kV31 dc31 pm31 an31 (.ref cda31) ct31) ["self"] [] := fun s us X hl => by
    have h : us.length = 1 := by simpa using hl
    match us, h with
    | [_], _ => exact BindsTo.of_eq rfl
  have FS32 : FunS K "stop" "StrictPatch.stop" s_StrictPatch_stop f32 cc32 cda32 _ := ⟨⟨_, _, _, _, _, _, _, _, rfl, l32, c32⟩, k32⟩
  have Z32 : SupF l.prog K mg "stop" "StrictPatch.stop" s_StrictPatch_stop f32 cc32 cda32 CS _ := ⟨FS32, ⟨_, _, _, _, _, _, d32, v32, fe32⟩, ⟨_, _, _, e32⟩, ⟨_, x32⟩, PySem.W.mg_none_of X G z_super, tp⟩
  have SM32 : SupM K CS "stop" f27 := ⟨sm32, sy32, sf32, sb32, sop⟩
  have b32 : Binds K (PySem.W.fnX "stop" "StrictPatch.stop" (defArgs s_StrictPatch_stop) (defBody s_StrictPatch_stop) (defScope s_StrictPatch_stop) [("__class__", cc32)] .none kV32 dc32 pm32 an32 (.ref cda32) ct32) ["self"] [] := fun s us X hl => by
    have h : us.length = 1 := by simpa using hl
    match us, h with
    | [_], _ => exact BindsTo.of_eq rfl
  have FS33 : FunS K "described" "CarefulPatch.described" s_CarefulPatch_described f33 cc33 cda33 _ := ⟨⟨_, _, _, _, _, _, _, _, rfl, l33, c33⟩, k33⟩
  have Z33 : SupF l.prog K mg "described" "CarefulPatch.described" s_CarefulPatch_described f33 cc33 cda33 CC _ := ⟨FS33, ⟨_, _, _, _, _, _, d33, v33, fe33⟩, ⟨_, _, _, e33⟩, ⟨_, x33⟩, PySem.W.mg_none_of X G z_super, tp⟩
  have SM33 : SupM K CC "described" f28 := ⟨sm33, sy33, sf33, sb33, sop⟩
  have b33 : Binds K (PySem.W.fnX "described" "CarefulPatch.described" (defArgs s_CarefulPatch_described) (defBody s_CarefulPatch_described) (defScope s_CarefulPatch_described) [("__class__", cc33)] .none kV33 dc33 pm33 an33 (.ref cda33) ct33) ["self"] [] := fun s us X hl => by
    have h : us.length = 1 := by simpa using hl
    match us, h with
    | [_], _ => exact BindsTo.of_eq rfl
  have FS34 : FunS K "described" "StrictPatch.described" s_StrictPatch_described f34 cc34 cda34 _ := ⟨⟨_, _, _, _, _, _, _, _, rfl, l34, c34⟩, k34⟩
  have Z34 : SupF l.prog K mg "described" "StrictPatch.described" s_StrictPatch_described f34 cc34 cda34 CS _ := ⟨FS34, ⟨_, _, _, _, _, _, d34, v34, fe34⟩, ⟨_, _, _, e34⟩, ⟨_, x34⟩, PySem.W.mg_none_of X G z_super, tp⟩
  have SM34 : SupM K CS "described" f28 := ⟨sm34, sy34, sf34, sb34, sop⟩
  have b34 : Binds K (PySem.W.fnX "described" "StrictPatch.described" (defArgs s_StrictPatch_described) (defBody s_StrictPatch_described) (defScope s_StrictPatch_described) [("__class__", cc34)] .none kV34 dc34 pm34 an34 (.ref cda34) ct34) ["self"] [] := fun s us X hl => by
    have h : us.length = 1 := by simpa using hl
    match us, h with
    | [_], _ => exact BindsTo.of_eq rfl
  have F35 : FunD K "__init__" "Setting.__init__" (defArgs s_Setting_init) (defBody s_Setting_init) (defScope s_Setting_init) [.int 0] [] f35 _ := ⟨⟨_, _, _, _, _, _, _, _, _, _, rfl, l35, c35, .inr ⟨(fun z => nomatch z), T35, _, [.int 0 tk35], tn35, rfl, lt35, rfl, .cons ⟨_, rfl⟩ .nil⟩, .inl rfl⟩, k35⟩
  have F36 := fun_mk (st := s_Setting_integer) l36 c36 k36
  have b36 := F36.binds (ps := ["self"]) fun _ _ _ _ _ _ us hl => match us, hl with | [_], _ => rfl
  have F37 := fun_mk (st := s_Setting_present) l37 c37 k37
  have b37 := F37.binds (ps := ["self"]) fun _ _ _ _ _ _ us hl => match us, hl with | [_], _ => rfl
  have F38 := fun_mk (st := s_Setting_events) l38 c38 k38
  have b38 := F38.binds (ps := ["self"]) fun _ _ _ _ _ _ us hl => match us, hl with | [_], _ => rfl
  have F39 := fun_mk (st := s_Setting_original) l39 c39 k39
  have b39 := F39.binds (ps := ["self"]) fun _ _ _ _ _ _ us hl => match us, hl with | [_], _ => rfl
  have F40 := fun_mk (st := s_Setting_len) l40 c40 k40
  have b40 := F40.binds (ps := ["self"]) fun _ _ _ _ _ _ us hl => match us, hl with | [_], _ => rfl
  have F41 := fun_mk (st := s_Setting_enlist) l41 c41 k41
  have b41 := F41.binds (ps := ["self", "integer"]) fun _ _ _ _ _ _ us hl => match us, hl with | [_, _], _ => rfl
  have F42 := fun_mk (st := s_Setting_keep) l42 c42 k42
  have b42 := F42.binds (ps := ["self", "patch"]) fun _ _ _ _ _ _ us hl => match us, hl with | [_, _], _ => rfl
  have F43 := fun_mk (st := s_Setting_patch) l43 c43 k43
  have b43 := F43.binds (ps := ["self", "number"]) fun _ _ _ _ _ _ us hl => match us, hl with | [_, _], _ => rfl
  have F44 := fun_mk (st := s_Setting_careful) l44 c44 k44
  have b44 := F44.binds (ps := ["self", "number"]) fun _ _ _ _ _ _ us hl => match us, hl with | [_, _], _ => rfl
  have F45 := fun_mk (st := s_Setting_strict) l45 c45 k45
  have b45 := F45.binds (ps := ["self", "number"]) fun _ _ _ _ _ _ us hl => match us, hl with | [_, _], _ => rfl
  have F46 := fun_mk (st := s_Setting_undo) l46 c46 k46
  have b46 := F46.binds (ps := ["self"]) fun _ _ _ _ _ _ us hl => match us, hl with | [_], _ => rfl
  have F47 := fun_mk (st := s_law_source) l47 c47 k47
  have b47 := F47.binds (ps := ["cell", "nth"]) fun _ _ _ _ _ _ us hl => match us, hl with | [_, _], _ => rfl
  have F48 := fun_mk (st := s_law_draw) l48 c48 k48
  have b48 := F48.binds (ps := ["source", "size"]) fun _ _ _ _ _ _ us hl => match us, hl with | [_, _], _ => rfl
  have F49 := fun_mk (st := s_law_cells) l49 c49 k49
  have b49 := F49.binds (ps := ["script", "most"]) fun _ _ _ _ _ _ us hl => match us, hl with | [_, _], _ => rfl
  have F50 := fun_mk (st := s_law_same) l50 c50 k50
  have b50 := F50.binds (ps := ["found", "expected"]) fun _ _ _ _ _ _ us hl => match us, hl with | [_, _], _ => rfl
  have F51 := fun_mk (st := s_law_later) l51 c51 k51
  have b51 := F51.binds (ps := ["state", "words", "event"]) fun _ _ _ _ _ _ us hl => match us, hl with | [_, _, _], _ => rfl
  have F52 := fun_mk (st := s_law_due) l52 c52 k52
  have b52 := F52.binds (ps := ["state", "integers"]) fun _ _ _ _ _ _ us hl => match us, hl with | [_, _], _ => rfl
  have F53 := fun_mk (st := s_law_seen) l53 c53 k53
  have b53 := F53.binds (ps := ["one"]) fun _ _ _ _ _ _ us hl => match us, hl with | [_], _ => rfl
  have F54 := fun_mk (st := s_law_patches_right) l54 c54 k54
  have b54 := F54.binds (ps := ["some", "state", "words", "integers"]) fun _ _ _ _ _ _ us hl => match us, hl with | [_, _, _, _], _ => rfl
  have F55 := fun_mk (st := s_law_made) l55 c55 k55
  have b55 := F55.binds (ps := ["source", "one", "most", "style"]) fun _ _ _ _ _ _ us hl => match us, hl with | [_, _, _, _], _ => rfl
  have F56 := fun_mk (st := s_law_event) l56 c56 k56
  have b56 := F56.binds (ps := ["source", "state", "most"]) fun _ _ _ _ _ _ us hl => match us, hl with | [_, _, _], _ => rfl
  have F57 := fun_mk (st := s_law_pressed) l57 c57 k57
  have b57 := F57.binds (ps := ["some", "event"]) fun _ _ _ _ _ _ us hl => match us, hl with | [_, _], _ => rfl
  have F58 := fun_mk (st := s_law_long_right) l58 c58 k58
  have b58 := F58.binds (ps := ["source", "most", "size"]) fun _ _ _ _ _ _ us hl => match us, hl with | [_, _, _], _ => rfl
  have F59 := fun_mk (st := s_law_all_right) l59 c59 k59
  have b59 := F59.binds (ps := ["source", "style", "size"]) fun _ _ _ _ _ _ us hl => match us, hl with | [_, _, _], _ => rfl
  have F60 := fun_mk (st := s_law) l60 c60 k60
  refine ⟨PySem.W.fnOf "law" "law" (defArgs s_law) (defBody s_law) (defScope s_law) .none kV60 dc60 pm60 an60 cd60 ct60, fun s v => .of_eq rfl, fun base _ _ => ?_⟩
  have T_is_integer : Cal l.prog w K mg base 1 "is_integer" _ := ⟨f0, _, ["value"], ok_is_integer F0 B, PySem.W.mg_of X G a0, F0.kp, b0⟩
  have T_is_integer_within : Cal l.prog w K mg base 2 "is_integer_within" _ := ⟨f1, _, ["value", "least", "greatest"], ok_is_integer_within F1 T_is_integer, PySem.W.mg_of X G a1, F1.kp, b1⟩
  have T_check_number : Cal l.prog w K mg base 3 "check_number" _ := ⟨f2, _, ["value", "least", "greatest"], ok_check_number F2 T_is_integer_within, PySem.W.mg_of X G a2, F2.kp, b2⟩
  have T_check_settable : Cal l.prog w K mg base 4 "check_settable" _ := ⟨f3, _, ["value"], ok_check_settable F3 (PySem.W.mg_of X G g_FARTHEST) T_check_number, PySem.W.mg_of X G a3, F3.kp, b3⟩
  have T_mk_Record : Mak l.prog w K mg base 1 "Record" CR _ := ⟨f4, _, ["self", "integers", "past", "presents"], ⟨mkCR, a4, i4, kcCR⟩, ok_Record_init F4 B T, PySem.W.mg_of X G aCCR, b4⟩
  have T_Record_integer_now : MetV l.prog w K mg base 1 (Is CR) "integer_now" _ := metV clCR ⟨a5, i5, k5⟩ (ok_Record_integer_now F5 T) b5
  have T_Record_found_by : MetV l.prog w K mg base 1 (Is CR) "found_by" _ := metV clCR ⟨a6, i6, k6⟩ (ok_Record_found_by F6 T) b6
  have T_Record_is_running : MetV l.prog w K mg base 1 (Is CR) "is_running" _ := metV clCR ⟨a7, i7, k7⟩ (ok_Record_is_running F7 T) b7
  have T_Record_go_on_by : MetV l.prog w K mg base 1 (Is CR) "go_on_by" _ := metV clCR ⟨a8, i8, k8⟩ (ok_Record_go_on_by F8 T) b8
  have T_Record_go_back : MetV l.prog w K mg base 1 (Is CR) "go_back" _ := metV clCR ⟨a9, i9, k9⟩ (ok_Record_go_back F9 T) b9
  have T_mk_Patch : Mak l.prog w K mg base 1 "Patch" CP _ := ⟨f10, _, ["self", "record", "number"], ⟨mkCP, a10, i10, kcCP⟩, ok_Patch_init F10 T, PySem.W.mg_of X G aCCP, b10⟩
  have T_mk_CarefulPatch : Mak l.prog w K mg base 1 "CarefulPatch" CC _ := ⟨f10, _, ["self", "record", "number"], ⟨mkCC, inCC, i10, kcCC⟩, ok_Patch_init F10 T, PySem.W.mg_of X G aCCC, b10⟩
  have T_mk_StrictPatch : Mak l.prog w K mg base 1 "StrictPatch" CS _ := ⟨f10, _, ["self", "record", "number"], ⟨mkCS, inCS, i10, kcCS⟩, ok_Patch_init F10 T, PySem.W.mg_of X G aCCS, b10⟩
  have FM_Patch_number : FnOk l.prog w K mg base (L2N.CX l.prog w) 1 f11 _ ["self"] _ := ok_Patch_number F11 T
  have MM_Patch_number : PropOf K CP "number" p11 f11 := ⟨a11, pg11, pt11, _, pr11⟩
  have B_Patch_number := b11
  have FM_CarefulPatch_number : FnOk l.prog w K mg base (L2N.CX l.prog w) 1 f12 _ ["self"] _ := ok_CarefulPatch_number F12 T
  have MM_CarefulPatch_number : PropOf K CC "number" p12 f12 := ⟨a12, pg12, pt12, _, pr12⟩
  have B_CarefulPatch_number := b12
  have FM_StrictPatch_number : FnOk l.prog w K mg base (L2N.CX l.prog w) 1 f13 _ ["self"] _ := ok_StrictPatch_number F13 T
  have MM_StrictPatch_number : PropOf K CS "number" p13 f13 := ⟨a13, pg13, pt13, _, pr13⟩
  have B_StrictPatch_number := b13
  have T_AnyPatch_number := prp3 T MM_Patch_number FM_Patch_number B_Patch_number MM_CarefulPatch_number FM_CarefulPatch_number B_CarefulPatch_number MM_StrictPatch_number FM_StrictPatch_number B_StrictPatch_number
  have FM_Patch_integer : FnOk l.prog w K mg base (L2N.CX l.prog w) 1 f14 _ ["self"] _ := ok_Patch_integer F14 T
  have MM_Patch_integer : PropOf K CP "integer" p14 f14 := ⟨a14, pg14, pt14, _, pr14⟩
  have B_Patch_integer := b14
  have FM_CarefulPatch_integer : FnOk l.prog w K mg base (L2N.CX l.prog w) 1 f15 _ ["self"] _ := ok_CarefulPatch_integer F15 T
  have MM_CarefulPatch_integer : PropOf K CC "integer" p15 f15 := ⟨a15, pg15, pt15, _, pr15⟩
  have B_CarefulPatch_integer := b15
  have FM_StrictPatch_integer : FnOk l.prog w K mg base (L2N.CX l.prog w) 1 f16 _ ["self"] _ := ok_StrictPatch_integer F16 T
  have MM_StrictPatch_integer : PropOf K CS "integer" p16 f16 := ⟨a16, pg16, pt16, _, pr16⟩
  have B_StrictPatch_integer := b16
  have T_AnyPatch_integer := prp3 T MM_Patch_integer FM_Patch_integer B_Patch_integer MM_CarefulPatch_integer FM_CarefulPatch_integer B_CarefulPatch_integer MM_StrictPatch_integer FM_StrictPatch_integer B_StrictPatch_integer
  have FM_Patch_saved : FnOk l.prog w K mg base (L2N.CX l.prog w) 2 f17 _ ["self"] _ := ok_Patch_saved F17 T T_Record_found_by
  have MM_Patch_saved : PropOf K CP "saved" p17 f17 := ⟨a17, pg17, pt17, _, pr17⟩
  have B_Patch_saved := b17
  have FM_CarefulPatch_saved : FnOk l.prog w K mg base (L2N.CX l.prog w) 2 f18 _ ["self"] _ := ok_CarefulPatch_saved F18 T T_Record_found_by
  have MM_CarefulPatch_saved : PropOf K CC "saved" p18 f18 := ⟨a18, pg18, pt18, _, pr18⟩
  have B_CarefulPatch_saved := b18
  have FM_StrictPatch_saved : FnOk l.prog w K mg base (L2N.CX l.prog w) 2 f19 _ ["self"] _ := ok_StrictPatch_saved F19 T T_Record_found_by
  have MM_StrictPatch_saved : PropOf K CS "saved" p19 f19 := ⟨a19, pg19, pt19, _, pr19⟩
  have B_StrictPatch_saved := b19
  have T_AnyPatch_saved := prp3 T MM_Patch_saved FM_Patch_saved B_Patch_saved MM_CarefulPatch_saved FM_CarefulPatch_saved B_CarefulPatch_saved MM_StrictPatch_saved FM_StrictPatch_saved B_StrictPatch_saved
  have FM_Patch_runs : FnOk l.prog w K mg base (L2N.CX l.prog w) 2 f20 _ ["self"] _ := ok_Patch_runs F20 T T_Record_is_running
  have MM_Patch_runs : PropOf K CP "runs" p20 f20 := ⟨a20, pg20, pt20, _, pr20⟩
  have B_Patch_runs := b20
  have FM_CarefulPatch_runs : FnOk l.prog w K mg base (L2N.CX l.prog w) 2 f21 _ ["self"] _ := ok_CarefulPatch_runs F21 T T_Record_is_running
  have MM_CarefulPatch_runs : PropOf K CC "runs" p21 f21 := ⟨a21, pg21, pt21, _, pr21⟩
  have B_CarefulPatch_runs := b21
  have FM_StrictPatch_runs : FnOk l.prog w K mg base (L2N.CX l.prog w) 2 f22 _ ["self"] _ := ok_StrictPatch_runs F22 T T_Record_is_running
  have MM_StrictPatch_runs : PropOf K CS "runs" p22 f22 := ⟨a22, pg22, pt22, _, pr22⟩
  have B_StrictPatch_runs := b22
  have T_AnyPatch_runs := prp3 T MM_Patch_runs FM_Patch_runs B_Patch_runs MM_CarefulPatch_runs FM_CarefulPatch_runs B_CarefulPatch_runs MM_StrictPatch_runs FM_StrictPatch_runs B_StrictPatch_runs
  have FM_Patch_left_by_stop : FnOk l.prog w K mg base (L2N.CX l.prog w) 2 f23 _ ["self", "record"] _ := ok_Patch_left_by_stop F23 T T_Record_found_by
  have MM_Patch_left_by_stop : Meth K CP "left_by_stop" f23 := ⟨a23, i23, k23⟩
  have B_Patch_left_by_stop := b23
  have FM_CarefulPatch_left_by_stop := ok_CarefulPatch_left_by_stop (w := w) (base := base) (eO := eO) Z24 T SM24 FM_Patch_left_by_stop B_Patch_left_by_stop
  have MM_CarefulPatch_left_by_stop : Meth K CC "left_by_stop" f24 := ⟨a24, i24, k24⟩
  have B_CarefulPatch_left_by_stop := b24
  have FM_StrictPatch_left_by_stop := ok_StrictPatch_left_by_stop (w := w) (base := base) Z25 RO T SM25 FM_Patch_left_by_stop B_Patch_left_by_stop
  have MM_StrictPatch_left_by_stop : Meth K CS "left_by_stop" f25 := ⟨a25, i25, k25⟩
  have B_StrictPatch_left_by_stop := b25
  have T_AnyPatch_left_by_stop : MetC l.prog w K mg base 3 (Kind3 CP CC CS) "left_by_stop" (spLeft CR eO) := met3 T MM_Patch_left_by_stop (left_P FM_Patch_left_by_stop) B_Patch_left_by_stop MM_CarefulPatch_left_by_stop FM_CarefulPatch_left_by_stop B_CarefulPatch_left_by_stop MM_StrictPatch_left_by_stop FM_StrictPatch_left_by_stop B_StrictPatch_left_by_stop
  have FM_Patch_start : FnOk l.prog w K mg base (L2N.CX l.prog w) 4 f26 _ ["self"] _ := ok_Patch_start F26 T RS T_AnyPatch_saved T_Record_go_on_by T_Record_integer_now
  have MM_Patch_start : Meth K CP "start" f26 := ⟨a26, i26, k26⟩
  have B_Patch_start := b26
  have FM_Patch_stop : FnOk l.prog w K mg base (L2N.CX l.prog w) 4 f27 _ ["self"] _ := ok_Patch_stop F27 T RR T_AnyPatch_runs T_AnyPatch_left_by_stop T_Record_go_on_by T_Record_integer_now
  have MM_Patch_stop : Meth K CP "stop" f27 := ⟨a27, i27, k27⟩
  have B_Patch_stop := b27
  have FM_Patch_described : FnOk l.prog w K mg base (L2N.CX l.prog w) 1 f28 _ ["self"] _ := ok_Patch_described F28 T
  have MM_Patch_described : Meth K CP "described" f28 := ⟨a28, i28, k28⟩
  have B_Patch_described := b28
  have FM_CarefulPatch_start := ok_CarefulPatch_start (w := w) (base := base) (CP := CP) (CC := CC) (CS := CS) Z29 SM29 FM_Patch_start B_Patch_start
  have MM_CarefulPatch_start : Meth K CC "start" f29 := ⟨a29, i29, k29⟩
  have B_CarefulPatch_start := b29
  have FM_StrictPatch_start := ok_StrictPatch_start (w := w) (base := base) (CP := CP) (CC := CC) (CS := CS) Z30 SM30 FM_Patch_start B_Patch_start
  have MM_StrictPatch_start : Meth K CS "start" f30 := ⟨a30, i30, k30⟩
  have B_StrictPatch_start := b30
  have T_AnyPatch_start : MetC l.prog w K mg base 5 (Kind3 CP CC CS) "start" (spStartC CR eS) := met3 T MM_Patch_start (start_P FM_Patch_start) B_Patch_start MM_CarefulPatch_start FM_CarefulPatch_start B_CarefulPatch_start MM_StrictPatch_start FM_StrictPatch_start B_StrictPatch_start
  have FM_CarefulPatch_stop := ok_CarefulPatch_stop (w := w) (base := base) (CP := CP) (CC := CC) (CS := CS) Z31 SM31 FM_Patch_stop B_Patch_stop
  have MM_CarefulPatch_stop : Meth K CC "stop" f31 := ⟨a31, i31, k31⟩
  have B_CarefulPatch_stop := b31
  have FM_StrictPatch_stop := ok_StrictPatch_stop (w := w) (base := base) (CP := CP) (CC := CC) (CS := CS) Z32 SM32 FM_Patch_stop B_Patch_stop
  have MM_StrictPatch_stop : Meth K CS "stop" f32 := ⟨a32, i32, k32⟩
  have B_StrictPatch_stop := b32
  have T_AnyPatch_stop : MetC l.prog w K mg base 5 (Kind3 CP CC CS) "stop" (spStopK CR eR eO) := met3 T MM_Patch_stop (stop_P FM_Patch_stop) B_Patch_stop MM_CarefulPatch_stop FM_CarefulPatch_stop B_CarefulPatch_stop MM_StrictPatch_stop FM_StrictPatch_stop B_StrictPatch_stop
  have FM_CarefulPatch_described := ok_CarefulPatch_described (w := w) (base := base) (CP := CP) (CC := CC) (CS := CS) Z33 SM33 FM_Patch_described B_Patch_described
  have MM_CarefulPatch_described : Meth K CC "described" f33 := ⟨a33, i33, k33⟩
  have B_CarefulPatch_described := b33
  have FM_StrictPatch_described := ok_StrictPatch_described (w := w) (base := base) (CP := CP) (CC := CC) (CS := CS) Z34 SM34 FM_Patch_described B_Patch_described
  have MM_StrictPatch_described : Meth K CS "described" f34 := ⟨a34, i34, k34⟩
  have B_StrictPatch_described := b34
  have T_AnyPatch_described : MetC l.prog w K mg base 2 (Kind3 CP CC CS) "described" spDesc := met3 T MM_Patch_described (desc_P FM_Patch_described) B_Patch_described MM_CarefulPatch_described FM_CarefulPatch_described B_CarefulPatch_described MM_StrictPatch_described FM_StrictPatch_described B_StrictPatch_described
  have FL35 := FnOk.low (ok_Setting_init F35 T (calN T_check_settable) T_mk_Record)
  have T_mk_Setting : Mak l.prog w K mg base 5 "Setting" CG (SpN (spGInit CR CG)) := ⟨f35, _, _, ⟨mkCG, a35, i35, kcCG⟩, FL35, PySem.W.mg_of X G aCCG, bindG2 F35⟩
  have T_mkK_Setting : MakK l.prog w K mg base 5 "Setting" CG ["original"] (fun a b => a ++ b) (SpN (spGInit CR CG)) := ⟨f35, _, _, _, ⟨mkCG, a35, i35, kcCG⟩, FL35, PySem.W.mg_of X G aCCG, bindGK F35⟩
  have T_Setting_integer : PrpV l.prog w K mg base 2 (Is CG) "integer" _ := prpV clCG ⟨a36, pg36, pt36, _, pr36⟩ (ok_Setting_integer F36 T T_Record_integer_now) b36
  have T_Setting_present : PrpV l.prog w K mg base 1 (Is CG) "present" _ := prpV clCG ⟨a37, pg37, pt37, _, pr37⟩ (ok_Setting_present F37 T) b37
  have T_Setting_events : PrpV l.prog w K mg base 1 (Is CG) "events" _ := prpV clCG ⟨a38, pg38, pt38, _, pr38⟩ (ok_Setting_events F38 B T) b38
  have T_Setting_original : PrpV l.prog w K mg base 1 (Is CG) "original" _ := prpV clCG ⟨a39, pg39, pt39, _, pr39⟩ (ok_Setting_original F39 T) b39
  have T_Setting_len : Met l.prog w K mg base 1 CG "__len__" _ := ⟨f40, _, ["self"], clCG, ⟨a40, i40, k40⟩, ok_Setting_len F40 B T, b40⟩
  have T_Setting_enlist : MetV l.prog w K mg base 5 (Is CG) "_enlist" _ := metV clCG ⟨a41, i41, k41⟩ (ok_Setting_enlist F41 B T RF (PySem.W.mg_of X G aCCG) ⟨crd, cga⟩ ⟨cat, ⟨_, rfl⟩⟩ (calN T_check_settable)) b41
  have T_Setting_keep : MetV l.prog w K mg base 1 (Is CG) "_keep" _ := metV clCG ⟨a42, i42, k42⟩ (ok_Setting_keep F42 T) b42
  have T_Setting_patch : MetV l.prog w K mg base 6 (Is CG) "patch" _ := metV clCG ⟨a43, i43, k43⟩ (ok_Setting_patch F43 T T_mk_Patch T_Setting_enlist T_Setting_keep) b43
  have T_Setting_careful : MetV l.prog w K mg base 6 (Is CG) "careful" _ := metV clCG ⟨a44, i44, k44⟩ (ok_Setting_careful F44 T T_mk_CarefulPatch T_Setting_enlist T_Setting_keep) b44
  have T_Setting_strict : MetV l.prog w K mg base 6 (Is CG) "strict" _ := metV clCG ⟨a45, i45, k45⟩ (ok_Setting_strict F45 T T_mk_StrictPatch T_Setting_enlist T_Setting_keep) b45
  have T_K_Setting_strict : MetVK l.prog w K mg base 6 (Is CG) "strict" 1 ["number"] (fun a b => a ++ b) (spMake CR CG eF CS) := ⟨fun C h => by
    cases h
    exact ⟨f45, _, ["self", "number"], fun a b => a ++ b, clCG, ⟨a45, i45, k45⟩, ok_Setting_strict F45 T T_mk_StrictPatch T_Setting_enlist T_Setting_keep, kb_of F45 1 ["number"] (fun a b => a ++ b) kb_gApp0 fun _ _ _ _ _ _ us ws l1 l2 => match us, ws, l1, l2 with | [_], [_], _, _ => rfl⟩⟩
  have T_Setting_undo : MetV l.prog w K mg base 2 (Is CG) "undo" _ := metV clCG ⟨a46, i46, k46⟩ (ok_Setting_undo F46 T RE T_Record_go_back) b46
  have T_law_source : Cal l.prog w K mg base 1 "_law_source" _ := ⟨f47, _, ["cell", "nth"], ok_law_source F47 B, PySem.W.mg_of X G a47, F47.kp, b47⟩
  have T_law_draw : Cal l.prog w K mg base 1 "_law_draw" _ := ⟨f48, _, ["source", "size"], ok_law_draw F48, PySem.W.mg_of X G a48, F48.kp, b48⟩
  have T_law_cells : Cal l.prog w K mg base 1 "_law_cells" _ := ⟨f49, _, ["script", "most"], ok_law_cells F49 B, PySem.W.mg_of X G a49, F49.kp, b49⟩
  have T_law_same : Cal l.prog w K mg base 3 "_law_same" _ := ⟨f50, _, ["found", "expected"], ok_law_same_D F50 B (PySem.W.mg_of X G a50) b50 2, PySem.W.mg_of X G a50, F50.kp, b50⟩
  have T_law_later : Cal l.prog w K mg base 1 "_law_later" _ := ⟨f51, _, ["state", "words", "event"], ok_law_later F51 B (PySem.W.mg_none_of X G z_dict), PySem.W.mg_of X G a51, F51.kp, b51⟩
  have T_law_due : Cal l.prog w K mg base 1 "_law_due" _ := ⟨f52, _, ["state", "integers"], ok_law_due F52 B, PySem.W.mg_of X G a52, F52.kp, b52⟩
  have T_law_seen : Cal l.prog w K mg base 4 "_law_seen" _ := ⟨f53, _, ["one"], ok_law_seen (CP := CP) (CC := CC) (CS := CS) F53 B T_Setting_integer T_Setting_present T_Setting_events T_Setting_original T_Setting_len, PySem.W.mg_of X G a53, F53.kp, b53⟩
  have T_law_patches_right : Cal l.prog w K mg base 4 "_law_patches_right" _ := ⟨f54, _, ["some", "state", "words", "integers"], ok_law_patches_right (CG := CG) F54 B T_AnyPatch_number T_AnyPatch_integer T_AnyPatch_saved T_AnyPatch_runs T_AnyPatch_described T_law_same, PySem.W.mg_of X G a54, F54.kp, b54⟩
  have T_law_made : Cal l.prog w K mg base 7 "_law_made" _ := ⟨f55, _, ["source", "one", "most", "style"], ok_law_made F55 B T_law_draw T_Setting_integer T_Setting_patch T_Setting_careful T_K_Setting_strict, PySem.W.mg_of X G a55, F55.kp, b55⟩
  have T_law_event : Cal l.prog w K mg base 2 "_law_event" _ := ⟨f56, _, ["source", "state", "most"], ok_law_event F56 B T_law_draw, PySem.W.mg_of X G a56, F56.kp, b56⟩
  have T_law_pressed : Cal l.prog w K mg base 6 "_law_pressed" _ := ⟨f57, _, ["some", "event"], ok_law_pressed (CG := CG) F57 B RS RR RO X3 T_AnyPatch_start T_AnyPatch_stop, PySem.W.mg_of X G a57, F57.kp, b57⟩
  have T_law_long_right : Cal l.prog w K mg base 8 "_law_long_right" _ := ⟨f58, _, ["source", "most", "size"], ok_law_long_right F58 B T_mk_Setting T_law_draw T_law_made T_law_event T_law_later T_law_pressed T_law_same T_law_seen T_law_due T_law_patches_right T_Setting_undo, PySem.W.mg_of X G a58, F58.kp, b58⟩
  have T_law_all_right : Cal l.prog w K mg base 8 "_law_all_right" _ := ⟨f59, _, ["source", "style", "size"], ok_law_all_right F59 B T_mkK_Setting T_law_made T_law_pressed T_AnyPatch_start T_AnyPatch_stop T_AnyPatch_runs T_Setting_present T_Setting_original T_Setting_integer T_Setting_len T_Setting_undo, PySem.W.mg_of X G a59, F59.kp, b59⟩
  exact ok_law F60 B T_law_cells T_law_source T_law_long_right T_law_all_right
end L34
open PySem PySem.W PyProof.Rows
set_option maxHeartbeats 0 in
theorem PySem.Challenge.cw_latepatches_k34_whole_long_settings_holds : PySem.Challenge.rw_latepatches_k34_whole_long_settings.Holds := by
  w_on; o_law; k_head; (case hw => w_witness2)
  k_fill
  refine Lp.walk_ofG (l := PySem.Challenge.rw_latepatches_k34_whole_long_settings) (n := 63) (k := 9) (x := "script") (CX := fun _ => L2.CX0) (sp := fun w => L34.spLaw _) rfl (by decide) rfl ⟨rfl, by decide, by decide⟩ (fun w h Y => PySem.W.kIn_of Y) ?F (fun _ _ a ns hl _ hS => ⟨a, ns, rfl, hS, hl, fun _ => rfl⟩) (fun _ _ _ _ _ h => h)
  case F =>
    intro w mg fa h KX G hmg
    refine' L34.all_mk KX G hmg ?aCCR ?pgCR ?hdCR ?poCR ?saCR ?mkCR ?kcCR ?nCR0 ?nCR1 ?nCR2 ?aCCP ?pgCP ?hdCP ?poCP ?saCP ?mkCP ?kcCP ?nCP0 ?nCP1 ?aCCC ?pgCC ?hdCC ?poCC ?saCC ?mkCC ?kcCC ?nCC0 ?nCC1 ?aCCS ?pgCS ?hdCS ?poCS ?saCS ?mkCS ?kcCS ?nCS0 ?nCS1 ?aCCG ?pgCG ?hdCG ?poCG ?saCG ?mkCG ?kcCG ?nCG0 ?nCG1 ?a0 ?l0 ?c0 ?k0 ?a1 ?l1 ?c1 ?k1 ?a2 ?l2 ?c2 ?k2 ?a3 ?l3 ?c3 ?k3 ?a4 ?i4 ?l4 ?c4 ?k4 ?a5 ?i5 ?l5 ?c5 ?k5 ?a6 ?i6 ?l6 ?c6 ?k6 ?a7 ?i7 ?l7 ?c7 ?k7 ?a8 ?i8 ?l8 ?c8 ?k8 ?a9 ?i9 ?l9 ?c9 ?k9 ?a10 ?i10 ?l10 ?c10 ?k10 ?a11 ?pg11 ?pt11 ?pr11 ?l11 ?c11 ?k11 ?a12 ?pg12 ?pt12 ?pr12 ?l12 ?c12 ?k12 ?a13 ?pg13 ?pt13 ?pr13 ?l13 ?c13 ?k13 ?a14 ?pg14 ?pt14 ?pr14 ?l14 ?c14 ?k14 ?a15 ?pg15 ?pt15 ?pr15 ?l15 ?c15 ?k15 ?a16 ?pg16 ?pt16 ?pr16 ?l16 ?c16 ?k16 ?a17 ?pg17 ?pt17 ?pr17 ?l17 ?c17 ?k17 ?a18 ?pg18 ?pt18 ?pr18 ?l18 ?c18 ?k18 ?a19 ?pg19 ?pt19 ?pr19 ?l19 ?c19 ?k19 ?a20 ?pg20 ?pt20 ?pr20 ?l20 ?c20 ?k20 ?a21 ?pg21 ?pt21 ?pr21 ?l21 ?c21 ?k21 ?a22 ?pg22 ?pt22 ?pr22 ?l22 ?c22 ?k22 ?a23 ?i23 ?l23 ?c23 ?k23 ?a24 ?i24 ?l24 ?c24 ?k24 ?d24 ?v24 ?fe24 ?e24 ?x24 ?sm24 ?sy24 ?sf24 ?sb24 ?a25 ?i25 ?l25 ?c25 ?k25 ?d25 ?v25 ?fe25 ?e25 ?x25 ?sm25 ?sy25 ?sf25 ?sb25 ?a26 ?i26 ?l26 ?c26 ?k26 ?a27 ?i27 ?l27 ?c27 ?k27 ?a28 ?i28 ?l28 ?c28 ?k28 ?a29 ?i29 ?l29 ?c29 ?k29 ?d29 ?v29 ?fe29 ?e29 ?x29 ?sm29 ?sy29 ?sf29 ?sb29 ?a30 ?i30 ?l30 ?c30 ?k30 ?d30 ?v30 ?fe30 ?e30 ?x30 ?sm30 ?sy30 ?sf30 ?sb30 ?a31 ?i31 ?l31 ?c31 ?k31 ?d31 ?v31 ?fe31 ?e31 ?x31 ?sm31 ?sy31 ?sf31 ?sb31 ?a32 ?i32 ?l32 ?c32 ?k32 ?d32 ?v32 ?fe32 ?e32 ?x32 ?sm32 ?sy32 ?sf32 ?sb32 ?a33 ?i33 ?l33 ?c33 ?k33 ?d33 ?v33 ?fe33 ?e33 ?x33 ?sm33 ?sy33 ?sf33 ?sb33 ?a34 ?i34 ?l34 ?c34 ?k34 ?d34 ?v34 ?fe34 ?e34 ?x34 ?sm34 ?sy34 ?sf34 ?sb34 ?a35 ?i35 ?l35 ?c35 ?k35 ?lt35 ?a36 ?pg36 ?pt36 ?pr36 ?l36 ?c36 ?k36 ?a37 ?pg37 ?pt37 ?pr37 ?l37 ?c37 ?k37 ?a38 ?pg38 ?pt38 ?pr38 ?l38 ?c38 ?k38 ?a39 ?pg39 ?pt39 ?pr39 ?l39 ?c39 ?k39 ?a40 ?i40 ?l40 ?c40 ?k40 ?a41 ?i41 ?l41 ?c41 ?k41 ?a42 ?i42 ?l42 ?c42 ?k42 ?a43 ?i43 ?l43 ?c43 ?k43 ?a44 ?i44 ?l44 ?c44 ?k44 ?a45 ?i45 ?l45 ?c45 ?k45 ?a46 ?i46 ?l46 ?c46 ?k46 ?a47 ?l47 ?c47 ?k47 ?a48 ?l48 ?c48 ?k48 ?a49 ?l49 ?c49 ?k49 ?a50 ?l50 ?c50 ?k50 ?a51 ?l51 ?c51 ?k51 ?a52 ?l52 ?c52 ?k52 ?a53 ?l53 ?c53 ?k53 ?a54 ?l54 ?c54 ?k54 ?a55 ?l55 ?c55 ?k55 ?a56 ?l56 ?c56 ?k56 ?a57 ?l57 ?c57 ?k57 ?a58 ?l58 ?c58 ?k58 ?a59 ?l59 ?c59 ?k59 ?a60 ?l60 ?c60 ?k60 ?g_FARTHEST ?z_len ?z_list ?z_int ?z_bool ?z_str ?z_tuple ?z_max ?z_min ?z_range ?z_repr ?z_isinstance ?z_type ?z_all ?z_set ?z_zip ?z_enumerate ?z_sorted ?z_abs ?z_super ?z_dict ?geS ?xeS ?keS ?beS ?teS ?geR ?xeR ?keR ?beR ?teR ?geO ?xeO ?keO ?beO ?teO ?geF ?xeF ?keF ?beF ?teF ?geE ?xeE ?keE ?beE ?teE ?seSeS ?seReS ?seReR ?seOeS ?seOeR ?seOeO ?tp ?sop ?crd ?cga ?cat ?inCC ?inCS
    (case aCCR => k_is); (case pgCR => k_is); (case hdCR => k_is); (case poCR => k_is); (case saCR => k_is); (case mkCR => k_is); (case kcCR => k_is); (case nCR0 => k_is); (case nCR1 => k_is); (case nCR2 => k_is); (case aCCP => k_is); (case pgCP => k_is); (case hdCP => k_is); (case poCP => k_is); (case saCP => k_is); (case mkCP => k_is); (case kcCP => k_is); (case nCP0 => k_is); (case nCP1 => k_is); (case aCCC => k_is); (case pgCC => k_is); (case hdCC => k_is); (case poCC => k_is); (case saCC => k_is); (case mkCC => k_is); (case kcCC => k_is); (case nCC0 => k_is); (case nCC1 => k_is); (case aCCS => k_is); (case pgCS => k_is); (case hdCS => k_is); (case poCS => k_is); (case saCS => k_is); (case mkCS => k_is); (case kcCS => k_is); (case nCS0 => k_is); (case nCS1 => k_is); (case aCCG => k_is); (case pgCG => k_is); (case hdCG => k_is); (case poCG => k_is); (case saCG => k_is); (case mkCG => k_is); (case kcCG => k_is); (case nCG0 => k_is); (case nCG1 => k_is); (case a0 => k_is); (case l0 => k_is); (case c0 => k_is); (case k0 => k_is); (case a1 => k_is); (case l1 => k_is); (case c1 => k_is); (case k1 => k_is); (case a2 => k_is); (case l2 => k_is); (case c2 => k_is); (case k2 => k_is); (case a3 => k_is); (case l3 => k_is); (case c3 => k_is); (case k3 => k_is); (case a4 => k_is); (case i4 => k_is); (case l4 => k_is); (case c4 => k_is); (case k4 => k_is); (case a5 => k_is); (case i5 => k_is); (case l5 => k_is); (case c5 => k_is); (case k5 => k_is); (case a6 => k_is); (case i6 => k_is); (case l6 => k_is); (case c6 => k_is); (case k6 => k_is); (case a7 => k_is); (case i7 => k_is); (case l7 => k_is); (case c7 => k_is); (case k7 => k_is); (case a8 => k_is); (case i8 => k_is); (case l8 => k_is); (case c8 => k_is); (case k8 => k_is); (case a9 => k_is); (case i9 => k_is); (case l9 => k_is); (case c9 => k_is); (case k9 => k_is); (case a10 => k_is); (case i10 => k_is); (case l10 => k_is); (case c10 => k_is); (case k10 => k_is); (case a11 => k_is); (case pg11 => k_is); (case pt11 => k_is); (case pr11 => k_is); (case l11 => k_is); (case c11 => k_is); (case k11 => k_is); (case a12 => k_is); (case pg12 => k_is); (case pt12 => k_is); (case pr12 => k_is); (case l12 => k_is); (case c12 => k_is); (case k12 => k_is); (case a13 => k_is); (case pg13 => k_is); (case pt13 => k_is); (case pr13 => k_is); (case l13 => k_is); (case c13 => k_is); (case k13 => k_is); (case a14 => k_is); (case pg14 => k_is); (case pt14 => k_is); (case pr14 => k_is); (case l14 => k_is); (case c14 => k_is); (case k14 => k_is); (case a15 => k_is); (case pg15 => k_is); (case pt15 => k_is); (case pr15 => k_is); (case l15 => k_is); (case c15 => k_is); (case k15 => k_is); (case a16 => k_is); (case pg16 => k_is); (case pt16 => k_is); (case pr16 => k_is); (case l16 => k_is); (case c16 => k_is); (case k16 => k_is); (case a17 => k_is); (case pg17 => k_is); (case pt17 => k_is); (case pr17 => k_is); (case l17 => k_is); (case c17 => k_is); (case k17 => k_is); (case a18 => k_is); (case pg18 => k_is); (case pt18 => k_is); (case pr18 => k_is); (case l18 => k_is); (case c18 => k_is); (case k18 => k_is); (case a19 => k_is); (case pg19 => k_is); (case pt19 => k_is); (case pr19 => k_is); (case l19 => k_is); (case c19 => k_is); (case k19 => k_is); (case a20 => k_is); (case pg20 => k_is); (case pt20 => k_is); (case pr20 => k_is); (case l20 => k_is); (case c20 => k_is); (case k20 => k_is); (case a21 => k_is); (case pg21 => k_is); (case pt21 => k_is); (case pr21 => k_is); (case l21 => k_is); (case c21 => k_is); (case k21 => k_is); (case a22 => k_is); (case pg22 => k_is); (case pt22 => k_is); (case pr22 => k_is); (case l22 => k_is); (case c22 => k_is); (case k22 => k_is); (case a23 => k_is); (case i23 => k_is); (case l23 => k_is); (case c23 => k_is); (case k23 => k_is); (case a24 => k_is); (case i24 => k_is); (case l24 => k_is); (case c24 => k_is); (case k24 => k_is); (case d24 => k_is); (case v24 => rfl); (case fe24 => (first | rfl | kernel_rfl | decide +kernel)); (case e24 => k_is); (case x24 => k_is); (case sm24 => kernel_rfl); (case sy24 => k_is); (case sf24 => k_is); (case sb24 => kernel_rfl); (case a25 => k_is); (case i25 => k_is); (case l25 => k_is); (case c25 => k_is); (case k25 => k_is); (case d25 => k_is); (case v25 => rfl); (case fe25 => (first | rfl | kernel_rfl | decide +kernel)); (case e25 => k_is); (case x25 => k_is); (case sm25 => kernel_rfl); (case sy25 => k_is); (case sf25 => k_is); (case sb25 => kernel_rfl); (case a26 => k_is); (case i26 => k_is); (case l26 => k_is); (case c26 => k_is); (case k26 => k_is); (case a27 => k_is); (case i27 => k_is); (case l27 => k_is); (case c27 => k_is); (case k27 => k_is); (case a28 => k_is); (case i28 => k_is); (case l28 => k_is); (case c28 => k_is); (case k28 => k_is); (case a29 => k_is); (case i29 => k_is); (case l29 => k_is); (case c29 => k_is); (case k29 => k_is); (case d29 => k_is); (case v29 => rfl); (case fe29 => (first | rfl | kernel_rfl | decide +kernel)); (case e29 => k_is); (case x29 => k_is); (case sm29 => kernel_rfl); (case sy29 => k_is); (case sf29 => k_is); (case sb29 => kernel_rfl); (case a30 => k_is); (case i30 => k_is); (case l30 => k_is); (case c30 => k_is); (case k30 => k_is); (case d30 => k_is); (case v30 => rfl); (case fe30 => (first | rfl | kernel_rfl | decide +kernel)); (case e30 => k_is); (case x30 => k_is); (case sm30 => kernel_rfl); (case sy30 => k_is); (case sf30 => k_is); (case sb30 => kernel_rfl); (case a31 => k_is); (case i31 => k_is); (case l31 => k_is); (case c31 => k_is); (case k31 => k_is); (case d31 => k_is); (case v31 => rfl); (case fe31 => (first | rfl | kernel_rfl | decide +kernel)); (case e31 => k_is); (case x31 => k_is); (case sm31 => kernel_rfl); (case sy31 => k_is); (case sf31 => k_is); (case sb31 => kernel_rfl); (case a32 => k_is); (case i32 => k_is); (case l32 => k_is); (case c32 => k_is); (case k32 => k_is); (case d32 => k_is); (case v32 => rfl); (case fe32 => (first | rfl | kernel_rfl | decide +kernel)); (case e32 => k_is); (case x32 => k_is); (case sm32 => kernel_rfl); (case sy32 => k_is); (case sf32 => k_is); (case sb32 => kernel_rfl); (case a33 => k_is); (case i33 => k_is); (case l33 => k_is); (case c33 => k_is); (case k33 => k_is); (case d33 => k_is); (case v33 => rfl); (case fe33 => (first | rfl | kernel_rfl | decide +kernel)); (case e33 => k_is); (case x33 => k_is); (case sm33 => kernel_rfl); (case sy33 => k_is); (case sf33 => k_is); (case sb33 => kernel_rfl); (case a34 => k_is); (case i34 => k_is); (case l34 => k_is); (case c34 => k_is); (case k34 => k_is); (case d34 => k_is); (case v34 => rfl); (case fe34 => (first | rfl | kernel_rfl | decide +kernel)); (case e34 => k_is); (case x34 => k_is); (case sm34 => kernel_rfl); (case sy34 => k_is); (case sf34 => k_is); (case sb34 => kernel_rfl); (case a35 => k_is); (case i35 => k_is); (case l35 => k_is); (case c35 => k_is); (case k35 => k_is); (case lt35 => k_is); (case a36 => k_is); (case pg36 => k_is); (case pt36 => k_is); (case pr36 => k_is); (case l36 => k_is); (case c36 => k_is); (case k36 => k_is); (case a37 => k_is); (case pg37 => k_is); (case pt37 => k_is); (case pr37 => k_is); (case l37 => k_is); (case c37 => k_is); (case k37 => k_is); (case a38 => k_is); (case pg38 => k_is); (case pt38 => k_is); (case pr38 => k_is); (case l38 => k_is); (case c38 => k_is); (case k38 => k_is); (case a39 => k_is); (case pg39 => k_is); (case pt39 => k_is); (case pr39 => k_is); (case l39 => k_is); (case c39 => k_is); (case k39 => k_is); (case a40 => k_is); (case i40 => k_is); (case l40 => k_is); (case c40 => k_is); (case k40 => k_is); (case a41 => k_is); (case i41 => k_is); (case l41 => k_is); (case c41 => k_is); (case k41 => k_is); (case a42 => k_is); (case i42 => k_is); (case l42 => k_is); (case c42 => k_is); (case k42 => k_is); (case a43 => k_is); (case i43 => k_is); (case l43 => k_is); (case c43 => k_is); (case k43 => k_is); (case a44 => k_is); (case i44 => k_is); (case l44 => k_is); (case c44 => k_is); (case k44 => k_is); (case a45 => k_is); (case i45 => k_is); (case l45 => k_is); (case c45 => k_is); (case k45 => k_is); (case a46 => k_is); (case i46 => k_is); (case l46 => k_is); (case c46 => k_is); (case k46 => k_is); (case a47 => k_is); (case l47 => k_is); (case c47 => k_is); (case k47 => k_is); (case a48 => k_is); (case l48 => k_is); (case c48 => k_is); (case k48 => k_is); (case a49 => k_is); (case l49 => k_is); (case c49 => k_is); (case k49 => k_is); (case a50 => k_is); (case l50 => k_is); (case c50 => k_is); (case k50 => k_is); (case a51 => k_is); (case l51 => k_is); (case c51 => k_is); (case k51 => k_is); (case a52 => k_is); (case l52 => k_is); (case c52 => k_is); (case k52 => k_is); (case a53 => k_is); (case l53 => k_is); (case c53 => k_is); (case k53 => k_is); (case a54 => k_is); (case l54 => k_is); (case c54 => k_is); (case k54 => k_is); (case a55 => k_is); (case l55 => k_is); (case c55 => k_is); (case k55 => k_is); (case a56 => k_is); (case l56 => k_is); (case c56 => k_is); (case k56 => k_is); (case a57 => k_is); (case l57 => k_is); (case c57 => k_is); (case k57 => k_is); (case a58 => k_is); (case l58 => k_is); (case c58 => k_is); (case k58 => k_is); (case a59 => k_is); (case l59 => k_is); (case c59 => k_is); (case k59 => k_is); (case a60 => k_is); (case l60 => k_is); (case c60 => k_is); (case k60 => k_is); (case g_FARTHEST => k_is); (case z_len => k_is); (case z_list => k_is); (case z_int => k_is); (case z_bool => k_is); (case z_str => k_is); (case z_tuple => k_is); (case z_max => k_is); (case z_min => k_is); (case z_range => k_is); (case z_repr => k_is); (case z_isinstance => k_is); (case z_type => k_is); (case z_all => k_is); (case z_set => k_is); (case z_zip => k_is); (case z_enumerate => k_is); (case z_sorted => k_is); (case z_abs => k_is); (case z_super => k_is); (case z_dict => k_is); (case geS => k_is); (case xeS => k_exc); (case keS => k_is); (case beS => k_is); (case teS => k_is); (case geR => k_is); (case xeR => k_exc); (case keR => k_is); (case beR => k_is); (case teR => k_is); (case geO => k_is); (case xeO => k_exc); (case keO => k_is); (case beO => k_is); (case teO => k_is); (case geF => k_is); (case xeF => k_exc); (case keF => k_is); (case beF => k_is); (case teF => k_is); (case geE => k_is); (case xeE => k_exc); (case keE => k_is); (case beE => k_is); (case teE => k_is); (case seSeS => k_is); (case seReS => k_is); (case seReR => k_is); (case seOeS => k_is); (case seOeR => k_is); (case seOeO => k_is); (case tp => (first | rfl | kernel_rfl)); (case sop => k_is); (case crd => k_is); (case cga => k_is); (case cat => (first | k_is | kernel_rfl)); (case inCC => k_is); (case inCS => k_is)
