import PyProof.Rows.All
import Wide.All
import OpenK.AllK
import Wide.FinOn
import HandS.ForMost
import HandS.IsInst
import HandS.More
import HandS.Strs
import HandS.Wide
import HandS.SortInts
import HandS.Style
import HandS.Conv
import PyProof.TypeEq
import PyProof.ReprRoads
import HandS.ForExc
import HandS.Evl
import HandS.Zip
import HandS.SetFor
import HandS.Walk
import PyProof.Rows.CountFlat
import HandS.DictComp
import PyProof.Rows.SeqMore
import HandS.Text
import HandS.WideBits
import HandS.Gcd
import HandS.Defaults
import PyProof.Rows.RegReprOcc
import PyProof.StrOps2
import HandS.NamedTupSort
import KE.LtSeq
import KE.KMathG
import PyProof.Walk
import PyProof.WalkLemmas
import PyProof.Pure
import PyProof.TableTree
import PyProof.FactsTree
import HandS.Rev
import HandS.FStr
import KE.KxField
import PyProof.FString3
import PyProof.Rows.StrIntSpec
import PyProof.StrLawsChain
import PyProof.StrLawsTight
import PyProof.Rows.StrItems
import HandS.Property
import HandS.ExcOwn
import HandS.TryMany
import HandS.WordsExc
import HandS.MakeKwOnly
import HandS.GenList
import HandS.ExcIs
import HandS.ExcValue
import HandS.HotCalls
import OpenK.KMeth
import KE.KCallOwn
import HandS.DictTup
import KE.KDictList
import PyProof.InstNe
import HandS.RaiseMore
import PyProof.CallFns
import PyProof.ReprReads
import PyProof.EqKinds
import HandS.Comp
import PyProof.Rows.TupIter
import HandS.Small
import HandS.ExcField
import HandS.WideMore
import PyProof.StrLawsRepr
import PySem.Challenge.RW_latepatches_k59_errors_of_shapes
set_option Elab.async false
set_option linter.all false
set_option maxRecDepth 100000
namespace Lp
open PySem PySem.Spec PyProof.Rows L2

/-! ### operators that the layer lacks -/
def CPowW (i j : Int) : Prop := 0 ≤ j ∧ (Builtin.Int.intBits i : Int) * j ≤ 2 ^ 27
section
variable {X : Cx}
theorem op_powW : OpR X (binaryOp .Pow) (rI CPowW fun i j => .int (i ^ j.toNat)) := opI fun _ _ _ _ _ _ _ hc q => pow_int hc.1 hc.2 q
end
theorem powW_ok {i : Int} {n : Nat} {j : Int} (h : i.natAbs < 2 ^ n) (hj : 0 ≤ j) (hn : (n : Int) * j ≤ 100000000) : CPowW i j := by
  refine ⟨hj, ?_⟩
  have b := PyProof.Rows.intBits_le h
  have e : (2 : Int) ^ 27 = 134217728 := by decide
  rw [e]
  have h1 : (Builtin.Int.intBits i : Int) ≤ (n : Int) := by omega
  have h2 := Int.mul_le_mul_of_nonneg_right h1 hj
  omega

/-! ### repr -/
def rRepr (K : PySem.W.Frag) : List V → Hp → VK → Prop := fun xs H Q => ∃ (a : Addr) (d : PyData), xs = [.ref a] ∧ Dp K H (.ref a) d ∧ d.showable = true ∧ d.hasDict = false ∧ d.depth ≤ 60 ∧ d.shown.length ≤ sizeLine ∧ Q (.str d.shown) H
theorem call_repr {X : Cx} (hg : X.A.guards = some []) (hu : X.A.units + 64 < cLine) : CallR X (.builtin "repr") (rRepr X.K) := by
  intro pins s σ H xs us Q I r h
  obtain ⟨a, d, rfl, hd, h1, h2, h3, h4, q⟩ := h
  obtain ⟨u, rfl, rx⟩ := vals1 r
  obtain ⟨as, hr⟩ := Dp.reads I d _ u hd rx
  cases (show u = Value.ref a from rx)
  exact PySem.repr_of_reads' hr h1 (PyData.noDict_hsm h2) hg (by omega) (fun _ _ e => e) (fun h' t tk hk => ⟨.str d.shown, H, I.kept hk, ⟨t, rfl⟩, q⟩) h4
end Lp
set_option Elab.async false
set_option linter.all false
set_option maxRecDepth 100000
namespace Lp
open PySem PySem.Spec PyProof.Rows L2

/-! ### defs that are called where no repr is under way (guards = some []) -/
structure FnG (P : Program) (w : World) (K : PySem.W.Frag) (mg : Str → Option Value) (base : Heap) (CX : CXT) (k : Nat) (f : Addr) (fd : FuncData) (ps : List Str) (sp : Sp) : Prop where
  len : ∀ vs H Q E, sp vs H Q E → vs.length = ps.length
  runG : ∀ (A : Around) (out : List Env) (s : Shared) (H : Hp) (ar : Args) (us : List Value) (vs : List V) (Q : VK) (E : XK), A.guards = some [] → Room k A → Env0 P w K mg base A out s H →
    BindsTo s fd ar (ps.zip us) → Vals vs us → sp vs H Q E → codeAny (model P w) A (.call (.ref f) ar) (CR CX out P w H s Q E) s
section
variable {P : Program} {w : World} {K : PySem.W.Frag} {mg : Str → Option Value} {base : Heap}
theorem FnG.of {CX : CXT} {k : Nat} {f : Addr} {fd : FuncData} {ps : List Str} {sp : Sp} (F : FnOk P w K mg base CX k f fd ps sp) : FnG P w K mg base CX k f fd ps sp :=
  ⟨F.len, fun A out s H ar us vs Q E _ hr => F.run A out s H ar us vs Q E hr⟩
theorem fnG_of {CX : CXT} {k : Nat} {f : Addr} {name qual : Str} {params : Arguments} {body : List Stmt} {scope : Scope} {dV kV doc pm cdv ct oc : Value} {an od : Option Addr}
    {osl : Array (Option Value)} {N ps : List Str} {sp : Sp} (lk : K.lookup f = some ⟨oc, od, .func (PySem.W.fnOf name qual params body scope dV kV doc pm an cdv ct), osl⟩) (hcd : PySem.W.codeIn K cdv qual = true) (S : FnScope N ps scope)
    (ln : ∀ vs H Q E, sp vs H Q E → vs.length = ps.length)
    (hb : ∀ (A : Around) (out : List Env) (s : Shared) (H : Hp) (vs : List V) (Q : VK) (E : XK), A.guards = some [] → Room k (A.deeper (envOfC qual scope s.heap.objs.size f cdv)) → sp vs H Q E →
      ∃ t, PSs (cxOf CX P w K mg base N qual scope f cdv A out s H E) body t ∧ t { nx := fun _ H' => Q .non H', rt := Q } (start N vs) H) :
    FnG P w K mg base CX (k + 1) f (PySem.W.fnOf name qual params body scope dV kV doc pm an cdv ct) ps sp := by
  refine ⟨ln, fun A out s H ar us vs Q E hG room en bd rv hs => ?_⟩
  have KX : K.In s.heap := en.mod.kin.keeps fun b o e => (en.bs b o e).1
  have nl : s.heap.NoLimit := en.mod.nolimit.keeps fun b o e => (en.bs b o e).1
  have kd : ∀ y ∈ ps.zip us, scope.names.lookup y.1 = some .local ∨ (scope.names.lookup y.1 = some .cell ∧ ((cellsFrom (s.heap.objs.size + 1) scope.names []).lookup y.1).isSome = true) := by
    rintro ⟨n, v⟩ hy
    have hm := (List.of_mem_zip hy).1
    exact (S.par n hm).elim (fun q => .inl q) fun q => .inr ⟨q, PySem.W.cellsFrom_some _ _ _ (.inl q)⟩
  refine codeAny_call_function room.depth (KX _ _ lk) rfl S.co S.gen rfl (PySem.W.codeRec_of KX hcd) (bd _ _ _ _ ?_)
  refine wpAny_newFunctionEnv_cells S.kind kd fun e1 he s1 x => ?_
  subst he
  refine ⟨nl.keeps x.toInCall.keep, codeAny_func ?_⟩
  obtain ⟨t, ht, hq⟩ := hb A out s H vs Q E hG (room.deeper _) hs
  have J0 : Inv (cxOf CX P w K mg base N qual scope f cdv A out s H E) [] (start N vs) H s1 := inv_start S room.hd en (ln _ _ _ _ hs) rv x
  refine wpAny_mono (ht.run [] s1 (start N vs) H _ J0 hq) (fun fl s' h3 => ?_) fun _ _ h3 => h3
  cases fl with
  | ret u => exact let ⟨v, _, H', J, r2, q⟩ := h3; ⟨v, H', J.os, J.bare, J.base, J.hok, r2, q⟩
  | next => exact let ⟨_, H', J, q⟩ := h3; ⟨.non, H', J.os, J.bare, J.base, J.hok, rfl, q⟩
  | brk => exact (let ⟨_, _, _, q⟩ := h3; q : False).elim
  | cont => exact (let ⟨_, _, _, q⟩ := h3; q : False).elim
theorem okG {x qual : Str} {st : Stmt} {f : Addr} {fd : FuncData} {N ps : List Str} {k : Nat} {sp : Sp} (F : Fun K x qual st f fd) (S : FnScope N ps (defScope st)) (ln : ∀ vs H Q E, sp vs H Q E → vs.length = ps.length)
    (hb : ∀ (cdv : Value) (A : Around) (out : List Env) (s : Shared) (H : Hp) (vs : List V) (Q : VK) (E : XK), A.guards = some [] → Room k (A.deeper (envOfC qual (defScope st) s.heap.objs.size f cdv)) → sp vs H Q E →
      ∃ t, PSs (cxOf CX0 P w K mg base N qual (defScope st) f cdv A out s H E).nox (defBody st) t ∧ t { nx := fun _ H' => Q .non H', rt := Q } (start N vs) H) : FnG P w K mg base CX0 (k + 1) f fd ps sp := by
  obtain ⟨oc, od, kV, doc, pm, an, cdv, ct, osl, rfl, lk, hcd⟩ := F.ex
  refine fnG_of lk hcd S ln fun A out s H vs Q E hG room h => ?_
  obtain ⟨t, ht, q⟩ := hb cdv A out s H vs Q E hG room h
  exact ⟨t, ht.nox, q⟩
end
section
variable {X : Cx} {CX : CXT} {k : Nat} {f : Addr} {fd : FuncData} {ps : List Str} {sp : Sp} {dvs : List V} {ds : List Value} {E : XK} {x : Str} {p pos : Pos} {e : Expr} {es : List Expr} {t : TA}
theorem pe_callG (F : FnG X.prog X.w X.K X.mg X.base CX k f fd ps sp) (hG : X.A.guards = some []) (hr : Room k X.A) (hg : Gl X x) (hm : X.mg x = some (.ref f)) (hk : PySem.W.keepIn X.K (.ref f) = true) (hb : Binds X.K fd ps ds) (hd : Vals dvs ds) (hx : Passes CX X E)
    (ha : PA X (e :: es) t) (hdb : (x == ("__debug__" : Str)) = false := by decide) (he : starEach (e :: es) X.env = (false, eval e X.env) :: starEach es X.env := by rfl) (hpl : (backTo pos (starEach es X.env)).any (·.1) = false := by rfl) :
    PE X (.Call (.Name x p) (e :: es) [] pos) (tCall sp dvs E t) := by
  refine ⟨fun pins s σ H Q I h => wpAny_Call_Name_kw (ld_glob I hg hm ?_ hdb)⟩
  refine PySem.W.callWith_K (h₀ := X.base) I.ok.mod.kin hk (thn (ha.run pos pins s σ H _ I h) fun us s1 ⟨vs, H1, I1, r, q⟩ => ⟨I1.kIn, ?_⟩) he hpl
  have rr : Vals (vs ++ dvs) (us ++ ds) := r.append hd
  have hl : (us ++ ds).length = ps.length := rr.length.symm.trans (F.len _ _ _ _ q)
  refine wpAny_call (codeAny_mono (F.runG X.A X.stack s1 H1 ⟨us, []⟩ (us ++ ds) (vs ++ dvs) Q E hG hr I1.env0 (hb s1 us I1.kIn hl) rr q) fun r s' hq => ?_)
  cases r with
  | error e => exact hx pins σ H1 s1 e s' I1 hq
  | ok fl =>
    cases fl with
    | ret u => exact I1.after hq
    | next => exact False.elim hq
    | brk => exact False.elim hq
    | cont => exact False.elim hq
end

/-! ### the end of a law's row, for such a law -/
theorem law_callG {P : Program} {w : World} {K : PySem.W.Frag} {mg mb : Str → Option Value} {CX : CXT} {k : Nat} {fa a : Addr} {fd : FuncData} {x : Str} {sp : Sp} {s₁ : Shared} {vs : List Value} {ns : List Int}
    (KX : K.In s₁.heap) (hns : s₁.heap.Ns mainGlobals mg) (hb : s₁.heap.Ns builtinsNs mb) (hbb : ∀ x : Str, x ≠ "__name__" → mb x = bootBuiltins x) (hlim : s₁.heap.NoLimit) (hg : s₁.gens = #[])
    (ha : s₁.heap.get? a = some { cls := .type "list", data := .seq vs.toArray }) (hi : IntsAre vs ns) (hl : ns.length ≤ sizeLine) (hr : Room k callerA)
    (F : ∀ base : Heap, K.In base → base.Ns mainGlobals mg → FnG P w K mg base CX k fa fd [x] sp) (hbind : ∀ (s : Shared) (u : Value), BindsTo s fd ⟨[u], []⟩ [(x, u)])
    (hsp : ∀ H : Hp, Only H → SqL K H a (ns.map V.int) → sp [.ref a] H (fun v _ => v = .bl true) fun _ _ _ => False)
    (hCX : ∀ H e s', CX [] H s₁ (fun _ _ _ => False) e s' → False) :
    codeAny (model P w) callerA (.call (.ref fa) ⟨[.ref a], []⟩) (fun r s' => r = .ok (.ret (.bool true)) ∧ OldK s₁.heap s'.heap ∧ s'.os = s₁.os ∧ AllBare s'.gens) s₁ := by
  have rv := vals_ints hi
  have szV := hi.length
  have main : ∀ H : Hp, Only H → SqL K H a (ns.map V.int) → HOk P w H s₁.heap → (∀ b, H b ≠ none → b = a) → (H a ≠ none → K.lookup a = none) →
      codeAny (model P w) callerA (.call (.ref fa) ⟨[.ref a], []⟩) (fun r s' => r = .ok (.ret (.bool true)) ∧ OldK s₁.heap s'.heap ∧ s'.os = s₁.os ∧ AllBare s'.gens) s₁ := by
    intro H hO hS ok hA hK
    have free : ∀ {b : Addr}, b ≠ a → H b = none := fun {b} hb => by
      cases q : H b with
      | none => rfl
      | some u => exact absurd (hA b (by rw [q]; simp)) hb
    have nsK : ∀ {b : Addr} {m : Str → Option Value}, s₁.heap.Ns b m → (hidT s₁.heap H).Ns b m := by
      rintro b m ⟨o, es, ep, e, d, r⟩
      refine ⟨o, es, ep, hidT_get e (free fun z => ?_), d, r⟩
      subst z
      rw [ha] at e
      cases e
      exact nomatch (show Data.seq vs.toArray _ = Data.dict es ep from d)
    have hKb : K.In (hidT s₁.heap H) := by
      intro b o e
      refine hidT_get (KX b o e) ?_
      cases q : H b with
      | none => rfl
      | some u =>
        have z := hA b (by rw [q]; simp)
        subst z
        rw [hK (by rw [q]; simp)] at e
        cases e
    have hM : Mod K mg (hidT s₁.heap H) := ⟨hKb, nsK hns, ⟨mb, nsK hb, hbb⟩, let ⟨mc, h1, h2⟩ := hlim; ⟨mc, nsK h1, h2⟩⟩
    have e0 : Env0 P w K mg (hidT s₁.heap H) callerA [] s₁ H := ⟨rfl, hM, fun b o e => of_hidT e, Nat.le_of_eq (hidT_size _ _), trivial, fun b hb => absurd (show b ∈ ([] : List Addr) from hb) (by simp), ok, .of_eq hg⟩
    refine codeAny_mono ((F _ hKb (nsK hns)).runG callerA [] s₁ H ⟨[.ref a], []⟩ [.ref a] [.ref a] _ _ rfl hr e0 (hbind s₁ (.ref a)) (.cons rfl .nil) (hsp H hO hS)) fun r s' h => ?_
    cases r with
    | error e => exact (hCX H e s' h).elim
    | ok fl =>
      cases fl with
      | next => exact False.elim h
      | brk => exact False.elim h
      | cont => exact False.elim h
      | ret u =>
        obtain ⟨v, H', os, bare, un, hok', r', q⟩ := h
        cases (show v = .bl true from q)
        cases (show u = Value.bool true from r')
        refine ⟨rfl, OldK.of_keep fun b o e => ?_, os, bare⟩
        rcases hO b with z | ⟨ob, xs, z⟩
        · exact un.keep b o e z (fun z => absurd (show b ∈ ([] : List Addr) from z) (by simp)) (by simp)
        · obtain ⟨e1, _⟩ := ok b _ z
          obtain ⟨e2, _⟩ := hok' b _ (un.frzs b ob _ z)
          rw [e] at e1; cases e1
          exact e2
  cases hk : K.lookup a with
  | some o =>
    have e := KX a o hk
    rw [ha] at e
    cases e
    exact main (fun _ => none) (fun _ => .inl rfl) (.inr ⟨_, vs.toArray, _, hk, rfl, rfl, rfl, by rw [List.size_toArray, szV]; exact hl, by simpa using rv⟩) (fun b u z => nomatch z) (fun b z => absurd rfl z) fun z => absurd rfl z
  | none =>
    refine main (fun b => if b = a then some (.frz { cls := .type "list", data := .seq vs.toArray } (.lst (ns.map V.int))) else none) (fun b => ?_) (.inl (.inr ⟨{ cls := .type "list", data := .seq vs.toArray }, if_pos rfl⟩)) (fun b u z => ?_) (fun b z => ?_) fun _ => hk
    · by_cases h : b = a
      · exact .inr ⟨_, _, if_pos h⟩
      · exact .inl (if_neg h)
    · by_cases h : b = a
      · cases (if_pos h).symm.trans z
        subst h
        exact ⟨ha, by rw [List.length_map]; exact hl, vs, _, rv, ha⟩
      · cases (if_neg h).symm.trans z
    · by_cases h : b = a
      · exact h
      · exact absurd (if_neg h) z
theorem walk_ofG {l : PySem.W.OpenLaw} {n k : Nat} {q : Program} {loose : List Str} {XP : (Str → Option Value) → Heap → Prop} {YP : World → Heap → Prop} {d : DefRec} {K : Params → PySem.W.Frag} {CX : World → CXT} {sp : World → Sp} {x : Str}
    (hn : l.most = some n) (hn2 : n ≤ sizeLine) (hdf : d.params.defaults = []) (hr : Room k callerA)
    (hY : ∀ (w : World) (h : Heap), YP w h → (K w.params).In h)
    (F : ∀ (w : World) (mg : Str → Option Value) (fa : Addr) (h : Heap), (K w.params).In h → h.Ns mainGlobals mg → mg d.name = some (.ref fa) →
      ∃ fd : FuncData, (∀ (s : Shared) (u : Value), BindsTo s fd ⟨[u], []⟩ [(x, u)]) ∧
        ∀ base : Heap, (K w.params).In base → base.Ns mainGlobals mg → FnG l.prog w (K w.params) mg base (CX w) k fa fd [x] (sp w))
    (hsp : ∀ (w : World) (H : Hp) (a : Addr) (ns : List Int), ns.length ≤ n → Only H → SqL (K w.params) H a (ns.map V.int) → sp w [.ref a] H (fun v _ => v = .bl true) fun _ _ _ => False)
    (hCX : ∀ (w : World) (H : Hp) (s : Shared) (e : Value) (s' : Shared), CX w [] H s (fun _ _ _ => False) e s' → False) :
    PySem.W.WalkO q loose XP YP l.row.toRowW d [] (fun f vs => PySem.call f vs) := by
  refine Att.attach_call hn hdf fun w _ s₁ mg _ fa _ _ _ _ a vs ns G Y _ _ _ hmg hobj hints hlen hg => ?_
  obtain ⟨fd, hb, hF⟩ := F w mg fa _ (hY w _ Y) G.T.g hmg
  exact law_callG (hY w _ Y) G.T.g G.T.b G.T.builtins G.T.nolimit hg hobj hints (Nat.le_trans hlen hn2) hr hF hb (fun H hO hS => hsp w H a ns hlen hO hS) fun H e s' => hCX w H s₁ e s'
end Lp
set_option Elab.async false
set_option linter.all false
set_option maxRecDepth 100000
namespace Lp
open PySem PySem.Spec PyProof.Rows L2

/-- the names of the built-ins that the text leaves alone -/
structure NoB (mg : Str → Option Value) : Prop where
  len : mg "len" = none
  list : mg "list" = none
  int : mg "int" = none
  bool : mg "bool" = none
  str : mg "str" = none
  tuple : mg "tuple" = none
  max : mg "max" = none
  min : mg "min" = none
  range : mg "range" = none
  repr : mg "repr" = none
  isinstance : mg "isinstance" = none
  type : mg "type" = none
  all : mg "all" = none
  set : mg "set" = none
  zip : mg "zip" = none
  enumerate : mg "enumerate" = none
  sorted : mg "sorted" = none
  abs : mg "abs" = none

/-- a def that may be called by its name -/
structure Gc (P : Program) (w : World) (K : PySem.W.Frag) (mg : Str → Option Value) (base : Heap) (k : Nat) (x : Str) (sp : Sp) : Prop where
  ex : ∃ (f : Addr) (fd : FuncData) (ps : List Str), FnG P w K mg base CX0 k f fd ps sp ∧ mg x = some (.ref f) ∧ PySem.W.keepIn K (.ref f) = true ∧ Binds K fd ps []
theorem FnG.mono {P : Program} {w : World} {K : PySem.W.Frag} {mg : Str → Option Value} {base : Heap} {CX : CXT} {j k : Nat} {f : Addr} {fd : FuncData} {ps : List Str} {sp : Sp} (F : FnG P w K mg base CX j f fd ps sp) (h : j ≤ k) : FnG P w K mg base CX k f fd ps sp :=
  ⟨F.len, fun A out s H ar us vs Q E hG hr => F.runG A out s H ar us vs Q E hG (hr.mono h)⟩
section
variable {X : Cx} {k j : Nat} {x : Str} {sp : Sp} {p pos : Pos} {e : Expr} {es : List Expr} {t : TA}
theorem pe_g (c : Gc X.prog X.w X.K X.mg X.base k x sp) (hG : X.A.guards = some []) (hr : Room j X.A) (hk : k ≤ j) (hg : Gl X x) (ha : PA X (e :: es) t)
    (hdb : (x == ("__debug__" : Str)) = false := by decide) (he : starEach (e :: es) X.env = (false, eval e X.env) :: starEach es X.env := by rfl) (hpl : (backTo pos (starEach es X.env)).any (·.1) = false := by rfl) :
    PE X (.Call (.Name x p) (e :: es) [] pos) (tCall sp [] E0 t) := by
  obtain ⟨f, fd, ps, F, hm, kp, b⟩ := c.ex
  exact pe_callG F hG (hr.mono hk) hg hm kp b .nil pass0 ha hdb he hpl
end

/-! ### == and != of types -/
def rEqTy : R2 := fun x y H Q => ∃ a b, x = .ty a ∧ y = .ty b ∧ (∀ s' : Shared, s'.TypeIs (.type a) "type") ∧ (∀ s' : Shared, s'.TypeIs (.type b) "type") ∧ Q (.bl (decide (a = b))) H
def rNeTy : R2 := fun x y H Q => ∃ a b, x = .ty a ∧ y = .ty b ∧ (∀ s' : Shared, s'.TypeIs (.type a) "type") ∧ (∀ s' : Shared, s'.TypeIs (.type b) "type") ∧ Q (.bl (!decide (a = b))) H
section
variable {X : Cx}
theorem op_eqTy : OpR X (compareOp .Eq) rEqTy := by
  intro pins s σ H x y v u Q I rx ry h
  obtain ⟨a, b, rfl, rfl, ha, hb, q⟩ := h
  cases (show v = Value.type a from rx)
  cases (show u = Value.type b from ry)
  by_cases e : a = b
  · subst e
    exact PySem.TypeEq.eq_type_same ha ⟨.bl true, H, I, rfl, by simpa using q⟩
  · exact PySem.TypeEq.eq_type_other ha hb (by rw [ty_beq]; exact decide_eq_false e) ⟨.bl false, H, I, rfl, by simpa [e] using q⟩
end

open PySem.TypeEq
theorem slot_type_ne : Slot "type" (cmpInfo .NotEq).2.1 "object.__ne__" :=
  .of (owner := "object") (n := "__ne__") (by rw [typeLookup_type, builtinLookup_eq_fast]; kernel_rfl) (by decide +kernel) (by decide +kernel) (by decide +kernel)
    (by first | exact .inl (by decide +kernel) | exact .inr (by decide +kernel)) (by rw [isSubtype_type]; kernel_rfl)
section
variable {prog : Program} {w : World} {A : Around} {E : Value → Shared → Prop} {s : Shared} {Q : Value → Shared → Prop}
theorem ne_type_same {X : String} (hX : ∀ s' : Shared, s'.TypeIs (.type X) "type") (h : Q (.bool false) s) : wpAny (model prog w) A (compareOp .NotEq (.type X) (.type X)) Q E s := by
  show wpAny _ A (richCompare .NotEq _ _) Q E s
  refine PySem.wpAny_richCompare_same (T := "type") (hX s) (hX s) slot_type_ne (wpAny_call_entry slot_type_ne (hX s) F.entry_object_ne ?_ (F.args_object_ne_2 _ _))
  unfold Builtin.«object.__ne__»
  refine wpAny_bind (m := slotArgs "__ne__" 1 _) (wpAny_of_eq (a := ((Value.type X : Value), [Value.type X])) (by first | rfl | (simp only [slotArgs]; rfl)) ?_)
  refine wpAny_bind (wpAny_cRoomFor_or (.inl rfl) ?_)
  refine wpAny_bind (m := callSpecialIfBound? (.type X) (Str.ofString "__eq__") [.type X]) (wpAny_callSpecialIfBound?_slot (hX s) slot_type_eq
    (call_gives slot_type_eq (hX s) F.entry_object_eq (F.args_object_eq_2 _ _) (object_eq_same rfl (by simp)) ?_))
  show wpAny (model prog w) A.in1 (truthy (.bool true) >>= fun b => ret (Value.bool !b)) _ E s
  exact wpAny_bind (wpAny_of_eq (a := true) (by first | rfl | simp [truthy]) (wpAny_pure ⟨_, rfl, (by intro e; cases e), h⟩))
end

/-- a != b of the same built-in type -/
def rNeTyS : R2 := fun x y H Q => ∃ a, x = .ty a ∧ y = .ty a ∧ (∀ s' : Shared, s'.TypeIs (.type a) "type") ∧ Q (.bl false) H
theorem op_neTy {X : Cx} : OpR X (compareOp .NotEq) rNeTyS := by
  intro pins s σ H x y v u Q I rx ry h
  obtain ⟨a, rfl, rfl, ha, q⟩ := h
  cases (show v = Value.type a from rx)
  cases (show u = Value.type a from ry)
  exact ne_type_same ha ⟨.bl false, H, I, rfl, q⟩
/-! ### heaps -/
theorem same_new {H : Hp} {p : Addr} {o : HO} (h : H p = none) : Same H (upd H p o) := fun b x e => by
  rw [upd_ne (ne_of_none e h)]
  exact e
/-- all but what stands at a is as it was -/
def But (a : Addr) (H H' : Hp) : Prop := ∀ b, b ≠ a → ∀ o, H b = some o → H' b = some o
end Lp
set_option Elab.async false
set_option linter.all false
set_option maxRecDepth 100000
namespace Lp
open PySem PySem.Spec PyProof.Rows L2

/-! ### comprehensions that only add -/
def LcP (H1 : Hp) (D : Addr) (acc : Nat → List V) (i : Nat) (H : Hp) : Prop := H1 D = none ∧ Same H1 H ∧ H D = some (.lst (acc i))
section
variable {H1 H H4 : Hp} {D : Addr} {acc : Nat → List V} {i : Nat} {y : V}
theorem LcP.init (h : H1 D = none) (e : acc 0 = []) : LcP H1 D acc 0 (upd H1 D (.lst [])) := ⟨h, same_new h, by rw [upd_same, e]⟩
theorem LcP.put (p : LcP H1 D acc i H) (s : Same H H4) (e : acc (i + 1) = acc i ++ [y]) (hz : (acc i).length < 100000) :
    ∃ l, H4 D = some (.lst l) ∧ l.length < sizeLine ∧ LcP H1 D acc (i + 1) (upd H4 D (.lst (l ++ [y]))) := by
  obtain ⟨p1, p2, p3⟩ := p
  refine ⟨acc i, s _ _ p3, Nat.lt_of_lt_of_le hz (by decide), p1, fun b o h => ?_, by rw [upd_same, e]⟩
  rw [upd_ne (ne_of_none h p1)]
  exact s _ _ (p2 _ _ h)
theorem LcP.skip (p : LcP H1 D acc i H) (s : Same H H4) (e : acc (i + 1) = acc i) : LcP H1 D acc (i + 1) H4 := ⟨p.1, p.2.1.trans s, by rw [e]; exact s _ _ p.2.2⟩
end
theorem get_int {ns : List Int} {i : Nat} {x : V} (h : (ns.map V.int)[i]? = some x) : ∃ n, x = .int n ∧ ns[i]? = some n := by
  rw [List.getElem?_map] at h
  cases e : ns[i]? with
  | none => rw [e] at h; cases h
  | some n => rw [e] at h; cases h; exact ⟨n, rfl, rfl⟩
theorem mem_get {α : Type} {l : List α} {i : Nat} {x : α} (h : l[i]? = some x) : x ∈ l := List.mem_of_getElem? h
theorem lt_get {α : Type} {l : List α} {i : Nat} {x : α} (h : l[i]? = some x) : i < l.length := (List.getElem?_eq_some_iff.mp h).1
theorem take_get {α : Type} {l : List α} {i : Nat} {x : α} (h : l[i]? = some x) : l.take (i + 1) = l.take i ++ [x] := by
  rw [List.take_add_one, h]
  rfl
theorem zs {n : Nat} (h : n ≤ 100000) : n ≤ sizeLine := Nat.le_trans h (by decide)
theorem zl {n : Nat} (h : n < 100000) : n < sizeLine := Nat.lt_of_lt_of_le h (by decide)
theorem at0 {x : V} {r : List V} : atI (x :: r) 0 = some x := atI_nat (j := 0) rfl
theorem at1 {x y : V} {r : List V} : atI (x :: y :: r) 1 = some y := atI_nat (j := 1) rfl
theorem at2 {x y z : V} {r : List V} : atI (x :: y :: z :: r) 2 = some z := atI_nat (j := 2) rfl
theorem at_last {xs : List V} {y : V} : atI (xs ++ [y]) (-1) = some y := atI_last _ _
theorem dT {p : Prop} [Decidable p] (h : p) : V.bl (decide p) = V.bl true := congrArg V.bl (decide_eq_true h)
theorem dF {p : Prop} [Decidable p] (h : ¬ p) : V.bl (decide p) = V.bl false := congrArg V.bl (decide_eq_false h)
theorem nT {p : Prop} [Decidable p] (h : ¬ p) : V.bl (!decide p) = V.bl true := by rw [decide_eq_false h]; rfl
theorem nF {p : Prop} [Decidable p] (h : p) : V.bl (!decide p) = V.bl false := by rw [decide_eq_true h]; rfl
theorem vne {i j : Int} (h : i ≠ j) : ¬ V.int i = V.int j := fun e => h (V.int.inj e)

/-! ### a word behind a test, a value -/
def tMid (t : TT) : TT := fun σ H Q => ∃ M : Bool → Hp → Prop, t σ H M ∧ ∀ b H', M b H' → Q b H'
theorem pt_mid {X : Cx} {e : Expr} {t : TT} (h : PT X e t) : PT X e (tMid t) := ⟨fun pins s σ H _ I ⟨M, hm, hq⟩ => thn (h.run pins s σ H M I hm) fun b _ ⟨H', I', m⟩ => ⟨H', I', hq b H' m⟩⟩
def tMidE (t : TE) : TE := fun σ H Q => ∃ M : VK, t σ H M ∧ ∀ v H', M v H' → Q v H'
theorem pe_mid {X : Cx} {e : Expr} {t : TE} (h : PE X e t) : PE X e (tMidE t) := ⟨fun pins s σ H _ I ⟨M, hm, hq⟩ => thn (h.run pins s σ H M I hm) fun _ _ ⟨v, H', I', r, m⟩ => ⟨v, H', I', r, hq v H' m⟩⟩
/-! ### all but what stands at a is as it was -/
def Bt (a : Addr) (H H' : Hp) : Prop := ∀ b o, b ≠ a → H b = some o → H' b = some o
section
variable {a b p : Addr} {H H1 H2 H' : Hp} {o : HO}
theorem Bt.refl (a : Addr) (H : Hp) : Bt a H H := fun _ _ _ e => e
theorem Bt.trans (x : Bt a H H1) (y : Bt a H1 H2) : Bt a H H2 := fun b o n e => y b o n (x b o n e)
theorem Bt.of (x : Same H H') : Bt a H H' := fun b o _ e => x b o e
theorem Bt.at_ (a : Addr) (H : Hp) (o : HO) : Bt a H (upd H a o) := fun b u n e => by rw [upd_ne n]; exact e
theorem Bt.new (h : H p = none) : Bt a H (upd H p o) := .of (same_new h)
theorem Bt.mut (x : Bt a H H') (h : H p = none) : Bt a H (upd H' p o) := fun b u n e => by rw [upd_ne (ne_of_none e h)]; exact x b u n e
theorem Bt.add (x : Bt a H H') (h : H' p = none) : Bt a H (upd H' p o) := x.trans (.new h)
theorem Same.mut (x : Same H H') (h : H p = none) : Same H (upd H' p o) := fun b u e => by rw [upd_ne (ne_of_none e h)]; exact x b u e
theorem Same.add (x : Same H H') (h : H' p = none) : Same H (upd H' p o) := x.trans (same_new h)
theorem Bt.seq {K : PySem.W.Frag} {xs : List V} (x : Bt a H H') (n : b ≠ a) (h : SqL K H b xs) : SqL K H' b xs := by
  rcases h with (h | ⟨o, h⟩) | h
  · exact .inl (.inl (x _ _ n h))
  · exact .inl (.inr ⟨o, x _ _ n h⟩)
  · exact .inr h
end

/-! ### rules that name the written part outright: for the inside of comprehensions -/
section
variable {X : Cx} {K : PySem.W.Frag} {o e : Expr} {es : List Expr} {to : TE} {t : TA} {name : Str} {apos cpos : Pos} {T id : String} {r : V → List V → Hp → VK → Prop}
theorem k_bm (hK : X.K = K) (pa : PlainAttrs T) (slot : Slot T name id) (hty : typeOf (.builtin id) = pure (.type "method_descriptor")) (hm : MtR X id r) (ho : PE X o to) (ha : PA X (e :: es) t)
    (hbase : attributeBase o name X.env (eval o X.env) = eval o X.env := by rfl)
    (hfew : ((backTo cpos (starEach (e :: es) X.env)).all (fun x => !x.1) && (backToKw cpos (keywordEach [] X.env)).all (fun x => x.1.isSome)
      && decide ((e :: es).length + ([] : List Keyword).length + (if ([] : List Keyword).isEmpty then 0 else 1) < 30)) = true := by rfl)
    (hline : (apos.endLine == cpos.line) = true := by rfl) (hs : starEach (e :: es) X.env = (false, eval e X.env) :: starEach es X.env := by rfl) (hplain : (backTo cpos (starEach es X.env)).any (·.1) = false := by rfl) :
    PE X (.Call (.Attribute o name apos) (e :: es) [] cpos) (tBM K T r to t) := by
  subst hK
  exact pe_bm pa slot hty hm ho ha hbase hfew hline hs hplain
def rLenK (K : PySem.W.Frag) : List V → Hp → VK → Prop := fun xs H Q => ∃ p ys, xs = [.ref p] ∧ (SqL K H p ys ∨ SqT K H p ys) ∧ Q (.int ys.length) H
theorem k_len (hK : X.K = K) : CallR X (.builtin "len") (rLenK K) := by
  subst hK
  exact call_len_seq
theorem k_ix (hK : X.K = K) : IxR X (rIxL K) := by
  subst hK
  exact ix_list
theorem k_ixT (hK : X.K = K) : IxR X (rIxT K) := by
  subst hK
  exact ix_tup
theorem k_in (hK : X.K = K) : OpR X (compareOp .In) (rIn K false) := by
  subst hK
  exact op_in_seq
theorem k_notin (hK : X.K = K) : OpR X (compareOp .NotIn) (rIn K true) := by
  subst hK
  exact op_notIn_seq
theorem k_isi (hK : X.K = K) : CallR X (.builtin "isinstance") (rIsi K) := by
  subst hK
  exact call_isi
end
end Lp
set_option Elab.async false
set_option linter.all false
set_option maxRecDepth 100000
namespace Lp
open PySem PySem.Spec PyProof.Rows L2
/-! ### lists of ints as data -/
abbrev dI (ns : List Int) : PyData := .list (ns.map PyData.int)
theorem lay_ints : ∀ ns : List Int, PyData.canLayAll0 (ns.map PyData.int) = true
  | [] => rfl
  | _ :: r => by
    show (PyData.canLay0 (.int _) && PyData.canLayAll0 (r.map PyData.int)) = true
    rw [lay_ints r]
    rfl
theorem depth_ints : ∀ ns : List Int, PyData.depthAll (ns.map PyData.int) = 0
  | [] => rfl
  | _ :: r => by
    show max (PyData.depth (.int _)) (PyData.depthAll (r.map PyData.int)) = 0
    rw [depth_ints r]
    rfl
theorem shaped_ints (ns : List Int) : SeqAt.shaped (dI ns) = true := by
  show (PyData.canLayAll0 (ns.map PyData.int) && decide (PyData.depthAll (ns.map PyData.int) + 1 ≤ 64)) = true
  rw [lay_ints, depth_ints]
  rfl
theorem noDict_ints : ∀ ns : List Int, PyData.hasDictAll (ns.map PyData.int) = false
  | [] => rfl
  | _ :: r => by
    show (PyData.hasDict (.int _) || PyData.hasDictAll (r.map PyData.int)) = false
    rw [noDict_ints r]
    rfl
theorem show_ints : ∀ ns : List Int, (∀ n ∈ ns, n.natAbs.log2 < 1920) → PyData.showableAll (ns.map PyData.int) = true
  | [], _ => rfl
  | n :: r, h => by
    show (decide (n.natAbs.log2 < 1920) && PyData.showableAll (r.map PyData.int)) = true
    rw [show_ints r (fun m hm => h m (List.mem_cons_of_mem _ hm)), decide_eq_true (h n List.mem_cons_self)]
    rfl
theorem dpAll_ints {K : PySem.W.Frag} {H : Hp} : ∀ ns : List Int, DpAll K H (ns.map V.int) (ns.map PyData.int)
  | [] => .nil
  | n :: r => .cons (.int n) (dpAll_ints r)
theorem dp_ints {K : PySem.W.Frag} {H : Hp} {a : Addr} {ns : List Int} (h : SqL K H a (ns.map V.int)) : Dp K H (.ref a) (dI ns) := .lst h (dpAll_ints ns)
theorem eqvAll_ints : ∀ xs ys : List Int, PyData.eqvAll (xs.map PyData.int) (ys.map PyData.int) = decide (xs = ys)
  | [], [] => rfl
  | [], _ :: _ => rfl
  | _ :: _, [] => rfl
  | x :: r, y :: s => by
    show (PyData.eqv (.int x) (.int y) && PyData.eqvAll (r.map PyData.int) (s.map PyData.int)) = decide (x :: r = y :: s)
    rw [eqvAll_ints r s]
    show ((x == y) && decide (r = s)) = decide (x :: r = y :: s)
    by_cases e : x = y <;> by_cases e' : r = s <;> simp [e, e']
theorem eqv_ints (xs ys : List Int) : PyData.eqv (dI xs) (dI ys) = decide (xs = ys) := by
  show PyData.eqvAll (xs.map PyData.int) (ys.map PyData.int) = _
  exact eqvAll_ints xs ys
/-- [] == [], by the reading of == -/
theorem textFrom_le : ∀ (ts : List Str) (k : Nat) (acc : Str) (m : Nat), (∀ t ∈ ts, t.length ≤ m) → (textFrom k acc ts).length ≤ acc.length + ts.length * (m + 2)
  | [], k, acc, m, _ => by
    show acc.length ≤ _
    simp
  | t :: r, k, acc, m, h => by
    have ih := fun k' acc' => textFrom_le r k' acc' m (fun x hx => h x (List.mem_cons_of_mem _ hx))
    have ht := h t List.mem_cons_self
    have z := ih (k + 1) (acc ++ (if k > 0 then ", " else "" : String) ++ t)
    have e : (acc ++ (if k > 0 then ", " else "" : String) ++ t).length ≤ acc.length + 2 + t.length := by
      rw [Str.length_append, Str.length_append]
      by_cases hk : k > 0
      · rw [if_pos hk]
        exact Nat.le_refl _
      · rw [if_neg hk]
        show acc.length + 0 + t.length ≤ _
        omega
    show (textFrom (k + 1) (acc ++ (if k > 0 then ", " else "" : String) ++ t) r).length ≤ acc.length + (r.length + 1) * (m + 2)
    rw [Nat.succ_mul]
    omega
theorem num_len : ∀ n : Int, -100 ≤ n → n ≤ 100 → (Str.ofString (toString n)).length ≤ 4 := by
  intro n h0 h1
  have key : ∀ i : Fin 201, (Str.ofString (toString ((i.val : Int) - 100))).length ≤ 4 := by decide +kernel
  have e := key ⟨(n + 100).toNat, by omega⟩
  have e2 : (((n + 100).toNat : Nat) : Int) - 100 = n := by omega
  rw [e2] at e
  exact e
theorem shownAll_mem : ∀ (ns : List Int) (t : Str), t ∈ PyData.shownAll (ns.map PyData.int) → ∃ n ∈ ns, t = Str.ofString (toString n)
  | [], t, h => by
    have h' : t ∈ ([] : List Str) := h
    cases h'
  | n :: r, t, h => by
    have h' : t ∈ Str.ofString (toString n) :: PyData.shownAll (r.map PyData.int) := h
    rcases List.mem_cons.mp h' with e | e
    · exact ⟨n, List.mem_cons_self, e⟩
    · obtain ⟨m, hm, e⟩ := shownAll_mem r t e
      exact ⟨m, List.mem_cons_of_mem _ hm, e⟩
theorem shownAll_len : ∀ ns : List Int, (PyData.shownAll (ns.map PyData.int)).length = ns.length
  | [] => rfl
  | n :: r => congrArg (· + 1) (shownAll_len r)
theorem shown_ints {ns : List Int} (hb : ∀ n ∈ ns, -100 ≤ n ∧ n ≤ 100) (hl : ns.length ≤ 1000) : (dI ns).shown.length ≤ sizeLine := by
  show (textFrom 0 "[" (PyData.shownAll (ns.map PyData.int)) ++ ("]" : Str)).length ≤ sizeLine
  rw [Str.length_append]
  have z := textFrom_le (PyData.shownAll (ns.map PyData.int)) 0 "[" 4 (fun t ht => by
    obtain ⟨n, hn, e⟩ := shownAll_mem ns t ht
    rw [e]
    exact num_len n (hb n hn).1 (hb n hn).2)
  rw [shownAll_len] at z
  have e1 : ("[" : Str).length = 1 := rfl
  have e2 : ("]" : Str).length = 1 := rfl
  rw [e1] at z
  rw [e2]
  exact zs (by omega)
theorem log2_small {n : Int} (h0 : -100 ≤ n) (h1 : n ≤ 100) : n.natAbs.log2 < 1920 := by
  have h : n.natAbs < 2 ^ 7 := by omega
  exact Nat.lt_trans (PySem.Flt.log2_lt_of (by decide : 0 < 7) h) (by decide)
theorem rrepr_ints {K : PySem.W.Frag} {H : Hp} {a : Addr} {ns : List Int} {Q : VK} (hS : SqL K H a (ns.map V.int)) (hb : ∀ n ∈ ns, -100 ≤ n ∧ n ≤ 100) (hl : ns.length ≤ 1000) (q : Q (.str (dI ns).shown) H) : rRepr K [.ref a] H Q :=
  ⟨a, dI ns, rfl, dp_ints hS, show_ints ns (fun n hn => log2_small (hb n hn).1 (hb n hn).2), noDict_ints ns, by
    show PyData.depthAll (ns.map PyData.int) + 1 ≤ 60
    rw [depth_ints]
    decide, shown_ints hb hl, q⟩

/-! ### places -/
theorem erase_map {α β : Type} (f : α → β) : ∀ (l : List α) (j : Nat), (l.map f).eraseIdx j = (l.eraseIdx j).map f
  | [], _ => by simp
  | x :: r, 0 => rfl
  | x :: r, j + 1 => congrArg (f x :: ·) (erase_map f r j)
theorem get_at {al : List Int} {j : Nat} (h : j < al.length) : (al.map V.int)[j]? = some (.int al[j]) := by
  rw [List.getElem?_map, List.getElem?_eq_getElem h]
  rfl
theorem ix_at {j n : Nat} (h : j < n) : seqIndex? (j : Int) n = some j := (ixN_seq (Evl.ixN_nat h)).1
theorem nat_of {r : Int} (h : 0 ≤ r) : ∃ j : Nat, r = (j : Int) := ⟨r.toNat, by omega⟩
theorem nm {k : Nat} (h : k ≤ 100000) : -(2 ^ 63) ≤ (k : Int) ∧ (k : Int) < 2 ^ 63 := by omega
theorem free_of {a p : Addr} {H H' : Hp} (b : Bt a H H') (n : p ≠ a) (h : H' p = none) : H p = none := by
  cases e : H p with
  | none => rfl
  | some o =>
    rw [b _ _ n e] at h
    cases h
theorem erase_perm : ∀ (l : List Int) (j : Nat) (h : j < l.length), (l[j] :: l.eraseIdx j).Perm l
  | x :: r, 0, _ => .refl _
  | x :: r, j + 1, h => by
    have h' : j < r.length := Nat.lt_of_succ_lt_succ h
    exact (List.Perm.swap x (r[j]'h') (r.eraseIdx j)).trans ((erase_perm r j h').cons x)
end Lp
set_option Elab.async false
set_option linter.all false
set_option maxRecDepth 100000
namespace Lp
open PySem PySem.Spec PyProof.Rows L2
theorem lc_enum {K : PySem.W.Frag} {a : Addr} {xs : List V} {g : TG} {tt : TT} {te : TE} {vs : List Nat} {σ : L2.St} {H1 : Hp} {D : Addr} {Qd : Hp → Prop} (Pv : Nat → Hp → Prop) (h0 : Pv 0 (upd H1 D (.lst []))) (hl : ∀ i H, i ≤ xs.length → Pv i H → SqL K H a xs)
    (hs : ∀ (i : Nat) (x : V) (T : Addr) (H : Hp), xs[i]? = some x → H T = none → Pv i H → g (.ref T) (wipe σ vs) (upd H T (.tup [.int (i : Nat), x])) fun σ2 H2 => wipe σ2 vs = wipe σ vs ∧ tt σ2 H2 fun b H3 =>
      if b = true then te σ2 H3 fun y H4 => ∃ acc, H4 D = some (.lst acc) ∧ acc.length < sizeLine ∧ Pv (i + 1) (upd H4 D (.lst (acc ++ [y]))) else Pv (i + 1) H3) (hd : ∀ H, Pv xs.length H → Qd H) :
    ∃ W : Nat → Nat → Hp → Prop, (∃ m, W 0 m (upd H1 D (.lst []))) ∧ ∀ i m H, W i m H →
      ((Ite K a).stop i H ∧ Qd H) ∨ ((Ite K a).go i H ∧ ∃ Nx : Hp → Prop, (∀ H', Nx H' → ∃ m', m' < m ∧ W (i + 1) m' H') ∧ ∀ x H', (Ite K a).yld i H x H' → g x (wipe σ vs) H' fun σ2 H2 => wipe σ2 vs = wipe σ vs ∧ tt σ2 H2 fun b H3 =>
        if b = true then te σ2 H3 fun y H4 => ∃ acc, H4 D = some (.lst acc) ∧ acc.length < sizeLine ∧ Nx (upd H4 D (.lst (acc ++ [y]))) else Nx H3) := by
  refine ⟨fun i m H => m = xs.length - i ∧ i ≤ xs.length ∧ Pv i H, ⟨xs.length, by simp, Nat.zero_le _, h0⟩, ?_⟩
  rintro i m H ⟨rfl, hi, pv⟩
  have sq := hl i H hi pv
  rcases Nat.lt_or_ge i xs.length with hlt | hge
  · refine .inr ⟨⟨xs, xs[i], sq, List.getElem?_eq_getElem hlt⟩, Pv (i + 1), fun H' p' => ⟨xs.length - (i + 1), by omega, rfl, hlt, p'⟩, fun x H' y => ?_⟩
    obtain ⟨T, z, rfl, nT, rfl, ez⟩ := y
    exact hs i z T H (ez xs sq) nT pv
  · have e : i = xs.length := by omega
    subst e
    exact .inl ⟨⟨xs, sq, Nat.le_refl _⟩, hd H pv⟩
theorem cut_take (xs : List V) (k : Nat) (h : k ≤ xs.length) : cutV xs none (some (k : Int)) = xs.take k := by
  unfold cutV
  rw [HT.sIx_none, HT.sIx_nat, List.drop_zero, Nat.sub_zero, Nat.min_eq_left h]
theorem decV (i j : Int) : decide (V.int i = V.int j) = decide (i = j) := decide_eq_decide.mpr ⟨fun z => V.int.inj z, fun z => congrArg V.int z⟩
theorem k_sl {X : Cx} {K : PySem.W.Frag} (hK : X.K = K) : SlR X (rSlL K) := by
  subst hK
  exact sl_list
theorem k_tup {X : Cx} {K : PySem.W.Frag} {es : List Expr} {k : Nat} {pos : Pos} {t : TGs} {n : Nat} (hK : X.K = K) (hc : X.calm = true) (h : PGs X es t)
    (hn : (assignEach es X.env).length = n := by rfl) (hst : (assignEach es X.env).findIdx? (·.1) = none := by rfl) : PG X (.Tuple es k pos) (gTup K n t) := by
  subst hK
  exact pg_tup hc h hn hst
theorem seqN {K : PySem.W.Frag} {xs : List V} {H H1 H' : Hp} {a b : Addr} (h : SqL K H b xs) (n : H a = none) (s : Same H H1) (x : Bt a H1 H') : SqL K H' b xs := by
  rcases h with (h | ⟨o, h⟩) | h
  · exact .inl (.inl (x _ _ (ne_of_none h n) (s _ _ h)))
  · exact .inl (.inr ⟨o, x _ _ (ne_of_none h n) (s _ _ h)⟩)
  · exact .inr h
theorem rI1 {ns : List Int} (hb : ∀ n ∈ ns, -100 ≤ n ∧ n ≤ 100) : (dI ns).showable = true := show_ints ns (fun n hn => log2_small (hb n hn).1 (hb n hn).2)
theorem rI2 (ns : List Int) : (dI ns).depth ≤ 60 := by
  show PyData.depthAll (ns.map PyData.int) + 1 ≤ 60
  rw [depth_ints]
  decide
end Lp
set_option Elab.async false
set_option linter.all false
set_option maxRecDepth 100000
namespace Lp
open PySem PySem.Spec PyProof.Rows L2
theorem lc_zipL {K : PySem.W.Frag} {a b : Addr} {xs ys : List V} {g : TG} {tt : TT} {te : TE} {vs : List Nat} {σ : L2.St} {H1 : Hp} {D : Addr} {Qd : Hp → Prop} (le : xs.length = ys.length) (Pv : Nat → Hp → Prop) (h0 : Pv 0 (upd H1 D (.lst []))) (hl : ∀ i H, i ≤ xs.length → Pv i H → SqL K H a xs ∧ SqL K H b ys)
    (hs : ∀ (i : Nat) (x y : V) (T : Addr) (H : Hp), xs[i]? = some x → ys[i]? = some y → H T = none → Pv i H → g (.ref T) (wipe σ vs) (upd H T (.tup [x, y])) fun σ2 H2 => wipe σ2 vs = wipe σ vs ∧ tt σ2 H2 fun b H3 =>
      if b = true then te σ2 H3 fun y H4 => ∃ acc, H4 D = some (.lst acc) ∧ acc.length < sizeLine ∧ Pv (i + 1) (upd H4 D (.lst (acc ++ [y]))) else Pv (i + 1) H3) (hd : ∀ H, Pv xs.length H → Qd H) :
    ∃ W : Nat → Nat → Hp → Prop, (∃ m, W 0 m (upd H1 D (.lst []))) ∧ ∀ i m H, W i m H →
      ((Itz K a b).stop i H ∧ Qd H) ∨ ((Itz K a b).go i H ∧ ∃ Nx : Hp → Prop, (∀ H', Nx H' → ∃ m', m' < m ∧ W (i + 1) m' H') ∧ ∀ x H', (Itz K a b).yld i H x H' → g x (wipe σ vs) H' fun σ2 H2 => wipe σ2 vs = wipe σ vs ∧ tt σ2 H2 fun b H3 =>
        if b = true then te σ2 H3 fun y H4 => ∃ acc, H4 D = some (.lst acc) ∧ acc.length < sizeLine ∧ Nx (upd H4 D (.lst (acc ++ [y]))) else Nx H3) := by
  refine ⟨fun i m H => m = xs.length - i ∧ i ≤ xs.length ∧ Pv i H, ⟨xs.length, by simp, Nat.zero_le _, h0⟩, ?_⟩
  rintro i m H ⟨rfl, hi, pv⟩
  obtain ⟨sa, sb⟩ := hl i H hi pv
  rcases Nat.lt_or_ge i xs.length with hlt | hge
  · refine .inr ⟨⟨xs, ys, xs[i], ys[i]'(by omega), sa, sb, List.getElem?_eq_getElem hlt, List.getElem?_eq_getElem (by omega)⟩, Pv (i + 1), fun H' p' => ⟨xs.length - (i + 1), by omega, rfl, hlt, p'⟩, fun x H' y => ?_⟩
    obtain ⟨T, z1, z2, rfl, nT, rfl, e1, e2⟩ := y
    exact hs i z1 z2 T H (e1 xs sa) (e2 ys sb) nT pv
  · have e : i = xs.length := by omega
    subst e
    exact .inl ⟨⟨xs, ys, sa, sb, .inl (Nat.le_refl _)⟩, hd H pv⟩
theorem lc_zipT {K : PySem.W.Frag} {a b : Addr} {xs ys : List V} {g : TG} {tt : TT} {te : TE} {vs : List Nat} {σ : L2.St} {H1 : Hp} {D : Addr} {Qd : Hp → Prop} (le : xs.length = ys.length) (Pv : Nat → Hp → Prop) (h0 : Pv 0 (upd H1 D (.lst []))) (hl : ∀ i H, i ≤ xs.length → Pv i H → SqT K H a xs ∧ SqT K H b ys)
    (hs : ∀ (i : Nat) (x y : V) (T : Addr) (H : Hp), xs[i]? = some x → ys[i]? = some y → H T = none → Pv i H → g (.ref T) (wipe σ vs) (upd H T (.tup [x, y])) fun σ2 H2 => wipe σ2 vs = wipe σ vs ∧ tt σ2 H2 fun b H3 =>
      if b = true then te σ2 H3 fun y H4 => ∃ acc, H4 D = some (.lst acc) ∧ acc.length < sizeLine ∧ Pv (i + 1) (upd H4 D (.lst (acc ++ [y]))) else Pv (i + 1) H3) (hd : ∀ H, Pv xs.length H → Qd H) :
    ∃ W : Nat → Nat → Hp → Prop, (∃ m, W 0 m (upd H1 D (.lst []))) ∧ ∀ i m H, W i m H →
      ((RZ.ItzT K a b).stop i H ∧ Qd H) ∨ ((RZ.ItzT K a b).go i H ∧ ∃ Nx : Hp → Prop, (∀ H', Nx H' → ∃ m', m' < m ∧ W (i + 1) m' H') ∧ ∀ x H', (RZ.ItzT K a b).yld i H x H' → g x (wipe σ vs) H' fun σ2 H2 => wipe σ2 vs = wipe σ vs ∧ tt σ2 H2 fun b H3 =>
        if b = true then te σ2 H3 fun y H4 => ∃ acc, H4 D = some (.lst acc) ∧ acc.length < sizeLine ∧ Nx (upd H4 D (.lst (acc ++ [y]))) else Nx H3) := by
  refine ⟨fun i m H => m = xs.length - i ∧ i ≤ xs.length ∧ Pv i H, ⟨xs.length, by simp, Nat.zero_le _, h0⟩, ?_⟩
  rintro i m H ⟨rfl, hi, pv⟩
  obtain ⟨sa, sb⟩ := hl i H hi pv
  rcases Nat.lt_or_ge i xs.length with hlt | hge
  · refine .inr ⟨⟨xs, ys, xs[i], ys[i]'(by omega), sa, sb, List.getElem?_eq_getElem hlt, List.getElem?_eq_getElem (by omega)⟩, Pv (i + 1), fun H' p' => ⟨xs.length - (i + 1), by omega, rfl, hlt, p'⟩, fun x H' y => ?_⟩
    obtain ⟨T, z1, z2, rfl, nT, rfl, e1, e2⟩ := y
    exact hs i z1 z2 T H (e1 xs sa) (e2 ys sb) nT pv
  · have e : i = xs.length := by omega
    subst e
    exact .inl ⟨⟨xs, ys, sa, sb, .inl (Nat.le_refl _)⟩, hd H pv⟩
theorem tyx_l {K : PySem.W.Frag} {H : Hp} {a : Addr} {xs : List V} (h : SqL K H a xs) : TyX K H (.ref a) (.type "list") := by
  rcases h with (h | ⟨o, h⟩) | ⟨o, its, n, h, c, _⟩
  · exact .base (.lst h)
  · exact .base (.frz h)
  · exact .kList h c
theorem tyx_t {K : PySem.W.Frag} {H : Hp} {a : Addr} {xs : List V} (h : SqT K H a xs) : TyX K H (.ref a) (.type "tuple") := by
  rcases h with (h | ⟨o, h⟩) | ⟨o, its, n, h, c, _⟩
  · exact .base (.tup h)
  · exact .fTuple h
  · exact .kTuple h c
theorem seqT {K : PySem.W.Frag} {H H' : Hp} {a : Addr} {xs : List V} (e : Same H H') (h : SqT K H a xs) : SqT K H' a xs := by
  rcases h with (h | ⟨o, h⟩) | h
  · exact .inl (.inl (e _ _ h))
  · exact .inl (.inr ⟨o, e _ _ h⟩)
  · exact .inr h
mutual
theorem dp_same {K : PySem.W.Frag} {H H' : Hp} (s : Same H H') : ∀ {v : V} {d : PyData}, Dp K H v d → Dp K H' v d
  | _, _, .non => .non
  | _, _, .bl b => .bl b
  | _, _, .int i => .int i
  | _, _, .str x => .str x
  | _, _, .lst h1 h2 => .lst (s.seq h1) (dpAll_same s h2)
  | _, _, .tup h1 h2 => .tup (seqT s h1) (dpAll_same s h2)
theorem dpAll_same {K : PySem.W.Frag} {H H' : Hp} (s : Same H H') : ∀ {vs : List V} {ds : List PyData}, DpAll K H vs ds → DpAll K H' vs ds
  | _, _, .nil => .nil
  | _, _, .cons h1 h2 => .cons (dp_same s h1) (dpAll_same s h2)
end
theorem dpAll_len {K : PySem.W.Frag} {H : Hp} : ∀ {vs : List V} {ds : List PyData}, DpAll K H vs ds → vs.length = ds.length
  | _, _, .nil => rfl
  | _, _, .cons _ h => congrArg (· + 1) (dpAll_len h)
theorem dpAll_get {K : PySem.W.Frag} {H : Hp} : ∀ {vs : List V} {ds : List PyData} {i : Nat} {v : V}, DpAll K H vs ds → vs[i]? = some v → ∃ d, ds[i]? = some d ∧ Dp K H v d
  | _, _, 0, _, .cons h _, e => by cases e; exact ⟨_, rfl, h⟩
  | _, _, i + 1, _, .cons _ h, e => dpAll_get (i := i) h e
theorem depth_get : ∀ {ds : List PyData} {i : Nat} {d : PyData}, ds[i]? = some d → d.depth ≤ PyData.depthAll ds
  | x :: r, 0, d, e => by cases e; exact Nat.le_max_left _ _
  | x :: r, i + 1, d, e => Nat.le_trans (depth_get (ds := r) (i := i) e) (Nat.le_max_right _ _)
theorem kitA {K : PySem.W.Frag} {t c1 c2 : Value} {b : Bool} (h1 : PySem.W.kitOne K t c1 = some false) (h2 : PySem.W.kitOne K t c2 = some b) : PySem.W.kitAny K t [c1, c2] = some b := by
  unfold PySem.W.kitAny
  rw [h1]
  show PySem.W.kitAny K t [c2] = _
  unfold PySem.W.kitAny
  rw [h2]
  cases b <;> rfl
theorem kitT {K : PySem.W.Frag} {t c1 : Value} {cs : List Value} (h1 : PySem.W.kitOne K t c1 = some true) : PySem.W.kitAny K t (c1 :: cs) = some true := by
  unfold PySem.W.kitAny
  rw [h1]
/-! ### list(range(a, b, c)) -/
def tList3 (ta : TA) : TE := fun σ H Q => ta σ H fun vs H1 => ∃ (i j c : Int) (n : Nat), vs = [.int i, .int j, .int c] ∧ RgC i j c n ∧ n ≤ 100000 ∧ ∀ q, H1 q = none → Q (.ref q) (upd H1 q (.lst ((List.range n).map fun k : Nat => V.int (i + (k : Int) * c))))
theorem vals_rg3 {a c : Int} {n : Nat} {acc : Array Value} (h : ItemsOf (fun i v => ∃ t, v = .int (a + i * c) t) acc n) : Vals ((List.range n).map fun k : Nat => V.int (a + (k : Int) * c)) acc.toList := by
  have e : acc.toList.length = n := by rw [Array.length_toList]; exact h.1
  rw [← e]
  refine vals_of_get acc.toList _ fun j u hj => ?_
  obtain ⟨t, rfl⟩ := h.2 j u (by rw [← hj, Array.getElem?_toList])
  exact ⟨t, rfl⟩
theorem pe_list3 {X : Cx} {a b c : Expr} {ta : TA} {p p2 pos pos2 : Pos} (hc : X.calm = true) (hg : Gl X "list") (hm : X.mg "list" = none) (hg2 : Gl X "range") (hm2 : X.mg "range" = none) (ha : PA X [a, b, c] ta)
    (hs : starEach [a, b, c] X.env = (false, eval a X.env) :: starEach [b, c] X.env := by rfl) (hpl : (backTo pos2 (starEach [b, c] X.env)).any (·.1) = false := by rfl)
    (na : starEach [.Call (.Name "range" p2) [a, b, c] [] pos2] X.env = (false, eval (.Call (.Name "range" p2) [a, b, c] [] pos2) X.env) :: starEach [] X.env := by rfl) :
    PE X (.Call (.Name "list" p) [.Call (.Name "range" p2) [a, b, c] [] pos2] [] pos) (tList3 ta) := by
  refine ⟨fun pins s σ H Q I h => ?_⟩
  refine Call_ (ld_blt I hg hm boot_list (PyProof.Rows.callWith_type1 (args_cons (?_) na) na))
  refine Call_ (ld_blt I hg2 hm2 boot_range (PyProof.Rows.callWith_type1 (thn (ha.run pos2 pins s σ H _ I h) fun us s1 ⟨vs, H1, I1, r1, q1⟩ => ?_) hs hpl))
  obtain ⟨i, j, k, n, e, ⟨c0, c1, c2, c3⟩, hn, q⟩ := q1
  subst e
  cases r1 with
  | cons r rr =>
    cases rr with
    | cons r' rr =>
      cases rr with
      | cons r'' rr =>
        cases rr
        obtain ⟨t, rfl⟩ := r
        obtain ⟨t', rfl⟩ := r'
        obtain ⟨t'', rfl⟩ := r''
        refine call_range_3 c0 ?_ (.inl (PyProof.noPylong_small c1))
        refine args_nil ?_
        have I2 : Inv X pins σ H1 { s1 with heap := s1.heap.push { cls := .type "range", data := .fields #[.int i t, .int j t', .int k t''] } } := I1.kept (t' := s1.toks) fun b o e => Heap.get?_push_of_some _ e
        refine call_list_range (n := n) (I2.ok.hd hc) (IsRange.new ..) c2 c3 (by omega) fun h' tk acc c' hk e' hi => ?_
        refine ⟨.ref _, upd H1 _ (.lst ((List.range n).map fun m : Nat => V.int (i + (m : Int) * k))), I2.laid hk (Nat.le_refl _) (show ObjOk X.prog X.w _ _ _ (.lst _) from ⟨?_, acc.toList, c', vals_rg3 hi, ?_⟩), rfl, q _ (I2.hok.fresh (Nat.le_refl _))⟩
        · rw [List.length_map, List.length_range]
          exact zs hn
        · rw [Array.toArray_toList]; exact e'
end Lp
set_option Elab.async false
set_option linter.all false
set_option maxRecDepth 100000
namespace Lp
open PySem PySem.Spec PyProof.Rows L2
/-! ### xs.count(text) -/
theorem strCount {k : Str} : ∀ {us : List Value} {ys : List Str}, StrsAre us ys → us.countP (isStrOf k) = ys.countP (fun y => y == k)
  | _, _, .nil => rfl
  | _, _, .cons n t h => by
    have ih := strCount (k := k) h
    rw [List.countP_cons, List.countP_cons, ih] <;> rfl
def rCntS (K : PySem.W.Frag) : V → List V → Hp → VK → Prop := fun x xs H Q => ∃ (p : Addr) (ys : List Str) (k : Str), x = .ref p ∧ xs = [.str k] ∧ SqL K H p (ys.map V.str) ∧ Q (.int (ys.countP (fun y => y == k) : Nat)) H
theorem mt_lcountS {X : Cx} : MtR X "list.count" (rCntS X.K) := by
  intro pins s σ H x xs v us Q I rx rxs h
  obtain ⟨p, ys, k, rfl, rfl, hs, q⟩ := h
  cases rx
  obtain ⟨u, rfl, ru⟩ := rxs.one
  obtain ⟨t, rfl⟩ := ru
  obtain ⟨its, rv, ⟨⟨cls, dd, data, sl⟩, n, ho, hc, hdn, hd⟩, hlen⟩ := I.list hs
  simp only at hc hd
  subst hc hd
  have hi := Vals.strs rv
  refine call_meets PySem.F.slot_list_count ⟨_, ho, rfl⟩ PySem.F.entry_list_count (PySem.F.args_list_count_2 _ _)
    (SeqAt.list_countAt p its.toArray n dd sl (.str k t) (isStrOf k)) ⟨ho, fun y hy => (eq_isStrOf k t hi y (by simpa using hy)).at _ _, ?_⟩
  have ec : its.toArray.toList.countP (isStrOf k) = ys.countP (fun y => y == k) := strCount hi
  refine ⟨.int (ys.countP (fun y => y == k) : Nat), H, I.tok _, ⟨s.toks, ?_⟩, q⟩
  show Value.int ((its.toArray.toList.countP (isStrOf k) : Nat) : Int) s.toks = Value.int ((ys.countP (fun y => y == k) : Nat) : Int) s.toks
  rw [ec]
end Lp
set_option Elab.async false
set_option linter.all false
set_option maxRecDepth 100000
namespace Lp
open PySem PySem.Spec PyProof.Rows L2
/-! ### dict comprehensions over enumerate -/
theorem dc_enum {K : PySem.W.Frag} {a : Addr} {xs : List V} {g : TG} {tt : TT} {tk tv : TE} {vs : List Nat} {σ : L2.St} {H1 : Hp} {D : Addr} {Qd : Hp → Prop} (Pv : Nat → Hp → Prop) (h0 : Pv 0 (upd H1 D (.dK []))) (hl : ∀ i H, i ≤ xs.length → Pv i H → SqL K H a xs)
    (hs : ∀ (i : Nat) (x : V) (T : Addr) (H : Hp), xs[i]? = some x → H T = none → Pv i H → g (.ref T) (wipe σ vs) (upd H T (.tup [.int (i : Nat), x])) fun σ2 H2 => wipe σ2 vs = wipe σ vs ∧ tt σ2 H2 fun b H3 =>
      if b = true then tk σ2 H3 fun y H4 => tv σ2 H4 fun z H5 => ∃ kvs k, y = kV k ∧ H5 D = some (.dK kvs) ∧ kvs.length < sizeLine ∧ Pv (i + 1) (upd H5 D (.dK (putK kvs k z))) else Pv (i + 1) H3) (hd : ∀ H, Pv xs.length H → Qd H) :
    ∃ W : Nat → Nat → Hp → Prop, (∃ m, W 0 m (upd H1 D (.dK []))) ∧ ∀ i m H, W i m H →
      ((Ite K a).stop i H ∧ Qd H) ∨ ((Ite K a).go i H ∧ ∃ Nx : Hp → Prop, (∀ H', Nx H' → ∃ m', m' < m ∧ W (i + 1) m' H') ∧ ∀ x H', (Ite K a).yld i H x H' → g x (wipe σ vs) H' fun σ2 H2 => wipe σ2 vs = wipe σ vs ∧ tt σ2 H2 fun b H3 =>
        if b = true then tk σ2 H3 fun y H4 => tv σ2 H4 fun z H5 => ∃ kvs k, y = kV k ∧ H5 D = some (.dK kvs) ∧ kvs.length < sizeLine ∧ Nx (upd H5 D (.dK (putK kvs k z))) else Nx H3) := by
  refine ⟨fun i m H => m = xs.length - i ∧ i ≤ xs.length ∧ Pv i H, ⟨xs.length, by simp, Nat.zero_le _, h0⟩, ?_⟩
  rintro i m H ⟨rfl, hi, pv⟩
  have sq := hl i H hi pv
  rcases Nat.lt_or_ge i xs.length with hlt | hge
  · refine .inr ⟨⟨xs, xs[i], sq, List.getElem?_eq_getElem hlt⟩, Pv (i + 1), fun H' p' => ⟨xs.length - (i + 1), by omega, rfl, hlt, p'⟩, fun x H' y => ?_⟩
    obtain ⟨T, z, rfl, nT, rfl, e1⟩ := y
    exact hs i z T H (e1 xs sq) nT pv
  · have e : i = xs.length := by omega
    subst e
    exact .inl ⟨⟨xs, sq, Nat.le_refl _⟩, hd H pv⟩
end Lp
set_option Elab.async false
set_option linter.all false
set_option maxRecDepth 100000
namespace Lp
open PySem PySem.Spec PyProof.Rows L2
/-! ### list + list, the script's own list too -/
def rCatS (K : PySem.W.Frag) : R2 := fun x y H Q => ∃ l b xs zs, x = .ref l ∧ y = .ref b ∧ SqL K H l xs ∧ SqL K H b zs ∧ xs.length + zs.length ≤ sizeLine ∧ ∀ p, H p = none → Q (.ref p) (upd H p (.lst (xs ++ zs)))
theorem op_catS {X : Cx} : OpR X (binaryOp .Add) (rCatS X.K) := by
  intro pins s σ H x y v u Q I rx ry h
  obtain ⟨l, b, xs, zs, rfl, rfl, hl, hb, hz, q⟩ := h
  cases rx
  cases ry
  obtain ⟨its, r, ⟨⟨cls, dd, data, sl⟩, n, ho, hc, hdn, hd⟩, h1⟩ := I.list hl
  obtain ⟨its2, r2, ⟨⟨cls2, dd2, data2, sl2⟩, n2, ho2, hc2, hdn2, hd2⟩, h2⟩ := I.list hb
  simp only at hc hd hc2 hd2
  subst hc hd hc2 hd2
  have e1 := r.length
  have e2 := r2.length
  refine concat_meets ⟨_, ho, rfl⟩ ⟨_, ho2, rfl⟩ noFill_list_add seq_list_add PySem.F.slot_list_add PySem.F.entry_list_add (PySem.F.args_list_add_2 _ _) (list_addW l b its.toArray its2.toArray n n2 dd dd2 sl sl2 (by rw [List.size_toArray, List.size_toArray]; omega)) ⟨ho, ho2, ?_⟩
  have ea : its.toArray ++ its2.toArray = (its ++ its2).toArray := by simp
  rw [ea]
  exact ⟨.ref _, _, I.lnew (t' := s.toks) (r.append r2) (by rw [List.length_append]; omega), rfl, q _ I.fresh⟩
end Lp
set_option Elab.async false
set_option linter.all false
set_option maxRecDepth 100000
namespace Lp
open PySem PySem.Spec PyProof.Rows L2

/-! ### calls by keywords, of defs that are called where no repr is under way -/
structure Gk (P : Program) (w : World) (K : PySem.W.Frag) (mg : Str → Option Value) (base : Heap) (k : Nat) (x : Str) (n : Nat) (ks : List Str) (gV : List V → List V → List V) (sp : Sp) : Prop where
  ex : ∃ (f : Addr) (fd : FuncData) (ps : List Str) (g : List Value → List Value → List Value), FnG P w K mg base CX0 k f fd ps sp ∧ mg x = some (.ref f) ∧ PySem.W.keepIn K (.ref f) = true ∧ KBn K fd ps n ks g gV
theorem kb_of {K : PySem.W.Frag} {x qual : Str} {st : Stmt} {f : Addr} {fd : FuncData} {ps : List Str} (F : Fun K x qual st f fd) (n : Nat) (ks : List Str) (g : {α : Type} → List α → List α → List α)
    (hrel : ∀ {vs : List V} {us : List Value} {zs : List V} {ws : List Value}, Vals vs us → Vals zs ws → Vals (g vs zs) (g us ws))
    (h : ∀ (kV doc pm : Value) (an : Option Addr) (cdv ct : Value) (us ws : List Value), us.length = n → ws.length = ks.length → bindArgs (PySem.W.fnOf x qual (defArgs st) (defBody st) (defScope st) .none kV doc pm an cdv ct) ⟨us, ks.zip ws⟩ = pure (ps.zip (g us ws))) :
    KBn K fd ps n ks g g := by
  obtain ⟨oc, od, kV, doc, pm, an, cdv, ct, osl, rfl, lk, hcd⟩ := F.ex
  exact ⟨fun s us ws _ l1 l2 => .of_eq (h kV doc pm an cdv ct us ws l1 l2), hrel⟩
theorem kb_gApp0 {vs : List V} {us : List Value} {zs : List V} {ws : List Value} (a : Vals vs us) (b : Vals zs ws) : Vals (vs ++ zs) (us ++ ws) := a.append b
def gApp {α : Type} (us ws : List α) : List α := us ++ ws
def gRev {α : Type} (us ws : List α) : List α := us ++ ws.reverse
theorem kb_gApp {vs : List V} {us : List Value} {zs : List V} {ws : List Value} (a : Vals vs us) (b : Vals zs ws) : Vals (gApp vs zs) (gApp us ws) := a.append b
theorem vals_rev2 : ∀ {zs : List V} {ws : List Value}, Vals zs ws → Vals zs.reverse ws.reverse
  | _, _, .nil => .nil
  | _, _, .cons h t => by
    rw [List.reverse_cons, List.reverse_cons]
    exact (vals_rev2 t).append (.cons h .nil)
theorem kb_gRev {vs : List V} {us : List Value} {zs : List V} {ws : List Value} (a : Vals vs us) (b : Vals zs ws) : Vals (gRev vs zs) (gRev us ws) := a.append (vals_rev2 b)
def tCallG (n m : Nat) (sp : Sp) (gV : List V → List V → List V) (t tk : TA) : TE := fun σ H Q => t σ H fun vs H1 => tk σ H1 fun zs H2 => vs.length = n ∧ zs.length = m ∧ sp (gV vs zs) H2 Q E0
section
variable {X : Cx} {CX : CXT} {k n : Nat} {f : Addr} {fd : FuncData} {ps ks : List Str} {sp : Sp} {E : XK} {x : Str} {p pos : Pos} {e : Expr} {es : List Expr} {kws : List Keyword} {t tk : TA} {g : List Value → List Value → List Value} {gV : List V → List V → List V}
theorem run_fnG {pins : List (Addr × Obj)} {σ : L2.St} {H : Hp} {s : Shared} {Q : VK} {us ws : List Value} {vs zs : List V} (F : FnG X.prog X.w X.K X.mg X.base CX k f fd ps sp) (hG : X.A.guards = some []) (hr : Room k X.A) (hb : KBn X.K fd ps n ks g gV) (hx : Passes CX X E)
    (I : Inv X pins σ H s) (r : Vals vs us) (rz : Vals zs ws) (l1 : vs.length = n) (l2 : zs.length = ks.length) (h : sp (gV vs zs) H Q E) : wpAny (model X.prog X.w) X.A (call (.ref f) us (ks.zip ws)) (EP X pins σ Q) X.xe s := by
  have r2 := hb.rel r rz
  refine wpAny_call (codeAny_mono (F.runG X.A X.stack s H ⟨us, ks.zip ws⟩ (g us ws) (gV vs zs) Q E hG hr I.env0 (hb.to s us ws I.kIn (r.length.symm.trans l1) (rz.length.symm.trans l2)) r2 h) fun r s' hq => ?_)
  cases r with
  | error e => exact hx pins σ H s e s' I hq
  | ok fl =>
    cases fl with
    | ret u => exact I.after hq
    | next => exact False.elim hq
    | brk => exact False.elim hq
    | cont => exact False.elim hq
/-- f(k = v, ..) -/
theorem pe_gK0 {j : Nat} (c : Gk X.prog X.w X.K X.mg X.base k x 0 ks gV sp) (hG : X.A.guards = some []) (hr : Room j X.A) (hk : k ≤ j) (hg : Gl X x) (hkw : PK X kws tk)
    (hall : (backToKw pos (keywordEach kws X.env)).all (·.1.isSome) = true := by rfl) (hks : (backToKw pos (keywordEach kws X.env)).filterMap (·.1) = ks := by rfl) (hdb : (x == ("__debug__" : Str)) = false := by decide)
    (hpl : ((backTo pos (starEach [] X.env)).any (·.1) || (backToKw pos (keywordEach kws X.env)).any (·.1.isNone)) = false := by rfl) :
    PE X (.Call (.Name x p) [] kws pos) (tCallG 0 ks.length sp gV tNil tk) := by
  obtain ⟨f, fd, ps, g, F, hm, kp, hb⟩ := c.ex
  refine ⟨fun pins s σ H Q I h => ?_⟩
  refine wpAny_Call_Name_kw (ld_glob I hg hm ?_ hdb)
  refine PySem.W.callWith_KW0 (h₀ := X.base) I.ok.mod.kin kp hall ?_ hpl
  refine thn (hkw.run pos pins s σ H _ I h) fun ws s2 ⟨zs, H2, I2, rz, l1, l2, q2⟩ => ⟨I2.kIn, ?_⟩
  rw [hks]
  exact run_fnG (us := []) (vs := []) F hG (hr.mono hk) hb pass0 I2 .nil rz rfl l2 q2
/-- f(e, .., k = v, ..) -/
theorem pe_gK {j : Nat} (c : Gk X.prog X.w X.K X.mg X.base k x n ks gV sp) (hG : X.A.guards = some []) (hr : Room j X.A) (hk : k ≤ j) (hg : Gl X x) (ha : PA X (e :: es) t) (hkw : PK X kws tk)
    (hall : (backToKw pos (keywordEach kws X.env)).all (·.1.isSome) = true := by rfl) (hks : (backToKw pos (keywordEach kws X.env)).filterMap (·.1) = ks := by rfl) (hdb : (x == ("__debug__" : Str)) = false := by decide)
    (he : starEach (e :: es) X.env = (false, eval e X.env) :: starEach es X.env := by rfl) (hpl : ((backTo pos (starEach (e :: es) X.env)).any (·.1) || (backToKw pos (keywordEach kws X.env)).any (·.1.isNone)) = false := by rfl) :
    PE X (.Call (.Name x p) (e :: es) kws pos) (tCallG n ks.length sp gV t tk) := by
  obtain ⟨f, fd, ps, g, F, hm, kp, hb⟩ := c.ex
  refine ⟨fun pins s σ H Q I h => ?_⟩
  refine wpAny_Call_Name_kw (ld_glob I hg hm ?_ hdb)
  refine PySem.W.callWith_KW (h₀ := X.base) I.ok.mod.kin kp hall (thn (ha.run pos pins s σ H _ I h) fun us s1 ⟨vs, H1, I1, r, q⟩ => ?_) hpl he
  refine thn (hkw.run pos pins s1 σ H1 _ I1 q) fun ws s2 ⟨zs, H2, I2, rz, l1, l2, q2⟩ => ⟨I2.kIn, ?_⟩
  rw [hks]
  exact run_fnG F hG (hr.mono hk) hb pass0 I2 r rz l1 l2 q2
end

/-! ### i *= j of great ints -/
def ipC (C : Int → Int → Prop) (f : Int → Int → Int) : TIp := fun x y H Q => ∃ i j, x = .int i ∧ y = .int j ∧ C i j ∧ Q (.int (f i j)) H
section
variable {X : Cx}
theorem ip_mulW : PIp X .Mult (ipC CMulW fun i j => i * j) := by
  intro pins s σ H x y v u Q I r1 r2 h
  obtain ⟨i, j, e1, e2, hc, q⟩ := h
  subst e1; subst e2
  obtain ⟨t, rfl⟩ := r1
  obtain ⟨t', rfl⟩ := r2
  exact imul_int ⟨.int _, H, I.tok _, ⟨_, rfl⟩, q⟩ hc.ok
/-! ### text * int -/
theorem foldl_repN (l : List Nat) : ∀ (n : Nat) (acc : List Nat), List.foldl (fun x1 x2 => x1 ++ x2) acc.toArray (List.replicate n l.toArray) = (acc ++ (List.replicate n l).flatten).toArray
  | 0, acc => by simp
  | n + 1, acc => by
    rw [List.replicate_succ, List.foldl_cons, List.append_toArray, foldl_repN l n (acc ++ l), List.replicate_succ, List.flatten_cons, List.append_assoc]
theorem op_repS : OpR X (binaryOp .Mult) (fun x y H Q => ∃ (z : Str) (n : Nat), x = .str z ∧ y = .int (n : Int) ∧ 2 ≤ n ∧ z.length ≠ 0 ∧ z.length * n ≤ 100000 ∧ Q (.str ⟨(List.replicate n z.cps.toList).flatten.toArray⟩) H) := by
  intro pins s σ H x y v u Q I r1 r2 h
  obtain ⟨z, n, e1, e2, h1, h3, h4, q⟩ := h
  subst e1; subst e2
  obtain ⟨t, rfl⟩ := r1
  obtain ⟨t', rfl⟩ := r2
  have hn : ¬ (n : Int) < 1 := by omega
  have hz1 : 1 ≤ z.length := Nat.pos_of_ne_zero h3
  have hn2 : n ≤ 100000 := Nat.le_trans (Nat.le_mul_of_pos_left n hz1) h4
  have hb : ((n : Int) == 1 || z.length == 0) = false := by
    have a : ((n : Int) == 1) = false := beq_eq_false_iff_ne.mpr (by omega)
    have b : (z.length == 0) = false := beq_eq_false_iff_ne.mpr h3
    rw [a, b]
    rfl
  have hsz : z.length * n ≤ sizeLine := zs h4
  have f0 : List.foldl (fun x1 x2 => x1 ++ x2) #[] (List.replicate n z.cps) = (List.replicate n z.cps.toList).flatten.toArray := by
    have := foldl_repN z.cps.toList n []
    rw [List.nil_append, Array.toArray_toList] at this
    exact this
  have hl : (⟨(List.replicate n z.cps.toList).flatten.toArray⟩ : Str).length = n * z.length := by
    show ((List.replicate n z.cps.toList).flatten.toArray).size = n * z.length
    rw [List.size_toArray, List.length_flatten, List.map_replicate, List.sum_replicate_nat, Array.length_toList]
    rfl
  refine PySem.P.mul_str ?_ (fun _ _ => ?_) (fun _ _ => ?_) ?_
  · have a : ¬ (n : Int) < -(2 ^ 63 : Int) := by omega
    have b : ¬ (n : Int) ≥ 2 ^ 63 := by omega
    rw [decide_eq_false a, decide_eq_false b]
    rfl
  · have h5 : (z.length : Int) * (n : Int) ≤ 100000 := by
      have := Int.ofNat_le.mpr h4
      rwa [Int.natCast_mul] at this
    have := (Int.le_ediv_iff_mul_le (show (0 : Int) < n by omega)).mpr (show (z.length : Int) * (n : Int) ≤ 2 ^ 63 - 1 by omega)
    omega
  · have e : (n : Int).toNat = n := rfl
    rw [e]
    unfold Builtin.Str.tooLong
    exact decide_eq_false (by omega)
  · rw [if_neg hn, hb, if_neg Bool.false_ne_true]
    have e : (n : Int).toNat = n := rfl
    rw [e, f0]
    exact ⟨by rw [hl]; rw [Nat.mul_comm]; exact hsz, .str _, H, I.tok _, ⟨_, rfl⟩, q⟩
end
/-! ### math.factorial, math.comb -/
def facN : Nat → Nat
  | 0 => 1
  | n + 1 => facN n * (n + 1)
theorem fac_eq : ∀ n : Nat, Builtin.Math.factorialNat n = facN n
  | 0 => rfl
  | n + 1 => by
    have e : Builtin.Math.factorialNat (n + 1) = Builtin.Math.factorialNat n * (n + 1) := by
      unfold Builtin.Math.factorialNat
      rw [List.range_succ, List.foldl_append]
      rfl
    rw [e, fac_eq n]
    rfl
theorem fac_lt : ∀ n : Nat, n ≤ 1000 → facN n < 2 ^ (10 * n + 1)
  | 0, _ => by decide
  | n + 1, h => by
    have z := fac_lt n (by omega)
    have e : 10 * (n + 1) + 1 = (10 * n + 1) + 10 := by omega
    show facN n * (n + 1) < _
    rw [e, Nat.pow_add]
    exact Nat.mul_lt_mul_of_lt_of_le z (by have : (2 : Nat) ^ 10 = 1024 := by decide
                                           omega) (by decide)
def rFac : List V → Hp → VK → Prop := fun vs H Q => ∃ n : Nat, vs = [.int (n : Int)] ∧ n ≤ 1000 ∧ Q (.int ((facN n : Nat) : Int)) H
theorem cr_fac {X : Cx} : CallR X (.builtin "math.factorial") rFac := by
  intro pins s σ H vs us Q I r h
  obtain ⟨n, rfl, hn, q⟩ := h
  obtain ⟨u, rfl, t, rfl⟩ := vals1 r
  have hl := fac_lt n hn
  have e : Builtin.Math.factorialNat (n : Int).toNat = facN n := fac_eq n
  refine PySem.W.mg_factorial (by show ¬ (n : Int) > 2 ^ 63 - 1; omega) (by omega) (by show ¬ (n : Int) > 20000; omega) ?_ ?_
  · rw [e]
    show (facN n).log2 < bitsLine
    have b := PySem.Flt.log2_lt_of (by omega : 0 < 10 * n + 1) hl
    have e2 : bitsLine = 134217728 := by decide
    rw [e2]
    omega
  · rw [e]
    exact ⟨.int _, H, I.tok _, ⟨_, rfl⟩, q⟩
/-! ### lists of great ints as text -/
theorem shown_big {ns : List Int} (hb : ∀ n ∈ ns, n.natAbs.log2 < 1920) (hl : ns.length ≤ 40) : (dI ns).shown.length ≤ sizeLine := by
  show (textFrom 0 "[" (PyData.shownAll (ns.map PyData.int)) ++ ("]" : Str)).length ≤ sizeLine
  rw [Str.length_append]
  have z := textFrom_le (PyData.shownAll (ns.map PyData.int)) 0 "[" 1921 (fun t ht => by
    obtain ⟨n, hn, e⟩ := shownAll_mem ns t ht
    rw [e]
    exact PyProof.Rows.int_text_len_1921 (hb n hn))
  rw [shownAll_len] at z
  have e1 : ("[" : Str).length = 1 := rfl
  have e2 : ("]" : Str).length = 1 := rfl
  rw [e1] at z
  rw [e2]
  exact zs (by omega)
theorem rrepr_big {K : PySem.W.Frag} {H : Hp} {a : Addr} {ns : List Int} {Q : VK} (hS : SqL K H a (ns.map V.int)) (hb : ∀ n ∈ ns, n.natAbs.log2 < 1920) (hl : ns.length ≤ 40) (q : Q (.str (dI ns).shown) H) : rRepr K [.ref a] H Q :=
  ⟨a, dI ns, rfl, dp_ints hS, show_ints ns hb, noDict_ints ns, rI2 ns, shown_big hb hl, q⟩
theorem log_nat {n k : Nat} (h : n < 2 ^ k) (h0 : 0 < k) (hk : k ≤ 1920) : ((n : Nat) : Int).natAbs.log2 < 1920 := Nat.lt_of_lt_of_le (PySem.Flt.log2_lt_of h0 (show ((n : Nat) : Int).natAbs < 2 ^ k from h)) hk
end Lp
set_option Elab.async false
set_option linter.all false
set_option maxRecDepth 100000
namespace Lp
open PySem PySem.Spec PyProof.Rows L2
theorem filtG {α : Type} {l : List α} {f : α → Bool} {i : Nat} {e : α} (he : l[i]? = some e) : (l.take (i + 1)).filter f = (l.take i).filter f ++ (if f e = true then [e] else []) := by
  rw [take_get he, List.filter_append]
  congr 1
  simp only [List.filter_cons, List.filter_nil]
theorem filtG_len {α : Type} {l : List α} {f : α → Bool} (i : Nat) : ((l.take i).filter f).length ≤ l.length := Nat.le_trans (List.length_filter_le _ _) (by rw [List.length_take]; exact Nat.min_le_right _ _)
theorem inVI (x : Int) : ∀ ns : List Int, inV (.int x) (ns.map V.int) = decide (x ∈ ns)
  | [] => rfl
  | n :: r => by
    show (eqV (.int n) (.int x) || inV (.int x) (r.map V.int)) = _
    rw [inVI x r]
    show ((n == x) || decide (x ∈ r)) = _
    by_cases e : n = x
    · subst e
      simp
    · have e' : ¬ x = n := fun z => e z.symm
      simp [e, e']
theorem flatI (ns : List Int) : (ns.map V.int).all flatV = true := by
  rw [List.all_eq_true]
  intro v hv
  obtain ⟨n, _, rfl⟩ := List.mem_map.mp hv
  rfl
theorem notInT {x : Int} {ns : List Int} (h : x ∉ ns) : V.bl (if true = true then !inV (.int x) (ns.map V.int) else inV (.int x) (ns.map V.int)) = V.bl true := by
  rw [if_pos rfl, inVI, decide_eq_false h]
  rfl
theorem notInF {x : Int} {ns : List Int} (h : x ∈ ns) : V.bl (if true = true then !inV (.int x) (ns.map V.int) else inV (.int x) (ns.map V.int)) = V.bl false := by
  rw [if_pos rfl, inVI, decide_eq_true h]
  rfl

/-! ### rows of ints in the heap -/
def RowsR (H : Hp) (rs : List V) (rows : List (List Int)) : Prop := rs.length = rows.length ∧ ∀ (i : Nat) (row : List Int), rows[i]? = some row → ∃ a, rs[i]? = some (.ref a) ∧ H a = some (.lst (row.map V.int))
theorem RowsR.same {H H' : Hp} {rs : List V} {rows : List (List Int)} (h : RowsR H rs rows) (s : Same H H') : RowsR H' rs rows := ⟨h.1, fun i row e => by
  obtain ⟨a, b, c⟩ := h.2 i row e
  exact ⟨a, b, s _ _ c⟩⟩
theorem RowsR.upd {H : Hp} {rs : List V} {rows : List (List Int)} {q : Addr} {o : HO} (h : RowsR H rs rows) (n : V.ref q ∉ rs) : RowsR (upd H q o) rs rows := ⟨h.1, fun i row e => by
  obtain ⟨a, b, c⟩ := h.2 i row e
  have ne : a ≠ q := fun z => n (by rw [← z]; exact List.mem_of_getElem? b)
  refine ⟨a, b, ?_⟩
  rw [upd_ne ne]
  exact c⟩
theorem RowsR.nil (H : Hp) : RowsR H [] [] := ⟨rfl, fun i row e => by simp at e⟩
theorem RowsR.app {H : Hp} {rs ss : List V} {rows sows : List (List Int)} (h : RowsR H rs rows) (g : RowsR H ss sows) : RowsR H (rs ++ ss) (rows ++ sows) := by
  refine ⟨by rw [List.length_append, List.length_append, h.1, g.1], fun i row e => ?_⟩
  by_cases hi : i < rows.length
  · rw [List.getElem?_append_left hi] at e
    rw [List.getElem?_append_left (by rw [h.1]; exact hi)]
    exact h.2 i row e
  · rw [List.getElem?_append_right (by omega)] at e
    rw [List.getElem?_append_right (by rw [h.1]; omega), h.1]
    exact g.2 _ row e
theorem RowsR.one {H : Hp} {a : Addr} {row : List Int} (h : H a = some (.lst (row.map V.int))) : RowsR H [.ref a] [row] := ⟨rfl, fun i r e => by
  cases i with
  | zero => cases e; exact ⟨a, rfl, h⟩
  | succ i => simp at e⟩
theorem RowsR.dp {K : PySem.W.Frag} {H : Hp} : ∀ {rs : List V} {rows : List (List Int)}, RowsR H rs rows → DpAll K H rs (rows.map dI)
  | [], [], _ => .nil
  | [], _ :: _, h => absurd h.1 (by simp)
  | _ :: _, [], h => absurd h.1 (by simp)
  | v :: rs, r :: rows, h => by
    obtain ⟨a, b, c⟩ := h.2 0 r rfl
    have e : v = .ref a := Option.some.inj b
    subst e
    exact .cons (dp_ints (.of c)) (RowsR.dp ⟨Nat.succ.inj h.1, fun i row e => h.2 (i + 1) row e⟩)
theorem flatMap_take_len {α β : Type} {f : α → List β} (l : List α) (j : Nat) : ((l.take j).flatMap f).length ≤ (l.flatMap f).length := by
  have e : l.flatMap f = (l.take j).flatMap f ++ (l.drop j).flatMap f := by rw [← List.flatMap_append, List.take_append_drop]
  rw [e, List.length_append]
  omega
theorem flatMap_take_succ {α β : Type} {f : α → List β} {l : List α} {j : Nat} {x : α} (h : l[j]? = some x) : (l.take (j + 1)).flatMap f = (l.take j).flatMap f ++ f x := by
  rw [take_get h, List.flatMap_append]
  simp
end Lp
set_option Elab.async false
set_option linter.all false
set_option maxRecDepth 100000
namespace Lp
open PySem PySem.Spec PyProof.Rows L2
theorem rgc_two (n : Nat) (h : n ≤ 1000) : RgC 1 (2 * (n : Int)) 2 n := by
  have hs : Builtin.Range.rangeSize 1 (2 * (n : Int)) 2 = (n : Int) := by
    unfold Builtin.Range.rangeSize
    rw [if_pos (by decide)]
    by_cases h0 : n = 0
    · subst h0
      rw [if_neg (by omega)]
      rfl
    · rw [if_pos (by omega)]
      omega
  refine ⟨by decide, by decide, ?_, hs⟩
  unfold Builtin.Range.small
  rw [hs]
  have f : ∀ z : Int, -1000000 ≤ z → z ≤ 1000000 → Builtin.Range.rangeFitsLong z = true := fun z a b => by
    unfold Builtin.Range.rangeFitsLong
    rw [decide_eq_true (show -2 ^ 63 ≤ z by omega), decide_eq_true (show z < 2 ^ 63 by omega)]
    rfl
  rw [f 1 (by decide) (by decide), f (2 * (n : Int)) (by omega) (by omega), f 2 (by decide) (by decide), f (n : Int) (by omega) (by omega), if_pos (by decide), f (2 * (n : Int) + (2 - 1)) (by omega) (by omega), Bool.or_true]
  rfl
/-! ### lists of objects in the heap -/
def ObjR {α : Type} (o : α → HO) (H : Hp) (rs : List V) (l : List α) : Prop := rs.length = l.length ∧ ∀ (i : Nat) (x : α), l[i]? = some x → ∃ a, rs[i]? = some (.ref a) ∧ H a = some (o x)
section
variable {α : Type} {o : α → HO} {H H' : Hp} {rs ss : List V} {l m : List α}
theorem ObjR.same (h : ObjR o H rs l) (s : Same H H') : ObjR o H' rs l := ⟨h.1, fun i x e => by
  obtain ⟨a, b, c⟩ := h.2 i x e
  exact ⟨a, b, s _ _ c⟩⟩
theorem ObjR.upd {q : Addr} {u : HO} (h : ObjR o H rs l) (n : V.ref q ∉ rs) : ObjR o (upd H q u) rs l := ⟨h.1, fun i x e => by
  obtain ⟨a, b, c⟩ := h.2 i x e
  have ne : a ≠ q := fun z => n (by rw [← z]; exact List.mem_of_getElem? b)
  refine ⟨a, b, ?_⟩
  rw [upd_ne ne]
  exact c⟩
theorem ObjR.nil : ObjR o H [] [] := ⟨rfl, fun i x e => by simp at e⟩
theorem ObjR.app (h : ObjR o H rs l) (g : ObjR o H ss m) : ObjR o H (rs ++ ss) (l ++ m) := by
  refine ⟨by rw [List.length_append, List.length_append, h.1, g.1], fun i x e => ?_⟩
  by_cases hi : i < l.length
  · rw [List.getElem?_append_left hi] at e
    rw [List.getElem?_append_left (by rw [h.1]; exact hi)]
    exact h.2 i x e
  · rw [List.getElem?_append_right (by omega)] at e
    rw [List.getElem?_append_right (by rw [h.1]; omega), h.1]
    exact g.2 _ x e
theorem ObjR.one {a : Addr} {x : α} (h : H a = some (o x)) : ObjR o H [.ref a] [x] := ⟨rfl, fun i r e => by
  cases i with
  | zero => cases e; exact ⟨a, rfl, h⟩
  | succ i => simp at e⟩
end
theorem rep_one (b : Bool) (v : V) : (List.replicate (if b = true then (1 : Int) else 0).toNat [v]).flatten = if b = true then [v] else [] := by cases b <;> rfl
theorem rep_sz (b : Bool) (v : V) : [v].length * (if b = true then (1 : Int) else 0).toNat ≤ sizeLine := by
  cases b
  · exact Nat.zero_le _
  · exact Lp.zs (show 1 * 1 ≤ 100000 by decide)
theorem ifs_len (b : Bool) (v : V) : (if b = true then [v] else []).length ≤ 1 := by
  cases b
  · exact Nat.zero_le _
  · exact Nat.le_refl _
theorem ints_get {ns : List Int} {i : Nat} {n : Int} (h : ns[i]? = some n) : (ns.map V.int)[i]? = some (.int n) := by rw [List.getElem?_map, h]; rfl
end Lp
set_option Elab.async false
set_option linter.all false
set_option maxRecDepth 100000
namespace Lp
open PySem PySem.Spec PyProof.Rows L2
/-! ### lists of ints, by < -/
theorem firstLt_map (e r : Nat → Bool) (fin : Bool) (f : Nat → Nat) : ∀ l : List Nat, SeqAt.firstLt e r fin (l.map f) = SeqAt.firstLt (fun j => e (f j)) (fun j => r (f j)) fin l
  | [] => rfl
  | j :: t => by
    show (if e (f j) = true then SeqAt.firstLt e r fin (t.map f) else r (f j)) = (if e (f j) = true then SeqAt.firstLt (fun j => e (f j)) (fun j => r (f j)) fin t else r (f j))
    rw [firstLt_map e r fin f t]
theorem first_lex : ∀ ns ms : List Int, SeqAt.firstLt (fun j => ns.getD j 0 == ms.getD j 0) (fun j => decide (ns.getD j 0 < ms.getD j 0)) (decide (ns.length < ms.length)) (List.range (min ns.length ms.length)) = HT.lexLt ns ms
  | [], [] => rfl
  | [], _ :: _ => rfl
  | _ :: _, [] => rfl
  | n :: ns, m :: ms => by
    have e : min (n :: ns).length (m :: ms).length = min ns.length ms.length + 1 := by
      simp only [List.length_cons]
      omega
    have e2 : decide ((n :: ns).length < (m :: ms).length) = decide (ns.length < ms.length) := decide_eq_decide.mpr (by simp only [List.length_cons]; omega)
    rw [e, e2, List.range_succ_eq_map]
    show (if (n == m) = true then SeqAt.firstLt _ _ _ ((List.range (min ns.length ms.length)).map Nat.succ) else decide (n < m)) = if n = m then HT.lexLt ns ms else decide (n < m)
    rw [firstLt_map]
    by_cases h : n = m
    · rw [if_pos (beq_iff_eq.mpr h), if_pos h]
      exact first_lex ns ms
    · rw [if_neg (fun z => h (beq_iff_eq.mp z)), if_neg h]
def IsLs (h : Heap) (v : Value) (ns : List Int) : Prop := ∃ (a : Addr) (items : List Value), v = .ref a ∧ h.IsList a items.toArray ∧ IntsAre items ns
theorem IsLs.keeps {h h' : Heap} {v : Value} {ns : List Int} (x : IsLs h v ns) (k : ∀ b o, v = .ref b → h.get? b = some o → h'.get? b = some o) : IsLs h' v ns := by
  obtain ⟨a, its, rfl, ⟨o, ho, hc, n, hd⟩, hi⟩ := x
  exact ⟨a, its, rfl, ⟨o, k a o rfl ho, hc, n, hd⟩, hi⟩
theorem ints_at : ∀ {us : List Value} {ns : List Int}, IntsAre us ns → ∀ j (h : j < us.length), ∃ t, us[j] = .int (ns.getD j 0) t
  | _, _, .cons n t r, 0, _ => ⟨t, rfl⟩
  | _, _, .cons n t r, j + 1, h => by
    obtain ⟨u, e⟩ := ints_at r j (Nat.lt_of_succ_lt_succ h)
    exact ⟨u, e⟩
section
variable {prog : Program} {w : World} {A : Around} {E : Value → Shared → Prop} {s : Shared}
theorem rcLt_int (A : Around) (s : Shared) (a : Int) (t : Tok) (b : Int) (u : Tok) : SeqAt.RcLt A s (.int a t) (.int b u) (decide (a < b)) := fun prog w E Q h => by
  have z : wpAny (model prog w) A (compareOp .Lt (.int a t) (.int b u)) Q E s := lt_int h
  exact z
theorem lt_ls {v u : Value} {ns ms : List Int} {Q : Bool → Shared → Prop} (hu : A.units < cLine) (hv : IsLs s.heap v ns) (hw : IsLs s.heap u ms) (h : Q (HT.lexLt ns ms) s) : wpAny (model prog w) A (keyLt' oneType' v u) Q E s := by
  obtain ⟨a, its, rfl, la, ia⟩ := hv
  obtain ⟨b, its2, rfl, lb, ib⟩ := hw
  have l1 := ia.length
  have l2 := ib.length
  rw [keyLt'_oneType, oneLt'_eq]
  simp only [if_true]
  refine wpAny_bind (wpAny_cRoomFor hu ?_)
  refine wpAny_bind (wpAny_callSpecialIfBound?_slot la.typeIs PySem.F.slot_list_lt (SeqAt.call_list_lt (e := fun j => ns.getD j 0 == ms.getD j 0) (r := fun j => decide (ns.getD j 0 < ms.getD j 0)) la lb (fun j h1 h2 => ?_) (fun j h1 h2 _ => ?_) ?_))
  · obtain ⟨t, e⟩ := ints_at ia j (by simpa using h1)
    obtain ⟨t', e'⟩ := ints_at ib j (by simpa using h2)
    rw [List.getElem_toArray, List.getElem_toArray, e, e']
    exact SeqAt.EqAt.int_int _ t _ t'
  · obtain ⟨t, e⟩ := ints_at ia j (by simpa using h1)
    obtain ⟨t', e'⟩ := ints_at ib j (by simpa using h2)
    rw [List.getElem_toArray, List.getElem_toArray, e, e']
    exact rcLt_int _ _ _ t _ t'
  · rw [List.size_toArray, List.size_toArray, l1, l2, first_lex]
    exact wpAny_truthy_bool h
theorem ls_cmp {vs : List Value} {k : Value → List Int} (hu : A.units < cLine) (hv : ∀ v ∈ vs, IsLs s.heap v (k v)) : SrtO.Cmp prog w A s oneType' (fun p => p.1 ∈ vs) (SrtO.lt2 fun v u => HT.lexLt (k v) (k u)) := by
  intro p q hp hq
  exact lt_ls (Q := fun r s' => s' = s ∧ r = HT.lexLt (k p.1) (k q.1)) (E := fun _ _ => False) hu (hv p.1 hp) (hv q.1 hq) ⟨rfl, rfl⟩
theorem ls_sortable {a : Addr} {vs : List Value} {k : Value → List Int} (h2 : 2 ≤ vs.length) (hu : A.units < cLine) (hv : ∀ v ∈ vs, IsLs s.heap v (k v)) (ha : ∀ v ∈ vs, v ≠ .ref a) :
    SrtO.SortableO prog w A s a vs fun v u => HT.lexLt (k v) (k u) := by
  intro h' keep
  have hv' : ∀ v ∈ vs, IsLs h' v (k v) := fun v hm => (hv v hm).keeps fun b o e g => keep b o (fun z => ha v hm (by rw [e, z])) g
  refine ⟨oneType', fun Q E hq => ?_, ls_cmp (s := { s with heap := h' }) hu hv'⟩
  refine PySem.W.kas_kind (s := { s with heap := h' }) (T := .type "list") h2 (fun v hm => ?_) (by rfl) (by simp) hq
  obtain ⟨a, its, rfl, ⟨o, ho, hc, n, hd⟩, hi⟩ := hv' v hm
  rw [← hc]
  exact (PySem.W.Looks.ld ho).andThen .now
end
/-- sorted(xs), xs a list of lists of ints of any length (k says which) -/
def rSortedLL (K : PySem.W.Frag) : List V → Hp → VK → Prop := fun vs H Q => ∃ (a : Addr) (xs : List V) (k : V → List Int), vs = [V.ref a] ∧ SqL K H a xs ∧ (∀ x ∈ xs, ∃ t, x = V.ref t ∧ SqL K H t ((k x).map V.int)) ∧
  ∀ ys p, ys.Perm xs → ys.Pairwise (fun x y => HT.lexLt (k y) (k x) = false) → H p = none → Q (.ref p) (upd H p (.lst ys))
theorem cr_sortedLL {X : Cx} (hu : X.A.units + 64 < cLine) : CallR X (.builtin "sorted") (rSortedLL X.K) := by
  intro pins s σ H vs us Q I r h
  obtain ⟨a, xs, k, rfl, hs, hx, q⟩ := h
  obtain ⟨its, rv, hl, hz⟩ := I.list hs
  obtain ⟨u, rfl, ru⟩ := vals1 r
  obtain rfl : u = Value.ref a := ru
  obtain ⟨e1, e2⟩ := refs_back rv fun x m => by
    obtain ⟨t, e, _⟩ := hx x m
    exact ⟨t, e⟩
  have hv : ∀ v ∈ its, IsLs s.heap v (k (backV v)) := fun v hv => by
    obtain ⟨t, rfl⟩ := e2 v hv
    have hm : V.ref t ∈ xs := by rw [e1]; exact List.mem_map.mpr ⟨_, hv, rfl⟩
    obtain ⟨t', e, ht⟩ := hx _ hm
    cases e
    obtain ⟨its2, r2, l2, _⟩ := I.list ht
    exact ⟨t, its2, rfl, l2.isList, r2.ints⟩
  refine SrtO.sorted_ord (NtL.swo_lexL fun u => k (backV u)) hl.isList (by rw [← rv.length]; exact hz) (fun h2 h₁ a' g keep => ls_sortable h2 (by show X.A.units + 1 + 1 < cLine; omega) (fun v hm => (hv v hm).keeps fun b o _ g => (keep b o g).2) fun v hm z => ?_) fun out h1 h2 => ?_
  · obtain ⟨b, its3, e, ⟨o, ho, _⟩, _⟩ := hv v hm
    rw [z] at e
    cases e
    exact (keep _ o ho).1 rfl
  · have h3 : ∀ u ∈ out, ∃ a, u = Value.ref a := fun u hu => e2 u (h2.perm.mem_iff.mp hu)
    obtain ⟨ep, he'⟩ := PyProof.Rows.sortedAll_at s.heap its out.toArray
    have hp : (out.map backV).Perm xs := by
      rw [e1]
      exact h2.perm.map backV
    have hlen : (out.map backV).length ≤ sizeLine := by
      rw [hp.length_eq]
      exact hz
    exact ⟨.ref _, upd H (s.heap.objs.size + 1) (.lst (out.map backV)), I.laid (t' := s.toks) (fun _ _ => PyProof.Rows.sortedAll_old) (Nat.le_succ _) ⟨hlen, out, ep, vals_back h3, he'⟩, rfl, q _ _ hp (List.pairwise_map.mpr (h1.imp fun {x y} z => z)) (I.hok.fresh (Nat.le_succ _))⟩
end Lp
set_option Elab.async false
set_option linter.all false
set_option maxRecDepth 100000
namespace Lp
open PySem PySem.Spec PyProof.Rows L2
theorem all_bounds (n : Nat) : PySem.sliceBounds none none none n = (0, (n : Int), 1) := by
  simp [PySem.sliceBounds]
section
variable {prog : Program} {w : World} {A : Around} {E : Value → Shared → Prop} {s : Shared}
/-- xs[:] = ys -/
theorem whole_set {p q z : Addr} {old new : Array Value} {n1 n2 : Nat} {R : Unit → Shared → Prop} (hp : s.heap.get? p = some { cls := .type "list", data := .seq old n1 }) (hq : s.heap.get? q = some { cls := .type "list", data := .seq new n2 })
    (npq : p ≠ q) (hz : s.heap.IsSliceOf z .none .none .none) (fit : old.size + new.size ≤ sizeLine) (h : R () { s with heap := s.heap.update p (Obj.mapSeq fun xs => xs.extract 0 0 ++ new ++ xs.extract old.size xs.size) }) :
    wpAny (model prog w) A (setItem (.ref p) (.ref z) (.ref q)) R E s := by
  have tp : s.heap.IsList p old := PySem.IsL.isList hp
  have tq : s.heap.IsList q new := PySem.IsL.isList hq
  obtain ⟨oz, goz, coz, doz⟩ := id hz
  have tz : s.TypeIs (.ref z) "slice" := ⟨oz, goz, coz⟩
  have noZero : ¬ ((rawPart none == rawInt 0) = true) := Bool.false_ne_true
  have two : Builtin.List.listSameRef (.ref p) (.ref q) = false := by unfold Builtin.List.listSameRef; exact beq_eq_false_iff_ne.mpr npq
  have upper : (max (0 : Int) (old.size : Int)).toNat = old.size := by omega
  have fit' : ((fun xs : Array Value => xs.extract 0 0 ++ new ++ xs.extract old.size xs.size) old).size ≤ sizeLine + 1 := by simp only [Array.size_append, Array.size_extract]; omega
  unfold setItem; try with_reducible refine wpAny_holding ?_
  first | refine wpAny_bind (wpAny_pure ?_) | skip
  refine wpAny_bind (wpAny_sequenceKey tp.typeIs (by decide) (wpAny_bind (wpAny_callSpecial?_slot (name := Str.ofString "__setitem__") tp.typeIs slot_list_setitem (wpAny_call_entry slot_list_setitem tp.typeIs entry_list_setitem ?_ (args_list_setitem _ _ _)))))
  show wpAny _ _ (Builtin.List.listSubscript? (.ref z) >>= _) _ _ s
  refine wpAny_bind ?_
  unfold Builtin.List.listSubscript?
  refine wpAny_bind (wpAny_specialOf tz slice_no_index ?_)
  simp only [Option.isNone_none, if_true]
  refine wpAny_pure (?_ : wpAny _ _ (typeOf (.ref z) >>= _) _ _ s)
  refine wpAny_bind (wpAny_typeOf tz ?_)
  first | rw [if_neg (by decide)] | refine PySem.W.KFB.if_not (by decide) ?_
  rw [listSliceParts_eq]
  refine wpAny_bind (wpAny_bind (wpAny_field goz doz (x := .none) rfl (wpAny_bind (wpAny_listPart .none (?_ : wpAny _ _ _ _ _ _)))))
  rw [if_neg noZero]
  refine wpAny_bind (wpAny_field goz doz (x := .none) rfl (wpAny_bind (wpAny_listPart .none (wpAny_bind (wpAny_field goz doz (x := .none) rfl (wpAny_bind (wpAny_listPart .none (wpAny_pure ?_))))))))
  first | simp only [two, Bool.false_eq_true, if_false] | refine PySem.W.KFB.if_not two ?_ | (dsimp only; rw [if_neg (by rw [two]; exact Bool.false_ne_true)])
  refine wpAny_bind (m := Builtin.List.listAllItems (.ref q) "must assign iterable to extended slice") ?_
  unfold Builtin.List.listAllItems; refine wpAny_bind (wpAny_typeOf tq.typeIs ?_)
  first | refine PySem.W.KFB.if_so (by decide) ?_ | rw [if_pos (by decide)] | simp only [beq_self_eq_true, Bool.true_or, if_true]
  unfold Builtin.List.listItems; refine wpAny_bind (wpAny_seqItems hq rfl (wpAny_pure (wpAny_bind (wpAny_bind (wpAny_seqItems hp rfl (wpAny_pure ?_))))))
  refine wpAny_bind (wpAny_of_eq ((sliceIndices_raw none none none old.size (by simp)).trans (congrArg (pure : Int × Int × Int → Sem (Int × Int × Int)) (all_bounds old.size))) ?_)
  show wpAny _ _ (if ((1 : Int) == 1) = true then _ else _) _ _ s
  rw [if_pos (by decide)]; refine wpAny_bind (wpAny_rule ?_)
  first | simp only [notLongL fit, Bool.false_eq_true, if_false] | refine PySem.W.KFB.if_not (notLongL fit) ?_
  first | refine wpAny_bind (wpAny_pure ?_) | skip
  show wpAny _ _ (updateSeq p (fun xs => xs.extract 0 ((0 : Int)).toNat ++ new ++ xs.extract (max (0 : Int) (old.size : Int)).toNat xs.size) >>= _) _ _ s
  rw [upper]; refine wpAny_bind (wpAny_updateSeq (hz := Nat.le_trans (Nat.le_add_right _ _) fit) (_hz' := fit') hp rfl (wpAny_bind (wpAny_letGo ?_)))
  first | exact wpAny_bind (wpAny_pure (wpAny_pure ⟨.none, rfl, wpAny_pure h⟩)) | exact wpAny_pure ⟨.none, rfl, wpAny_pure h⟩
end
/-- the slice object of [:] -/
def SlO (a : Addr) : HO := .ext fun h => h.IsSliceOf a .none .none .none
section
variable {X : Cx} {pos : Pos}
def tSlAll : TE := fun _ H Q => ∀ p, H p = none → Q (.ref p) (upd H p (SlO p))
theorem pe_slAll : PE X (.Slice none none none pos) tSlAll := by
  refine ⟨fun pins s σ H Q I h => ?_⟩
  refine wpAny_Slice ?_
  rw [evalPart_none]
  refine wpAny_pure (wpAny_pure (wpAny_pure ?_))
  refine ⟨.ref s.heap.objs.size, upd H s.heap.objs.size (SlO s.heap.objs.size), I.laid (t' := s.toks) (fun b ob q => Heap.get?_push_of_some _ q) (Nat.le_refl _) ⟨Heap.IsSliceOf.new .., ⟨_, Heap.get?_push_size s.heap rfl⟩, fun h1 h2 x k => ?_⟩, rfl, h _ (I.hok.fresh (Nat.le_refl _))⟩
  obtain ⟨o, e, c, d⟩ := x
  exact ⟨o, k o e, c, d⟩
def sAll : TSet := fun x y z H Q => ∃ (l b sl : Addr) (xs ys : List V), x = .ref l ∧ y = .ref sl ∧ z = .ref b ∧ H sl = some (SlO sl) ∧ H l = some (.lst xs) ∧ H b = some (.lst ys) ∧ l ≠ b ∧ xs.length + ys.length ≤ sizeLine ∧ Q (upd H l (.lst ys))
theorem set_all : PSet X sAll := by
  intro pins s σ H o i v ov iv u Q I r1 r2 r3 h
  obtain ⟨l, b, sl, xs, ys, rfl, rfl, rfl, hsl, hl, hb, ne, hz, q⟩ := h
  cases r1
  cases r2
  cases r3
  obtain ⟨z, its, n, r, el, e⟩ := I.lstM hl
  obtain ⟨z2, its2, n2, r', el2, e2⟩ := I.lstM hb
  have os : ObjOk X.prog X.w H s.heap sl (SlO sl) := I.hok sl _ hsl
  refine whole_set e e2 ne os.1 (by rw [List.size_toArray, List.size_toArray]; omega) ⟨_, I.lset (its' := its2) (t' := s.toks) hl e ?_ r' (by omega), q⟩
  apply Array.toList_inj.mp
  simp
/-- xs[..] = as a target, a slice without a step -/
theorem pg_slAll {o i : Expr} {to ti : TE} {t : TSet} (ho : PE X o to) (hi : PE X i ti) (hs : PSet X t)
    (ha : ∀ v, assign (.Subscript o i pos) X.env v = (holding [v] (eval o X.env) >>= fun ov => holding [v, ov] (eval i X.env) >>= fun iv => standAt pos >>= fun _ => holding [v, ov, iv] (setItem ov iv v) >>= fun _ => release [iv, v, ov] []) := by intro _; rfl) : PG X (.Subscript o i pos) (gSub to ti t) := by
  refine ⟨fun pins s σ H v u Q I r h => ?_⟩
  rw [ha u]
  refine wpAny_bind (wpAny_holding (thn (ho.run pins s σ H _ I h) fun ov sA ⟨x, HA, IA, rA, qA⟩ => wpAny_bind (wpAny_holding (thn (hi.run pins sA σ HA _ IA qA) fun iv sB ⟨y, HB, IB, rB, qB⟩ =>
    wpAny_bind (wpAny_standAt (wpAny_bind (wpAny_holding (thn (hs pins sB σ HB x y v ov iv u _ IB rA rB r qB) fun _ sC ⟨HC, IC, qC⟩ => wpAny_release ⟨σ, HC, IC, qC⟩))))))))
end
end Lp
set_option Elab.async false
set_option linter.all false
set_option maxRecDepth 100000
namespace Lp
open PySem PySem.Calls
theorem comb_entry : entryFor table "math.comb" = some Builtin.«math.comb» := entryFor_of_tree (by kernel_rfl)
theorem comb_kind : builtinKind "math.comb" = none := by kernel_rfl
theorem comb_plain : plainId "math.comb" = true := by decide +kernel
theorem comb_args (a b : Value) : argsOk "math.comb" ⟨[a, b], []⟩ := by unfold argsOk; kernel_rfl
theorem comb_run (a : Int) (t : Tok) (b : Int) (u : Tok) (h0 : ¬ a < 0) (h1 : ¬ b < 0) (h2 : ¬ b > a) (h3 : ¬ min b (a - b) > Builtin.Math.maxSsize) (h4 : ¬ min b (a - b) > Builtin.Math.manyFactors) (h5 : ¬ min b (a - b) > 9000)
    (hs : (Builtin.Math.fallingProduct a (min b (a - b)).toNat / Builtin.Math.fallingProduct (min b (a - b)) (min b (a - b)).toNat).natAbs.log2 < bitsLine) :
    Gives (Builtin.«math.comb» ⟨[.int a t, .int b u], []⟩) (.int (Builtin.Math.fallingProduct a (min b (a - b)).toNat / Builtin.Math.fallingProduct (min b (a - b)) (min b (a - b)).toNat)) :=
  .of_wp fun M A E s Q h => by obtain ⟨hp, g, d, tk, os⟩ := s; wp_walk; (try (refine wpAny_ite_false (decide_eq_false (Nat.not_le.mpr hs)) ?_; wp_walk)); exact ⟨_, rfl, h⟩
end Lp
namespace Lp
open PySem PySem.Spec PySem.Calls PyProof.Rows L2
/-! ### binomial coefficients -/
theorem facN_pos' : ∀ n, 0 < facN n
  | 0 => by decide
  | n + 1 => Nat.mul_pos (facN_pos' n) (Nat.succ_pos n)
def chN (n k : Nat) : Nat := facN n / (facN k * facN (n - k))
def chP : Nat → Nat → Nat
  | _, 0 => 1
  | 0, _ + 1 => 0
  | n + 1, k + 1 => chP n k + chP n (k + 1)
theorem chP_zero (n : Nat) : chP n 0 = 1 := by cases n <;> rfl
theorem chP_gt : ∀ n k, n < k → chP n k = 0
  | 0, k + 1, _ => rfl
  | n + 1, k + 1, h => by
    show chP n k + chP n (k + 1) = 0
    rw [chP_gt n k (by omega), chP_gt n (k + 1) (by omega)]
theorem chP_self : ∀ n, chP n n = 1
  | 0 => rfl
  | n + 1 => by
    show chP n n + chP n (n + 1) = 1
    rw [chP_self n, chP_gt n (n + 1) (by omega)]
theorem chP_fac : ∀ n k, k ≤ n → chP n k * (facN k * facN (n - k)) = facN n
  | n, 0, _ => by
    rw [chP_zero, Nat.sub_zero]
    show 1 * (1 * facN n) = facN n
    rw [Nat.one_mul, Nat.one_mul]
  | n + 1, k + 1, h => by
    show (chP n k + chP n (k + 1)) * (facN k * (k + 1) * facN (n + 1 - (k + 1))) = facN n * (n + 1)
    have e : n + 1 - (k + 1) = n - k := by omega
    rw [e]
    have a := chP_fac n k (by omega)
    rcases Nat.lt_or_ge k n with hk | hk
    · have b := chP_fac n (k + 1) (by omega)
      have b2 : facN (n - k) = facN (n - (k + 1)) * (n - k) := by
        have e2 : n - k = (n - (k + 1)) + 1 := by omega
        rw [e2]
        rfl
      have x1 : chP n k * (facN k * (k + 1) * facN (n - k)) = facN n * (k + 1) := by
        rw [← a]
        simp only [Nat.mul_assoc, Nat.mul_comm, Nat.mul_left_comm]
      have x2 : chP n (k + 1) * (facN k * (k + 1) * facN (n - k)) = facN n * (n - k) := by
        rw [← b, b2]
        show _ = chP n (k + 1) * (facN k * (k + 1) * facN (n - (k + 1))) * (n - k)
        simp only [Nat.mul_assoc, Nat.mul_comm, Nat.mul_left_comm]
      rw [Nat.add_mul, x1, x2, ← Nat.mul_add]
      congr 1
      omega
    · have ek : k = n := by omega
      subst ek
      have x : chP k k * (facN k * (k + 1) * facN (k - k)) = chP k k * (facN k * facN (k - k)) * (k + 1) := by
        simp only [Nat.mul_assoc, Nat.mul_comm, Nat.mul_left_comm]
      rw [chP_gt k (k + 1) (by omega), Nat.add_zero, x, a]
theorem ch_eq {n k : Nat} (h : k ≤ n) : chN n k = chP n k := by
  unfold chN
  rw [← chP_fac n k h]
  exact Nat.mul_div_cancel _ (Nat.mul_pos (facN_pos' k) (facN_pos' _))
theorem ch_sym {n k : Nat} (h : k ≤ n) : chN n (n - k) = chN n k := by
  unfold chN
  have e : n - (n - k) = k := by omega
  rw [e, Nat.mul_comm]
theorem ch_le (n k : Nat) : chN n k ≤ facN n := Nat.div_le_self _ _
theorem fall_fac (n : Nat) : ∀ k, k ≤ n → Builtin.Math.fallingProduct (n : Int) k * ((facN (n - k) : Nat) : Int) = ((facN n : Nat) : Int)
  | 0, _ => by
    show 1 * _ = _
    rw [Int.one_mul, Nat.sub_zero]
  | k + 1, h => by
    have e : Builtin.Math.fallingProduct (n : Int) (k + 1) = Builtin.Math.fallingProduct (n : Int) k * ((n : Int) - (k : Int)) := by
      unfold Builtin.Math.fallingProduct
      rw [List.range_succ, List.foldl_append]
      rfl
    have ih := fall_fac n k (by omega)
    have e2 : facN (n - k) = facN (n - (k + 1)) * (n - k) := by
      have e3 : n - k = (n - (k + 1)) + 1 := by omega
      rw [e3]
      rfl
    rw [← ih, e, e2, Int.natCast_mul, Int.mul_assoc]
    congr 1
    rw [Int.mul_comm]
    congr 1
    omega
theorem comb_val {n k : Nat} (h : k ≤ n) : Builtin.Math.fallingProduct (n : Int) k / Builtin.Math.fallingProduct (k : Int) k = ((chN n k : Nat) : Int) := by
  have a := fall_fac n k h
  have b := fall_fac k k (Nat.le_refl k)
  have c := chP_fac n k h
  rw [Nat.sub_self] at b
  have b' : Builtin.Math.fallingProduct (k : Int) k = ((facN k : Nat) : Int) := by
    rw [← b]
    exact (Int.mul_one _).symm
  have fp : ((facN (n - k) : Nat) : Int) ≠ 0 := by
    have := facN_pos' (n - k)
    omega
  have a' : Builtin.Math.fallingProduct (n : Int) k = ((chP n k * facN k : Nat) : Int) := by
    refine Int.eq_of_mul_eq_mul_right fp ?_
    rw [a, ← c, ← Int.natCast_mul, Nat.mul_assoc]
  rw [a', b', ← Int.natCast_ediv, Nat.mul_div_cancel _ (facN_pos' k), ch_eq h]
def rComb : List V → Hp → VK → Prop := fun vs H Q => ∃ n k : Nat, vs = [.int (n : Int), .int (k : Int)] ∧ k ≤ n ∧ n ≤ 1000 ∧ Q (.int ((chN n k : Nat) : Int)) H
theorem cr_comb {X : Cx} : CallR X (.builtin "math.comb") rComb := by
  intro pins s σ H vs us Q I r h
  obtain ⟨n, k, rfl, hk, hn, q⟩ := h
  obtain ⟨t, u, rfl⟩ := Vals.int2 r
  obtain ⟨m, em, hm, ech⟩ : ∃ m : Nat, min (k : Int) ((n : Int) - (k : Int)) = (m : Int) ∧ m ≤ n ∧ chN n m = chN n k := by
    rcases Nat.le_total k (n - k) with c | c
    · exact ⟨k, by omega, hk, rfl⟩
    · exact ⟨n - k, by omega, by omega, ch_sym hk⟩
  have v : Builtin.Math.fallingProduct (n : Int) (min (k : Int) ((n : Int) - (k : Int))).toNat / Builtin.Math.fallingProduct (min (k : Int) ((n : Int) - (k : Int))) (min (k : Int) ((n : Int) - (k : Int))).toNat = ((chN n k : Nat) : Int) := by
    rw [em, Int.toNat_natCast, comb_val hm, ech]
  have fl := fac_lt n hn
  refine call_function_meets comb_kind comb_plain comb_entry (comb_args _ _) (comb_run (n : Int) t (k : Int) u (by omega) (by omega) (by omega) (by rw [em]; show ¬ (m : Int) > 2 ^ 63 - 1; omega) (by rw [em]; show ¬ (m : Int) > 20000; omega) (by omega) ?_).meets ?_
  · rw [v]
    show (chN n k).log2 < bitsLine
    have b := PySem.Flt.log2_lt_of (by omega : 0 < 10 * n + 1) (Nat.lt_of_le_of_lt (ch_le n k) fl)
    have e2 : bitsLine = 134217728 := by decide
    rw [e2]
    omega
  · rw [v]
    exact ⟨.int _, H, I.tok _, ⟨_, rfl⟩, q⟩
end Lp
set_option Elab.async false
set_option linter.all false
set_option maxRecDepth 100000
namespace Lp
open PySem PySem.Spec PyProof.Rows L2
/-! ### a text read from its end -/
theorem fm_all {α : Type} : ∀ m : List α, List.filterMap (fun k => m[k]?) (List.range m.length) = m
  | [] => rfl
  | a :: m => by
    rw [List.length_cons, List.range_succ_eq_map, List.filterMap_cons]
    show a :: List.filterMap (fun k => (a :: m)[k]?) (List.map Nat.succ (List.range m.length)) = a :: m
    rw [List.filterMap_map]
    exact congrArg (a :: ·) (fm_all m)
theorem fm_congr {α β : Type} {f g : α → Option β} : ∀ {l : List α}, (∀ x ∈ l, f x = g x) → l.filterMap f = l.filterMap g
  | [], _ => rfl
  | a :: l, h => by
    rw [List.filterMap_cons, List.filterMap_cons, h a (List.mem_cons_self ..), fm_congr fun x hx => h x (List.mem_cons_of_mem _ hx)]
theorem fm_rev {α : Type} (l : List α) : List.filterMap (fun k => l[l.length - 1 - k]?) (List.range l.length) = l.reverse := by
  refine Eq.trans (fm_congr (g := fun k => l.reverse[k]?) fun k hk => ?_) ((congrArg (fun n => List.filterMap (fun k => l.reverse[k]?) (List.range n)) (List.length_reverse (as := l)).symm).trans (fm_all l.reverse))
  rw [List.getElem?_reverse (List.mem_range.mp hk)]
theorem rev_idx (n : Nat) : Builtin.Str.strSliceIndices none none (-1) n = (List.range n).map fun k => n - 1 - k := by
  show sliceRange ((n : Int) - 1) (-1) (-1) = _
  have e : sliceRange ((n : Int) - 1) (-1) (-1) = List.map (fun k : Nat => ((n : Int) - 1 + (-1) * (k : Int)).toNat) (List.range (if (n : Int) - 1 > -1 then ((n : Int) - 1 - (-1) - (-1) - 1) / 1 else (0 : Int)).toNat) := rfl
  rw [e]
  have c : (if (n : Int) - 1 > -1 then ((n : Int) - 1 - (-1) - (-1) - 1) / 1 else (0 : Int)).toNat = n := by
    split <;> omega
  rw [c]
  exact List.map_congr_left fun k hk => by omega
def revS (x : Str) : Str := ⟨x.cps.toList.reverse.toArray⟩
theorem rev_made (x : Str) (t q : Tok) : sliceMade x t none none (some (-1, q)) = .str (revS x) := by
  show (if ((-1 : Int) == 1 && _) = true then _ else _) = _
  rw [if_neg (by simp)]
  show Made.str ⟨(List.filterMap (fun i => x.cps[i]?) (Builtin.Str.strSliceIndices none none (-1) x.length)).toArray⟩ = _
  rw [rev_idx, List.filterMap_map]
  have := fm_rev x.cps.toList
  simp only [Array.getElem?_toList, Array.length_toList] at this
  exact congrArg (fun l => Made.str ⟨List.toArray l⟩) this
section
variable {X : Cx}
def tRevS (te : TE) : TE := fun σ H Q => te σ H fun x H1 => ∃ z, x = .str z ∧ z.cps.size ≤ sizeLine ∧ Q (.str (revS z)) H1
theorem pe_revS {e : Expr} {te : TE} {k : Nat} {p1 p2 p3 pos : Pos} (he : PE X e te) : PE X (e.Subscript (Expr.Slice none none (some (Expr.UnaryOp UnaryOp.USub (Expr.Constant (Const.int 1) k p1) p2)) p3) pos) (tRevS te) := by
  refine ⟨fun pins s σ H Q I h => ?_⟩
  refine Subscript_ (thn (he.run pins s σ H _ I h) fun o s1 ⟨v, H1, I1, r1, q1⟩ => ?_)
  obtain ⟨z, rfl, hz, q⟩ := q1
  obtain ⟨t, rfl⟩ := r1
  refine wpAny_Slice ?_
  rw [evalPart_none]
  refine wpAny_pure (wpAny_pure ?_)
  refine thn ((po_some (pe_un un_neg pe_int)).run pins s1 σ H1 (fun o H2 => o = some (-1) ∧ H2 = H1) I1 ⟨1, rfl, _, rfl, rfl, rfl⟩) fun u s2 ⟨o, H2, I2, ip, eo, eh⟩ => ?_
  subst eo
  subst eh
  cases ip with
  | int i tk =>
    refine tail_any (typeIs_str _ _ _) F.slot_str_getitem.lookup ?_ rfl
    refine wpAny_getItem_str_slice (l := none) (u := none) (st := some (-1, tk)) (Heap.IsSliceOf.new ..) rfl ?_
    rw [rev_made]
    have I3 : Inv X pins σ H2 { s2 with heap := s2.heap.push { cls := .type "slice", data := .fields #[.none, .none, .int (-1) tk] } } := I2.kept (t' := s2.toks) fun b o e => Heap.get?_push_of_some _ e
    have hl : (revS z).length ≤ sizeLine := by
      show (z.cps.toList.reverse.toArray).size ≤ sizeLine
      rw [List.size_toArray, List.length_reverse, Array.length_toList]
      exact hz
    exact ⟨hl, .str (revS z), H2, I3.tok _, ⟨_, rfl⟩, q⟩
/-! ### list and tuple of a text -/
def chL (z : Str) : List V := z.cps.toList.map fun c => V.str ⟨#[c]⟩
theorem vals_ch {z : Str} {acc : Array Value} (h : ItemsOf (SignAt z) acc z.cps.size) : Vals (chL z) acc.toList := by
  have e : chL z = (List.range acc.toList.length).map fun j => V.str ⟨#[z.cps.toList.getD j 0]⟩ := by
    unfold chL
    rw [Array.length_toList, h.1]
    apply List.ext_getElem?
    intro i
    rw [List.getElem?_map, List.getElem?_map]
    by_cases c : i < z.cps.size
    · rw [List.getElem?_range (by omega), List.getElem?_eq_getElem (by rw [Array.length_toList]; exact c)]
      simp [c]
    · rw [List.getElem?_eq_none (by rw [Array.length_toList]; omega), List.getElem?_eq_none (by rw [List.length_range]; omega)]
      rfl
  rw [e]
  refine vals_of_get acc.toList _ fun j u hj => ?_
  obtain ⟨c, t, hc, rfl⟩ := h.2 j u (by rw [← hj, Array.getElem?_toList])
  refine ⟨t, ?_⟩
  have : z.cps.toList.getD j 0 = c := by
    rw [List.getD_eq_getElem?_getD, Array.getElem?_toList, hc]
    rfl
  rw [this]
def rLStr : List V → Hp → VK → Prop := fun xs H Q => ∃ z, xs = [.str z] ∧ z.cps.size ≤ sizeLine ∧ ∀ p, H p = none → Q (.ref p) (upd H p (.lst (chL z)))
theorem cr_listStr (hc : X.calm = true) : CallR X (.type "list") rLStr := by
  intro pins s σ H xs us Q I r h
  obtain ⟨z, rfl, hz, q⟩ := h
  cases r with
  | cons r rr =>
    cases rr
    obtain ⟨t, rfl⟩ := r
    refine call_list_str (I.ok.hd hc) z t (fun h' tk acc' c' hk e hi => ?_) hz
    refine ⟨.ref _, upd H _ (.lst (chL z)), I.laid hk (Nat.le_refl _) (show ObjOk X.prog X.w _ _ _ (.lst _) from ⟨?_, acc'.toList, c', vals_ch hi, ?_⟩), rfl, q _ (I.hok.fresh (Nat.le_refl _))⟩
    · unfold chL
      rw [List.length_map, Array.length_toList]
      exact hz
    · rw [Array.toArray_toList]; exact e
def rTStr : List V → Hp → VK → Prop := fun xs H Q => ∃ z, xs = [.str z] ∧ z.cps.size ≤ sizeLine ∧ ∀ p, H p = none → Q (.ref p) (upd H p (.tup (chL z)))
theorem cr_tupStr (hc : X.calm = true) : CallR X (.type "tuple") rTStr := by
  intro pins s σ H xs us Q I r h
  obtain ⟨z, rfl, hz, q⟩ := h
  cases r with
  | cons r rr =>
    cases rr
    obtain ⟨t, rfl⟩ := r
    refine call_tuple_str (I.ok.hd hc) z t (fun h' tk acc hk hi => ?_) hz
    have I2 : Inv X pins σ H { s with heap := h', toks := tk } := I.kept (t' := tk) hk
    refine ⟨.ref _, upd H _ (.tup (chL z)), I2.laid (fun b o e => Heap.get?_push_of_some _ e) (Nat.le_refl _) (show ObjOk X.prog X.w _ _ _ (.tup _) from ?_), rfl, q _ (I2.hok.fresh (Nat.le_refl _))⟩
    simp only [ObjOk]
    refine ⟨by unfold chL; rw [List.length_map, Array.length_toList]; exact hz, acc.toList, vals_ch hi, ?_⟩
    rw [Array.toArray_toList]
    exact ⟨_, Heap.get?_push_size _ rfl, rfl, _, rfl⟩
end
end Lp
set_option Elab.async false
set_option linter.all false
set_option maxRecDepth 100000
namespace Lp
open PySem PySem.Spec PyProof.Rows L2
section
variable {prog : Program} {w : World} {A : Around} {E : Value → Shared → Prop} {s : Shared}
theorem zipS_next_item {z TI TO i1 i2 l1 : Addr} {k1 k2 : Nat} {xs : Array Value} {ty : String} {t : Str} {tk : Tok} {x a b : Value} {c : Nat} {Q : Value → Shared → Prop}
    (nx : ∀ (s : Shared) (Q : Value → Shared → Prop) (E : Value → Shared → Prop), s.heap.IsStrIter i2 ty t tk k2 → (∀ h', h'.IsStrIter i2 ty t tk (k2 + 1) → Heap.SameBut i2 s.heap h' → Q (.str ⟨#[c]⟩ s.toks) { heap := h', gens := s.gens, drawn := s.drawn, toks := s.toks + 1, os := s.os }) → wpAny (model prog w) A (Builtin.SmallTypes.nextOf (.ref i2)) Q E s)
    (TIz : TI ≠ z) (TOz : TO ≠ z) (i1z : i1 ≠ z) (i2z : i2 ≠ z) (TITO : TI ≠ TO) (TOi1 : TO ≠ i1) (TOi2 : TO ≠ i2) (i12 : i1 ≠ i2) (l1z : l1 ≠ z)
    (hz : IsZip s.heap z TI TO .none) (hTI : IsPair s.heap TI (.ref i1) (.ref i2)) (hTO : IsPair s.heap TO a b) (h1 : s.heap.IsListIter i1 l1 k1) (h2 : s.heap.IsStrIter i2 ty t tk k2) (hl : s.heap.IsList l1 xs) (hx : xs[k1]? = some x)
    (q : ∀ h' : Heap, IsZip h' z TI TO (rawInt ↑s.heap.objs.size) → IsPair h' TO x (.str ⟨#[c]⟩ s.toks) → h'.IsListIter i1 l1 (k1 + 1) → h'.IsStrIter i2 ty t tk (k2 + 1) → IsPair h' s.heap.objs.size x (.str ⟨#[c]⟩ s.toks) → h'.objs.size = s.heap.objs.size + 1 →
      (∀ (e : Addr) (o : Obj), e ≠ z → e ≠ TO → e ≠ i1 → e ≠ i2 → s.heap.get? e = some o → h'.get? e = some o) → Q (.ref s.heap.objs.size) { heap := h', gens := s.gens, drawn := s.drawn, toks := s.toks + 1, os := s.os }) :
    wpAny (model prog w) A (Builtin.«zip.__next__» { pos := [.ref z] }) (fun fin s' => ∃ v, fin = Fin.done (Flow.ret v) ∧ Q v s') E s := by
  unfold Builtin.«zip.__next__»
  refine wpAny_bind (m := slotArgs "__next__" 0 _) (wpAny_of_eq (a := ((Value.ref z : Value), ([] : List Value))) (by first | rfl | (simp only [slotArgs]; rfl)) ?_)
  refine wpAny_bind (wpAny_field hz rfl rfl ?_)
  refine wpAny_bind (wpAny_field hz rfl rfl ?_)
  refine wpAny_bind (wpAny_seqItems hTI rfl ?_)
  refine wpAny_bind (m := Builtin.SmallTypes.ownedTupleIsFree (.ref z)) ?_
  unfold Builtin.SmallTypes.ownedTupleIsFree
  refine wpAny_bind (wpAny_field hz rfl rfl (wpAny_pure ?_))
  show wpAny _ _ (rule _ >>= _) _ _ _
  refine wpAny_bind (wpAny_rule ?_)
  refine wpAny_bind (wpAny_field hz rfl rfl ?_)
  refine wpAny_bind (wpAny_setField_rec hz (by show 0 < 5; decide) fun g1 gz1 sb1 => ?_)
  refine wpAny_bind ?_
  rw [show (#[Value.ref i1, Value.ref i2] : Array Value).toList.zipIdx = [(Value.ref i1, 0), (Value.ref i2, 1)] from rfl, List.forIn_cons]
  refine wpAny_bind (wpAny_bind (wpAny_onRaise ?_))
  show wpAny _ _ (Builtin.SmallTypes.nextOf (.ref i1) >>= fun v => pure (some v)) _ _ _
  have x1 := sb1.extBut
  have hl1 : g1.IsList l1 xs := hl.extBut x1 l1z
  refine wpAny_bind (wpAny_nextOf_list_item (h1.extBut x1 i1z) hl1 hx fun g2 it2 sb2 => ?_)
  refine wpAny_pure ?_
  have TO2 : IsPair g2 TO a b := by
    show g2.get? TO = _
    rw [sb2.2 TO TOi1, sb1.2 TO TOz]
    exact hTO
  refine wpAny_bind (wpAny_seqItems TO2 rfl ?_)
  refine wpAny_bind (wpAny_updateSeq_pair TO2 fun g3 gt3 sb3 => ?_)
  refine wpAny_bind (wpAny_letGo ?_)
  refine wpAny_pure ?_
  show wpAny _ _ (forIn [((Value.ref i2 : Value), 1)] ((none : Option PySem.Fin), ()) _) _ _ _
  rw [List.forIn_cons]
  refine wpAny_bind (wpAny_bind (wpAny_onRaise ?_))
  show wpAny _ _ (Builtin.SmallTypes.nextOf (.ref i2) >>= fun v => pure (some v)) _ _ _
  have h23 : g3.IsStrIter i2 ty t tk k2 := ((h2.extBut x1 i2z).extBut sb2.extBut i12.symm).extBut sb3.extBut TOi2.symm
  refine wpAny_bind (nx _ _ _ h23 fun g4 it4 sb4 => ?_)
  refine wpAny_pure ?_
  have TO4 : IsPair g4 TO x b := by
    show g4.get? TO = _
    rw [sb4.2 TO TOi2]
    exact gt3
  refine wpAny_bind (wpAny_seqItems TO4 rfl ?_)
  refine wpAny_bind (wpAny_updateSeq_pair TO4 fun g5 gt5 sb5 => ?_)
  refine wpAny_bind (wpAny_letGo ?_)
  refine wpAny_pure ?_
  show wpAny _ _ (forIn [] ((none : Option PySem.Fin), ()) _) _ _ _
  rw [List.forIn_nil]
  refine wpAny_pure ?_
  refine wpAny_bind (wpAny_seqItems gt5 rfl ?_)
  refine wpAny_bind (wpAny_newTuple ?_ (by show 2 ≤ sizeLine; decide))
  refine wpAny_bind ?_
  unfold Builtin.SmallTypes.ownedTupleHandOut
  have gz5 : g5.get? z = some { cls := Value.type "zip", data := Data.fields #[Value.ellipsis, Value.bool false, Value.bool false, Value.ref TI, Value.ref TO] } := by
    rw [sb5.2 z TOz.symm, sb4.2 z i2z.symm, sb3.2 z TOz.symm, sb2.2 z i1z.symm]
    exact gz1
  show wpAny _ _ (setField (.ref z) 0 (rawInt ↑g5.objs.size) >>= fun _ => setField (.ref z) 1 (.bool false)) _ _ _
  have zlt : z < g5.objs.size := Heap.lt_size gz5
  refine wpAny_bind (wpAny_setField_rec (Heap.get?_push_of_some _ gz5) (by show 0 < 5; decide) fun g6 gz6 sb6 => ?_)
  refine wpAny_setField_rec gz6 (by show 1 < 5; decide) fun g7 gz7 sb7 => ?_
  refine wpAny_pure ⟨_, rfl, ?_⟩
  have sz : g5.objs.size = s.heap.objs.size := by rw [sb5.1, sb4.1, sb3.1, sb2.1, sb1.1]
  rw [← sz] at q
  have at7 : ∀ e : Addr, e ≠ z → g7.get? e = (g5.push { cls := Value.type "tuple", data := Data.seq (#[x, b].setIfInBounds 1 (.str ⟨#[c]⟩ s.toks)).toList.toArray }).get? e := fun e he => by
    rw [sb7.2 e he, sb6.2 e he]
  refine q g7 gz7 ?_ ?_ ?_ ?_ ?_ ?_
  · show g7.get? TO = _
    rw [at7 TO TOz]
    exact Heap.get?_push_of_some _ gt5
  · have y := ((it2.extBut sb3.extBut TOi1.symm).extBut sb4.extBut i12).extBut sb5.extBut TOi1.symm
    obtain ⟨o, h, c1, c2⟩ := y
    exact ⟨o, by rw [at7 i1 i1z]; exact Heap.get?_push_of_some _ h, c1, c2⟩
  · obtain ⟨o, h, c1, c2⟩ := it4.extBut sb5.extBut TOi2.symm
    exact ⟨o, by rw [at7 i2 i2z]; exact Heap.get?_push_of_some _ h, c1, c2⟩
  · show g7.get? g5.objs.size = _
    rw [at7 _ (Nat.ne_of_gt zlt)]
    exact Heap.get?_push_size _ rfl
  · rw [sb7.1, sb6.1]
    exact Heap.size_push ..
  · intro e o n1 n2 n3 n4 he
    rw [at7 e n1]
    refine Heap.get?_push_of_some _ ?_
    rw [sb5.2 e n2, sb4.2 e n4, sb3.2 e n2, sb2.2 e n3, sb1.2 e n1]
    exact he
theorem zipS_next_end {z TI TO i1 i2 l1 : Addr} {k1 : Nat} {xs : Array Value} {Q : PySem.Fin → Shared → Prop} (hh : A.handled = none)
    (i1z : i1 ≠ z) (l1z : l1 ≠ z)
    (hz : IsZip s.heap z TI TO .none) (hTI : IsPair s.heap TI (.ref i1) (.ref i2)) (h1 : s.heap.IsListIter i1 l1 k1) (hl : s.heap.IsList l1 xs) (hx : xs[k1]? = none)
    (q : ∀ (h' : Heap) (e : Addr), (∀ (c : Addr) (o : Obj), c ≠ z → c ≠ TO → c ≠ i1 → c ≠ i2 → s.heap.get? c = some o → h'.get? c = some o) → (∃ o, h'.get? e = some o ∧ o.cls = Value.type "StopIteration") → E (.ref e) { heap := h', gens := s.gens, drawn := s.drawn, toks := s.toks, os := s.os }) :
    wpAny (model prog w) A (Builtin.«zip.__next__» { pos := [.ref z] }) Q E s := by
  unfold Builtin.«zip.__next__»
  refine wpAny_bind (m := slotArgs "__next__" 0 _) (wpAny_of_eq (a := ((Value.ref z : Value), ([] : List Value))) (by first | rfl | (simp only [slotArgs]; rfl)) ?_)
  refine wpAny_bind (wpAny_field hz rfl rfl ?_)
  refine wpAny_bind (wpAny_field hz rfl rfl ?_)
  refine wpAny_bind (wpAny_seqItems hTI rfl ?_)
  refine wpAny_bind (m := Builtin.SmallTypes.ownedTupleIsFree (.ref z)) ?_
  unfold Builtin.SmallTypes.ownedTupleIsFree
  refine wpAny_bind (wpAny_field hz rfl rfl (wpAny_pure ?_))
  show wpAny _ _ (rule _ >>= _) _ _ _
  refine wpAny_bind (wpAny_rule ?_)
  refine wpAny_bind (wpAny_field hz rfl rfl ?_)
  refine wpAny_bind (wpAny_setField_rec hz (by show 0 < 5; decide) fun g1 gz1 sb1 => ?_)
  refine wpAny_bind ?_
  rw [show (#[Value.ref i1, Value.ref i2] : Array Value).toList.zipIdx = [(Value.ref i1, 0), (Value.ref i2, 1)] from rfl, List.forIn_cons]
  refine wpAny_bind (wpAny_bind (wpAny_onRaise ?_))
  show wpAny _ _ (Builtin.SmallTypes.nextOf (.ref i1) >>= fun v => pure (some v)) _ _ _
  have x1 := sb1.extBut
  have hl1 : g1.IsList l1 xs := hl.extBut x1 l1z
  refine wpAny_bind (wpAny_nextOf_list_end hh (h1.extBut x1 i1z) hl1 hx fun g2 e x2 so => ?_)
  refine wpAny_setField_rec (x2 z _ i1z.symm gz1) (by show 0 < 5; decide) fun g3 gz3 sb3 => ?_
  refine q g3 e (fun c o n1 n2 n3 n4 hc => ?_) ?_
  · rw [sb3.2 c n1]
    refine x2 c o n3 ?_
    rw [sb1.2 c n1]
    exact hc
  · obtain ⟨o, ho, hc⟩ := so
    by_cases ez : e = z
    · subst ez
      rw [x2 e _ i1z.symm gz1] at ho
      cases ho
      exact absurd (show Value.type "zip" = Value.type "StopIteration" from hc) (by decide)
    · exact ⟨o, by rw [sb3.2 e ez]; exact ho, hc⟩
/-- how an iterator of a text goes on -/
def NxS (prog : Program) (w : World) (ty : String) : Prop := ∀ (A : Around) (E : Value → Shared → Prop) (s : Shared) (it : Addr) (x : Str) (t : Tok) (i c : Nat) (Q : Value → Shared → Prop), s.heap.IsStrIter it ty x t i → x.cps[i]? = some c →
  (∀ h' : Heap, h'.IsStrIter it ty x t (i + 1) → Heap.SameBut it s.heap h' → Q (.str ⟨#[c]⟩ s.toks) { heap := h', gens := s.gens, drawn := s.drawn, toks := s.toks + 1, os := s.os }) → wpAny (model prog w) A (Builtin.SmallTypes.nextOf (.ref it)) Q E s
theorem nxs_ascii : NxS prog w "str_ascii_iterator" := fun _ _ _ _ _ _ _ _ _ h1 h2 h3 => wpAny_nextOf_ascii_item h1 h2 h3
theorem nxs_wide : NxS prog w "str_iterator" := fun _ _ _ _ _ _ _ _ _ h1 h2 h3 => wpAny_nextOf_wide_item h1 h2 h3
theorem pyNext_zipS_item {z TI TO i1 i2 l1 : Addr} {k1 : Nat} {xs : Array Value} {ty : String} {t : Str} {tk : Tok} {x a b : Value} {c : Nat} {Q : Option Value → Shared → Prop}
    (nx : NxS prog w ty) (D : ZipApart z TI TO i1 i2 l1 l1)
    (hz : IsZip s.heap z TI TO .none) (hTI : IsPair s.heap TI (.ref i1) (.ref i2)) (hTO : IsPair s.heap TO a b) (h1 : s.heap.IsListIter i1 l1 k1) (h2 : s.heap.IsStrIter i2 ty t tk k1) (hl : s.heap.IsList l1 xs) (hx : xs[k1]? = some x) (hc : t.cps[k1]? = some c)
    (q : ∀ h' : Heap, IsZip h' z TI TO (rawInt ↑s.heap.objs.size) → IsPair h' TO x (.str ⟨#[c]⟩ s.toks) → h'.IsListIter i1 l1 (k1 + 1) → h'.IsStrIter i2 ty t tk (k1 + 1) → IsPair h' s.heap.objs.size x (.str ⟨#[c]⟩ s.toks) → h'.objs.size = s.heap.objs.size + 1 →
      (∀ (e : Addr) (o : Obj), e ≠ z → e ≠ TO → e ≠ i1 → e ≠ i2 → s.heap.get? e = some o → h'.get? e = some o) → Q (some (.ref s.heap.objs.size)) { heap := h', gens := s.gens, drawn := s.drawn, toks := s.toks + 1, os := s.os }) :
    wpAny (model prog w) A (pyNext (.ref z)) Q E s := by
  have hT : s.TypeIs (.ref z) "zip" := ⟨_, hz, rfl⟩
  unfold pyNext
  exact wpAny_bind (wpAny_attempt (wpAny_callSpecial?_slot hT F.slot_zip_next (wpAny_call_entry F.slot_zip_next hT F.entry_zip_next
    (zipS_next_item (fun s Q E h k => nx _ E s i2 t tk k1 c Q h hc k) D.TIz D.TOz D.i1z D.i2z D.TITO D.TOi1 D.TOi2 D.i12 D.l1z hz hTI hTO h1 h2 hl hx fun h' a1 a2 a3 a4 a5 a6 a7 => wpAny_pure (q h' a1 a2 a3 a4 a5 a6 a7)) (F.args_zip_next_1 (.ref z)))))
theorem pyNext_zipS_end {z TI TO i1 i2 l1 : Addr} {k1 : Nat} {xs : Array Value} {Q : Option Value → Shared → Prop} (hh : A.handled = none) (D : ZipApart z TI TO i1 i2 l1 l1)
    (hz : IsZip s.heap z TI TO .none) (hTI : IsPair s.heap TI (.ref i1) (.ref i2)) (h1 : s.heap.IsListIter i1 l1 k1) (hl : s.heap.IsList l1 xs) (hx : xs[k1]? = none)
    (q : ∀ h' : Heap, (∀ (c : Addr) (o : Obj), c ≠ z → c ≠ TO → c ≠ i1 → c ≠ i2 → s.heap.get? c = some o → h'.get? c = some o) → Q none { heap := h', gens := s.gens, drawn := s.drawn, toks := s.toks, os := s.os }) :
    wpAny (model prog w) A (pyNext (.ref z)) Q E s := by
  have hT : s.TypeIs (.ref z) "zip" := ⟨_, hz, rfl⟩
  unfold pyNext
  exact wpAny_bind (wpAny_attempt (wpAny_callSpecial?_slot hT F.slot_zip_next (wpAny_call_entry F.slot_zip_next hT F.entry_zip_next
    (zipS_next_end hh D.i1z D.l1z hz hTI h1 hl hx fun h' e hk he => by
      obtain ⟨o, ho, hc⟩ := he
      exact wpAny_bind (wpAny_isInstance ⟨o, ho, hc⟩ isSubtype_stop (wpAny_pure (q h' hk)))) (F.args_zip_next_1 (.ref z)))))
def zsH1 (h : Heap) (l1 : Addr) : Heap := h.push { cls := .type "list_iterator", data := .fields #[.ref l1, .int 0 0] }
def zsH2 (h : Heap) (l1 : Addr) (x : Str) (t : Tok) : Heap := (zsH1 h l1).push { cls := .type "str_ascii_iterator", data := .fields #[.str x t, .int 0 0] }
def zsH3 (h : Heap) (l1 : Addr) (x : Str) (t : Tok) : Heap := (zsH2 h l1 x t).push { cls := .type "tuple", data := .seq #[.ref h.objs.size, .ref (zsH1 h l1).objs.size] }
def zsH4 (h : Heap) (l1 : Addr) (x : Str) (t : Tok) : Heap := (zsH3 h l1 x t).push { cls := .type "tuple", data := .seq #[.none, .none] }
def zsH5 (h : Heap) (l1 : Addr) (x : Str) (t : Tok) : Heap := (zsH4 h l1 x t).push { cls := .type "zip", data := .fields #[.none, .bool false, .bool false, .ref (zsH2 h l1 x t).objs.size, .ref (zsH3 h l1 x t).objs.size] }
end
theorem meets_zipS_new (l1 : Addr) (x : Str) (t : Tok) (xs : Array Value) (ha : (x.cps.all fun c => decide (c < 128)) = true) : Meets (Builtin.«zip.__new__» { pos := [.type "zip", .ref l1, .str x t] }) fun _ R s =>
    s.heap.IsList l1 xs ∧ R (Except.ok (Flow.ret (.ref (zsH4 s.heap l1 x t).objs.size))) { heap := zsH5 s.heap l1 x t, gens := s.gens, drawn := s.drawn, toks := s.toks, os := s.os } :=
  Meets.of_wp fun prog w A R s h => by
    obtain ⟨hp, g, d, tk, os⟩ := s
    obtain ⟨hl1, hR⟩ := h
    unfold Builtin.«zip.__new__»
    refine wpAny_bind ?_
    unfold Builtin.SmallTypes.newClass
    refine wpAny_bind (m := isType _) (wpAny_pure ?_)
    refine wpAny_ite_false rfl ?_
    refine wpAny_bind (wpAny_of_eq sub_zip (wpAny_ite_false rfl (wpAny_pure ?_)))
    refine wpAny_ite_false rfl ?_
    refine wpAny_bind (m := Builtin.SmallTypes.iterAll _) ?_
    unfold Builtin.SmallTypes.iterAll
    refine wpAny_bind ?_
    rw [List.forIn_cons]
    refine wpAny_bind (wpAny_bind (wpAny_holding (wpAny_pyIter_list hl1 (wpAny_pure ?_))))
    show wpAny _ _ (forIn [Value.str x t] _ _) _ _ _
    rw [List.forIn_cons]
    refine wpAny_bind (wpAny_bind (wpAny_holding (wpAny_pyIter_ascii ha (wpAny_pure ?_))))
    show wpAny _ _ (forIn [] _ _) _ _ _
    rw [List.forIn_nil]
    refine wpAny_pure (wpAny_pure ?_)
    refine wpAny_bind (wpAny_newTuple ?_ (by show 2 ≤ sizeLine; decide))
    refine wpAny_bind (wpAny_newTuple ?_ (by show 2 ≤ sizeLine; decide))
    refine wpAny_bind ?_
    unfold Builtin.SmallTypes.newRecord
    show wpAny _ _ (newObj _ _) _ _ _
    unfold newObj
    refine wpAny_bind (wpAny_alloc' ?_)
    refine wpAny_pure ?_
    exact wpAny_pure ⟨_, rfl, hR⟩
theorem call_zipS {prog : Program} {w : World} {A : Around} {E : Value → Shared → Prop} {s : Shared} {l1 : Addr} {xs : Array Value} {x : Str} {t : Tok} {Q : Value → Shared → Prop} (ha : (x.cps.all fun c => decide (c < 128)) = true) (hl1 : s.heap.IsList l1 xs)
    (h : ∀ h' : Heap, IsZip h' (s.heap.objs.size + 4) (s.heap.objs.size + 2) (s.heap.objs.size + 3) .none → IsPair h' (s.heap.objs.size + 2) (.ref s.heap.objs.size) (.ref (s.heap.objs.size + 1)) → IsPair h' (s.heap.objs.size + 3) .none .none → h'.IsListIter s.heap.objs.size l1 0 →
      h'.IsStrIter (s.heap.objs.size + 1) "str_ascii_iterator" x t 0 → h'.objs.size = s.heap.objs.size + 5 → (∀ (c : Addr) (o : Obj), s.heap.get? c = some o → h'.get? c = some o) → Q (.ref (s.heap.objs.size + 4)) { heap := h', gens := s.gens, drawn := s.drawn, toks := s.toks, os := s.os }) :
    wpAny (model prog w) A (call (.type "zip") [.ref l1, .str x t]) Q E s := by
  have z1 : (zsH1 s.heap l1).objs.size = s.heap.objs.size + 1 := Heap.size_push ..
  have z2 : (zsH2 s.heap l1 x t).objs.size = s.heap.objs.size + 2 := (Heap.size_push ..).trans (by rw [z1])
  have z3 : (zsH3 s.heap l1 x t).objs.size = s.heap.objs.size + 3 := (Heap.size_push ..).trans (by rw [z2])
  have z4 : (zsH4 s.heap l1 x t).objs.size = s.heap.objs.size + 4 := (Heap.size_push ..).trans (by rw [z3])
  have z5 : (zsH5 s.heap l1 x t).objs.size = s.heap.objs.size + 5 := (Heap.size_push ..).trans (by rw [z4])
  have g5 : (zsH5 s.heap l1 x t).get? (zsH4 s.heap l1 x t).objs.size = _ := Heap.get?_push_size _ rfl
  have g4 : (zsH5 s.heap l1 x t).get? (zsH3 s.heap l1 x t).objs.size = _ := Heap.get?_push_of_some _ (Heap.get?_push_size _ rfl)
  have g3 : (zsH5 s.heap l1 x t).get? (zsH2 s.heap l1 x t).objs.size = _ := Heap.get?_push_of_some _ (Heap.get?_push_of_some _ (Heap.get?_push_size _ rfl))
  have g2 : (zsH5 s.heap l1 x t).get? (zsH1 s.heap l1).objs.size = _ := Heap.get?_push_of_some _ (Heap.get?_push_of_some _ (Heap.get?_push_of_some _ (Heap.get?_push_size _ rfl)))
  have g1 : (zsH5 s.heap l1 x t).get? s.heap.objs.size = _ := Heap.get?_push_of_some _ (Heap.get?_push_of_some _ (Heap.get?_push_of_some _ (Heap.get?_push_of_some _ (Heap.get?_push_size _ rfl))))
  have gk : ∀ (c : Addr) (o : Obj), s.heap.get? c = some o → (zsH5 s.heap l1 x t).get? c = some o := fun c o e => Heap.get?_push_of_some _ (Heap.get?_push_of_some _ (Heap.get?_push_of_some _ (Heap.get?_push_of_some _ (Heap.get?_push_of_some _ e))))
  rw [z1] at g2 g3
  rw [z2] at g3 g5
  rw [z3] at g4 g5
  rw [z4] at g5
  refine callType_new F.called_zip (by decide) (F.typeCall_zip_2 (.ref l1) (.str x t)) (F.newCall_zip_2 (.ref l1) (.str x t)) (fun obj => F.args_object_init_3 obj (.ref l1) (.str x t)) F.entry_zip_new (meets_zipS_new l1 x t xs ha) ⟨hl1, ?_⟩
  show Shared.TypeIs _ (.ref (zsH4 s.heap l1 x t).objs.size) "zip" ∧ Q (.ref (zsH4 s.heap l1 x t).objs.size) _
  rw [z4]
  exact ⟨⟨_, g5, rfl⟩, h _ g5 g3 g4 ⟨_, g1, rfl, rfl⟩ ⟨_, g2, rfl, rfl⟩ z5 gk⟩
/-! ### for one, sign in zip(a list, a text) -/
def ItzS (K : PySem.W.Frag) (a : Addr) (z : Str) : It where
  go i H := ∃ xs x c, SqL K H a xs ∧ xs[i]? = some x ∧ z.cps[i]? = some c
  yld i H v H' := ∃ T x c, v = V.ref T ∧ H T = none ∧ H' = upd H T (.tup [x, .str ⟨#[c]⟩]) ∧ (∀ xs, SqL K H a xs → xs[i]? = some x) ∧ z.cps[i]? = some c
  stop i H := ∃ xs, SqL K H a xs ∧ xs.length ≤ i
theorem walk_zipS {K : PySem.W.Frag} {a : Addr} {xs : List V} {z : Str} (le : xs.length = z.cps.size) :
    Walk (ItzS K a z) xs.length (fun H => SqL K H a xs) (fun i H v H' => ∃ T x c, v = V.ref T ∧ H T = none ∧ H' = upd H T (.tup [x, .str ⟨#[c]⟩]) ∧ xs[i]? = some x ∧ z.cps[i]? = some c) where
  goes i H hi h := ⟨xs, _, _, h, List.getElem?_eq_getElem hi, Array.getElem?_eq_getElem (by omega)⟩
  stops H h := ⟨xs, h, Nat.le_refl _⟩
  yields i H v H' hi h y := by
    obtain ⟨T, x, c, e1, e2, e3, e4, e5⟩ := y
    exact ⟨T, x, c, e1, e2, e3, e4 xs h, e5⟩
theorem turn_zipS {P : Program} {w : World} {K : PySem.W.Frag} {elts : List Expr} {kk : Nat} {tpos : Pos} {a z TI TO i1 i2 : Addr} {x : Str} {t : Tok} (D : ZipApart z TI TO i1 i2 a a) :
    Turn P w K (Expr.Tuple elts kk tpos) (ItzS K a x) [z, TI, TO, i1, i2] z fun i h => IsZip h z TI TO .none ∧ IsPair h TI (.ref i1) (.ref i2) ∧ (∃ x y, IsPair h TO x y) ∧ h.IsListIter i1 a i ∧ h.IsStrIter i2 "str_ascii_iterator" x t i where
  mem := by simp
  obj i h st c hc := by
    obtain ⟨hz, hTI, ⟨u, v, hTO⟩, ⟨o1, e1, _, d1⟩, ⟨o2, e2, _, d2⟩⟩ := st
    simp only [List.mem_cons, List.not_mem_nil, or_false] at hc
    rcases hc with rfl | rfl | rfl | rfl | rfl
    · exact ⟨_, hz, fun v q => nomatch q⟩
    · exact ⟨_, hTI, fun v q => nomatch q⟩
    · exact ⟨_, hTO, fun v q => nomatch q⟩
    · exact ⟨_, e1, fun v q => by rw [d1] at q; cases q⟩
    · exact ⟨_, e2, fun v q => by rw [d2] at q; cases q⟩
  keep i h h' st k := by
    obtain ⟨hz, hTI, ⟨u, v, hTO⟩, ⟨o1, e1, c1, d1⟩, ⟨o2, e2, c2, d2⟩⟩ := st
    exact ⟨k z (by simp) _ hz, k TI (by simp) _ hTI, ⟨u, v, k TO (by simp) _ hTO⟩, ⟨o1, k i1 (by simp) _ e1, c1, d1⟩, ⟨o2, k i2 (by simp) _ e2, c2, d2⟩⟩
  item X hP hw hK hc i pins s σ H E I hf st hg := by
    subst hP
    subst hw
    subst hK
    obtain ⟨hz, hTI, ⟨x0, y0, hTO⟩, h1, h2⟩ := st
    obtain ⟨xs, v, c, hq, hx, hcx⟩ := hg
    obtain ⟨its, rv, p, _⟩ := I.list hq
    obtain ⟨u, hu, ru⟩ := rv.get hx
    have hzl := Heap.lt_size hz
    refine pyNext_zipS_item nxs_ascii D hz hTI hTO h1 h2 p.isList (by rw [List.getElem?_toArray]; exact hu) hcx fun h' z' TO' h1' h2' hT hsz hk => ?_
    refine ⟨.ref s.heap.objs.size, rfl, wpAny_letOwnedTupleGo_zip z' fun h'' z'' sb => ?_⟩
    have hT2 : h''.get? s.heap.objs.size = _ := (sb.2 s.heap.objs.size (Nat.ne_of_gt hzl)).trans hT
    have new : ObjOk X.prog X.w (upd H s.heap.objs.size (.tup [v, .str ⟨#[c]⟩])) h'' s.heap.objs.size (.tup [v, .str ⟨#[c]⟩]) := ⟨by show 2 ≤ sizeLine; decide, [u, .str ⟨#[c]⟩ s.toks], .cons ru (.cons ⟨_, rfl⟩ .nil), ⟨_, hT2, rfl, 0, rfl⟩⟩
    have I1 := I.turnedNew (h' := h'') (t' := s.toks + 1) (ch := [z, TI, TO, i1, i2]) (T := s.heap.objs.size) (ob := .tup [v, .str ⟨#[c]⟩]) (fun e o hb q => by
      simp only [List.mem_cons, List.not_mem_nil, or_false, not_or] at hb
      rw [sb.2 e hb.1]
      exact hk e o hb.1 hb.2.2.1 hb.2.2.2.1 hb.2.2.2.2 q) hf (Nat.le_refl _) new
    have fr : H s.heap.objs.size = none := I.hok.fresh (Nat.le_refl _)
    have lt : ∀ b : Addr, b ∈ [z, TI, TO, i1, i2] → b ≠ s.heap.objs.size := fun b hb => by
      simp only [List.mem_cons, List.not_mem_nil, or_false] at hb
      obtain ⟨o1, e1, _⟩ := h1
      obtain ⟨o2, e2, _⟩ := h2
      rcases hb with rfl | rfl | rfl | rfl | rfl
      · exact Nat.ne_of_lt hzl
      · exact Nat.ne_of_lt (Heap.lt_size hTI)
      · exact Nat.ne_of_lt (Heap.lt_size hTO)
      · exact Nat.ne_of_lt (Heap.lt_size e1)
      · exact Nat.ne_of_lt (Heap.lt_size e2)
    refine ⟨.ref _, _, I1, rfl, ⟨_, v, c, rfl, fr, rfl, fun xs2 q2 => by rw [I.list_inj q2 hq]; exact hx, hcx⟩, ⟨z'', (sb.2 TI D.TIz).trans (hk TI _ D.TIz D.TITO D.TIi1 D.TIi2 hTI), ⟨_, _, (sb.2 TO D.TOz).trans TO'⟩, h1'.extBut sb.extBut D.i1z, h2'.extBut sb.extBut D.i2z⟩, fun b hb => ?_⟩
    rw [upd_ne (lt b hb)]
    exact (hf b hb).1
  done X hP hw hK hc i pins s σ H E I hf st hg := by
    subst hP
    subst hw
    subst hK
    obtain ⟨hz, hTI, _, h1, h2⟩ := st
    obtain ⟨xs, hq, hle⟩ := hg
    obtain ⟨its, rv, p, _⟩ := I.list hq
    have hl := rv.length
    refine pyNext_zipS_end (I.ok.hd hc) D hz hTI h1 p.isList (by rw [List.getElem?_toArray]; exact List.getElem?_eq_none (by omega)) fun h' hk => ⟨rfl, I.turnedL (ch := [z, TI, TO, i1, i2]) (fun e o hb q => ?_) hf⟩
    simp only [List.mem_cons, List.not_mem_nil, or_false, not_or] at hb
    exact hk e o hb.1 hb.2.2.1 hb.2.2.2.1 hb.2.2.2.2 q
  self A i s Q E st h := wpAny_pyIter_zip st.1 h
def iZipS (K : PySem.W.Frag) (ta : TA) : TI := fun σ H R => ta σ H fun vs H1 => ∃ a xs z, vs = [V.ref a, .str z] ∧ SqL K H1 a xs ∧ (z.cps.all fun c => decide (c < 128)) = true ∧ R (ItzS K a z) H1
theorem pi_zipS {X : Cx} {e e2 : Expr} {ta : TA} {p pos tpos : Pos} {elts : List Expr} {kk : Nat} (hg : Gl X "zip") (hm : X.mg "zip" = none) (ha : PA X [e, e2] ta)
    (hs : starEach [e, e2] X.env = (false, eval e X.env) :: starEach [e2] X.env := by rfl) (hpl : (backTo pos (starEach [e2] X.env)).any (·.1) = false := by rfl) :
    PI X (.Tuple elts kk tpos) (.Call (.Name "zip" p) [e, e2] [] pos) (iZipS X.K ta) := by
  refine ⟨fun pins s σ H R I h => ?_⟩
  refine Call_ (ld_blt I hg hm boot_zip (PyProof.Rows.callWith_type1 (thn (ha.run pos pins s σ H _ I h) fun us s1 ⟨vs, H1, I1, r1, q1⟩ => ?_) hs hpl))
  obtain ⟨a, xs, z, ev, hq, hz, q⟩ := q1
  subst ev
  cases r1 with
  | cons r rr =>
    cases rr with
    | cons r' rr =>
      cases rr
      obtain ⟨t', rfl⟩ := r'
      cases (show _ = Value.ref a from r)
      obtain ⟨its, rv, pl, _⟩ := I1.list hq
      refine call_zipS hz pl.isList fun h' a1 a2 a3 a4 a5 a6 a7 => wpAny_pyIter_zip a1 ?_
      have fp : ∀ b : Addr, b ∈ [s1.heap.objs.size + 4, s1.heap.objs.size + 2, s1.heap.objs.size + 3, s1.heap.objs.size, s1.heap.objs.size + 1] → s1.heap.objs.size ≤ b := fun b hb => by
        simp only [List.mem_cons, List.not_mem_nil, or_false] at hb
        rcases hb with rfl | rfl | rfl | rfl | rfl <;> omega
      exact ⟨_, _, _, ItzS X.K a z, H1, rfl, I1.kept (t' := s1.toks) a7, turn_zipS (W.ktu_apart _ a a pl.lt pl.lt), ⟨a1, a2, ⟨_, _, a3⟩, a4, a5⟩, fun b hb => I1.fpOk (fp b hb) (I1.hok.fresh (fp b hb)), q⟩
end Lp
set_option Elab.async false
set_option linter.all false
set_option maxRecDepth 100000
namespace Lp
open PySem PySem.Spec PyProof.Rows L2
/-! ### set(a list of ints) -/
theorem call_set_listI {P : Program} {w : World} {A : Around} {E : Value → Shared → Prop} {s : Shared} {l : Addr} {items : Array Value} (ns : List Int) {Q : Value → Shared → Prop} (hh : A.handled = none) (hl : s.heap.IsList l items) (hit : IntsAre items.toList ns) (hb : ns.length + 1 < scanBound)
    (h : ∀ (h' : Heap) (tk c : Nat), SetR w h' s.heap.objs.size (fun j => decide (j ∈ ns)) c → c ≤ ns.length → (∀ (b : Addr) (o : Obj), s.heap.get? b = some o → h'.get? b = some o) → Q (.ref s.heap.objs.size) { heap := h', gens := s.gens, drawn := s.drawn, toks := tk, os := s.os }) :
    wpAny (model P w) A (call (.type "set") [.ref l]) Q E s := by
  have hisz : items.size = ns.length := by
    have q := hit.length
    rwa [Array.length_toList] at q
  obtain ⟨c, tl, hmro⟩ := F.called_set.mro
  have hmade := F.called_set.made
  have hsub := F.called_set.sub
  refine wpAny_call (codeAny_of_tree ?_)
  refine wpAny_pure ⟨Code.quiet_builtin _ (by decide +kernel), codeAny_builtin F.entry_type_call ?_⟩
  rw [Around.under_plain (weight_type_call_type "set" [.ref l] []) rfl]
  have h1 := F.called_set.notType
  have h2 := F.called_set.canCreate
  have hct := F.typeCall_set_1 (.ref l)
  unfold Builtin.«type.__call__»
  refine wpAny_ite_false rfl (wpAny_ite_false rfl ?_)
  refine wpAny_bind (wpAny_of_eq hct ?_)
  refine wpAny_bind (wpAny_of_eq hmro (wpAny_ite_false rfl ?_))
  refine wpAny_bind (wpAny_of_eq hmade ?_)
  refine wpAny_bind (wpAny_pure (wpAny_bind (wpAny_holding (wpAny_call (codeAny_mono (code_set_led1 (.ref l) (Q₁ := fun obj s₁ => obj = .ref s.heap.objs.size ∧ s₁ = { heap := s.heap.push { cls := .type "set", data := .set #[] 0 (SetTable.fresh 0 0 !w.params.followText "set-order") }, gens := s.gens, drawn := s.drawn, toks := s.toks, os := s.os }) (E := E) ⟨rfl, rfl⟩) fun r s₁ hr => ?_)))))
  cases r with
  | error e => exact hr
  | ok fl =>
    cases fl with
    | next => exact hr.elim
    | brk => exact hr.elim
    | cont => exact hr.elim
    | ret v =>
      obtain ⟨rfl, rfl⟩ := hr
      have hS : (s.heap.push { cls := .type "set", data := .set #[] 0 (SetTable.fresh 0 0 !w.params.followText "set-order") }).get? s.heap.objs.size = _ := Heap.get?_push_size s.heap rfl
      have hT : Shared.TypeIs { heap := s.heap.push { cls := .type "set", data := .set #[] 0 (SetTable.fresh 0 0 !w.params.followText "set-order") }, gens := s.gens, drawn := s.drawn, toks := s.toks, os := s.os } (.ref s.heap.objs.size) "set" := ⟨_, hS, rfl⟩
      have hli := F.called_set.init.lookup
      have hbi := F.called_set.init.bind (.ref s.heap.objs.size)
      refine wpAny_bind (wpAny_isInstance hT hsub (wpAny_ite_false rfl (wpAny_bind (wpAny_holding ?_))))
      unfold callSpecial?
      refine wpAny_bind (wpAny_specialOf hT hli (wpAny_holding (wpAny_bind (wpAny_of_eq hbi (wpAny_bind (wpAny_call (codeAny_mono (R := wants (fun r s₂ => r = Value.none ∧ ∃ h' tk c, s₂ = { heap := h', gens := s.gens, drawn := s.drawn, toks := tk, os := s.os } ∧ SetR w h' s.heap.objs.size (fun j => decide (j ∈ ns)) c ∧ c ≤ ns.length ∧ ∀ (b : Addr) (o : Obj), s.heap.get? b = some o → h'.get? b = some o) E) (codeAny_call_builtin F.called_set.init.plain F.entry_set_init (check_set_init_1 hT ?_)) fun r s₂ hr => ?_)))))))
      · obtain ⟨ol, hol, hcl, nl, hdl⟩ := hl
        obtain ⟨ocls, odict, odata, oslots⟩ := ol
        cases (show ocls = Value.type "list" from hcl)
        cases (show odata = Data.seq items nl from hdl)
        have hol' := Heap.get?_push_of_some { cls := .type "set", data := .set #[] 0 (SetTable.fresh 0 0 !w.params.followText "set-order") } hol
        have hsls := F.sub_list_set
        have hslf := F.sub_list_frozenset
        have hl1 : (s.heap.push { cls := .type "set", data := .set #[] 0 (SetTable.fresh 0 0 !w.params.followText "set-order") }).IsList l items := ⟨_, hol', rfl, nl, rfl⟩
        unfold Builtin.«set.__init__»
        refine wpAny_bind (wpAny_ite_true rfl (wpAny_pure ?_))
        refine wpAny_bind (wpAny_bind (wpAny_bind (wpAny_typeOf hT (wpAny_ite_false rfl (wpAny_pure (wpAny_pure ?_))))))
        refine wpAny_bind ?_
        unfold checkCount
        refine wpAny_ite_false rfl (wpAny_ite_false rfl (wpAny_ite_false rfl (wpAny_pure ?_)))
        refine wpAny_bind ?_
        unfold Builtin.Frozenset.addrOf
        refine wpAny_pure ?_
        refine wpAny_bind ?_
        unfold setUsed
        refine wpAny_bind ?_
        unfold setState
        refine wpAny_bind (wpAny_load' hS (wpAny_ite_false rfl (wpAny_pure (wpAny_pure (wpAny_ite_false rfl ?_)))))
        refine wpAny_bind ?_
        unfold Builtin.Frozenset.updateFrom
        refine wpAny_bind ?_
        unfold Builtin.Frozenset.isAnySet
        refine wpAny_bind (m := isInstance (.ref l) (.type "set")) (wpAny_isInstance hl1.typeIs hsls ?_)
        show wpAny _ _ (isInstance (.ref l) (.type "frozenset")) _ _ _
        refine wpAny_isInstance hl1.typeIs hslf ?_
        refine wpAny_ite_false rfl ?_
        refine wpAny_bind (wpAny_typeOf hl1.typeIs (wpAny_ite_false rfl ?_))
        refine wpAny_bind (wpAny_pyIter_list hl1 ?_)
        refine wpAny_bind (wpAny_runValue ?_)
        have hlS := Heap.lt_size hol
        have hneI : l ≠ (s.heap.push { cls := .type "set", data := .set #[] 0 (SetTable.fresh 0 0 !w.params.followText "set-order") }).objs.size := by
          rw [Heap.size_push]
          exact Nat.ne_of_lt (Nat.lt_succ_of_lt hlS)
        have hSf : ¬ s.heap.objs.size ∈ [(s.heap.push { cls := .type "set", data := .set #[] 0 (SetTable.fresh 0 0 !w.params.followText "set-order") }).objs.size, l] := by
          rw [Heap.size_push]
          intro hm
          rcases List.mem_cons.mp hm with e | e
          · exact Nat.ne_of_lt (Nat.lt_succ_self _) e
          · exact Nat.ne_of_gt hlS (List.mem_singleton.mp e)
        have hval : ∀ (i : Nat) (v : Value), items[i]? = some v → ∃ k t, ns[i]? = some k ∧ v = Value.int k t := fun i v hv => by
          have hi : i < ns.length := by
            rw [← hisz]
            exact (Array.getElem?_eq_some_iff.mp hv).1
          obtain ⟨t, e⟩ := hit.int_at i v (by rw [Array.getElem?_toList]; exact hv)
          exact ⟨ns[i], t, List.getElem?_eq_getElem hi, by rw [e, List.getD_eq_getElem?_getD, List.getElem?_eq_getElem hi]; rfl⟩
        refine set_update_ints (Walks.toS (Walks.list (A := A.in1.in1.in1) (show A.in1.in1.in1.handled = none from hh) _ l hneI items)) s.heap.objs.size hSf ns hisz hb hval (items.size - 0) 0 _ rfl (Nat.zero_le _) ⟨⟨_, Heap.get?_push_size _ rfl, rfl, rfl⟩, hl1.push _⟩ ⟨0, Nat.le_refl 0, setR_new_at (Heap.get?_push_of_some _ hS)⟩ fun s' c' hm hc' hS' => ?_
        obtain ⟨h', g2, d', tk', os'⟩ := s'
        have eg := hm.gens
        have ed := hm.drawn
        have eo := hm.os
        cases eg
        cases ed
        cases eo
        have hk : ∀ (b : Addr) (o : Obj), s.heap.get? b = some o → h'.get? b = some o := fun b o e => by
          have hlt := Heap.lt_size e
          refine hm.heap b o ?_ (Heap.get?_push_of_some _ (Heap.get?_push_of_some _ e))
          intro hb'
          rcases List.mem_cons.mp hb' with e1 | e1
          · exact Nat.ne_of_lt hlt e1
          · rw [List.mem_singleton] at e1
            have e2 : b = s.heap.objs.size + 1 := e1.trans (Heap.size_push ..)
            rw [e2] at hlt
            exact absurd hlt (Nat.not_lt_of_le (Nat.le_succ _))
        exact wpAny_pure (wpAny_pure ⟨rfl, h', tk', c', rfl, hS', by rw [← hisz]; exact hc', hk⟩)
      · cases r with
        | error e => exact hr
        | ok fl =>
          cases fl with
          | next => exact hr.elim
          | brk => exact hr.elim
          | cont => exact hr.elim
          | ret v =>
            obtain ⟨rfl, h', tk, c', rfl, hs, hc, hk⟩ := hr
            exact wpAny_pure (wpAny_ite_false rfl (wpAny_pure (h h' tk c' hs hc hk)))
def rSetL (K : PySem.W.Frag) (w : World) : List V → Hp → VK → Prop := fun xs H Q => ∃ (a : Addr) (ns : List Int), xs = [V.ref a] ∧ SqL K H a (ns.map V.int) ∧ ns.length ≤ 60 ∧ ∀ (p : Addr) (c : Nat), H p = none → c ≤ ns.length → Q (.ref p) (upd H p (SetO w p (fun j => decide (j ∈ ns)) c))
theorem cr_setL {X : Cx} (hc : X.calm = true) : CallR X (.type "set") (rSetL X.K X.w) := by
  intro pins s σ H xs us Q I r h
  obtain ⟨a, ns, rfl, hq, hl, q⟩ := h
  cases r with
  | cons r rr =>
    cases rr
    cases (show _ = Value.ref a from r)
    obtain ⟨its, rv, p, _⟩ := I.list hq
    refine call_set_listI ns (I.ok.hd hc) p.isList (RZ.intsAre_vals rv) (Nat.lt_of_le_of_lt (Nat.succ_le_succ hl) (by decide)) fun h' tk c hs hcn hk => ?_
    refine ⟨.ref _, upd H _ (SetO X.w s.heap.objs.size (fun j => decide (j ∈ ns)) c), I.laid hk (Nat.le_refl _) ⟨hs, ?_, fun h1 h2 x k => ?_⟩, rfl, q _ c (I.hok.fresh (Nat.le_refl _)) hcn⟩
    · obtain ⟨o, _, _, _, e, _⟩ := hs
      exact ⟨o, e⟩
    · obtain ⟨o, es, ep, t, e, r⟩ := x
      exact ⟨o, es, ep, t, k o e, r⟩
theorem op_ltLL {X : Cx} (hu : X.A.units + 64 < cLine) : OpR X (compareOp .Lt) (fun x y H Q => ∃ (a b : Addr) (xs ys : List Int), x = V.ref a ∧ y = V.ref b ∧ SqL X.K H a (xs.map V.int) ∧ SqL X.K H b (ys.map V.int) ∧ Q (.bl (HT.lexLt xs ys)) H) := by
  intro pins s σ H x y v u Q I r1 r2 h
  obtain ⟨a, b, xs, ys, rfl, rfl, h1, h2, q⟩ := h
  cases (show v = Value.ref a from r1)
  cases (show u = Value.ref b from r2)
  obtain ⟨its, rv, p, _⟩ := I.list h1
  obtain ⟨its2, rv2, p2, _⟩ := I.list h2
  have ia := RZ.intsAre_vals rv
  have ib := RZ.intsAre_vals rv2
  have l1 := ia.length
  have l2 := ib.length
  show wpAny _ _ (richCompare .Lt _ _) _ _ s
  refine SeqAt.RcLt.lists (e := fun j => xs.getD j 0 == ys.getD j 0) (r := fun j => decide (xs.getD j 0 < ys.getD j 0)) p.isList p2.isList (by omega) (fun j h1 h2 => ?_) (fun j h1 h2 _ => ?_) _ _ _ _ ?_
  · obtain ⟨t, e⟩ := ints_at ia j (by simpa using h1)
    obtain ⟨t', e'⟩ := ints_at ib j (by simpa using h2)
    rw [List.getElem_toArray, List.getElem_toArray, e, e']
    exact SeqAt.EqAt.int_int _ t _ t'
  · obtain ⟨t, e⟩ := ints_at ia j (by simpa using h1)
    obtain ⟨t', e'⟩ := ints_at ib j (by simpa using h2)
    rw [List.getElem_toArray, List.getElem_toArray, e, e']
    exact rcLt_int _ _ _ t _ t'
  · rw [List.size_toArray, List.size_toArray, l1, l2, first_lex]
    exact ⟨.bl _, H, I, rfl, q⟩
end Lp
set_option Elab.async false
set_option linter.all false
set_option maxRecDepth 100000
namespace Lp
open PySem PySem.Spec PyProof.Rows L2
/-! ### a space, so many times -/
def spc (n : Nat) : Str := ⟨(List.replicate n 32).toArray⟩
theorem spc1 : spc 1 = (" " : Str) := by decide +kernel
theorem spc_len (n : Nat) : (spc n).length = n := by
  show ((List.replicate n 32).toArray).size = n
  rw [List.size_toArray, List.length_replicate]
section
variable {X : Cx}
theorem op_repB : OpR X (binaryOp .Mult) (fun x y H Q => ∃ n : Nat, x = .str (" " : Str) ∧ y = .int (n : Int) ∧ n ≤ 1000 ∧ Q (.str (spc n)) H) := by
  intro pins s σ H x y v u Q I r1 r2 h
  obtain ⟨n, e1, e2, hn, q⟩ := h
  subst e1; subst e2
  obtain ⟨t, rfl⟩ := r1
  obtain ⟨t', rfl⟩ := r2
  have hz : (" " : Str).length = 1 := by decide +kernel
  have hc : (" " : Str).cps = [32].toArray := by decide +kernel
  refine PySem.P.mul_str ?_ (fun c _ => ?_) (fun _ _ => ?_) ?_
  · rw [decide_eq_false (show ¬ (n : Int) < -(2 ^ 63 : Int) by omega), decide_eq_false (show ¬ (n : Int) ≥ 2 ^ 63 by omega)]
    rfl
  · rw [hz]
    have := (Int.le_ediv_iff_mul_le (show (0 : Int) < n by omega)).mpr (show ((1 : Nat) : Int) * (n : Int) ≤ 2 ^ 63 - 1 by omega)
    omega
  · rw [hz]
    unfold Builtin.Str.tooLong
    refine decide_eq_false ?_
    have e : (n : Int).toNat = n := rfl
    have z := zs (show n ≤ 100000 by omega)
    omega
  · by_cases h0 : n = 0
    · subst h0
      rw [if_pos (by decide)]
      exact ⟨by decide, .str _, H, I.tok _, ⟨_, rfl⟩, q⟩
    · rw [if_neg (show ¬ (n : Int) < 1 by omega), hz]
      by_cases h1 : n = 1
      · subst h1
        rw [if_pos (by rfl)]
        rw [spc1] at q
        exact ⟨.str _, H, I, ⟨_, rfl⟩, q⟩
      · have hb : ((n : Int) == 1 || (1 : Nat) == 0) = false := by
          rw [beq_eq_false_iff_ne.mpr (show (n : Int) ≠ 1 by omega)]
          rfl
        rw [hb, if_neg Bool.false_ne_true]
        have e : (n : Int).toNat = n := rfl
        have f0 : List.foldl (fun x1 x2 => x1 ++ x2) #[] (List.replicate n [32].toArray) = (List.replicate n 32).toArray := by
          have := foldl_repN [32] n []
          rw [List.nil_append] at this
          rw [this]
          congr 1
          clear this hb h1 h0 q
          induction n with
          | zero => rfl
          | succ m ih => rw [List.replicate_succ, List.flatten_cons, ih (by omega) rfl, List.replicate_succ]; rfl
        rw [e, hc, f0]
        exact ⟨by rw [show (⟨(List.replicate n 32).toArray⟩ : Str).length = n from spc_len n]; exact zs (by omega), .str _, H, I.tok _, ⟨_, rfl⟩, q⟩
/-! ### an int, written in a form -/
def FmtI (i : Int) (sp y : Str) : Prop := ∀ (prog : Program) (w : World) (A : Around) (E : Value → Shared → Prop) (s : Shared) (t : Tok) (Q : Value → Shared → Prop), (∀ t' k, Q (.str y t') { s with toks := k }) → wpAny (model prog w) A (formatField (.int i t) sp) Q E s
def tFmtS (te ts : TE) : TE := fun σ H Q => te σ H fun x H1 => ts σ H1 fun y H2 => ∃ (i : Int) (f z : Str), x = .int i ∧ y = .str f ∧ FmtI i f z ∧ Q (.str z) H2
theorem pe_fmtS {e sp : Expr} {te ts : TE} {pos : Pos} (he : PE X e te) (hs : PE X sp ts) : PE X (.FormattedValue e (-1) (some sp) pos) (tFmtS te ts) := by
  refine ⟨fun pins s σ H Q I h => ?_⟩
  refine wpAny_FormattedValue_spec (thn (he.run pins s σ H _ I h) fun v s1 ⟨x, H1, I1, r1, q1⟩ => thn (hs.run pins s1 σ H1 _ I1 q1) fun u s2 ⟨y, H2, I2, r2, i, f, z, e1, e2, hf, q⟩ => ?_)
  subst e1
  subst e2
  obtain ⟨t, rfl⟩ := r1
  obtain ⟨t', rfl⟩ := r2
  exact ⟨f, t', rfl, hf _ _ _ _ _ _ _ fun _ _ => ⟨.str z, H2, I2.tok _, ⟨_, rfl⟩, q⟩⟩
end
open Builtin Builtin.Int Builtin.Float in
def fmF (f : FormatSpec) (i : Int) : Str := intField' f (decide (i < 0)) [] ((Nat.toDigits 10 i.natAbs).map fun c => (if (100 : Nat) == 88 then c.toUpper else c).toNat) [] 3
abbrev fs3 : Builtin.Float.FormatSpec := { align := 62, width := some 3 }
abbrev fs4 : Builtin.Float.FormatSpec := { align := 62, width := some 4 }
abbrev fs5 : Builtin.Float.FormatSpec := { align := 62, width := some 5, sign := some 43 }
abbrev fsD : Builtin.Float.FormatSpec := { align := 62, sign := some 43, type := some 100 }
section
open Builtin Builtin.Int Builtin.Float PySem.W
theorem par3 : parseFormatSpec (">3" : Str).cps.toList "int" 62 = .ok fs3 := by kernel_rfl
theorem par4 : parseFormatSpec (">4" : Str).cps.toList "int" 62 = .ok fs4 := by kernel_rfl
theorem par5 : parseFormatSpec (">+5" : Str).cps.toList "int" 62 = .ok fs5 := by kernel_rfl
theorem parD : parseFormatSpec ("+d" : Str).cps.toList "int" 62 = .ok fsD := by kernel_rfl
theorem fmt_3 {i : Int} (hi : i.natAbs.log2 < 1920) (hl : (fmF fs3 i).length ≤ sizeLine) : FmtI i (">3" : Str) (fmF fs3 i) := by
  intro prog w A E s t Q h
  refine KXf.field_int rfl (by decide +kernel) (by decide +kernel) (fun u => KPc.meets_of ?_) h
  intro _ _ _ _ _ _ hh
  unfold Builtin.«int.__format__»; refine wpAny_bind (wpAny_of_eq (a := (_, _)) rfl (wpAny_bind (wpAny_of_eq (a := _) rfl ?_)))
  kxf_if; refine wpAny_bind (wpAny_typeNameOf (T := "str") (typeIs_str _ _ _) (by decide) fun _ => wpAny_bind (wpAny_of_eq (a := some _) rfl ?_))
  kxf_if; kxf_if; refine wpAny_bind (wpAny_typeNameOfCut_int ?_); rw [par3]
  have e100 : (none : Option Nat).getD (if ((">3" : Str).cps.back? == some 0) = true then 0 else 100) = 100 := by decide +kernel
  dsimp only
  rw [e100]
  refine wpAny_ite (KPc.ite_yes (by decide +kernel) ?_)
  refine wpAny_bind (m := Builtin.overDigitLimit? i) (wpAny_of_eq (PySem.overDigitLimit_small hi) (KXf.ret_text (T := fmF fs3 i) rfl hl ?_))
  assumption
theorem fmt_4 {i : Int} (hi : i.natAbs.log2 < 1920) (hl : (fmF fs4 i).length ≤ sizeLine) : FmtI i (">4" : Str) (fmF fs4 i) := by
  intro prog w A E s t Q h
  refine KXf.field_int rfl (by decide +kernel) (by decide +kernel) (fun u => KPc.meets_of ?_) h
  intro _ _ _ _ _ _ hh
  unfold Builtin.«int.__format__»; refine wpAny_bind (wpAny_of_eq (a := (_, _)) rfl (wpAny_bind (wpAny_of_eq (a := _) rfl ?_)))
  kxf_if; refine wpAny_bind (wpAny_typeNameOf (T := "str") (typeIs_str _ _ _) (by decide) fun _ => wpAny_bind (wpAny_of_eq (a := some _) rfl ?_))
  kxf_if; kxf_if; refine wpAny_bind (wpAny_typeNameOfCut_int ?_); rw [par4]
  have e100 : (none : Option Nat).getD (if ((">4" : Str).cps.back? == some 0) = true then 0 else 100) = 100 := by decide +kernel
  dsimp only
  rw [e100]
  refine wpAny_ite (KPc.ite_yes (by decide +kernel) ?_)
  refine wpAny_bind (m := Builtin.overDigitLimit? i) (wpAny_of_eq (PySem.overDigitLimit_small hi) (KXf.ret_text (T := fmF fs4 i) rfl hl ?_))
  assumption
theorem fmt_5 {i : Int} (hi : i.natAbs.log2 < 1920) (hl : (fmF fs5 i).length ≤ sizeLine) : FmtI i (">+5" : Str) (fmF fs5 i) := by
  intro prog w A E s t Q h
  refine KXf.field_int rfl (by decide +kernel) (by decide +kernel) (fun u => KPc.meets_of ?_) h
  intro _ _ _ _ _ _ hh
  unfold Builtin.«int.__format__»; refine wpAny_bind (wpAny_of_eq (a := (_, _)) rfl (wpAny_bind (wpAny_of_eq (a := _) rfl ?_)))
  kxf_if; refine wpAny_bind (wpAny_typeNameOf (T := "str") (typeIs_str _ _ _) (by decide) fun _ => wpAny_bind (wpAny_of_eq (a := some _) rfl ?_))
  kxf_if; kxf_if; refine wpAny_bind (wpAny_typeNameOfCut_int ?_); rw [par5]
  have e100 : (none : Option Nat).getD (if ((">+5" : Str).cps.back? == some 0) = true then 0 else 100) = 100 := by decide +kernel
  dsimp only
  rw [e100]
  refine wpAny_ite (KPc.ite_yes (by decide +kernel) ?_)
  refine wpAny_bind (m := Builtin.overDigitLimit? i) (wpAny_of_eq (PySem.overDigitLimit_small hi) (KXf.ret_text (T := fmF fs5 i) rfl hl ?_))
  assumption
theorem fmt_D {i : Int} (hi : i.natAbs.log2 < 1920) (hl : (fmF fsD i).length ≤ sizeLine) : FmtI i ("+d" : Str) (fmF fsD i) := by
  intro prog w A E s t Q h
  refine KXf.field_int rfl (by decide +kernel) (by decide +kernel) (fun u => KPc.meets_of ?_) h
  intro _ _ _ _ _ _ hh
  unfold Builtin.«int.__format__»; refine wpAny_bind (wpAny_of_eq (a := (_, _)) rfl (wpAny_bind (wpAny_of_eq (a := _) rfl ?_)))
  kxf_if; refine wpAny_bind (wpAny_typeNameOf (T := "str") (typeIs_str _ _ _) (by decide) fun _ => wpAny_bind (wpAny_of_eq (a := some _) rfl ?_))
  kxf_if; kxf_if; refine wpAny_bind (wpAny_typeNameOfCut_int ?_); rw [parD]
  have e100 : (some 100 : Option Nat).getD (if (("+d" : Str).cps.back? == some 0) = true then 0 else 100) = 100 := by decide +kernel
  dsimp only
  rw [e100]
  refine wpAny_ite (KPc.ite_yes (by decide +kernel) ?_)
  refine wpAny_bind (m := Builtin.overDigitLimit? i) (wpAny_of_eq (PySem.overDigitLimit_small hi) (KXf.ret_text (T := fmF fsD i) rfl hl ?_))
  assumption
end
end Lp
set_option Elab.async false
set_option linter.all false
set_option maxRecDepth 100000
namespace Lp
open PySem PySem.Spec PyProof.Rows L2
/-! ### dict comprehensions over a range -/
theorem dc_range {lo : Int} {n : Nat} {g : TG} {tt : TT} {tk tv : TE} {vs : List Nat} {σ : L2.St} {H1 : Hp} {D : Addr} {Qd : Hp → Prop} (Pv : Nat → Hp → Prop) (h0 : Pv 0 (upd H1 D (.dK [])))
    (hs : ∀ (i : Nat) (H : Hp), i < n → Pv i H → g (.int (lo + i)) (wipe σ vs) H fun σ2 H2 => wipe σ2 vs = wipe σ vs ∧ tt σ2 H2 fun b H3 =>
      if b = true then tk σ2 H3 fun y H4 => tv σ2 H4 fun z H5 => ∃ kvs k, y = kV k ∧ H5 D = some (.dK kvs) ∧ kvs.length < sizeLine ∧ Pv (i + 1) (upd H5 D (.dK (putK kvs k z))) else Pv (i + 1) H3) (hd : ∀ H, Pv n H → Qd H) :
    ∃ W : Nat → Nat → Hp → Prop, (∃ m, W 0 m (upd H1 D (.dK []))) ∧ ∀ i m H, W i m H →
      ((Itr lo n).stop i H ∧ Qd H) ∨ ((Itr lo n).go i H ∧ ∃ Nx : Hp → Prop, (∀ H', Nx H' → ∃ m', m' < m ∧ W (i + 1) m' H') ∧ ∀ x H', (Itr lo n).yld i H x H' → g x (wipe σ vs) H' fun σ2 H2 => wipe σ2 vs = wipe σ vs ∧ tt σ2 H2 fun b H3 =>
        if b = true then tk σ2 H3 fun y H4 => tv σ2 H4 fun z H5 => ∃ kvs k, y = kV k ∧ H5 D = some (.dK kvs) ∧ kvs.length < sizeLine ∧ Nx (upd H5 D (.dK (putK kvs k z))) else Nx H3) := by
  refine ⟨fun i m H => m = n - i ∧ i ≤ n ∧ Pv i H, ⟨n, by simp, Nat.zero_le _, h0⟩, ?_⟩
  rintro i m H ⟨rfl, hi, pv⟩
  rcases Nat.lt_or_ge i n with hlt | hge
  · refine .inr ⟨hlt, Pv (i + 1), fun H' p' => ⟨n - (i + 1), by omega, rfl, hlt, p'⟩, fun x H' y => ?_⟩
    obtain ⟨rfl, rfl⟩ := y
    exact hs i _ hlt pv
  · have e : i = n := by omega
    subst e
    exact .inl ⟨Nat.le_refl _, hd H pv⟩
/-! ### words with single spaces between -/
abbrev jn (l : List Str) : Str := Str.join (" " : Str) l
theorem jn_snoc (x : Str) : ∀ l : List Str, jn (l ++ [x]) = if l = [] then x else jn l ++ (" " : Str) ++ x
  | [] => rfl
  | [y] => rfl
  | y :: z :: r => by
    have ih := jn_snoc x (z :: r)
    rw [if_neg (by simp)] at ih
    rw [if_neg (by simp)]
    show y ++ (" " : Str) ++ jn (z :: r ++ [x]) = y ++ (" " : Str) ++ jn (z :: r) ++ (" " : Str) ++ x
    rw [ih]
    simp only [Str.append_assoc]
theorem space1 : (" " : Str) = ⟨#[32]⟩ := by decide +kernel
def jc : List (List Nat) → List Nat
  | [] => []
  | [x] => x
  | x :: y :: r => x ++ 32 :: jc (y :: r)
theorem jn_jc : ∀ l : List Str, (jn l).cps.toList = jc (l.map fun x => x.cps.toList)
  | [] => rfl
  | [x] => rfl
  | x :: y :: r => by
    have ih := jn_jc (y :: r)
    show (x ++ (" " : Str) ++ jn (y :: r)).cps.toList = x.cps.toList ++ 32 :: jc ((y :: r).map fun x => x.cps.toList)
    rw [← ih, space1, Str.cps_append, Str.cps_append]
    simp
theorem cut32 : ∀ {x y a b : List Nat}, 32 ∉ x → 32 ∉ y → x ++ 32 :: a = y ++ 32 :: b → x = y ∧ a = b
  | [], [], a, b, _, _, h => ⟨rfl, (List.cons.inj h).2⟩
  | [], c :: y, a, b, _, hy, h => absurd ((List.cons.inj h).1 ▸ List.mem_cons_self) hy
  | c :: x, [], a, b, hx, _, h => absurd ((List.cons.inj h).1 ▸ List.mem_cons_self) hx
  | c :: x, d :: y, a, b, hx, hy, h => by
    obtain ⟨e1, e2⟩ := List.cons.inj h
    obtain ⟨e3, e4⟩ := cut32 (fun z => hx (List.mem_cons_of_mem _ z)) (fun z => hy (List.mem_cons_of_mem _ z)) e2
    exact ⟨by rw [e1, e3], e4⟩
theorem jc_inj : ∀ {l m : List (List Nat)}, l ≠ [] → m ≠ [] → (∀ x ∈ l, 32 ∉ x) → (∀ x ∈ m, 32 ∉ x) → jc l = jc m → l = m
  | [], _, h, _, _, _, _ => absurd rfl h
  | _ :: _, [], _, h, _, _, _ => absurd rfl h
  | [x], [y], _, _, _, _, h => by rw [show x = y from h]
  | [x], y :: z :: r, _, _, hx, _, h => absurd (show 32 ∈ x by rw [show x = y ++ 32 :: jc (z :: r) from h]; simp) (hx x List.mem_cons_self)
  | x :: z :: r, [y], _, _, _, hy, h => absurd (show 32 ∈ y by rw [← show x ++ 32 :: jc (z :: r) = y from h]; simp) (hy y List.mem_cons_self)
  | x :: z :: r, y :: u :: s, _, _, hx, hy, h => by
    obtain ⟨e1, e2⟩ := cut32 (hx x List.mem_cons_self) (hy y List.mem_cons_self) (show x ++ 32 :: jc (z :: r) = y ++ 32 :: jc (u :: s) from h)
    rw [e1, jc_inj (l := z :: r) (m := u :: s) (by simp) (by simp) (fun q hq => hx q (List.mem_cons_of_mem _ hq)) (fun q hq => hy q (List.mem_cons_of_mem _ hq)) e2]
theorem map_cps_inj : ∀ {l m : List Str}, (l.map fun x => x.cps.toList) = (m.map fun x => x.cps.toList) → l = m
  | [], [], _ => rfl
  | [], _ :: _, h => nomatch h
  | _ :: _, [], h => nomatch h
  | x :: l, y :: m, h => by
    obtain ⟨e1, e2⟩ := List.cons.inj h
    have e3 : x = y := Str.ext' (Array.toList_inj.mp e1)
    rw [e3, map_cps_inj e2]
theorem split_jn {l : List Str} (h : l ≠ []) (hf : ∀ x ∈ l, 32 ∉ x.cps.toList) : Txt.split (jn l) (" " : Str) = l := by
  have e1 : jn (Txt.split (jn l) (" " : Str)) = jn l := StrLaws.join_split _ _
  have e2 : ∀ p ∈ Txt.split (jn l) (" " : Str), 32 ∉ p.cps.toList := by
    rw [space1]
    exact StrLaws.split_free _ 32
  have e3 : Txt.split (jn l) (" " : Str) ≠ [] := fun z => by
    have := split_pos (jn l) (" " : Str)
    rw [z] at this
    simp at this
  refine map_cps_inj (jc_inj (by simpa using e3) (by simpa using h) ?_ ?_ ?_)
  · intro x hx
    obtain ⟨p, hp, rfl⟩ := List.mem_map.mp hx
    exact e2 p hp
  · intro x hx
    obtain ⟨p, hp, rfl⟩ := List.mem_map.mp hx
    exact hf p hp
  · rw [← jn_jc, ← jn_jc, e1]
end Lp
set_option Elab.async false
set_option linter.all false
set_option maxRecDepth 100000
namespace Lp
open PySem PySem.Spec PyProof.Rows L2
/-! ### defs, methods, classes, properties that may be used by their names -/
structure Cal (P : Program) (w : World) (K : PySem.W.Frag) (mg : Str → Option Value) (base : Heap) (k : Nat) (x : Str) (sp : Sp) : Prop where
  ex : ∃ (f : Addr) (fd : FuncData) (ps : List Str), FnOk P w K mg base CX0 k f fd ps sp ∧ mg x = some (.ref f) ∧ PySem.W.keepIn K (.ref f) = true ∧ Binds K fd ps []
structure Met (P : Program) (w : World) (K : PySem.W.Frag) (mg : Str → Option Value) (base : Heap) (k : Nat) (C : Addr) (m : Str) (sp : Sp) : Prop where
  ex : ∃ (f : Addr) (fd : FuncData) (ps : List Str), Cls K C ∧ Meth K C m f ∧ FnOk P w K mg base CX0 k f fd ps sp ∧ Binds K fd ps []
structure Mak (P : Program) (w : World) (K : PySem.W.Frag) (mg : Str → Option Value) (base : Heap) (k : Nat) (x : Str) (C : Addr) (sp : Sp) : Prop where
  ex : ∃ (f : Addr) (fd : FuncData) (ps : List Str), Mk K C f ∧ FnOk P w K mg base CX0 k f fd ps sp ∧ mg x = some (.ref C) ∧ Binds K fd ps []
structure Prp (P : Program) (w : World) (K : PySem.W.Frag) (mg : Str → Option Value) (base : Heap) (k : Nat) (C : Addr) (f : Str) (sp : Sp) : Prop where
  ex : ∃ (p g : Addr) (fd : FuncData) (ps : List Str), Cls K C ∧ PropOf K C f p g ∧ FnOk P w K mg base CX0 k g fd ps sp ∧ Binds K fd ps []
theorem Cal.gc {P : Program} {w : World} {K : PySem.W.Frag} {mg : Str → Option Value} {base : Heap} {k : Nat} {x : Str} {sp : Sp} (c : Cal P w K mg base k x sp) : Gc P w K mg base k x sp := by
  obtain ⟨f, fd, ps, F, h⟩ := c.ex
  exact ⟨f, fd, ps, .of F, h⟩
section
variable {X : Cx} {k j : Nat} {C : Addr} {x m f : Str} {sp : Sp} {p pos apos : Pos} {e o : Expr} {es : List Expr} {ta : TE} {t : TA}
theorem pe_c (c : Cal X.prog X.w X.K X.mg X.base k x sp) (hr : Room j X.A) (hk : k ≤ j) (hg : Gl X x) (ha : PA X (e :: es) t)
    (hdb : (x == ("__debug__" : Str)) = false := by decide) (he : starEach (e :: es) X.env = (false, eval e X.env) :: starEach es X.env := by rfl) (hpl : (backTo pos (starEach es X.env)).any (·.1) = false := by rfl) :
    PE X (.Call (.Name x p) (e :: es) [] pos) (tCall sp [] E0 t) := by
  obtain ⟨g, fd, ps, F, hm, kp, b⟩ := c.ex
  exact pe_call F (hr.mono hk) hg hm kp b .nil pass0 ha hdb he hpl
theorem pe_mk (c : Mak X.prog X.w X.K X.mg X.base k x C sp) (hr : Room j X.A) (hk : k + 1 ≤ j) (hg : Gl X x) (ha : PA X (e :: es) t)
    (hdb : (x == ("__debug__" : Str)) = false := by decide) (he : starEach (e :: es) X.env = (false, eval e X.env) :: starEach es X.env := by rfl) (hpl : (backTo pos (starEach es X.env)).any (·.1) = false := by rfl) :
    PE X (.Call (.Name x p) (e :: es) [] pos) (tMake C sp [] E0 t) := by
  obtain ⟨g, fd, ps, M, F, hm, b⟩ := c.ex
  exact pe_make M F (hr.mono hk) hg hm b .nil pass0 ha hdb he hpl
theorem pe_mt {pl : Sem Bool} (c : Met X.prog X.w X.K X.mg X.base k C m sp) (hr : Room j X.A) (hk : k ≤ j) (he : PE X o ta) (ha : PA X (e :: es) t)
    (hst : starEach (e :: es) X.env = (false, eval e X.env) :: starEach es X.env := by rfl) (hpl : (backTo pos (starEach es X.env)).any (·.1) = false := by rfl)
    (ht : eval (.Call (.Attribute o m apos) (e :: es) [] pos) X.env = (eval o X.env >>= fun ov => standAt apos.atName >>= fun _ => holding [ov] (getMethod ov m pl) >>= fun r => callWith pos r.1 r.2 (backTo pos (starEach (e :: es) X.env)) (backToKw pos (keywordEach [] X.env))) := by rfl) :
    PE X (.Call (.Attribute o m apos) (e :: es) [] pos) (tMeth C m sp [] E0 ta t) := by
  obtain ⟨g, fd, ps, hc, hm, F, b⟩ := c.ex
  exact pe_meth (pl := pl) he hc hm F (hr.mono hk) b .nil pass0 ha hst hpl ht
theorem pe_mt0 {pl : Sem Bool} (c : Met X.prog X.w X.K X.mg X.base k C m sp) (hr : Room j X.A) (hk : k ≤ j) (he : PE X o ta)
    (ht : eval (.Call (.Attribute o m apos) [] [] pos) X.env = (eval o X.env >>= fun ov => standAt apos.atName >>= fun _ => holding [ov] (getMethod ov m pl) >>= fun r => callWith pos r.1 r.2 (backTo pos (starEach [] X.env)) (backToKw pos (keywordEach [] X.env))) := by rfl) :
    PE X (.Call (.Attribute o m apos) [] [] pos) (tMeth C m sp [] E0 ta tNil) := by
  obtain ⟨g, fd, ps, hc, hm, F, b⟩ := c.ex
  exact pe_meth0 (pl := pl) he hc hm F (hr.mono hk) b .nil pass0 ht
theorem pe_pr (c : Prp X.prog X.w X.K X.mg X.base k C f sp) (hr : Room j X.A) (hk : k + 1 ≤ j) (he : PE X e ta) (hab : attributeBase e f X.env (eval e X.env) = eval e X.env := by rfl) : PE X (.Attribute e f pos) (tProp C sp [] E0 ta) := by
  obtain ⟨p, g, fd, ps, hc, hp, F, b⟩ := c.ex
  exact pe_prop he hc hp F (hr.mono hk) b .nil pass0 hab
end
/-! ### slices that end one before the end -/
theorem cut_init (xs : List V) : cutV xs none (some (-1)) = xs.dropLast := by
  have e : HT.sIx xs.length xs.length (some (-1)) = xs.length - 1 := by
    show (if (-1 : Int) < 0 then ((-1 : Int) + (xs.length : Int)).toNat else min (-1 : Int).toNat xs.length) = _
    rw [if_pos (by decide)]
    omega
  unfold cutV
  rw [HT.sIx_none, e, List.drop_zero, Nat.sub_zero, List.dropLast_eq_take]
end Lp
set_option Elab.async false
set_option linter.all false
set_option maxRecDepth 100000
namespace Lp
open PySem PySem.Spec PyProof.Rows L2
/-! ### methods that may raise, called where it is caught -/
structure MetX (P : Program) (w : World) (K : PySem.W.Frag) (mg : Str → Option Value) (base : Heap) (k : Nat) (C : Addr) (m : Str) (sp : Sp) : Prop where
  ex : ∃ (f : Addr) (fd : FuncData) (ps : List Str), Cls K C ∧ Meth K C m f ∧ FnOk P w K mg base (L2.CX P w) k f fd ps sp ∧ Binds K fd ps []
def tMtX0 (C : Addr) (m : Str) (sp : Sp) (W : WX) (ta : TE) : TE := fun σ H Q => ta σ H fun x H1 => ∃ a dx fs, x = .ref a ∧ H1 a = some (.ins C dx fs) ∧ fs.lookup m = none ∧ sp [x] H1 Q (WE W σ)
/-- classes made by keywords alone -/
structure MakK (P : Program) (w : World) (K : PySem.W.Frag) (mg : Str → Option Value) (base : Heap) (k : Nat) (x : Str) (C : Addr) (ks : List Str) (gV : List V → List V → List V) (sp : Sp) : Prop where
  ex : ∃ (f : Addr) (fd : FuncData) (ps : List Str) (g : List Value → List Value → List Value), Mk K C f ∧ FnOk P w K mg base CX0 k f fd ps sp ∧ mg x = some (.ref C) ∧ KBn K fd ps 1 ks g gV
section
variable {X : Cx} {k j : Nat} {C : Addr} {x m : Str} {sp : Sp} {p pos apos : Pos} {o : Expr} {ta : TE} {tk' : TA} {kws : List Keyword} {ks : List Str} {gV : List V → List V → List V}
theorem pe_mtX0 {pl : Sem Bool} {W : WX} (c : MetX X.prog X.w X.K X.mg X.base k C m sp) (hr : Room j X.A) (hk : k ≤ j) (tk : Takes X W) (he : PE X o ta)
    (ht : eval (.Call (.Attribute o m apos) [] [] pos) X.env = (eval o X.env >>= fun ov => standAt apos.atName >>= fun _ => holding [ov] (getMethod ov m pl) >>= fun r => callWith pos r.1 r.2 (backTo pos (starEach [] X.env)) (backToKw pos (keywordEach [] X.env))) := by rfl) :
    PE X (.Call (.Attribute o m apos) [] [] pos) (tMtX0 C m sp W ta) := by
  obtain ⟨g, fd, ps, hc, hm, F, b⟩ := c.ex
  refine ⟨fun pins s σ H Q I h => ?_⟩
  refine PySem.W.methodCall_KW (pl := pl) (thn (he.run pins s σ H _ I h) fun u s1 ⟨y, H1, I1, rx, a, dx, fs, ex, ea, l, q⟩ => ?_) ht
  subst ex
  obtain rfl : u = Value.ref a := rx
  refine getmeth_ok I1 ea hc hm l (PySem.W.callWith_K0 (first := [.ref a]) I1.kIn hm.kp ?_)
  exact run_fnS (us := [.ref a]) (vs := [.ref a]) F (hr.mono hk) b (passAt tk σ) I1 (.cons rfl .nil) q
theorem pe_mkK (c : MakK X.prog X.w X.K X.mg X.base k x C ks gV sp) (hr : Room j X.A) (hk : k + 1 ≤ j) (hg : Gl X x) (hkw : PK X kws tk')
    (hall : (backToKw pos (keywordEach kws X.env)).all (·.1.isSome) = true := by rfl) (hks : (backToKw pos (keywordEach kws X.env)).filterMap (·.1) = ks := by rfl) (hdb : (x == ("__debug__" : Str)) = false := by decide)
    (hpl : ((backTo pos (starEach [] X.env)).any (·.1) || (backToKw pos (keywordEach kws X.env)).any (·.1.isNone)) = false := by rfl) : PE X (.Call (.Name x p) [] kws pos) (tMakeK C 0 ks.length sp gV E0 tNil tk') := by
  obtain ⟨f, fd, ps, g, M, F, hm, hb⟩ := c.ex
  exact pe_makeK0 M F (hr.mono hk) hg hm hb pass0 hkw hall hks hdb hpl
end
end Lp
set_option Elab.async false
set_option linter.all false
set_option maxRecDepth 100000
set_option maxHeartbeats 1000000
namespace Lp
open PySem PySem.Spec PyProof.Rows L2 GenW
/-! ### yield from a list -/
section
variable {prog : Program} {w : World} {A : Around} {E : Value → Shared → Prop} {s : Shared}
theorem special_lst_item {it l : Addr} {i : Nat} {items : Array Value} {x : Value} {Q : Option Value → Shared → Prop} (hit : s.heap.IsListIter it l i)
    (hl : s.heap.IsList l items) (hx : items[i]? = some x)
    (hQ : ∀ h', h'.IsListIter it l (i + 1) → Heap.SameBut it s.heap h' → Q (some x) { s with heap := h' }) :
    wpAny (model prog w) A (callSpecial? (.ref it) "__next__") Q E s := by
  obtain ⟨o, ho, hc, hd⟩ := id hit
  obtain ⟨ol, hol, _, nl, hdl⟩ := hl
  refine wpAny_callSpecial?_slot (name := Str.ofString "__next__") hit.typeIs slot_listiter_next (wpAny_call_entry slot_listiter_next hit.typeIs entry_listiter_next ?_ (args_listiter_next _))
  show wpAny _ _ (field (.ref it) 0 >>= _) _ _ s
  refine wpAny_bind (wpAny_field ho hd (x := .ref l) rfl ?_)
  show wpAny _ _ (if (Value.ref l == Value.none) = true then _ else _) _ _ s
  rw [if_neg (show ¬ ((Value.ref l == Value.none) = true) from Bool.false_ne_true)]
  show wpAny _ _ (field (.ref it) 1 >>= _) _ _ s
  refine wpAny_bind (wpAny_field ho hd (x := .int i 0) rfl ?_)
  show wpAny _ _ (seqItems? (.ref l) >>= _) _ _ s
  refine wpAny_bind (wpAny_seqItems hol hdl ?_)
  simp only [Int.toNat_natCast, hx]
  refine wpAny_bind (wpAny_setField ho hd (by simp) (wpAny_pure ⟨x, rfl, hQ _ ?_ (Heap.SameBut.update ..)⟩))
  exact ⟨_, Heap.get?_update_self _ ho (Obj.isFreed_of_fields (Obj.data_mapFields hd _)), (Obj.cls_mapFields ..).trans hc, by
    rw [Obj.data_mapFields hd]; simp [rawInt]⟩
theorem special_lst_end {it l : Addr} {i : Nat} {items : Array Value} {Q : Option Value → Shared → Prop} (hh : A.handled = none) (hit : s.heap.IsListIter it l i) (hl : s.heap.IsList l items) (hx : items[i]? = none)
    (hE : ∀ e h', StopX e h' → Heap.ExtBut it s.heap h' → E e { s with heap := h' }) : wpAny (model prog w) A (callSpecial? (.ref it) "__next__") Q E s := by
  obtain ⟨o, ho, hc, hd⟩ := id hit
  obtain ⟨ol, hol, _, nl, hdl⟩ := hl
  refine wpAny_callSpecial?_slot (name := Str.ofString "__next__") hit.typeIs slot_listiter_next (wpAny_call_entry slot_listiter_next hit.typeIs entry_listiter_next ?_ (args_listiter_next _))
  show wpAny _ _ (field (.ref it) 0 >>= _) _ _ s
  refine wpAny_bind (wpAny_field ho hd (x := .ref l) rfl ?_)
  show wpAny _ _ (if (Value.ref l == Value.none) = true then _ else _) _ _ s
  rw [if_neg (show ¬ ((Value.ref l == Value.none) = true) from Bool.false_ne_true)]
  show wpAny _ _ (field (.ref it) 1 >>= _) _ _ s
  refine wpAny_bind (wpAny_field ho hd (x := .int i 0) rfl ?_)
  show wpAny _ _ (seqItems? (.ref l) >>= _) _ _ s
  refine wpAny_bind (wpAny_seqItems hol hdl ?_)
  simp only [Int.toNat_natCast, hx]
  refine wpAny_bind (wpAny_rule (wpAny_bind (wpAny_setField ho hd (by simp) ?_)))
  show wpAny _ _ (newExc (.type "StopIteration") [] >>= _) _ _ _
  refine wpAny_bind ?_
  simp only [newExc, newTuple]
  refine wpAny_bind (wpAny_newObj_type ?_ (by size_fits))
  refine wpAny_bind (m := firstArgMember _ _) (wpAny_of_eq (a := Value.none) (by first | rfl | (simp only [firstArgMember]; rfl)) ?_)
  refine wpAny_newObj_type ?_ (by size_fits)
  simp only [raiseNew]
  refine wpAny_bind (wpAny_handled ?_)
  first | rw [show A.in1.handled = none from hh] | rw [hh]
  refine wpAny_bind (wpAny_pure (wpAny_throw ?_))
  refine hE _ _ ⟨_, _, _, rfl, Heap.get?_push_size _ rfl, rfl, rfl, ?_⟩ (((Heap.SameBut.update ..).extBut.push _).push _)
  first
    | rfl
    | (rw [Array.getElem?_append_left (by decide)]; rfl)
    | kernel_rfl
end
section
variable {X : Cx} {e : Expr} {te : TE}
def tYfLst (te : TE) : TYf := fun σ H Q => te σ H fun x H1 => ∃ a xs, x = .ref a ∧ H1 a = some (.lst xs) ∧ Q xs H1
theorem close_lst : typeLookup (.type "list_iterator") "close" = pure none := by rw [typeLookup_type, builtinLookup_eq_fast]; kernel_rfl
theorem yf_lst (he : PE X e te) : YfE X e (tYfLst te) := by
  refine ⟨fun pins s σ H Q I h => ?_⟩
  refine thn (he.run pins s σ H _ I h) fun v s1 ⟨x, H1, I1, r1, a, xs, ex, ha, hq⟩ => ?_
  subst ex
  obtain rfl : v = Value.ref a := r1
  obtain ⟨hlen, its, c, rits, hg⟩ := I1.hok a _ ha
  have ht : s1.heap.IsList a its.toArray := ⟨_, hg, rfl, _, rfl⟩
  refine ⟨"list", ht.typeIs, by decide, wpAny_pyIter_list ht ?_⟩
  have ksz : ∀ b o, s1.heap.get? b = some o → b ≠ s1.heap.objs.size := fun b o e => Nat.ne_of_lt (Heap.lt_size e)
  have kp : ∀ b o, s1.heap.get? b = some o → (s1.heap.push { cls := .type "list_iterator", data := .fields #[.ref a, .int 0 0] }).get? b = some o := fun b o e => Heap.get?_push_of_some _ e
  refine ⟨s1.heap.objs.size, H1, xs, fun j h => h.IsListIter s1.heap.objs.size a j ∧ h.IsList a its.toArray, rfl, I1.kept (t' := s1.toks) kp, .inr I1.sz, Nat.ne_of_gt I1.lt, fun y c hy => ?_, I1.hok.fresh (Nat.le_refl _), fun p hp => ?_,
    ⟨⟨_, Heap.get?_push_size _ rfl, rfl, rfl⟩, ⟨_, kp _ _ hg, rfl, _, rfl⟩⟩, ⟨⟨"list_iterator", fun j h q => ?_, close_lst, by decide⟩, fun j h h' q hk => ?_, fun A' j x s2 Q' E' hA hx q hQ => ?_, fun A' s2 Q' E' hA q hE => ?_⟩, hq⟩
  · obtain ⟨v, o, ho, _⟩ := I1.cell y c hy
    exact ksz c o ho
  · exact ksz p.1 _ (I1.pin p hp).1
  · obtain ⟨⟨o, ho, hc, _⟩, _⟩ := q
    exact ⟨o, ho, hc⟩
  · obtain ⟨⟨o, ho, r⟩, o2, ho2, r2⟩ := q
    exact ⟨⟨o, hk _ o (.inl rfl) ho, r⟩, o2, hk _ o2 (.inr (by rw [ha]; exact fun z => by cases z)) ho2, r2⟩
  · obtain ⟨q1, q2⟩ := q
    obtain ⟨u, hu, ru⟩ := rits.get hx
    have hne : a ≠ s1.heap.objs.size := Nat.ne_of_lt (Heap.lt_size hg)
    exact special_lst_item q1 q2 (x := u) (by simpa using hu) fun h' q1' hs => hQ u h' s2.toks ru ⟨q1', (by obtain ⟨o2, ho2, r2⟩ := q2; exact ⟨o2, hs.extBut _ _ hne ho2, r2⟩)⟩ fun b o hb eb => hs.extBut b o hb eb
  · obtain ⟨q1, q2⟩ := q
    have hnone : its.toArray[xs.length]? = none := by
      have e := rits.length
      have e2 : its[xs.length]? = none := List.getElem?_eq_none_iff.mpr (by omega)
      simpa using e2
    exact special_lst_end hA q1 q2 hnone fun e h' hS hk => hE e h' s2.toks hS fun b o hb eb => hk b o hb eb
end
/-! ### generator defs by their names -/
section
variable {P : Program} {w : World} {K : PySem.W.Frag} {mg : Str → Option Value} {base : Heap}
theorem okGen {x qual : Str} {st : Stmt} {f : Addr} {fd : FuncData} {N ps : List Str} {k : Nat} {sp : SpG} (F : Fun K x qual st f fd) (S : GScope N ps (defScope st)) (ln : ∀ vs H Q E, sp vs H Q E → vs.length = ps.length)
    (hb : ∀ (cdv : Value) (A : Around) (outer : List Env) (s : Shared) (H : Hp) (vs : List V) (Q : List V → Hp → Prop) (E : XK) (pn : List (Addr × Obj)), Room k (A.deeper (envOfC qual (defScope st) s.heap.objs.size f cdv)) → sp vs H Q E →
      ∃ t, GSs (gcxOf P w K mg base N qual (defScope st) f cdv A outer s H E pn) (defBody st) t ∧ t { nx := fun ys _ H' => Q ys H', rt := fun ys v H' => v = .non ∧ Q ys H' } [] (start N vs) H) : GFn P w K mg base (k + 1) f fd ps sp := by
  obtain ⟨oc, od, kV, doc, pm, an, cdv, ct, osl, rfl, lk, hcd⟩ := F.ex
  exact gfn_of lk hcd S ln (hb cdv)
structure Gnr (P : Program) (w : World) (K : PySem.W.Frag) (mg : Str → Option Value) (base : Heap) (k : Nat) (x : Str) (sp : SpG) : Prop where
  ex : ∃ (f : Addr) (fd : FuncData) (ps : List Str), GFn P w K mg base k f fd ps sp ∧ mg x = some (.ref f) ∧ PySem.W.keepIn K (.ref f) = true ∧ Binds K fd ps []
end
section
variable {X : Cx} {k j : Nat} {x nm : Str} {sp : SpG} {p p2 pos pos' : Pos} {e : Expr} {es : List Expr} {t : TA}
theorem noStop0 {K : PySem.W.Frag} : NoStop K E0 := fun _ _ _ h => h.elim
theorem passes0 : Passes (CX X.prog X.w) X E0 := fun pins σ H s1 e s' I h => by
  obtain ⟨a, B, H', cls, d, _, _, _, _, _, _, _, z⟩ := h
  exact z.elim
/-- list(f(e, ..)) of a generator def -/
theorem pe_lg (c : Gnr X.prog X.w X.K X.mg X.base k x sp) (hr : Room j X.A) (hk : k + 3 ≤ j) (hg : Gl X x) (ha : PA X (e :: es) t) (hg2 : Gl X nm) (hmg : X.mg nm = none) (hv : bootBuiltins nm = some (.type "list")) (hnm : nm ≠ "__name__" := by decide) (hdb2 : (nm == ("__debug__" : Str)) = false := by decide)
    (hdb : (x == ("__debug__" : Str)) = false := by decide) (he : starEach (e :: es) X.env = (false, eval e X.env) :: starEach es X.env := by rfl) (hpl : (backTo pos' (starEach es X.env)).any (·.1) = false := by rfl)
    (he2 : starEach [.Call (.Name x p2) (e :: es) [] pos'] X.env = (false, eval (.Call (.Name x p2) (e :: es) [] pos') X.env) :: starEach [] X.env := by rfl) :
    PE X (.Call (.Name nm p) [.Call (.Name x p2) (e :: es) [] pos'] [] pos) (tListG (L2.tCallG sp [] E0 t)) := by
  obtain ⟨g, fd, ps, F, hm, kp, b⟩ := c.ex
  exact pe_listG (pgen_call F (hr.mono (by omega)) hg hm kp b .nil ha hdb he hpl) passes0 noStop0 (hr.mono hk) hg2 hmg hv hnm hdb2 he2
end
end Lp
set_option Elab.async false
set_option linter.all false
set_option maxRecDepth 100000
set_option maxHeartbeats 1000000
namespace Lp
open PySem PySem.Spec PyProof.Rows L2
/-! ### isinstance of an exception that is a value, or that an outer suite holds -/
def rIsX (K : PySem.W.Frag) : List V → Hp → VK → Prop := fun xs H Q => ∃ (a D : Addr) (c : V) (cv : Value) (b : Bool), xs = [.ref a, c] ∧ H a = some (ExO (.ref D) a) ∧ ExcC K D ∧ (∀ u, RelV c u → u = cv) ∧ PySem.W.kitOne K (.ref D) cv = some b ∧ Q (.bl b) H
theorem call_isX {X : Cx} : CallR X (.builtin "isinstance") (rIsX X.K) := by
  intro pins s σ H xs us Q I r h
  obtain ⟨a, D, c, cv, b, rfl, ha, C, hcv, e, q⟩ := h
  cases r with
  | cons rx rr =>
    cases rr with
    | cons rt rr =>
      cases rr
      cases rx
      cases hcv _ rt
      obtain ⟨⟨oe, vs, hget, hz, hv, _⟩, _, _⟩ := I.hok a _ ha
      have J : PySem.W.InstAt s.heap a oe D none := by
        obtain ⟨oc, od, oda, osl⟩ := oe
        obtain ⟨h1, h2⟩ := hz
        dsimp only at h1 h2 hv
        subst h1 h2 hv
        exact ⟨hget, rfl, rfl, trivial⟩
      exact PySem.W.kia_one (PySem.W.handS_kitx_exc C.hg C.hk C.hs C.hd C.ha C.hn C.ht C.hm) I.kIn J e (fun z => nomatch z) fun tk => ⟨.bl b, H, I.kept (t' := tk) fun _ _ z => z, rfl, q⟩
def rIsP (K : PySem.W.Frag) (p : Addr × Obj) : List V → Hp → VK → Prop := fun xs H Q => ∃ (D : Addr) (c : V) (cv : Value) (b : Bool), xs = [.ref p.1, c] ∧ Zc (.ref D) none p.2 ∧ (∃ vs, p.2.data = .fields vs) ∧ ExcC K D ∧ (∀ u, RelV c u → u = cv) ∧ PySem.W.kitOne K (.ref D) cv = some b ∧ Q (.bl b) H
theorem call_isP {X : Cx} {p : Addr × Obj} (hp : p ∈ X.pn) : CallR X (.builtin "isinstance") (rIsP X.K p) := by
  intro pins s σ H xs us Q I r h
  obtain ⟨D, c, cv, b, rfl, hz, ⟨vs, hv⟩, C, hcv, e, q⟩ := h
  cases r with
  | cons rx rr =>
    cases rr with
    | cons rt rr =>
      cases rr
      cases rx
      cases hcv _ rt
      have hget := (I.pin p (List.mem_append_left _ hp)).1
      obtain ⟨a, oe⟩ := p
      have J : PySem.W.InstAt s.heap a oe D none := by
        obtain ⟨oc, od, oda, osl⟩ := oe
        obtain ⟨h1, h2⟩ := hz
        dsimp only at h1 h2 hv
        subst h1 h2 hv
        exact ⟨hget, rfl, rfl, trivial⟩
      exact PySem.W.kia_one (PySem.W.handS_kitx_exc C.hg C.hk C.hs C.hd C.ha C.hn C.ht C.hm) I.kIn J e (fun z => nomatch z) fun tk => ⟨.bl b, H, I.kept (t' := tk) fun _ _ z => z, rfl, q⟩
/-! ### defs that are given the exception that is held -/
structure FnE (P : Program) (w : World) (K : PySem.W.Frag) (mg : Str → Option Value) (base : Heap) (k : Nat) (f : Addr) (fd : FuncData) (ps : List Str) (sp : Addr × Obj → Sp) : Prop where
  len : ∀ p vs H Q E, sp p vs H Q E → vs.length = ps.length
  run : ∀ (p : Addr × Obj) (A : Around) (out : List Env) (s : Shared) (H : Hp) (ar : Args) (us : List Value) (vs : List V) (Q : VK) (E : XK), L2H.RoomH k A → L2H.PinOk out H s p → Env0 P w K mg base A out s H →
    BindsTo s fd ar (ps.zip us) → Vals vs us → sp p vs H Q E → codeAny (model P w) A (.call (.ref f) ar) (CR CX0 out P w H s Q E) s
section
variable {P : Program} {w : World} {K : PySem.W.Frag} {mg : Str → Option Value} {base : Heap}
theorem okE {x qual : Str} {st : Stmt} {f : Addr} {fd : FuncData} {N ps : List Str} {k : Nat} {sp : Addr × Obj → Sp} (F : Fun K x qual st f fd) (S : FnScope N ps (defScope st)) (ln : ∀ p vs H Q E, sp p vs H Q E → vs.length = ps.length)
    (hb : ∀ (cdv : Value) (p : Addr × Obj) (A : Around) (out : List Env) (s : Shared) (H : Hp) (vs : List V) (Q : VK) (E : XK), L2H.RoomH k (A.deeper (envOfC qual (defScope st) s.heap.objs.size f cdv)) → sp p vs H Q E →
      ∃ t, PSs (L2H.cxH CX0 P w K mg base N qual (defScope st) f cdv A out s H E p) (defBody st) t ∧ t { nx := fun _ H' => Q .non H', rt := Q } (start N vs) H) : FnE P w K mg base (k + 1) f fd ps sp := by
  obtain ⟨oc, od, kV, doc, pm, an, cdv, ct, osl, rfl, lk, hcd⟩ := F.ex
  refine ⟨ln, fun p A out s H ar us vs Q E room hpin en bd rv hs => ?_⟩
  have KX : K.In s.heap := en.mod.kin.keeps fun b o e => (en.bs b o e).1
  have nl : s.heap.NoLimit := en.mod.nolimit.keeps fun b o e => (en.bs b o e).1
  have kd : ∀ y ∈ ps.zip us, (defScope st).names.lookup y.1 = some .local ∨ ((defScope st).names.lookup y.1 = some .cell ∧ ((cellsFrom (s.heap.objs.size + 1) (defScope st).names []).lookup y.1).isSome = true) := by
    rintro ⟨n, v⟩ hy
    have hm := (List.of_mem_zip hy).1
    exact (S.par n hm).elim (fun q => .inl q) fun q => .inr ⟨q, PySem.W.cellsFrom_some _ _ _ (.inl q)⟩
  refine codeAny_call_function room.depth (KX _ _ lk) rfl S.co S.gen rfl (PySem.W.codeRec_of KX hcd) (bd _ _ _ _ ?_)
  refine wpAny_newFunctionEnv_cells S.kind kd fun e1 he s1 x => ?_
  subst he
  refine ⟨nl.keeps x.toInCall.keep, codeAny_func ?_⟩
  obtain ⟨t, ht, hq⟩ := hb cdv p A out s H vs Q E (room.deeper _) hs
  have J0 : Inv (L2H.cxH CX0 P w K mg base N qual (defScope st) f cdv A out s H E p) [] (start N vs) H s1 := L2H.inv_startH S hpin en (ln _ _ _ _ _ hs) rv x
  refine wpAny_mono (ht.run [] s1 (start N vs) H _ J0 hq) (fun fl s' h3 => ?_) fun _ _ h3 => h3
  cases fl with
  | ret u => exact let ⟨v, _, H', J, r2, q⟩ := h3; ⟨v, H', J.os, J.bare, J.base, J.hok, r2, q⟩
  | next => exact let ⟨_, H', J, q⟩ := h3; ⟨.non, H', J.os, J.bare, J.base, J.hok, rfl, q⟩
  | brk => exact (let ⟨_, _, _, q⟩ := h3; q : False).elim
  | cont => exact (let ⟨_, _, _, q⟩ := h3; q : False).elim
structure CalE (P : Program) (w : World) (K : PySem.W.Frag) (mg : Str → Option Value) (base : Heap) (k : Nat) (x : Str) (sp : Addr × Obj → Sp) : Prop where
  ex : ∃ (f : Addr) (fd : FuncData) (ps : List Str), FnE P w K mg base k f fd ps sp ∧ mg x = some (.ref f) ∧ PySem.W.keepIn K (.ref f) = true ∧ Binds K fd ps []
structure CalX (P : Program) (w : World) (K : PySem.W.Frag) (mg : Str → Option Value) (base : Heap) (k : Nat) (x : Str) (sp : Sp) : Prop where
  ex : ∃ (f : Addr) (fd : FuncData) (ps : List Str), FnOk P w K mg base (L2.CX P w) k f fd ps sp ∧ mg x = some (.ref f) ∧ PySem.W.keepIn K (.ref f) = true ∧ Binds K fd ps []
end
section
variable {X : Cx} {k j : Nat} {x : Str} {p pos : Pos} {e : Expr} {es : List Expr} {t : TA}
def tCe (sp : Addr × Obj → Sp) (pr : Addr × Obj) (t : TA) : TE := fun σ H Q => t σ H fun vs H1 => sp pr vs H1 Q E0
theorem pe_ce {sp : Addr × Obj → Sp} {pr : Addr × Obj} (c : CalE X.prog X.w X.K X.mg X.base k x sp) (hr : L2H.RoomH k X.A) (hp : pr ∈ X.pn) (hg : Gl X x) (ha : PA X (e :: es) t)
    (hdb : (x == ("__debug__" : Str)) = false := by decide) (he : starEach (e :: es) X.env = (false, eval e X.env) :: starEach es X.env := by rfl) (hpl : (backTo pos (starEach es X.env)).any (·.1) = false := by rfl) :
    PE X (.Call (.Name x p) (e :: es) [] pos) (tCe sp pr t) := by
  obtain ⟨f, fd, ps, F, hm, kp, hb⟩ := c.ex
  refine ⟨fun pins s σ H Q I h => ?_⟩
  refine wpAny_Call_Name_kw (ld_glob I hg hm ?_ hdb)
  refine PySem.W.callWith_K (h₀ := X.base) I.ok.mod.kin kp (thn (ha.run pos pins s σ H _ I h) fun us s1 ⟨vs, H1, I1, r, q⟩ => ⟨I1.kIn, ?_⟩) he hpl
  have hl : us.length = ps.length := by rw [← r.length]; exact F.len _ _ _ _ _ q
  have b := hb s1 us I1.kIn (by rw [List.append_nil]; exact hl)
  rw [List.append_nil] at b
  have P1 := I1.pin pr (List.mem_append_left _ hp)
  have hpin : L2H.PinOk X.stack H1 s1 pr := ⟨P1.1, P1.2.1, fun hm => (List.mem_cons.mp (I1.stkSub pr.1 hm)).elim P1.2.2.1 P1.2.2.2.1, P1.2.2.2.2⟩
  refine wpAny_call (codeAny_mono (F.run pr X.A X.stack s1 H1 ⟨us, []⟩ us vs Q E0 hr hpin I1.env0 b r q) fun r s' hq => ?_)
  cases r with
  | error e => exact pass0 pins σ H1 s1 e s' I1 hq
  | ok fl =>
    cases fl with
    | ret u => exact I1.after hq
    | next => exact False.elim hq
    | brk => exact False.elim hq
    | cont => exact False.elim hq
def tCx (sp : Sp) (W : WX) (t : TA) : TE := fun σ H Q => t σ H fun vs H1 => sp vs H1 Q (WE W σ)
theorem pe_cx {sp : Sp} {W : WX} (c : CalX X.prog X.w X.K X.mg X.base k x sp) (hr : Room j X.A) (hk : k ≤ j) (tk : Takes X W) (hg : Gl X x) (ha : PA X (e :: es) t)
    (hdb : (x == ("__debug__" : Str)) = false := by decide) (he : starEach (e :: es) X.env = (false, eval e X.env) :: starEach es X.env := by rfl) (hpl : (backTo pos (starEach es X.env)).any (·.1) = false := by rfl) :
    PE X (.Call (.Name x p) (e :: es) [] pos) (tCx sp W t) := by
  obtain ⟨f, fd, ps, F, hm, kp, hb⟩ := c.ex
  refine ⟨fun pins s σ H Q I h => ?_⟩
  refine wpAny_Call_Name_kw (ld_glob I hg hm ?_ hdb)
  refine PySem.W.callWith_K (h₀ := X.base) I.ok.mod.kin kp (thn (ha.run pos pins s σ H _ I h) fun us s1 ⟨vs, H1, I1, r, q⟩ => ⟨I1.kIn, ?_⟩) he hpl
  exact run_fnS F (hr.mono hk) hb (passAt tk σ) I1 r q
end
/-! ### != of two built-in types -/
section
variable {M : Model} {A : Around} {E : Value → Shared → Prop} {s : Shared}
theorem richNe_decline {a b : Value} {T id : String} {k : Bool} {Q : Value → Shared → Prop} (ha : ∀ s' : Shared, s'.TypeIs a T) (hb : ∀ s' : Shared, s'.TypeIs b T)
    (h1 : Slot T (cmpInfo .NotEq).2.1 id) (h2 : Slot T (cmpInfo .NotEq).2.2 id) (hv : [a, b].any Value.onHeap = false) (hk : isSame a b = pure k)
    (hc : wpAny M A (call (.builtin id) [a, b]) (fun v s₁ => v = .notImplemented ∧ wpAny M A (call (.builtin id) [b, a]) (fun v s₂ => v = .notImplemented ∧ Q (.bool !k) s₂) E s₁) E s) :
    wpAny M A (richCompare .NotEq a b) Q E s := by
  rcases hi : cmpInfo CmpOp.NotEq with ⟨sym, f, r⟩
  rw [hi] at h1 h2
  simp only [richCompare, hi, (ha s).oneThing_none]
  try with_reducible refine wpAny_holding ?_
  refine wpAny_bind (wpAny_cRoomFor_or (.inl hv) ?_)
  refine wpAny_bind (wpAny_typeOf (ha s) (wpAny_bind (wpAny_typeOf (hb s) ?_)))
  simp only [bne_self_eq_false, Bool.false_eq_true, if_false, pure_bind, Bool.not_false, if_true]
  refine wpAny_bind (m := tryCompare a _ b) (wpAny_tryCompare_declines (ha s) h1 (wpAny_mono hc (fun v s₁ h₁ => ⟨h₁.1, ?_⟩) fun _ _ x => x))
  refine wpAny_bind (m := tryCompare b _ a) (wpAny_tryCompare_declines (hb s₁) h2 (wpAny_mono h₁.2 (fun v s₂ h₂ => ⟨h₂.1, ?_⟩) fun _ _ x => x))
  first
    | exact wpAny_bind (wpAny_rule (wpAny_bind (wpAny_of_eq hk (wpAny_pure h₂.2))))
    | exact wpAny_bind (wpAny_of_eq hk (wpAny_pure h₂.2))
end
section
variable {prog : Program} {w : World} {A : Around} {E : Value → Shared → Prop} {s : Shared} {Q : Value → Shared → Prop}
theorem slot_type_ne2 : Slot "type" (cmpInfo .NotEq).2.2 "object.__ne__" := slot_type_ne
theorem call_object_ne {X Y : String} (hX : ∀ s' : Shared, s'.TypeIs (.type X) "type") (hne : (Value.type X == Value.type Y) = false) (h : Q .notImplemented s) : wpAny (model prog w) A (call (.builtin "object.__ne__") [.type X, .type Y]) Q E s := by
  refine wpAny_call_entry slot_type_ne (hX s) F.entry_object_ne ?_ (F.args_object_ne_2 _ _)
  unfold Builtin.«object.__ne__»
  refine wpAny_bind (m := slotArgs "__ne__" 1 _) (wpAny_of_eq (a := ((Value.type X : Value), [Value.type Y])) (by first | rfl | (simp only [slotArgs]; rfl)) ?_)
  refine wpAny_bind (wpAny_cRoomFor_or (.inl rfl) ?_)
  refine wpAny_bind (m := callSpecialIfBound? (.type X) (Str.ofString "__eq__") [.type Y]) (wpAny_callSpecialIfBound?_slot (hX s) PySem.TypeEq.slot_type_eq
    (call_gives PySem.TypeEq.slot_type_eq (hX s) F.entry_object_eq (F.args_object_eq_2 _ _) (PySem.TypeEq.object_eq_other rfl hne) ?_))
  first
    | exact wpAny_pure ⟨_, rfl, h⟩
    | exact wpAny_pure h
    | exact wpAny_pure ⟨_, rfl, rfl, h⟩
theorem ne_type_other {X Y : String} (hX : ∀ s' : Shared, s'.TypeIs (.type X) "type") (hY : ∀ s' : Shared, s'.TypeIs (.type Y) "type") (hne : (Value.type X == Value.type Y) = false) (hne' : (Value.type Y == Value.type X) = false) (h : Q (.bool true) s) : wpAny (model prog w) A (compareOp .NotEq (.type X) (.type Y)) Q E s := by
  show wpAny _ A (richCompare .NotEq _ _) Q E s
  exact richNe_decline (T := "type") (k := false) hX hY slot_type_ne slot_type_ne2 rfl (by rw [isSame_plain rfl, hne]) (call_object_ne hX hne ⟨rfl, call_object_ne hY hne' ⟨rfl, h⟩⟩)
end
def rNeTyG : R2 := fun x y H Q => (∃ a, x = .ty a ∧ y = .ty a ∧ (∀ s' : Shared, s'.TypeIs (.type a) "type") ∧ Q (.bl false) H) ∨ ∃ a b, x = .ty a ∧ y = .ty b ∧ (∀ s' : Shared, s'.TypeIs (.type a) "type") ∧ (∀ s' : Shared, s'.TypeIs (.type b) "type") ∧ (Value.type a == Value.type b) = false ∧ (Value.type b == Value.type a) = false ∧ Q (.bl true) H
theorem op_neTyG {X : Cx} : OpR X (compareOp .NotEq) rNeTyG := by
  intro pins s σ H x y v u Q I rx ry h
  rcases h with ⟨a, rfl, rfl, ha, q⟩ | ⟨a, b, rfl, rfl, ha, hb, n1, n2, q⟩
  · cases (show v = Value.type a from rx)
    cases (show u = Value.type a from ry)
    exact ne_type_same ha ⟨.bl false, H, I, rfl, q⟩
  · cases (show v = Value.type a from rx)
    cases (show u = Value.type b from ry)
    exact ne_type_other ha hb n1 n2 ⟨.bl true, H, I, rfl, q⟩
/-! ### xs[i] op= e; one sign * n -/
def rGetL (K : PySem.W.Frag) : V → V → Hp → VK → Prop := fun o i H Q => ∃ p xs j v, o = .ref p ∧ i = .int j ∧ SqL K H p xs ∧ 0 ≤ j ∧ atI xs j = some v ∧ Q v H
theorem get_list {X : Cx} : PGet X (rGetL X.K) := by
  intro pins s σ H o i ov iv Q I ro ri h
  obtain ⟨p, xs, k, z, rfl, rfl, hq, h0, he, q⟩ := h
  cases ro
  obtain ⟨t, rfl⟩ := ri
  obtain ⟨its, r, pl, hz⟩ := I.list hq
  obtain ⟨j, h1, h2, h3, h4, h5⟩ := atI_get he
  obtain ⟨w, ew, rw'⟩ := r.get h2
  have hj : k.toNat = j := by
    rw [seqIndex_of h0 h5] at h1
    exact Option.some.inj h1
  have hl := r.length
  have hn := line63
  exact wpAny_getItem_list pl.isList h0 (by omega) (by rw [hj]; simpa using ew) ⟨z, H, I, rw', q⟩
theorem op_repA {X : Cx} : OpR X (binaryOp .Mult) (fun x y H Q => ∃ (z : Str) (n : Nat), x = .str z ∧ y = .int (n : Int) ∧ z.length = 1 ∧ n ≤ 1000 ∧ ∀ y, Q (.str y) H) := by
  intro pins s σ H x y v u Q I r1 r2 h
  obtain ⟨z, n, e1, e2, hz, hn, q⟩ := h
  subst e1; subst e2
  obtain ⟨t, rfl⟩ := r1
  obtain ⟨t', rfl⟩ := r2
  refine PySem.P.mul_str ?_ (fun c _ => ?_) (fun _ _ => ?_) ?_
  · rw [decide_eq_false (show ¬ (n : Int) < -(2 ^ 63 : Int) by omega), decide_eq_false (show ¬ (n : Int) ≥ 2 ^ 63 by omega)]
    rfl
  · rw [hz]
    have := (Int.le_ediv_iff_mul_le (show (0 : Int) < n by omega)).mpr (show ((1 : Nat) : Int) * (n : Int) ≤ 2 ^ 63 - 1 by omega)
    omega
  · rw [hz]
    unfold Builtin.Str.tooLong
    refine decide_eq_false ?_
    have e : (n : Int).toNat = n := rfl
    have z := zs (show n ≤ 100000 by omega)
    omega
  · by_cases h0 : n = 0
    · subst h0
      rw [if_pos (by decide)]
      exact ⟨by decide, .str _, H, I.tok _, ⟨_, rfl⟩, q _⟩
    · rw [if_neg (show ¬ (n : Int) < 1 by omega), hz]
      by_cases h1 : n = 1
      · subst h1
        rw [if_pos (by rfl)]
        exact ⟨.str _, H, I, ⟨_, rfl⟩, q _⟩
      · have hb : ((n : Int) == 1 || (1 : Nat) == 0) = false := by
          rw [beq_eq_false_iff_ne.mpr (show (n : Int) ≠ 1 by omega)]
          rfl
        rw [hb, if_neg Bool.false_ne_true]
        refine ⟨?_, .str _, H, I.tok _, ⟨_, rfl⟩, q _⟩
        have f0 := foldl_repN z.cps.toList n []
        rw [List.nil_append] at f0
        have e : (n : Int).toNat = n := rfl
        have e3 : z.cps = z.cps.toList.toArray := rfl
        rw [e]
        have f1 : List.foldl (fun x1 x2 => x1 ++ x2) #[] (List.replicate n z.cps) = ((List.replicate n z.cps.toList).flatten).toArray := f0
        show (List.foldl (fun (x1 x2 : Array Nat) => x1 ++ x2) #[] (List.replicate n z.cps)).size ≤ _
        rw [f1, List.size_toArray]
        have : ∀ m : Nat, ((List.replicate m z.cps.toList).flatten).length = m := fun m => by
          induction m with
          | zero => rfl
          | succ m ih =>
            rw [List.replicate_succ, List.flatten_cons, List.length_append, ih]
            have : z.cps.toList.length = 1 := hz
            omega
        rw [this]
        exact zs (by omega)
end Lp
set_option Elab.async false
set_option linter.all false
set_option maxRecDepth 100000
set_option maxHeartbeats 1000000
namespace Lp
open PySem PySem.Spec PyProof.Rows L2
/-! ### len(x), y in x: by a method of an own class -/
section
variable {X : Cx} {k j : Nat} {C : Addr} {sp : Sp}
theorem inst_of {pins : List (Addr × Obj)} {σ : L2.St} {H : Hp} {s : Shared} {a dx : Addr} {fs : List (Str × V)} (I : Inv X pins σ H s) (e : H a = some (.ins C dx fs)) : ∃ ox od, PySem.W.InstAt s.heap a ox C od := by
  obtain ⟨mA, O, _⟩ := ins_get I.hok e
  obtain ⟨od, J, _⟩ := O.look
  exact ⟨_, _, J⟩
/-- a call of a method's def, wherever the machine stands -/
theorem run_at {A : Around} {pins : List (Addr × Obj)} {σ : L2.St} {H : Hp} {s : Shared} {f : Addr} {fd : FuncData} {ps : List Str} {us : List Value} {vs : List V} {Q : VK} {E1 : Value → Shared → Prop} (F : FnOk X.prog X.w X.K X.mg X.base CX0 k f fd ps sp) (hr : Room k A) (b : Binds X.K fd ps []) (I : Inv X pins σ H s) (en : Env0 X.prog X.w X.K X.mg X.base A X.stack s H)
    (r : Vals vs us) (q : sp vs H Q E0) : wpAny (model X.prog X.w) A (call (.ref f) us) (EP X pins σ Q) E1 s := by
  have hl : us.length = ps.length := by rw [← r.length]; exact F.len _ _ _ _ q
  have bd := b s us I.kIn (by rw [List.append_nil]; exact hl)
  rw [List.append_nil] at bd
  refine wpAny_call (codeAny_mono (F.run A X.stack s H ⟨us, []⟩ us vs Q E0 hr en bd r q) fun r s' hq => ?_)
  cases r with
  | error e => exact hq.elim
  | ok fl =>
    cases fl with
    | ret u => exact I.after hq
    | next => exact False.elim hq
    | brk => exact False.elim hq
    | cont => exact False.elim hq
def rLenO (C : Addr) (sp : Sp) : List V → Hp → VK → Prop := fun xs H Q => ∃ (a dx : Addr) (fs : List (Str × V)), xs = [.ref a] ∧ H a = some (.ins C dx fs) ∧ sp [.ref a] H (fun v H' => ∃ n : Int, v = .int n ∧ 0 ≤ n ∧ n < 2 ^ 63 ∧ Q (.int n) H') E0
theorem call_lenO (c : Met X.prog X.w X.K X.mg X.base k C "__len__" sp) (hr : Room j X.A) (hk : k + 1 ≤ j) : CallR X (.builtin "len") (rLenO C sp) := by
  intro pins s σ H xs us Q I r h
  obtain ⟨a, dx, fs, rfl, ha, q⟩ := h
  obtain ⟨f, fd, ps, hc, hm, F, b⟩ := c.ex
  obtain ⟨u, rfl, ru⟩ := vals1 r
  cases (show u = Value.ref a from ru)
  obtain ⟨ox, od, J⟩ := inst_of I ha
  refine Calls.call_function_entry PySem.kind_len PySem.plain_len PySem.entry_len (PySem.args_len1 _) ?_
  unfold Builtin.«len»
  refine wpAny_bind (m := oneArg "len" _) (wpAny_pure ?_)
  refine wpAny_bind (m := callSpecial? (.ref a) (Str.ofString "__len__")) (PySem.W.special_fn I.kIn J hm.at_ (beq_iff_eq.mp hm.fn) (wpAny_mono (run_at (A := X.A.in1) (vs := [.ref a]) F (hr.mono hk).in1 b I I.env0.in1 (.cons rfl .nil) q) (fun v s' hv => ?_) fun _ _ z => z))
  obtain ⟨v, H', I', rv, n, rfl, h0, h1, hq⟩ := hv
  obtain ⟨t, rfl⟩ := rv
  refine wpAny_bind (wpAny_holding (wpAny_pure ?_))
  refine wpAny_bind (wpAny_letGo ?_)
  show wpAny _ _ (if n < 0 then _ else _) _ _ _
  rw [if_neg (by omega)]
  show wpAny _ _ (if n ≥ 2 ^ 63 then _ else _) _ _ _
  rw [if_neg (by omega)]
  exact wpAny_bind (wpAny_mkInt (wpAny_pure ⟨_, rfl, .int n, H', I'.tok _, ⟨_, rfl⟩, hq⟩))
def tInO (C : Addr) (sp : Sp) (ty td : TE) (neg : Bool) : TE := fun σ H Q => ty σ H fun y H1 => td σ H1 fun x H2 => ∃ (a dx : Addr) (fs : List (Str × V)), x = .ref a ∧ H2 a = some (.ins C dx fs) ∧ sp [.ref a, y] H2 (fun v H' => ∃ b : Bool, v = .bl b ∧ Q (.bl (if neg then !b else b)) H') E0
theorem pc_inO {i o : Expr} {ty td : TE} (c : Met X.prog X.w X.K X.mg X.base k C "__contains__" sp) (hr : Room j X.A) (hk : k ≤ j) (hi : PE X i ty) (ho : PE X o td) : PC X .In i o (tInO C sp ty td false) := by
  obtain ⟨f, fd, ps, hc, hm, F, b⟩ := c.ex
  refine ⟨fun pins s σ H Q I h => ?_⟩
  refine thn (hi.run pins s σ H _ I h) fun iv s1 ⟨y, H1, I1, ry, q1⟩ => thn (ho.run pins s1 σ H1 _ I1 q1) fun u s2 ⟨x, H2, I2, rx, a, dx, fs, ex, ea, q2⟩ => ?_
  subst ex
  cases (show u = Value.ref a from rx)
  obtain ⟨ox, od, J⟩ := inst_of I2 ea
  refine wpAny_bind ?_
  unfold contains
  refine wpAny_holding (wpAny_bind (wpAny_bind (J.type.here ((PySem.W.looks_findIn I2.kIn hm.at_).here ?_))))
  rw [if_neg (by simp)]
  refine wpAny_bind (PySem.W.unlessNone_K I2.kIn J hm.at_ hm.fn (wpAny_mono (run_at (vs := [.ref a, y]) F (hr.mono hk) b I2 I2.env0 (.cons rfl (.cons ry .nil)) q2) (fun v s' hv => ?_) fun _ _ z => z))
  obtain ⟨v, H', I', rv, b', rfl, hq⟩ := hv
  cases rv
  refine wpAny_of_eq (a := b') (by first | rfl | simp [truthy]) ?_
  exact wpAny_pure ⟨.bl b', H', I', rfl, hq⟩
end
end Lp
namespace Lp
open PySem PySem.Spec PyProof.Rows L2
/-! ### a + b of two instances, by __add__ -/
theorem binop_own {prog : Program} {w : World} {A : Around} {E : Value → Shared → Prop} {s : Shared} {K : PySem.W.Frag} {x C f : Addr} {ox : Obj} {od : Option Obj} {op : Operator} {b : Value} {Q : Value → Shared → Prop} (kin : K.In s.heap) (J : PySem.W.InstAt s.heap x ox C od) (tb : PySem.W.Looks (model prog w) s.heap (typeOf b) (.ref C)) (sf : PySem.W.selfFirst K C = true)
    (at_ : PySem.W.findIn K (.ref C) (PySem.dunder op.info.2) = some (some (.ref f))) (isf : PySem.W.isFn K (.ref f) = true) (go : wpAny (model prog w) A (call (.ref f) [.ref x, b]) (fun v s' => v ≠ .notImplemented ∧ Q v s') E s) : wpAny (model prog w) A (binaryOp op (.ref x) b) Q E s := by
  obtain ⟨cd, e1, e2⟩ := PySem.W.any_some sf
  have e3 : ∃ rest, cd.mro = .ref C :: rest := by
    cases hq : cd.mro with
    | nil =>
      rw [hq] at e2
      cases e2
    | cons u r =>
      rw [hq, List.head?_cons] at e2
      cases (beq_iff_eq.mp e2)
      exact ⟨r, rfl⟩
  obtain ⟨rest, e3⟩ := e3
  unfold binaryOp
  refine wpAny_holding (wpAny_bind ?_)
  unfold binaryOp1
  refine wpAny_bind (J.type.here (wpAny_bind (tb.here (wpAny_bind ((PySem.W.fills_K kin e1 e3 at_).here ?_)))))
  simp only [beq_self_eq_true, if_true]
  refine wpAny_bind (wpAny_pure ?_)
  simp only [Bool.and_false, Bool.false_eq_true, if_false, Bool.false_and]
  refine wpAny_bind (wpAny_pure ?_)
  simp only [Bool.false_eq_true, if_false]
  refine wpAny_bind (m := tryMethod (.ref x) _ b) ?_
  unfold tryMethod
  refine wpAny_bind (PySem.W.special_fn kin J at_ (beq_iff_eq.mp isf) (wpAny_mono go (fun v s' hv => ?_) fun _ _ z => z))
  obtain ⟨nv, hv⟩ := hv
  cases v <;> first | exact absurd rfl nv | exact wpAny_pure (wpAny_pure (wpAny_pure hv))
section
variable {X : Cx} {k j : Nat} {C : Addr} {sp : Sp}
theorem relV_ni {v : V} {u : Value} (r : RelV v u) : u ≠ .notImplemented := by
  intro e
  subst e
  cases v <;> first | (obtain ⟨_, h⟩ := r; cases h) | cases r | (exact nomatch r)
def rAddO (C : Addr) (sp : Sp) : R2 := fun x y H Q => ∃ (a b dx dy : Addr) (fs gs : List (Str × V)), x = .ref a ∧ y = .ref b ∧ H a = some (.ins C dx fs) ∧ H b = some (.ins C dy gs) ∧ sp [.ref a, .ref b] H Q E0
theorem op_addO (c : Met X.prog X.w X.K X.mg X.base k C "__add__" sp) (hr : Room j X.A) (hk : k ≤ j) (sf : PySem.W.selfFirst X.K C = true) : OpR X (binaryOp .Add) (rAddO C sp) := by
  intro pins s σ H x y v u Q I rx ry h
  obtain ⟨a, b, dx, dy, fs, gs, rfl, rfl, ha, hb, q⟩ := h
  obtain ⟨f, fd, ps, hc, hm, F, bd⟩ := c.ex
  cases (show v = Value.ref a from rx)
  cases (show u = Value.ref b from ry)
  obtain ⟨ox, od, J⟩ := inst_of I ha
  obtain ⟨ox2, od2, J2⟩ := inst_of I hb
  refine binop_own I.kIn J J2.type sf hm.at_ hm.fn (wpAny_mono (run_at (vs := [.ref a, .ref b]) F (hr.mono hk) bd I I.env0 (.cons rfl (.cons rfl .nil)) q) (fun w s' hw => ?_) fun _ _ z => z)
  exact ⟨by obtain ⟨z, _, _, r, _⟩ := hw; exact relV_ni r, hw⟩
end
end Lp
namespace Lp
open PySem PySem.Spec PyProof.Rows L2
/-! ### a == b of two instances, by __eq__ -/
theorem eq_own {prog : Program} {w : World} {A : Around} {E : Value → Shared → Prop} {s : Shared} {K : PySem.W.Frag} {x C f : Addr} {ox : Obj} {od : Option Obj} {op : CmpOp} {b tb : Value} {Q : Value → Shared → Prop} (hu : A.units < cLine) (kin : K.In s.heap) (J : PySem.W.InstAt s.heap x ox C od) (tyb : PySem.W.Looks (model prog w) s.heap (typeOf b) tb)
    (nf : PySem.W.notFirst K C tb = true) (at_ : PySem.W.findIn K (.ref C) (cmpInfo op).2.1 = some (some (.ref f))) (isf : PySem.W.isFn K (.ref f) = true) (go : wpAny (model prog w) A (call (.ref f) [.ref x, b]) (fun v s' => v ≠ .notImplemented ∧ Q v s') E s) : wpAny (model prog w) A (richCompare op (.ref x) b) Q E s := by
  have mine : wpAny (model prog w) A (tryCompare (.ref x) (cmpInfo op).2.1 b) (fun r s' => ∃ v, r = some v ∧ Q v s') E s := by
    unfold tryCompare
    refine wpAny_bind (PySem.W.ifBound_K kin J at_ isf (wpAny_mono go (fun v s' hv => ?_) fun _ _ z => z))
    obtain ⟨nv, hv⟩ := hv
    cases v <;> first | exact absurd rfl nv | exact wpAny_pure ⟨_, rfl, hv⟩
  have last : ∀ {g : Option Value → Sem Value}, (∀ v, g (some v) = pure v) → wpAny (model prog w) A (tryCompare (.ref x) (cmpInfo op).2.1 b >>= g) Q E s := fun {g} hg => wpAny_bind (wpAny_mono mine (fun r s' ⟨v, er, hq⟩ => by rw [er, hg]; exact wpAny_pure hq) fun _ _ z => z)
  unfold richCompare
  simp only [oneThing_ref]
  refine wpAny_holding (wpAny_bind (wpAny_cRoomFor hu ?_))
  refine wpAny_bind (J.type.here (wpAny_bind (tyb.here ?_)))
  split
  · rename_i q
    have sb : PySem.W.subIn K tb (.ref C) = some false := by
      rcases Bool.or_eq_true_iff.mp nf with z | z
      · rw [beq_iff_eq.mp z] at q
        simp at q
      · exact beq_iff_eq.mp z
    refine wpAny_bind ((PySem.W.looks_subIn kin sb).here ?_)
    simp only [Bool.false_eq_true, if_false]
    exact last fun v => rfl
  · refine wpAny_bind (wpAny_pure ?_)
    simp only [Bool.false_eq_true, if_false]
    exact last fun v => rfl
section
variable {X : Cx} {k j : Nat} {C : Addr} {sp : Sp}
theorem op_eqO (c : Met X.prog X.w X.K X.mg X.base k C "__eq__" sp) (hr : Room j X.A) (hk : k ≤ j) (nf : PySem.W.notFirst X.K C (.ref C) = true) : OpR X (compareOp .Eq) (rAddO C sp) := by
  intro pins s σ H x y v u Q I rx ry h
  obtain ⟨a, b, dx, dy, fs, gs, rfl, rfl, ha, hb, q⟩ := h
  obtain ⟨f, fd, ps, hc, hm, F, bd⟩ := c.ex
  cases (show v = Value.ref a from rx)
  cases (show u = Value.ref b from ry)
  obtain ⟨ox, od, J⟩ := inst_of I ha
  obtain ⟨ox2, od2, J2⟩ := inst_of I hb
  have hu : X.A.units < cLine := by have := hr.units; omega
  show wpAny _ X.A (richCompare .Eq _ _) _ _ s
  refine eq_own (op := .Eq) hu I.kIn J J2.type nf hm.at_ hm.fn (wpAny_mono (run_at (vs := [.ref a, .ref b]) F (hr.mono hk) bd I I.env0 (.cons rfl (.cons rfl .nil)) q) (fun w s' hw => ?_) fun _ _ z => z)
  exact ⟨by obtain ⟨z, _, _, r, _⟩ := hw; exact relV_ni r, hw⟩
end
end Lp
set_option Elab.async false
set_option linter.all false
set_option maxRecDepth 100000
set_option maxHeartbeats 1000000
namespace Lp
open PySem PySem.Spec PyProof.Rows L2
/-! ### x(e, ..) of an instance, by __call__ -/
theorem inst_plain {X : Cx} {C : Addr} {pins : List (Addr × Obj)} {σ : L2.St} {H : Hp} {s : Shared} {a dx : Addr} {fs : List (Str × V)} (I : Inv X pins σ H s) (e : H a = some (.ins C dx fs)) : ∃ ox od, PySem.W.InstAt s.heap a ox C od ∧ ox.data = .plain := by
  obtain ⟨mA, O, _⟩ := ins_get I.hok e
  obtain ⟨od, J, _⟩ := O.look
  exact ⟨_, _, J, rfl⟩
theorem callWith_obj {M : Model} {A : Around} {E : Value → Shared → Prop} {s : Shared} {pos : Pos} {x : Addr} {first : List Value} {Q : Value → Shared → Prop} {args : List (Bool × Sem Value)} {kws : List (Option Str × Sem Value)} (hp : (args.any (·.1) || kws.any (·.1.isNone)) = false)
    (h : wpAny M A (evalArgs (.ref x) true args kws) (fun a s₁ => (∃ C ox od, PySem.W.InstAt s₁.heap x ox C od ∧ ox.data = .plain) ∧ wpAny M A (call (.ref x) (first ++ a.pos) a.kw) Q E s₁) E s) : wpAny M A (callWith pos (.ref x) first args kws) Q E s := by
  unfold callWith
  refine wpAny_bind (wpAny_holding (wpAny_mono h (fun a s₁ ⟨⟨C, ox, od, J, hd⟩, hq⟩ => wpAny_bind (wpAny_standAt ?_)) fun _ _ z => z))
  have kl := PySem.W.kco_keeper (M := M) J hd
  simp only [hp]
  refine wpAny_bind (kl.here ?_)
  have tl : ∀ {t : Sem Value}, wpAny M A t Q E s₁ → wpAny M A (t >>= fun r => holding [r] point >>= fun _ => pure r) Q E s₁ :=
    fun ht => wpAny_bind (wpAny_mono ht (fun r s₂ hr => wpAny_bind (wpAny_holding (wpAny_point (wpAny_pure hr)))) fun _ _ z => z)
  exact tl (wpAny_operateT hq)
section
variable {X : Cx} {k j i : Nat} {C : Addr} {sp : Sp} {x : Str} {p pos : Pos} {e : Expr} {es : List Expr} {t : TA}
def tCallO (i : Nat) (C : Addr) (sp : Sp) (t : TA) : TE := fun σ H Q => ∃ a : Addr, σ[i]? = some (some (.ref a)) ∧ t σ H fun vs H1 => ∃ (dx : Addr) (fs : List (Str × V)), H1 a = some (.ins C dx fs) ∧ sp (.ref a :: vs) H1 Q E0
theorem pe_callO (c : Met X.prog X.w X.K X.mg X.base k C "__call__" sp) (fi : ∀ f, PySem.W.findIn X.K (.ref C) "__call__" = some (some (.ref f)) → PySem.W.fnIn X.K f = true) (hr : Room j X.A) (hk : k ≤ j) (hN : X.N[i]? = some x) (hv : Vis X.env.scope x) (ha : PA X (e :: es) t)
    (hdb : (x == ("__debug__" : Str)) = false := by decide) (hcd : (x == ("__classdict__" : Str)) = false := by decide)
    (he : starEach (e :: es) X.env = (false, eval e X.env) :: starEach es X.env := by rfl) (hpl : (backTo pos (starEach es X.env)).any (·.1) = false := by rfl) : PE X (.Call (.Name x p) (e :: es) [] pos) (tCallO i C sp t) := by
  obtain ⟨f, fd, ps, hc, hm, F, b⟩ := c.ex
  refine ⟨fun pins s σ H Q I h => ?_⟩
  obtain ⟨a, hs, ht⟩ := h
  refine wpAny_Call_Name_kw (thn ((pe_var (pos := p) hN hv hdb hcd).run pins s σ H (fun v H1 => v = .ref a ∧ H1 = H) I ⟨.ref a, hs, rfl, rfl⟩) fun u s1 ⟨v, H1, I1, r1, q1⟩ => ?_)
  obtain ⟨rfl, rfl⟩ := q1
  cases r1
  have go := ha.run pos pins s1 σ _ _ I1 ht
  rw [he] at go ⊢
  refine callWith_obj (by show ((false || (backTo pos (starEach es X.env)).any (·.1)) || false) = false; rw [hpl]; rfl) (Calls.evalArgs_plain ?_)
  refine thn go fun us s2 ⟨vs, H2, I2, r, dx, fs, ea, q⟩ => ?_
  obtain ⟨ox, od, J, hd⟩ := inst_plain I2 ea
  refine ⟨⟨C, ox, od, J, hd⟩, ?_⟩
  have rr : Vals (.ref a :: vs) (.ref a :: us) := .cons rfl r
  have hl : (Value.ref a :: us).length = ps.length := by rw [← rr.length]; exact F.len _ _ _ _ q
  have bd := b s2 (.ref a :: us) I2.kIn (by rw [List.append_nil]; exact hl)
  rw [List.append_nil] at bd
  refine wpAny_call (PySem.W.kco_code I2.kIn J hd hm.at_ hm.fn (fi f hm.at_) (codeAny_mono (F.run X.A X.stack s2 H2 ⟨.ref a :: us, []⟩ (.ref a :: us) (.ref a :: vs) Q E0 (hr.mono hk) I2.env0 bd rr q) fun r s' hq => ?_))
  cases r with
  | error e => exact hq.elim
  | ok fl =>
    cases fl with
    | ret u => exact I2.after hq
    | next => exact False.elim hq
    | brk => exact False.elim hq
    | cont => exact False.elim hq
end
end Lp
set_option Elab.async false
set_option linter.all false
set_option maxRecDepth 100000
set_option maxHeartbeats 1000000
namespace Lp
open PySem PySem.Spec PyProof.Rows L2
/-! ### sorted(d) of a dict with int keys, any number of them -/
def rSortedDIO : List V → Hp → VK → Prop := fun xs H Q => ∃ (a : Addr) (kvs : List (Key × V)) (ks : List Int), xs = [.ref a] ∧ Rd H a (.dK kvs) ∧ kvs.map (·.1) = ks.map Sum.inl ∧
  ∀ (ys : List Int) (p : Addr), ys.Perm ks → ys.Pairwise (· ≤ ·) → H p = none → Q (.ref p) (upd H p (.lst (ys.map V.int)))
theorem call_sortedDIO {X : Cx} (hcalm : X.calm = true) : CallR X (.builtin "sorted") rSortedDIO := by
  intro pins s σ H xs us Q I r q
  obtain ⟨a, kvs, ks, ex, hd, hks, q⟩ := q
  subst ex
  obtain ⟨u, eu, rx⟩ := vals1 r
  subst eu
  cases rx
  obtain ⟨z, lo, vs, rel, dd⟩ := dk_rd I.hok hd
  obtain ⟨ep, hat⟩ := dd.dictAt
  have hkeys : vs.map (·.1) = ks.map Sum.inl := rel.keys.symm.trans hks
  have hl : vs.length = ks.length := by
    have e := congrArg List.length hkeys
    rw [List.length_map, List.length_map] at e
    exact e
  have hl2 : kvs.length = ks.length := by
    have e := congrArg List.length hks
    rw [List.length_map, List.length_map] at e
    exact e
  have h16 : vs.length ≤ sizeLine := by rw [hl, ← hl2]; exact z
  refine Calls.call_function_entry PyProof.Rows.kind_sorted PyProof.Rows.plain_sorted PyProof.Rows.entry_sorted (PyProof.Rows.args_sorted1 _) ?_
  unfold Builtin.«sorted»
  refine wpAny_bind (m := checkCount "sorted" 1 1 _) (wpAny_pure ?_)
  refine wpAny_bind (PySem.W.kdu_collect (A := X.A.in1) (PySem.W.kdl_dict (knd := mixKind X.prog X.w) (kvs := vs) (ep := ep) lo) (I.ok.hd hcalm) hat h16 fun h' tk acc hk hacc => ?_)
  have hal : acc.toList.length = ks.length := by rw [Array.length_toList, hacc.1, hl]
  have hS : IntsAre acc.toList ks := ints_each hal fun j v e => by
    obtain ⟨k, x, e1, e2⟩ := hacc.2 j v (by rw [← Array.getElem?_toList]; exact e)
    have e3 : (vs.map (·.1))[j]? = some k := by rw [List.getElem?_map, e1]; rfl
    rw [hkeys, List.getElem?_map] at e3
    cases e4 : ks[j]? with
    | none => rw [e4] at e3; cases e3
    | some y =>
      rw [e4] at e3
      have e5 : Sum.inl y = k := Option.some.inj e3
      subst e5
      rcases keyIs_shape (show keyIs (Sum.inl y) v = true from e2) with ⟨i, t, ek, ev⟩ | ⟨z, t, ek, ev⟩
      · cases ek
        exact ⟨y, t, rfl, ev⟩
      · cases ek
  have I1 : Inv X pins σ H { s with heap := h', toks := tk } := I.kept hk
  have hz2 : acc.toList.length ≤ sizeLine := by rw [hal, ← hl2]; exact z
  refine wpAny_bind (wpAny_newList ?_ hz2)
  have hoL : (h'.push (seqObj "list" acc.toList.toArray 0)).get? h'.objs.size = some (seqObj "list" acc.toList.toArray 0) := Heap.get?_push_size _ rfl
  show wpAny _ _ _ _ _ { s with heap := h'.push (seqObj "list" acc.toList.toArray 0), toks := tk }
  refine wpAny_bind (wpAny_holding (wpAny_call_entry PyProof.Rows.slot_list_sort ⟨_, hoL, rfl⟩ PyProof.Rows.entry_list_sort
    (SrtO.list_sort_ord (s := { s with heap := h'.push (seqObj "list" acc.toList.toArray 0), toks := tk }) SrtO.swo_int hoL hz2 (fun h2 => SrtO.ints_sortable hS h2) fun out g1 g2 => ⟨_, rfl, ?_⟩) (PyProof.Rows.args_list_sort _)))
  obtain ⟨k1, k2, k3⟩ := SrtO.ints_out hS g1 g2
  obtain ⟨e', he'⟩ := PyProof.Rows.sortedHeap_at (vs := acc.toList) (out := out.toArray) hoL
  have hlen : ((out.map SrtO.iv).map V.int).length ≤ sizeLine := by
    rw [List.length_map, k2.length_eq, ← hl2]
    exact z
  refine wpAny_pure ⟨_, rfl, .ref h'.objs.size, upd H h'.objs.size (.lst ((out.map SrtO.iv).map V.int)), I1.laid (t' := tk) (fun b u e => ?_) (Nat.le_refl _)
    (show ObjOk X.prog X.w _ _ _ (.lst ((out.map SrtO.iv).map V.int)) from ⟨hlen, out, e', vals_of_ints k1, he'⟩), rfl, q _ _ k2 k3 (I1.hok.fresh (Nat.le_refl _))⟩
  have hb : b < h'.objs.size := Heap.lt_size e
  rw [PyProof.Rows.sortedHeap_old (Nat.ne_of_lt hb) (by rw [size_push']; exact Nat.lt_succ_of_lt hb)]
  exact Heap.get?_push_of_some _ e
end Lp
set_option Elab.async false
set_option linter.all false
set_option maxRecDepth 100000
set_option maxHeartbeats 1000000
namespace Lp
open PySem PySem.Spec PyProof.Rows L2 L2.DX
/-! ### d.items() and sorted(d.items()) of a dict of ints by ints, any number of them -/
def rItemsI : V → List V → Hp → VK → Prop := fun x xs H Q => ∃ (a : Addr) (kvs : List (Key × V)), x = .ref a ∧ xs = [] ∧ H a = some (.dK kvs) ∧ ∀ p, H p = none → Q (.ref p) (upd H p (itemsO p a))
theorem mt_itemsI {X : Cx} : MtR X "dict.items" rItemsI := by
  intro pins s σ H x xs v us Q I rx rxs h
  obtain ⟨a, kvs, rfl, rfl, ha, q⟩ := h
  cases rx
  cases rxs
  obtain ⟨z, hd, vs, rel, dd⟩ := dk_of I.hok ha
  obtain ⟨o, es, ep, ho, hx, hdat, _⟩ := dd
  refine DT.callItems (es := es) (ep := ep) hd ⟨o, ho, hx, hdat⟩ ?_
  have hf : H s.heap.objs.size = none := I.hok.fresh (Nat.le_refl _)
  exact ⟨.ref s.heap.objs.size, upd H s.heap.objs.size (itemsO s.heap.objs.size a), I.laid (t' := s.toks) (fun b u e => Heap.get?_push_of_some _ e) (Nat.le_refl _) (itemsO_ok (Heap.get?_push_size _ rfl)), rfl, q _ hf⟩
abbrev entI (e : Int × Int) : Key × V := (Sum.inl e.1, V.int e.2)
def rSortItI : List V → Hp → VK → Prop := fun vs H Q => ∃ (p a : Addr) (ks : List (Int × Int)), vs = [.ref p] ∧ H p = some (itemsO p a) ∧ H a = some (.dK (ks.map entI)) ∧
  ∀ (H' : Hp) (l : Addr) (ps : List (Addr × Int × Int)), (∀ b o, H b = some o → H' b = some o) → (ps.map (·.2)).Perm ks → (ps.map (·.2)).Pairwise (fun e f => e.1 ≤ f.1) → H' l = some (.lst (ps.map fun z => V.ref z.1)) →
    (∀ z ∈ ps, H' z.1 = some (.tup [.int z.2.1, .int z.2.2])) → H l = none → (∀ z ∈ ps, H z.1 = none) → Q (.ref l) H'
def pairOf (as : List Addr) (ks : List (Int × Int)) : Value → Int × Int
  | .ref b => (ks[as.idxOf b]?).getD (0, 0)
  | _ => (0, 0)
theorem pairOf_at {as : List Addr} {ks : List (Int × Int)} (nd : as.Nodup) {j : Nat} {b : Addr} {e : Int × Int} (hj : as[j]? = some b) (he : ks[j]? = some e) : pairOf as ks (.ref b) = e := by
  obtain ⟨hl, hb⟩ := List.getElem?_eq_some_iff.mp hj
  have hi : as.idxOf b = j := by
    subst hb
    exact nd.idxOf_getElem j hl
  show (ks[as.idxOf b]?).getD (0, 0) = e
  rw [hi, he]
  rfl
theorem pairOf_all {as : List Addr} {ks : List (Int × Int)} (nd : as.Nodup) (hl : as.length = ks.length) : as.map (fun b => pairOf as ks (.ref b)) = ks := by
  refine List.ext_getElem? fun j => ?_
  rw [List.getElem?_map]
  cases hj : as[j]? with
  | none =>
    have h1 := List.getElem?_eq_none_iff.mp hj
    exact (List.getElem?_eq_none (by omega)).symm
  | some b =>
    obtain ⟨h1, _⟩ := List.getElem?_eq_some_iff.mp hj
    have he : ks[j]? = some (ks[j]'(by omega)) := List.getElem?_eq_getElem (by omega)
    rw [he]
    exact congrArg some (pairOf_at nd hj he)
def adOf : Value → Addr
  | .ref b => b
  | _ => 0
theorem adOf_ref : ∀ {out : List Value}, (∀ v ∈ out, ∃ b, v = Value.ref b) → out = (out.map adOf).map Value.ref
  | [], _ => rfl
  | v :: out, h => by
    obtain ⟨b, rfl⟩ := h v List.mem_cons_self
    show Value.ref b :: out = Value.ref b :: (out.map adOf).map Value.ref
    rw [← adOf_ref fun u hu => h u (List.mem_cons_of_mem _ hu)]
theorem adOf_map (as : List Addr) : (as.map Value.ref).map adOf = as := by
  rw [List.map_map]
  exact List.map_id as
theorem cr_sortedItemsI {X : Cx} (hc : X.calm = true) : CallR X (.builtin "sorted") rSortItI := by
  intro pins s σ H xs us Q I r h
  obtain ⟨p, a, ks, rfl, hp, ha, q⟩ := h
  obtain rfl := Vals.ref1 r
  have view : s.heap.IsItemsView p a := (show ObjOk X.prog X.w H s.heap p (itemsO p a) from I.hok p _ hp).1
  obtain ⟨z, hd, vs, rel, o, es, ep, ho, hx, hdat, hes, hprs, hn⟩ := dk_of I.hok ha
  have l1 : (ks.map entI).length = vs.length := rel.length
  have l0 : (ks.map entI).length = ks.length := List.length_map ..
  have l2 : es.size = vs.length := by rw [← hprs.length]; simp
  have hh : X.A.handled = none := I.ok.hd hc
  refine DT.sortedI (es := es) (ep := ep) hh view ⟨o, ho, hx, hdat⟩ (by omega) fun h' tk as hk hlt hl hG => ?_
  have lak : as.length = ks.length := by omega
  have nd : as.Nodup := List.Pairwise.imp (fun h => Nat.ne_of_lt h) hG.rise
  -- the pairs that were made
  have pr : ∀ (j : Nat) (b : Addr), as[j]? = some b → ∃ (e : Int × Int) (t1 t2 : Tok), ks[j]? = some e ∧ h'.get? b = some { cls := .type "tuple", data := .seq #[Value.int e.1 t1, Value.int e.2 t2] } := by
    intro j b hj
    obtain ⟨en, he, hg⟩ := hG.pairs j b hj
    obtain ⟨hjl, _⟩ := List.getElem?_eq_some_iff.mp hj
    have hkj : ks[j]? = some (ks[j]'(by omega)) := List.getElem?_eq_getElem (by omega)
    have hvj : vs[j]? = some (vs[j]'(by omega)) := List.getElem?_eq_getElem (by omega)
    obtain ⟨e1, e2⟩ := hprs.get? (e := en) (by rw [Array.getElem?_toList]; exact he) (show vs[j]? = some ((vs[j]'(by omega)).1, (vs[j]'(by omega)).2) from hvj)
    obtain ⟨x, hx1, hx2⟩ := KV.at' rel (show vs[j]? = some ((vs[j]'(by omega)).1, (vs[j]'(by omega)).2) from hvj)
    rw [List.getElem?_map, hkj] at hx1
    have e3 := Option.some.inj hx1
    have e4 : Sum.inl (ks[j]'(by omega)).1 = (vs[j]'(by omega)).1 := congrArg Prod.fst e3
    have e5 : V.int (ks[j]'(by omega)).2 = x := congrArg Prod.snd e3
    subst e5
    obtain ⟨t2, e6⟩ := hx2
    rw [← e4] at e1
    rcases keyIs_shape (show keyIs (Sum.inl (ks[j]'(by omega)).1) en.key = true from e1) with ⟨i, t, ek, ev⟩ | ⟨z, t, ek, ev⟩
    · cases ek
      refine ⟨_, t, t2, hkj, ?_⟩
      rw [hg, ev, e2, e6]
    · cases ek
  have hob : (h'.push { cls := .type "list", data := .seq (as.map Value.ref).toArray }).get? h'.objs.size = some (seqObj "list" (as.map Value.ref).toArray 0) := Heap.get?_push_size _ rfl
  have kb : ∀ b o, s.heap.get? b = some o → (h'.push { cls := .type "list", data := .seq (as.map Value.ref).toArray }).get? b = some o := fun b o e => Heap.get?_push_of_some _ (hk b o e)
  have ne0 : ∀ b o, h'.get? b = some o → b ≠ h'.objs.size := fun b o e => Nat.ne_of_lt (Heap.lt_size e)
  generalize hh2 : h'.push { cls := .type "list", data := .seq (as.map Value.ref).toArray } = h2 at hob kb ⊢
  have ka : ∀ b o, h'.get? b = some o → h2.get? b = some o := fun b o e => by rw [← hh2]; exact Heap.get?_push_of_some _ e
  have at_ : ∀ v ∈ as.map Value.ref, ∃ (j : Nat) (b : Addr), v = .ref b ∧ as[j]? = some b := by
    intro v hv'
    obtain ⟨b, hb, rfl⟩ := List.mem_map.mp hv'
    obtain ⟨j, hj⟩ := List.mem_iff_getElem?.mp hb
    exact ⟨j, b, rfl, hj⟩
  have isp : ∀ v ∈ as.map Value.ref, Srt.IsPair h2 v (pairOf as ks v).1 (pairOf as ks v).2 := by
    intro v hv'
    obtain ⟨j, b, rfl, hj⟩ := at_ v hv'
    obtain ⟨e, t1, t2, he, hg⟩ := pr j b hj
    rw [pairOf_at nd hj he]
    exact ⟨b, _, t1, t2, _, rfl, ka _ _ hg, rfl, rfl⟩
  have hz2 : (as.map Value.ref).length ≤ sizeLine := by rw [List.length_map]; omega
  refine wpAny_call_entry PyProof.Rows.slot_list_sort ⟨_, hob, rfl⟩ PyProof.Rows.entry_list_sort
    (SrtO.list_sort_ord (s := { s with heap := h2, toks := tk }) (SrtO.swo_lex (pairOf as ks)) hob hz2 (fun h2' => SrtO.pairs_sortableO (s := { s with heap := h2, toks := tk }) (by omega) isp fun o e => ?_) fun out o1 o2 => ⟨.none, rfl, ?_⟩) (PyProof.Rows.args_list_sort _)
  · have e' : some o = some (seqObj "list" (as.map Value.ref).toArray 0) := e.symm.trans hob
    cases e'
    intro c
    exact absurd (Value.type.inj c) (by decide)
  · show EP X pins σ Q (.ref h'.objs.size) { s with heap := sortedHeap h2 h'.objs.size (as.map Value.ref) out.toArray, toks := tk }
    have rfs : ∀ v ∈ out, ∃ b, v = Value.ref b := fun v hv => by
      obtain ⟨_, b, e, _⟩ := at_ v (o2.perm.mem_iff.mp hv)
      exact ⟨b, e⟩
    have eo := adOf_ref rfs
    have pz : (out.map adOf).Perm as := by
      have e := o2.perm.map adOf
      rw [adOf_map] at e
      exact e
    generalize hzs : out.map adOf = zs at eo pz
    have hall := pairOf_all nd lak
    have hperm : (zs.map fun b => pairOf as ks (.ref b)).Perm ks := by
      have e := pz.map fun b => pairOf as ks (.ref b)
      rw [hall] at e
      exact e
    have hsort : (zs.map fun b => pairOf as ks (.ref b)).Pairwise (fun e f => e.1 ≤ f.1) := by
      rw [eo] at o1
      have o3 := List.pairwise_map.mp (show ((zs.map Value.ref).Pairwise fun x y => SrtO.lexB (pairOf as ks y) (pairOf as ks x) = false) from o1)
      refine List.pairwise_map.mpr (o3.imp fun {x y} h => ?_)
      have h' := SrtO.lexB_no.mp h
      omega
    -- behind the sort
    have kF : ∀ b o, b ≠ h'.objs.size → h2.get? b = some o → (sortedHeap h2 h'.objs.size (as.map Value.ref) out.toArray).get? b = some o := fun b o hb e => (PyProof.Rows.sortedHeap_old hb (Heap.lt_size e)).trans e
    have kS : ∀ b o, s.heap.get? b = some o → (sortedHeap h2 h'.objs.size (as.map Value.ref) out.toArray).get? b = some o := fun b o e => kF b o (ne0 _ _ (hk b o e)) (kb b o e)
    obtain ⟨eF, heF⟩ := PyProof.Rows.sortedHeap_at (vs := as.map Value.ref) (out := out.toArray) hob
    have I1 : Inv X pins σ H { s with heap := sortedHeap h2 h'.objs.size (as.map Value.ref) out.toArray, toks := tk } := I.kept (t' := tk) kS
    have hn0 : H h'.objs.size = none := I.hok.fresh (Nat.le_of_lt hlt)
    have hlen : (zs.map fun z => V.ref z).length ≤ sizeLine := by
      have e := hperm.length_eq
      rw [List.length_map] at e
      rw [List.length_map]
      omega
    have rv : Vals (zs.map fun z => V.ref z) out := by
      rw [eo]
      exact vals_maps (fun z : Addr => V.ref z) (fun z => Value.ref z) zs fun _ _ => rfl
    have I2 : Inv X pins σ (upd H h'.objs.size (.lst (zs.map fun z => V.ref z))) { s with heap := sortedHeap h2 h'.objs.size (as.map Value.ref) out.toArray, toks := tk } :=
      I1.take (h' := sortedHeap h2 h'.objs.size (as.map Value.ref) out.toArray) (t' := tk) (fun b ob _ e => e) (I.fpOk (Nat.le_of_lt hlt) hn0) ⟨hlen, out, eF, rv, heF⟩
    obtain ⟨H2, I3, g, qt⟩ := takeT (P := fun b vs => vs = [V.int (pairOf as ks (.ref b)).1, V.int (pairOf as ks (.ref b)).2]) I as _ I2 nd fun b hb => by
      obtain ⟨j, hj⟩ := List.mem_iff_getElem?.mp hb
      obtain ⟨e, t1, t2, he, hg⟩ := pr j b hj
      have hbl : s.heap.objs.size ≤ b := Nat.le_of_lt (hG.above b hb)
      refine ⟨hbl, ?_, _, rfl, fun H3 => ⟨(by rw [sizeLine_eq]; show 2 ≤ 16777216; omega), [Value.int e.1 t1, Value.int e.2 t2], ?_, ⟨_, kF _ _ (ne0 _ _ hg) (ka _ _ hg), rfl, 0, rfl⟩⟩⟩
      · rw [upd_ne (ne0 _ _ hg)]
        exact I.hok.fresh hbl
      · rw [pairOf_at nd hj he]
        exact .cons ⟨t1, rfl⟩ (.cons ⟨t2, rfl⟩ .nil)
    have gr : ∀ b o, H b = some o → H2 b = some o := fun b o e => g b o (by rw [upd_ne (ne_of_none e hn0)]; exact e)
    have em : (zs.map fun b => (b, pairOf as ks (.ref b))).map (·.2) = zs.map fun b => pairOf as ks (.ref b) := by
      rw [List.map_map]
      all_goals rfl
    have em1 : ((zs.map fun b => (b, pairOf as ks (.ref b))).map fun z => V.ref z.1) = zs.map fun z => V.ref z := by
      rw [List.map_map]
      all_goals rfl
    refine ⟨.ref h'.objs.size, H2, I3, rfl, q H2 h'.objs.size (zs.map fun b => (b, pairOf as ks (.ref b))) gr (by rw [em]; exact hperm) (by rw [em]; exact hsort) (by rw [em1]; exact g _ _ upd_same) (fun z' hz' => ?_) hn0 fun z' hz' => ?_⟩
    · obtain ⟨b, hb, rfl⟩ := List.mem_map.mp hz'
      obtain ⟨vs', ev, hH⟩ := qt b (pz.mem_iff.mp hb)
      rw [ev] at hH
      exact hH
    · obtain ⟨b, hb, rfl⟩ := List.mem_map.mp hz'
      exact I.hok.fresh (Nat.le_of_lt (hG.above b (pz.mem_iff.mp hb)))
end Lp
set_option Elab.async false
set_option linter.all false
set_option maxRecDepth 100000
set_option maxHeartbeats 1000000
namespace Lp
open PySem PySem.Spec PyProof.Rows L2
/-! ### y not in x: by __contains__ of an own class -/
section
variable {X : Cx} {k j : Nat} {C : Addr} {sp : Sp}
theorem pc_notinO {i o : Expr} {ty td : TE} (c : Met X.prog X.w X.K X.mg X.base k C "__contains__" sp) (hr : Room j X.A) (hk : k ≤ j) (hi : PE X i ty) (ho : PE X o td) : PC X .NotIn i o (tInO C sp ty td true) := by
  obtain ⟨f, fd, ps, hc, hm, F, b⟩ := c.ex
  refine ⟨fun pins s σ H Q I h => ?_⟩
  refine thn (hi.run pins s σ H _ I h) fun iv s1 ⟨y, H1, I1, ry, q1⟩ => thn (ho.run pins s1 σ H1 _ I1 q1) fun u s2 ⟨x, H2, I2, rx, a, dx, fs, ex, ea, q2⟩ => ?_
  subst ex
  cases (show u = Value.ref a from rx)
  obtain ⟨ox, od, J⟩ := inst_of I2 ea
  refine wpAny_bind ?_
  unfold contains
  refine wpAny_holding (wpAny_bind (wpAny_bind (J.type.here ((PySem.W.looks_findIn I2.kIn hm.at_).here ?_))))
  rw [if_neg (by simp)]
  refine wpAny_bind (PySem.W.unlessNone_K I2.kIn J hm.at_ hm.fn (wpAny_mono (run_at (vs := [.ref a, y]) F (hr.mono hk) b I2 I2.env0 (.cons rfl (.cons ry .nil)) q2) (fun v s' hv => ?_) fun _ _ z => z))
  obtain ⟨v, H', I', rv, b', rfl, hq⟩ := hv
  cases rv
  refine wpAny_of_eq (a := b') (by first | rfl | simp [truthy]) ?_
  exact wpAny_pure ⟨.bl (!b'), H', I', rfl, hq⟩
end
end Lp
set_option Elab.async false
set_option linter.all false
set_option maxRecDepth 100000
set_option maxHeartbeats 1000000
namespace Lp
open PySem PySem.Spec PyProof.Rows L2 L2.DX
/-! ### x(e, ..) and x(k = e) of an instance, by __call__; x any expression -/
structure MetK (P : Program) (w : World) (K : PySem.W.Frag) (mg : Str → Option Value) (base : Heap) (k : Nat) (C : Addr) (m : Str) (n : Nat) (ks : List Str) (gV : List V → List V → List V) (sp : Sp) : Prop where
  ex : ∃ (f : Addr) (fd : FuncData) (ps : List Str) (g : List Value → List Value → List Value), Cls K C ∧ Meth K C m f ∧ FnOk P w K mg base CX0 k f fd ps sp ∧ KBn K fd ps n ks g gV
section
variable {X : Cx} {k j : Nat} {C : Addr} {sp : Sp} {p pos : Pos} {fe e : Expr} {es : List Expr} {t tk' : TA} {tf : TE} {kws : List Keyword} {ks : List Str} {gV : List V → List V → List V}
def tCallE (C : Addr) (sp : Sp) (tf : TE) (t : TA) : TE := fun σ H Q => tf σ H fun x H1 => ∃ a : Addr, x = .ref a ∧ t σ H1 fun vs H2 => ∃ (dx : Addr) (fs : List (Str × V)), H2 a = some (.ins C dx fs) ∧ sp (.ref a :: vs) H2 Q E0
theorem pe_callE (c : Met X.prog X.w X.K X.mg X.base k C "__call__" sp) (fi : ∀ f, PySem.W.findIn X.K (.ref C) "__call__" = some (some (.ref f)) → PySem.W.fnIn X.K f = true) (hr : Room j X.A) (hk : k ≤ j) (hf : PE X fe tf) (ha : PA X (e :: es) t)
    (hc : eval (.Call fe (e :: es) [] pos) X.env = (do callWith pos (← eval fe X.env) [] (backTo pos (starEach (e :: es) X.env)) (backToKw pos (keywordEach [] X.env))) := by rfl)
    (he : starEach (e :: es) X.env = (false, eval e X.env) :: starEach es X.env := by rfl) (hpl : (backTo pos (starEach es X.env)).any (·.1) = false := by rfl) : PE X (.Call fe (e :: es) [] pos) (tCallE C sp tf t) := by
  obtain ⟨f, fd, ps, hc', hm, F, b⟩ := c.ex
  refine ⟨fun pins s σ H Q I h => ?_⟩
  refine Call_ (thn (hf.run pins s σ H _ I h) fun u s1 ⟨v, H1, I1, r1, a, ev, ht⟩ => ?_) hc
  subst ev
  cases (show u = Value.ref a from r1)
  have go := ha.run pos pins s1 σ _ _ I1 ht
  rw [he] at go ⊢
  refine callWith_obj (by show ((false || (backTo pos (starEach es X.env)).any (·.1)) || false) = false; rw [hpl]; rfl) (Calls.evalArgs_plain ?_)
  refine thn go fun us s2 ⟨vs, H2, I2, r, dx, fs, ea, q⟩ => ?_
  obtain ⟨ox, od, J, hd⟩ := inst_plain I2 ea
  refine ⟨⟨C, ox, od, J, hd⟩, ?_⟩
  have rr : Vals (.ref a :: vs) (.ref a :: us) := .cons rfl r
  have hl : (Value.ref a :: us).length = ps.length := by rw [← rr.length]; exact F.len _ _ _ _ q
  have bd := b s2 (.ref a :: us) I2.kIn (by rw [List.append_nil]; exact hl)
  rw [List.append_nil] at bd
  refine wpAny_call (PySem.W.kco_code I2.kIn J hd hm.at_ hm.fn (fi f hm.at_) (codeAny_mono (F.run X.A X.stack s2 H2 ⟨.ref a :: us, []⟩ (.ref a :: us) (.ref a :: vs) Q E0 (hr.mono hk) I2.env0 bd rr q) fun r s' hq => ?_))
  cases r with
  | error e => exact hq.elim
  | ok fl =>
    cases fl with
    | ret u => exact I2.after hq
    | next => exact False.elim hq
    | brk => exact False.elim hq
    | cont => exact False.elim hq
def tCallEK (C : Addr) (m : Nat) (sp : Sp) (gV : List V → List V → List V) (tf : TE) (t : TA) : TE := fun σ H Q => tf σ H fun x H1 => ∃ a : Addr, x = .ref a ∧ t σ H1 fun zs H2 => ∃ (dx : Addr) (fs : List (Str × V)), zs.length = m ∧ H2 a = some (.ins C dx fs) ∧ sp (gV [.ref a] zs) H2 Q E0
theorem pe_callEK (c : MetK X.prog X.w X.K X.mg X.base k C "__call__" 1 ks gV sp) (fi : ∀ f, PySem.W.findIn X.K (.ref C) "__call__" = some (some (.ref f)) → PySem.W.fnIn X.K f = true) (hr : Room j X.A) (hk : k ≤ j) (hf : PE X fe tf) (hkw : PK X kws tk')
    (hc : eval (.Call fe [] kws pos) X.env = (do callWith pos (← eval fe X.env) [] (backTo pos (starEach [] X.env)) (backToKw pos (keywordEach kws X.env))) := by rfl)
    (hall : (backToKw pos (keywordEach kws X.env)).all (·.1.isSome) = true := by rfl) (hks : (backToKw pos (keywordEach kws X.env)).filterMap (·.1) = ks := by rfl)
    (hpl : ((backTo pos (starEach [] X.env)).any (·.1) || (backToKw pos (keywordEach kws X.env)).any (·.1.isNone)) = false := by rfl) : PE X (.Call fe [] kws pos) (tCallEK C ks.length sp gV tf tk') := by
  obtain ⟨f, fd, ps, g, hc', hm, F, b⟩ := c.ex
  refine ⟨fun pins s σ H Q I h => ?_⟩
  rw [hc]
  refine wpAny_bind (thn (hf.run pins s σ H _ I h) fun u s1 ⟨v, H1, I1, r1, a, ev, ht⟩ => ?_)
  subst ev
  cases (show u = Value.ref a from r1)
  refine callWith_obj hpl (evalArgs_kw2_nil hall ?_)
  refine thn (hkw.run pos pins s1 σ _ _ I1 ht) fun ws s2 ⟨zs, H2, I2, rz, dx, fs, lz, ea, q⟩ => ?_
  obtain ⟨ox, od, J, hd⟩ := inst_plain I2 ea
  refine ⟨⟨C, ox, od, J, hd⟩, ?_⟩
  have r0 : Vals [.ref a] [Value.ref a] := .cons rfl .nil
  have rr := b.rel r0 rz
  have bd := b.to s2 [.ref a] ws I2.kIn rfl (rz.length.symm.trans lz)
  rw [hks]
  refine wpAny_call (PySem.W.kco_code I2.kIn J hd hm.at_ hm.fn (fi f hm.at_) (codeAny_mono (F.run X.A X.stack s2 H2 ⟨[.ref a], ks.zip ws⟩ (g [.ref a] ws) (gV [.ref a] zs) Q E0 (hr.mono hk) I2.env0 bd rr q) fun r s' hq => ?_))
  cases r with
  | error e => exact hq.elim
  | ok fl =>
    cases fl with
    | ret u => exact I2.after hq
    | next => exact False.elim hq
    | brk => exact False.elim hq
    | cont => exact False.elim hq
end
/-! ### d.values() and list(d.values()) -/
def valsO (p d : Addr) : HO := .ext fun h => h.IsValuesView p d
theorem valsO_ok {P : Program} {w : World} {H : Hp} {h : Heap} {p d : Addr} (e : h.get? p = some { cls := .type "dict_values", data := .fields #[.ref d] }) : ObjOk P w H h p (valsO p d) :=
  ⟨⟨_, e, rfl, rfl⟩, ⟨_, e⟩, fun h1 h2 x k => let ⟨o, ho, r⟩ := x; ⟨o, k o ho, r⟩⟩
def rValuesI : V → List V → Hp → VK → Prop := fun x xs H Q => ∃ (a : Addr) (kvs : List (L2.Key × V)), x = .ref a ∧ xs = [] ∧ H a = some (.dK kvs) ∧ ∀ p, H p = none → Q (.ref p) (upd H p (valsO p a))
theorem mt_valuesI {X : Cx} : MtR X "dict.values" rValuesI := by
  intro pins s σ H x xs v us Q I rx rxs h
  obtain ⟨a, kvs, rfl, rfl, ha, q⟩ := h
  cases rx
  cases rxs
  obtain ⟨z, hd, vs, rel, dof⟩ := dk_of I.hok ha
  obtain ⟨ep, dat⟩ := dof.dictAt
  obtain ⟨ob, es, ho, ex, hdat, hko, hpr, hnd⟩ := id dat
  refine call_meetsIn PySem.F.slot_dict_values ⟨ob, ho, ex.1⟩ PySem.F.entry_dict_values (PySem.F.args_dict_values_1 _) (meets_dict_values (mixKind X.prog X.w) a hd) ⟨⟨vs, dof⟩, ?_⟩
  have hf : H s.heap.objs.size = none := I.hok.fresh (Nat.le_refl _)
  exact ⟨.ref s.heap.objs.size, upd H s.heap.objs.size (valsO s.heap.objs.size a), I.laid (t' := s.toks) (fun b u e => Heap.get?_push_of_some _ e) (Nat.le_refl _) (valsO_ok (Heap.get?_push_size _ rfl)), rfl, q _ hf⟩
def rListVals : List V → Hp → VK → Prop := fun xs H Q => ∃ (p a : Addr) (kvs : List (L2.Key × V)), xs = [.ref p] ∧ H p = some (valsO p a) ∧ H a = some (.dK kvs) ∧ ∀ q, H q = none → Q (.ref q) (upd H q (.lst (kvs.map (·.2))))
theorem call_listVals {X : Cx} (hc : X.calm = true) : CallR X (.type "list") rListVals := by
  intro pins s σ H xs us Q I r h
  obtain ⟨p, a, kvs, e, hp, hk, q⟩ := h
  subst e
  obtain ⟨u, eu, rx⟩ := vals1 r
  subst eu
  obtain rfl : u = Value.ref p := rx
  have view : s.heap.IsValuesView p a := (show ObjOk X.prog X.w H s.heap p (valsO p a) from I.hok p _ hp).1
  obtain ⟨z, lo, vs, rk, hd⟩ := (show ObjOk X.prog X.w H s.heap a (.dK kvs) from I.hok a _ hk)
  obtain ⟨ep, hat⟩ := hd.dictAt
  have hl : kvs.length = vs.length := Paired.length rk
  refine PySem.W.kdl_call (PySem.W.kdl_values (knd := mixKind X.prog X.w) (kvs := vs) (ep := ep)) (I.ok.hd hc) ⟨view, hat⟩ (by rw [← hl]; exact z) fun h' tk acc' c' hkeep hS hacc => ?_
  refine ⟨.ref s.heap.objs.size, upd H s.heap.objs.size (.lst (kvs.map (·.2))), I.laid hkeep (Nat.le_refl _) (show ObjOk X.prog X.w _ _ _ (.lst (kvs.map (·.2))) from ⟨?_, acc'.toList, c', ?_, ?_⟩), rfl, q _ (I.hok.fresh (Nat.le_refl _))⟩
  · rw [List.length_map]; exact z
  · have el : acc'.toList.length = acc'.size := by simp
    refine vals_of_at (by rw [List.length_map, el, hacc.1, hl]) fun j x w h1 h2 => ?_
    obtain ⟨k, hky⟩ := hacc.2 j w (by rw [← Array.getElem?_toList]; exact h2)
    obtain ⟨y, e1, e2⟩ := KV.at' rk hky
    rw [List.getElem?_map, e1] at h1
    cases h1
    exact e2
  · rw [Array.toArray_toList]; exact hS
end Lp
set_option Elab.async false
set_option linter.all false
set_option maxRecDepth 100000
set_option maxHeartbeats 1000000
namespace Lp
open PySem PySem.Spec PyProof.Rows L2
/-! ### set(xs) and sorted(set(xs)) of ints, any number of them -/
def rSetLG (K : PySem.W.Frag) (w : World) : List V → Hp → VK → Prop := fun xs H Q => ∃ (a : Addr) (ns : List Int), xs = [V.ref a] ∧ SqL K H a (ns.map V.int) ∧ ns.length ≤ 1000 ∧ ∀ (p : Addr) (c : Nat), H p = none → c ≤ ns.length → Q (.ref p) (upd H p (SetO w p (fun j => decide (j ∈ ns)) c))
theorem cr_setLG {X : Cx} (hc : X.calm = true) : CallR X (.type "set") (rSetLG X.K X.w) := by
  intro pins s σ H xs us Q I r h
  obtain ⟨a, ns, rfl, hq, hl, q⟩ := h
  cases r with
  | cons r rr =>
    cases rr
    cases (show _ = Value.ref a from r)
    obtain ⟨its, rv, p, _⟩ := I.list hq
    refine call_set_listI ns (I.ok.hd hc) p.isList (RZ.intsAre_vals rv) (Nat.lt_of_le_of_lt (Nat.succ_le_succ hl) (by decide)) fun h' tk c hs hcn hk => ?_
    refine ⟨.ref _, upd H _ (SetO X.w s.heap.objs.size (fun j => decide (j ∈ ns)) c), I.laid hk (Nat.le_refl _) ⟨hs, ?_, fun h1 h2 x k => ?_⟩, rfl, q _ c (I.hok.fresh (Nat.le_refl _)) hcn⟩
    · obtain ⟨o, _, _, _, e, _⟩ := hs
      exact ⟨o, e⟩
    · obtain ⟨o, es, ep, t, e, r⟩ := x
      exact ⟨o, es, ep, t, k o e, r⟩
section
variable {P : Program} {w : World} {A : Around} {E : Value → Shared → Prop} {s : Shared} {a : Addr}
theorem sorted_setG {S : Int → Bool} {n : Nat} {Q : Value → Shared → Prop} (R : SetR w s.heap a S n) (hh : A.handled = none) (hn : n ≤ 100000)
    (hQ : ∀ s' p (out : Array Value) (c : Nat) (ns : List Int), (∀ b o, s.heap.get? b = some o → s'.heap.get? b = some o) → s'.gens = s.gens → s'.os = s.os → s.heap.objs.size ≤ p →
      s'.heap.get? p = some (seqObj "list" out c) → IntsAre out.toList ns → ns.Pairwise (· ≤ ·) → ns.Nodup → (∀ k, k ∈ ns ↔ S k = true) → ns.length = n → Q (.ref p) s') :
    wpAny (model P w) A (call (.builtin "sorted") [.ref a]) Q E s := by
  obtain ⟨o, es, ep, t, ho, hex, hd, g, nd, hm, hb, hf, hn', hr, hl⟩ := R
  refine Calls.call_function_entry PyProof.Rows.kind_sorted PyProof.Rows.plain_sorted PyProof.Rows.entry_sorted (PyProof.Rows.args_sorted1 _) ?_
  unfold Builtin.«sorted»
  refine wpAny_bind (m := checkCount "sorted" 1 1 _) (wpAny_pure ?_)
  refine wpAny_bind (collect_set (A := A.in1) hh ⟨o, ho, hex.1, hd⟩ hf hb hr hl fun s1 vs k1 hz g1 o1 pm => ?_)
  have hvl : vs.length = n := by rw [pm.length_eq, List.length_map, Array.length_toList]; exact hn'
  have hI : IntsAre vs (vs.map Builtin.Re.reRawOf) := ints_of vs fun v hv => by
    obtain ⟨e, he, q⟩ := List.mem_map.mp (pm.mem_iff.mp hv)
    obtain ⟨k, tk, h1, _⟩ := g e he
    exact ⟨k, tk, by rw [← q]; exact h1⟩
  have pk : (vs.map Builtin.Re.reRawOf).Perm (es.toList.map keyOf) := by
    have q := pm.map Builtin.Re.reRawOf
    rw [List.map_map] at q
    exact q
  have hz2 : vs.length ≤ sizeLine := by rw [hvl]; exact zs hn
  refine wpAny_bind (wpAny_newList ?_ hz2)
  have hoL : (s1.heap.push (seqObj "list" vs.toArray 0)).get? s1.heap.objs.size = some (seqObj "list" vs.toArray 0) := Heap.get?_push_size _ rfl
  refine wpAny_bind (wpAny_holding (wpAny_call_entry PyProof.Rows.slot_list_sort ⟨_, hoL, rfl⟩ PyProof.Rows.entry_list_sort
    (SrtO.list_sort_ord SrtO.swo_int hoL hz2 (fun h2 => SrtO.ints_sortable hI h2) fun out g1' g2 => ⟨_, rfl, ?_⟩) (PyProof.Rows.args_list_sort _)))
  obtain ⟨q1, q2, q3⟩ := SrtO.ints_out hI g1' g2
  obtain ⟨c, hc⟩ := PyProof.Rows.sortedHeap_at (vs := vs) (out := out.toArray) hoL
  have pn : (out.map SrtO.iv).Perm (es.toList.map keyOf) := q2.trans pk
  refine wpAny_pure ⟨_, rfl, hQ _ s1.heap.objs.size out.toArray c (out.map SrtO.iv) (fun b u e => ?_) g1 o1 hz hc (by simpa using q1) q3 (pn.nodup_iff.mpr nd) (fun k => by rw [pn.mem_iff, ← hm k]) ?_⟩
  · have q := k1 b u e
    have hlt := Heap.lt_size q
    show (PyProof.Rows.sortedHeap (s1.heap.push (seqObj "list" vs.toArray 0)) s1.heap.objs.size vs out.toArray).get? b = some u
    rw [PyProof.Rows.sortedHeap_old (Nat.ne_of_lt hlt) (by rw [size_push']; exact Nat.lt_succ_of_lt hlt)]
    exact Heap.get?_push_of_some _ q
  · rw [pn.length_eq, List.length_map, Array.length_toList]; exact hn'
end
section
variable {X : Cx}
def rSortedSetG (w : World) : List V → Hp → VK → Prop := fun vs H Q => ∃ (a : Addr) (S : Int → Bool) (n : Nat), vs = [V.ref a] ∧ H a = some (SetO w a S n) ∧ n ≤ 100000 ∧
  ∀ (ns : List Int) (p : Addr), ns.Pairwise (· ≤ ·) → ns.Nodup → (∀ k : Int, k ∈ ns ↔ S k = true) → H p = none → Q (.ref p) (upd H p (.lst (ns.map V.int)))
theorem cr_sortedSetG (hc : X.calm = true) : CallR X (.builtin "sorted") (rSortedSetG X.w) := by
  intro pins s σ H vs us Q I r h
  obtain ⟨a, S, n, rfl, ha, h64, q⟩ := h
  have R := setO_get I ha
  rw [Vals.ref1 r]
  refine sorted_setG R (I.ok.hd hc) h64 fun s' p out c ns k g o hp hg hi hs hnd hm hl => ?_
  have hlen : (ns.map V.int).length ≤ sizeLine := by rw [List.length_map, hl]; exact zs h64
  have hn : H p = none := I.hok.fresh hp
  have J : Inv X pins σ (upd H p (.lst (ns.map V.int))) { s with heap := s'.heap, gens := s'.gens, drawn := s'.drawn, toks := s'.toks } :=
    I.call (ch := []) (Un.laid k hp hn) (I.hok.laid k hp ⟨hlen, out.toList, c, vals_of_ints hi, hg⟩) (by rw [g]; exact I.bare) (fun _ z => nomatch z)
  have e : s' = { s with heap := s'.heap, gens := s'.gens, drawn := s'.drawn, toks := s'.toks } := by
    cases s'
    cases s
    cases o
    rfl
  rw [e]
  exact ⟨.ref p, _, J, rfl, q ns p hs hnd hm hn⟩
end
end Lp
set_option Elab.async false
set_option linter.all false
set_option maxRecDepth 100000
set_option maxHeartbeats 1000000
namespace Lp
open PySem PySem.Spec PyProof.Rows L2
/-! ### a != b of two instances whose class has __eq__ alone -/
theorem one_bind (self : Value) : bindSpecial (.builtin "object.__ne__") self = pure (.builtin "object.__ne__", [self]) :=
  (Slot.of (T := "object") (name := "__ne__") (owner := "object") (n := "__ne__") (by rw [typeLookup_type, builtinLookup_eq_fast]; kernel_rfl) (by decide +kernel) (by decide +kernel) (by decide +kernel)
    (.inl (by decide +kernel)) (by rw [isSubtype_type]; kernel_rfl)).bind self
theorem ifBound_ne {M : Model} {A : Around} {E : Value → Shared → Prop} {s : Shared} {K : PySem.W.Frag} {x C : Addr} {ox : Obj} {od : Option Obj} {args : List Value} {Q : Option Value → Shared → Prop} (X : K.In s.heap) (I : PySem.W.InstAt s.heap x ox C od) (hs : PySem.W.findIn K (.ref C) "__ne__" = some (some (.builtin "object.__ne__")))
    (h : wpAny M A (call (.builtin "object.__ne__") (.ref x :: args)) (fun v => Q (some v)) E s) : wpAny M A (callSpecialIfBound? (.ref x) "__ne__" args) Q E s := by
  simp only [callSpecialIfBound?, bindSpecialIfBound?]
  refine wpAny_holding (wpAny_bind (wpAny_bind (wpAny_bind (I.type.here ((PySem.W.looks_findIn X hs).here ?_)))))
  refine wpAny_bind (wpAny_askSetting (wpAny_ite ?_))
  have fin : wpAny M A (call (.builtin "object.__ne__") ([.ref x] ++ args) >>= fun v => pure (some v)) Q E s := wpAny_bind (wpAny_mono h (fun v s' h' => wpAny_pure h') fun _ _ h' => h')
  have bnd : PySem.W.Looks M s.heap (bindSpecial (.builtin "object.__ne__") (.ref x)) (.builtin "object.__ne__", [.ref x]) := PySem.W.Looks.of_pure (one_bind _)
  split
  · exact wpAny_bind (bnd.here (wpAny_pure (by exact fin)))
  · exact wpAny_tryCatch (wpAny_bind (bnd.here (wpAny_pure (by exact fin))))
theorem ne_entry {prog : Program} {w : World} {A : Around} {E : Value → Shared → Prop} {s : Shared} {K : PySem.W.Frag} {x C f : Addr} {ox : Obj} {od : Option Obj} {b : Value} {Q : Value → Shared → Prop} (hu : A.in1.units < cLine) (X : K.In s.heap) (I : PySem.W.InstAt s.heap x ox C od)
    (hob : PySem.W.subIn K (.ref C) (.type "object") = some true) (at_ : PySem.W.findIn K (.ref C) "__eq__" = some (some (.ref f))) (isf : PySem.W.isFn K (.ref f) = true)
    (go : wpAny (model prog w) A.in1 (call (.ref f) [.ref x, b]) (fun v s' => ∃ c, v = .bool c ∧ Q (.bool (!c)) s') E s) : wpAny (model prog w) A (call (.builtin "object.__ne__") [.ref x, b]) Q E s := by
  have hi : PySem.W.Looks (model prog w) s.heap (isInstance (.ref x) (.type "object")) true := I.type.andThen (PySem.W.looks_subIn X hob)
  refine wpAny_call (codeAny_call_builtin (by decide +kernel) F.cmpEntry_ne (PySem.W.check_slot F.cmpKind_ne F.cmpSplit_ne hi (F.cmpArgs_ne _ _) ?_))
  unfold Builtin.«object.__ne__»
  refine wpAny_bind (m := slotArgs "__ne__" 1 _) (wpAny_of_eq (a := ((Value.ref x : Value), [b])) (by first | rfl | (simp only [slotArgs]; rfl)) ?_)
  refine wpAny_bind (wpAny_cRoomFor hu ?_)
  refine wpAny_bind (m := callSpecialIfBound? (.ref x) (Str.ofString "__eq__") [b]) (PySem.W.ifBound_K X I at_ isf (wpAny_mono go (fun v s' hv => ?_) fun _ _ z => z))
  obtain ⟨c, rfl, hq⟩ := hv
  show wpAny (model prog w) A.in1 (truthy (.bool c) >>= fun b => ret (Value.bool !b)) _ E s'
  exact wpAny_bind (wpAny_of_eq (a := c) (by first | rfl | simp [truthy]) (wpAny_pure hq))
theorem ne_own {prog : Program} {w : World} {A : Around} {E : Value → Shared → Prop} {s : Shared} {K : PySem.W.Frag} {x C f : Addr} {ox : Obj} {od : Option Obj} {b tb : Value} {Q : Value → Shared → Prop} (hu : A.units < cLine) (hu1 : A.in1.units < cLine) (X : K.In s.heap) (I : PySem.W.InstAt s.heap x ox C od) (tyb : PySem.W.Looks (model prog w) s.heap (typeOf b) tb)
    (nf : PySem.W.notFirst K C tb = true) (hne : PySem.W.findIn K (.ref C) "__ne__" = some (some (.builtin "object.__ne__"))) (hob : PySem.W.subIn K (.ref C) (.type "object") = some true) (at_ : PySem.W.findIn K (.ref C) "__eq__" = some (some (.ref f))) (isf : PySem.W.isFn K (.ref f) = true)
    (go : wpAny (model prog w) A.in1 (call (.ref f) [.ref x, b]) (fun v s' => ∃ c, v = .bool c ∧ Q (.bool (!c)) s') E s) : wpAny (model prog w) A (richCompare .NotEq (.ref x) b) Q E s := by
  have mine : wpAny (model prog w) A (tryCompare (.ref x) (cmpInfo .NotEq).2.1 b) (fun r s' => ∃ v, r = some v ∧ Q v s') E s := by
    show wpAny (model prog w) A (tryCompare (.ref x) "__ne__" b) _ E s
    unfold tryCompare
    have ent : wpAny (model prog w) A (call (.builtin "object.__ne__") [.ref x, b]) (fun v s' => ∃ c, v = .bool c ∧ Q (.bool c) s') E s :=
      ne_entry (Q := fun v s' => ∃ c, v = .bool c ∧ Q (.bool c) s') hu1 X I hob at_ isf (wpAny_mono go (fun v s' hv => by
        obtain ⟨c, rfl, hq⟩ := hv
        exact ⟨c, rfl, !c, rfl, hq⟩) fun _ _ z => z)
    refine wpAny_bind (ifBound_ne X I hne (wpAny_mono ent (fun v s' hv => ?_) fun _ _ z => z))
    obtain ⟨c, rfl, hq⟩ := hv
    exact wpAny_pure ⟨_, rfl, hq⟩
  have last : ∀ {g : Option Value → Sem Value}, (∀ v, g (some v) = pure v) → wpAny (model prog w) A (tryCompare (.ref x) (cmpInfo .NotEq).2.1 b >>= g) Q E s := fun {g} hg => wpAny_bind (wpAny_mono mine (fun r s' ⟨v, er, hq⟩ => by rw [er, hg]; exact wpAny_pure hq) fun _ _ z => z)
  unfold richCompare
  simp only [oneThing_ref]
  refine wpAny_holding (wpAny_bind (wpAny_cRoomFor hu ?_))
  refine wpAny_bind (I.type.here (wpAny_bind (tyb.here ?_)))
  split
  · rename_i q
    have sb : PySem.W.subIn K tb (.ref C) = some false := by
      rcases Bool.or_eq_true_iff.mp nf with z | z
      · rw [beq_iff_eq.mp z] at q
        simp at q
      · exact beq_iff_eq.mp z
    refine wpAny_bind ((PySem.W.looks_subIn X sb).here ?_)
    simp only [Bool.false_eq_true, if_false]
    exact last fun v => rfl
  · refine wpAny_bind (wpAny_pure ?_)
    simp only [Bool.false_eq_true, if_false]
    exact last fun v => rfl
section
variable {X : Cx} {k j : Nat} {C : Addr} {sp : Sp}
def rNeO (C : Addr) (sp : Sp) : R2 := fun x y H Q => ∃ (a b dx dy : Addr) (fs gs : List (Str × V)), x = .ref a ∧ y = .ref b ∧ H a = some (.ins C dx fs) ∧ H b = some (.ins C dy gs) ∧ sp [.ref a, .ref b] H (fun v H' => ∃ c : Bool, v = .bl c ∧ Q (.bl (!c)) H') E0
theorem op_neO (c : Met X.prog X.w X.K X.mg X.base k C "__eq__" sp) (hr : Room j X.A) (hk : k + 1 ≤ j) (nf : PySem.W.notFirst X.K C (.ref C) = true) (hne : PySem.W.findIn X.K (.ref C) "__ne__" = some (some (.builtin "object.__ne__"))) (hob : PySem.W.subIn X.K (.ref C) (.type "object") = some true) : OpR X (compareOp .NotEq) (rNeO C sp) := by
  intro pins s σ H x y v u Q I rx ry h
  obtain ⟨a, b, dx, dy, fs, gs, rfl, rfl, ha, hb, q⟩ := h
  obtain ⟨f, fd, ps, hc, hm, F, bd⟩ := c.ex
  cases (show v = Value.ref a from rx)
  cases (show u = Value.ref b from ry)
  obtain ⟨ox, od, J⟩ := inst_of I ha
  obtain ⟨ox2, od2, J2⟩ := inst_of I hb
  have hu : X.A.units < cLine := by have := hr.units; omega
  have hu1 : X.A.in1.units < cLine := by
    have := hr.units
    show X.A.units + 1 < cLine
    omega
  show wpAny _ X.A (richCompare .NotEq _ _) _ _ s
  refine ne_own hu hu1 I.kIn J J2.type nf hne hob hm.at_ hm.fn (wpAny_mono (run_at (A := X.A.in1) (vs := [.ref a, .ref b]) F (hr.mono hk).in1 bd I I.env0.in1 (.cons rfl (.cons rfl .nil)) q) (fun w s' hw => ?_) fun _ _ z => z)
  obtain ⟨z, H', I', r, c, rfl, hq⟩ := hw
  cases r
  exact ⟨c, rfl, .bl (!c), H', I', rfl, hq⟩
end
end Lp
set_option Elab.async false
set_option linter.all false
set_option maxRecDepth 100000
set_option maxHeartbeats 1000000
namespace Lp
open PySem PySem.Spec PyProof.Rows L2
/-! ### a == y, a != y of an instance and any value -/
section
variable {X : Cx} {k j : Nat} {C : Addr} {sp : Sp}
def rEqOV (K : PySem.W.Frag) (C : Addr) (sp : Sp) : R2 := fun x y H Q => ∃ (a dx : Addr) (fs : List (Str × V)) (t : Value), x = .ref a ∧ H a = some (.ins C dx fs) ∧ TyX K H y t ∧ PySem.W.notFirst K C t = true ∧ sp [.ref a, y] H Q E0
theorem op_eqOV (c : Met X.prog X.w X.K X.mg X.base k C "__eq__" sp) (hr : Room j X.A) (hk : k ≤ j) : OpR X (compareOp .Eq) (rEqOV X.K C sp) := by
  intro pins s σ H x y v u Q I rx ry h
  obtain ⟨a, dx, fs, t, rfl, ha, ty, nf, q⟩ := h
  obtain ⟨f, fd, ps, hc, hm, F, bd⟩ := c.ex
  cases (show v = Value.ref a from rx)
  obtain ⟨ox, od, J⟩ := inst_of I ha
  obtain ⟨P, Z, p, _⟩ := kit_of I ry ty
  have hu : X.A.units < cLine := by have := hr.units; omega
  show wpAny _ X.A (richCompare .Eq _ _) _ _ s
  refine eq_own (op := .Eq) hu I.kIn J (Z.ty _ _ I.kIn p) nf hm.at_ hm.fn (wpAny_mono (run_at (vs := [.ref a, y]) F (hr.mono hk) bd I I.env0 (.cons rfl (.cons ry .nil)) q) (fun w s' hw => ?_) fun _ _ z => z)
  exact ⟨by obtain ⟨z, _, _, r, _⟩ := hw; exact relV_ni r, hw⟩
def rNeOV (K : PySem.W.Frag) (C : Addr) (sp : Sp) : R2 := fun x y H Q => ∃ (a dx : Addr) (fs : List (Str × V)) (t : Value), x = .ref a ∧ H a = some (.ins C dx fs) ∧ TyX K H y t ∧ PySem.W.notFirst K C t = true ∧ sp [.ref a, y] H (fun v H' => ∃ c : Bool, v = .bl c ∧ Q (.bl (!c)) H') E0
theorem op_neOV (c : Met X.prog X.w X.K X.mg X.base k C "__eq__" sp) (hr : Room j X.A) (hk : k + 1 ≤ j) (hne : PySem.W.findIn X.K (.ref C) "__ne__" = some (some (.builtin "object.__ne__"))) (hob : PySem.W.subIn X.K (.ref C) (.type "object") = some true) : OpR X (compareOp .NotEq) (rNeOV X.K C sp) := by
  intro pins s σ H x y v u Q I rx ry h
  obtain ⟨a, dx, fs, t, rfl, ha, ty, nf, q⟩ := h
  obtain ⟨f, fd, ps, hc, hm, F, bd⟩ := c.ex
  cases (show v = Value.ref a from rx)
  obtain ⟨ox, od, J⟩ := inst_of I ha
  obtain ⟨P, Z, p, _⟩ := kit_of I ry ty
  have hu : X.A.units < cLine := by have := hr.units; omega
  have hu1 : X.A.in1.units < cLine := by
    have := hr.units
    show X.A.units + 1 < cLine
    omega
  show wpAny _ X.A (richCompare .NotEq _ _) _ _ s
  refine ne_own hu hu1 I.kIn J (Z.ty _ _ I.kIn p) nf hne hob hm.at_ hm.fn (wpAny_mono (run_at (A := X.A.in1) (vs := [.ref a, y]) F (hr.mono hk).in1 bd I I.env0.in1 (.cons rfl (.cons ry .nil)) q) (fun w s' hw => ?_) fun _ _ z => z)
  obtain ⟨z, H', I', r, c, rfl, hq⟩ := hw
  cases r
  exact ⟨c, rfl, .bl (!c), H', I', rfl, hq⟩
end
end Lp
set_option Elab.async false
set_option linter.all false
set_option maxRecDepth 100000
namespace Lp
open PySem PySem.Spec PyProof.Rows L2
/-! ### the same, with K told apart (for comprehensions) -/
section
variable {X : Cx} {K : PySem.W.Frag} {k j : Nat} {C : Addr} {sp : Sp}
theorem k_eqOV (e : X.K = K) (c : Met X.prog X.w X.K X.mg X.base k C "__eq__" sp) (hr : Room j X.A) (hk : k ≤ j) : OpR X (compareOp .Eq) (rEqOV K C sp) := by
  subst e
  exact op_eqOV c hr hk
theorem k_neOV (e : X.K = K) (c : Met X.prog X.w X.K X.mg X.base k C "__eq__" sp) (hr : Room j X.A) (hk : k + 1 ≤ j) (hne : PySem.W.findIn X.K (.ref C) "__ne__" = some (some (.builtin "object.__ne__"))) (hob : PySem.W.subIn X.K (.ref C) (.type "object") = some true) : OpR X (compareOp .NotEq) (rNeOV K C sp) := by
  subst e
  exact op_neOV c hr hk hne hob
end
end Lp
set_option Elab.async false
set_option linter.all false
set_option maxRecDepth 100000
namespace Lp
open PySem PySem.Spec PyProof.Rows L2
/-! ### values of any kind: None, bools, ints, texts, lists, tuples, the empty dict -/
mutual
inductive Ox (K : PySem.W.Frag) (H : Hp) : V → PyData → Prop
  | non : Ox K H .non .none
  | bl (b : Bool) : Ox K H (.bl b) (.bool b)
  | int (i : Int) : Ox K H (.int i) (.int i)
  | str (x : Str) : Ox K H (.str x) (.str x)
  | lst {a : Addr} {xs : List V} {ds : List PyData} : SqL K H a xs → OxAll K H xs ds → Ox K H (.ref a) (.list ds)
  | tup {a : Addr} {xs : List V} {ds : List PyData} : SqT K H a xs → OxAll K H xs ds → Ox K H (.ref a) (.tuple ds)
  | dct {a : Addr} : H a = some (.dK []) → Ox K H (.ref a) (.dict [])
inductive OxAll (K : PySem.W.Frag) (H : Hp) : List V → List PyData → Prop
  | nil : OxAll K H [] []
  | cons {v : V} {vs : List V} {d : PyData} {ds : List PyData} : Ox K H v d → OxAll K H vs ds → OxAll K H (v :: vs) (d :: ds)
end
section
variable {X : Cx} {pins : List (Addr × Obj)} {σ : L2.St} {H : Hp} {s : Shared}
open PySem
/-- the empty dict, as it stands -/
theorem Ox.dctAt (I : Inv X pins σ H s) {a : Addr} (ha : H a = some (.dK [])) : ∃ o es ep, s.heap.get? a = some o ∧ o.cls = .type "dict" ∧ o.data = .dict es ep ∧ es.toList = [] ∧ (a == sysModules) = false := by
  obtain ⟨_, hns, vs, hkv, o, es, ep, e1, ex, ed, _, pr, _⟩ := (show ObjOk X.prog X.w H s.heap a (.dK []) from I.hok _ _ ha)
  cases hkv
  exact ⟨o, es, ep, e1, ex.1, ed, List.length_eq_zero_iff.mp pr.length, hns⟩
mutual
theorem Ox.rk (I : Inv X pins σ H s) : ∀ (d : PyData) (v : V) (u : Value), Ox X.K H v d → RelV v u → d.showable = true → d.shown.length ≤ sizeLine → ∃ bs as, Reads s.heap u d as ∧ ReadAtMost s.heap d.depth bs ∧ ReprK X.prog X.w bs s.heap d.depth u d.shown
  | .none, _, _, h, r, _, _ => by
    cases h
    cases r
    exact ⟨[], _, Reads.none, (fun _ z => absurd z List.not_mem_nil), .of_is ReprIs.none _ _ _⟩
  | .bool b, _, _, h, r, _, _ => by
    cases h
    cases r
    exact ⟨[], _, Reads.bool b, (fun _ z => absurd z List.not_mem_nil), .of_is (ReprIs.bool b) _ _ _⟩
  | .int i, _, _, h, r, sh, _ => by
    cases h
    obtain ⟨t, rfl⟩ := r
    exact ⟨[], _, Reads.int i t, (fun _ z => absurd z List.not_mem_nil), .of_is (ReprIs.int t (of_decide_eq_true sh)) _ _ _⟩
  | .str x, _, _, h, r, _, hz => by
    cases h
    obtain ⟨t, rfl⟩ := r
    exact ⟨[], _, Reads.str x t, (fun _ z => absurd z List.not_mem_nil), .of_is (ReprIs.str x t hz) _ _ _⟩
  | .list ds, _, _, h, r, sh, hz => by
    cases h with
    | @lst a xs _ hs ha =>
      cases r
      obtain ⟨its, rv, ⟨o, n, ho, hc, _, hd⟩, _⟩ := I.list hs
      have len : (listText (PyData.shownAll ds)).length ≤ sizeLine := hz
      obtain ⟨bs, as, ra, rb, rk⟩ := Ox.rkAll I ds xs its ha rv sh (fun t ht => Nat.le_trans (listText_mem_le ht) len)
      have rr := Reads.list ho hc hd ra
      have fresh : a ∉ bs := not_mem_of_deeper rr (Nat.lt_succ_self (PyData.depthAll ds)) rb
      refine ⟨a :: bs, _, rr, ReadAtMost.cons rr (Nat.le_succ (PyData.depthAll ds)) rb, ?_⟩
      show ReprK X.prog X.w (a :: bs) s.heap (PyData.depthAll ds + 1) (.ref a) (listText (PyData.shownAll ds))
      cases its with
      | nil =>
        cases ra
        show ReprK X.prog X.w (a :: bs) s.heap _ (.ref a) (listText [])
        rw [listText_nil]
        exact ReprK.listEmpty ho hc hd
      | cons y l => exact ReprK.list ho hc hd fresh (by simpa using rk.length_eq) (fun i z e => rk.item i z (by simpa using e))
  | .tuple ds, _, _, h, r, sh, hz => by
    cases h with
    | @tup a xs _ hs ha =>
      cases r
      obtain ⟨its, rv, ⟨o, ho, hc, n, hd⟩, _⟩ := I.tuple hs
      have len : (tupleText (PyData.shownAll ds)).length ≤ sizeLine := hz
      obtain ⟨bs, as, ra, rb, rk⟩ := Ox.rkAll I ds xs its ha rv sh (fun t ht => Nat.le_trans (tupleText_mem_le ht) len)
      have rr := Reads.tuple ho hc hd ra
      have fresh : a ∉ bs := not_mem_of_deeper rr (Nat.lt_succ_self (PyData.depthAll ds)) rb
      exact ⟨a :: bs, _, rr, ReadAtMost.cons rr (Nat.le_succ (PyData.depthAll ds)) rb, ReprK.tuple ho hc hd fresh rk⟩
  | .dict kvs, _, _, h, r, _, _ => by
    cases h with
    | @dct a ha =>
      cases r
      obtain ⟨o, es, ep, e1, ec, ed, e0, hns⟩ := Ox.dctAt I ha
      have rr : Reads s.heap (.ref a) (.dict []) [a] := Reads.dict (kvs := []) (as := []) (bs := []) e1 ec ed (by rw [e0]; exact ReadsAll.nil) (by rw [e0]; exact ReadsAll.nil)
      refine ⟨[a], _, rr, ReadAtMost.cons (n := 0) rr (Nat.zero_le _) (fun _ z => absurd z List.not_mem_nil), ?_⟩
      exact ReprK.dict (d := 0) e1 ec ed hns List.not_mem_nil (by rw [e0]; exact ReprEntriesK.of_two [] [] [] .nil .nil)
theorem Ox.rkAll (I : Inv X pins σ H s) : ∀ (ds : List PyData) (vs : List V) (us : List Value), OxAll X.K H vs ds → Vals vs us → PyData.showableAll ds = true → (∀ t ∈ PyData.shownAll ds, t.length ≤ sizeLine) → ∃ bs as, ReadsAll s.heap us ds as ∧ ReadAtMost s.heap (PyData.depthAll ds) bs ∧ ReprAllK X.prog X.w bs s.heap (PyData.depthAll ds) us (PyData.shownAll ds)
  | [], _, _, h, r, _, _ => by
    cases h
    cases r
    exact ⟨[], _, ReadsAll.nil, (fun _ z => absurd z List.not_mem_nil), .nil⟩
  | d :: ds, _, _, h, r, sh, hz => by
    cases h with
    | cons h1 h2 =>
      cases r with
      | cons r1 r2 =>
        have sh2 : (d.showable && PyData.showableAll ds) = true := sh
        rw [Bool.and_eq_true] at sh2
        obtain ⟨b1, a1, q1, m1, k1⟩ := Ox.rk I d _ _ h1 r1 sh2.1 (hz _ List.mem_cons_self)
        obtain ⟨b2, a2, q2, m2, k2⟩ := Ox.rkAll I ds _ _ h2 r2 sh2.2 (fun t ht => hz t (List.mem_cons_of_mem _ ht))
        have l1 : d.depth ≤ PyData.depthAll (d :: ds) := Nat.le_max_left _ _
        have l2 : PyData.depthAll ds ≤ PyData.depthAll (d :: ds) := Nat.le_max_right _ _
        exact ⟨b1 ++ b2, _, ReadsAll.cons q1 q2, (m1.mono l1).append (m2.mono l2), .cons ((k1.more fun b z => List.mem_append_left _ z).level_le l1) (k2.more_le (fun b z => List.mem_append_right _ z) l2)⟩
end
end
section
variable {K : PySem.W.Frag} {H H' : Hp}
mutual
theorem ox_same (s : Same H H') : ∀ {v : V} {d : PyData}, Ox K H v d → Ox K H' v d
  | _, _, .non => .non
  | _, _, .bl b => .bl b
  | _, _, .int i => .int i
  | _, _, .str x => .str x
  | _, _, .lst h1 h2 => .lst (s.seq h1) (oxAll_same s h2)
  | _, _, .tup h1 h2 => .tup (seqT s h1) (oxAll_same s h2)
  | _, _, .dct h => .dct (s _ _ h)
theorem oxAll_same (s : Same H H') : ∀ {vs : List V} {ds : List PyData}, OxAll K H vs ds → OxAll K H' vs ds
  | _, _, .nil => .nil
  | _, _, .cons h1 h2 => .cons (ox_same s h1) (oxAll_same s h2)
end
mutual
theorem ox_dp : ∀ {v : V} {d : PyData}, Dp K H v d → Ox K H v d
  | _, _, .non => .non
  | _, _, .bl b => .bl b
  | _, _, .int i => .int i
  | _, _, .str x => .str x
  | _, _, .lst h1 h2 => .lst h1 (oxAll_dp h2)
  | _, _, .tup h1 h2 => .tup h1 (oxAll_dp h2)
theorem oxAll_dp : ∀ {vs : List V} {ds : List PyData}, DpAll K H vs ds → OxAll K H vs ds
  | _, _, .nil => .nil
  | _, _, .cons h1 h2 => .cons (ox_dp h1) (oxAll_dp h2)
end
theorem oxAll_len : ∀ {vs : List V} {ds : List PyData}, OxAll K H vs ds → vs.length = ds.length
  | _, _, .nil => rfl
  | _, _, .cons _ h => congrArg (· + 1) (oxAll_len h)
theorem oxAll_get : ∀ {vs : List V} {ds : List PyData} {i : Nat} {v : V}, OxAll K H vs ds → vs[i]? = some v → ∃ d, ds[i]? = some d ∧ Ox K H v d
  | _, _, 0, _, .cons h _, e => by cases e; exact ⟨_, rfl, h⟩
  | _, _, i + 1, _, .cons _ h, e => oxAll_get (i := i) h e
theorem oxAll_app : ∀ {vs ws : List V} {ds es : List PyData}, OxAll K H vs ds → OxAll K H ws es → OxAll K H (vs ++ ws) (ds ++ es)
  | _, _, _, _, .nil, h => h
  | _, _, _, _, .cons h1 h2, h => .cons h1 (oxAll_app h2 h)
theorem oxAll_take : ∀ {vs : List V} {ds : List PyData} (n : Nat), OxAll K H vs ds → OxAll K H (vs.take n) (ds.take n)
  | _, _, 0, _ => .nil
  | _, _, _ + 1, .nil => .nil
  | _, _, n + 1, .cons h1 h2 => .cons h1 (oxAll_take n h2)
theorem oxAll_drop : ∀ {vs : List V} {ds : List PyData} (n : Nat), OxAll K H vs ds → OxAll K H (vs.drop n) (ds.drop n)
  | _, _, 0, h => h
  | _, _, _ + 1, .nil => .nil
  | _, _, n + 1, .cons _ h2 => oxAll_drop n h2
theorem oxAll_ints : ∀ ns : List Int, OxAll K H (ns.map V.int) (ns.map PyData.int)
  | [] => .nil
  | n :: r => .cons (.int n) (oxAll_ints r)
end
/-- the type of a value by its data -/
def tyD : PyData → String
  | .none => "NoneType" | .bool _ => "bool" | .int _ => "int" | .str _ => "str" | .list _ => "list" | .tuple _ => "tuple" | .dict _ => "dict"
section
variable {K : PySem.W.Frag} {H : Hp}
theorem Ox.tyx {v : V} {d : PyData} (h : Ox K H v d) : TyX K H v (.type (tyD d)) := by
  cases h with
  | non => exact .base .non
  | bl b => exact .base (.bl b)
  | int i => exact .base (.int i)
  | str x => exact .base (.str x)
  | lst h1 _ => exact tyx_l h1
  | tup h1 _ => exact tyx_t h1
  | dct h => exact .base (.dK h)
theorem Ox.tyb {v : V} {d : PyData} (h : Ox K H v d) : TyB K H v (tyD d) := by
  cases h with
  | non => exact .non
  | bl b => exact .bl b
  | int i => exact .int i
  | str x => exact .str x
  | lst h1 _ => exact .lst h1
  | tup h1 _ => exact .tup h1
  | dct h => exact .dK h
theorem tyD_meta (d : PyData) : ∀ s' : Shared, s'.TypeIs (.type (tyD d)) "type" := by
  cases d with
  | none => exact PySem.TypeEq.meta_NoneType
  | bool _ => exact PySem.TypeEq.meta_bool
  | int _ => exact PySem.TypeEq.meta_int
  | str _ => exact PySem.TypeEq.meta_str
  | list _ => exact PySem.TypeEq.meta_list
  | tuple _ => exact PySem.TypeEq.meta_tuple
  | dict _ => exact PySem.TypeEq.meta_dict
end
def isI : PyData → Bool | .int _ => true | _ => false
def isB : PyData → Bool | .bool _ => true | _ => false
def isL : PyData → Bool | .list _ => true | _ => false
def isT : PyData → Bool | .tuple _ => true | _ => false
def isS : PyData → Bool | .str _ => true | _ => false
def isN : PyData → Bool | .none => true | _ => false
theorem kit_int {K : PySem.W.Frag} (d : PyData) : PySem.W.kitOne K (.type (tyD d)) (.type "int") = some (isI d || isB d) :=
  match d with
  | .none => kit_ty (show kitB "NoneType" "int" = some false by decide +kernel)
  | .bool _ => kit_ty (show kitB "bool" "int" = some true by decide +kernel)
  | .int _ => kit_ty (show kitB "int" "int" = some true by decide +kernel)
  | .str _ => kit_ty (show kitB "str" "int" = some false by decide +kernel)
  | .list _ => kit_ty (show kitB "list" "int" = some false by decide +kernel)
  | .tuple _ => kit_ty (show kitB "tuple" "int" = some false by decide +kernel)
  | .dict _ => kit_ty (show kitB "dict" "int" = some false by decide +kernel)
theorem kit_bool {K : PySem.W.Frag} (d : PyData) : PySem.W.kitOne K (.type (tyD d)) (.type "bool") = some (isB d) :=
  match d with
  | .none => kit_ty (show kitB "NoneType" "bool" = some false by decide +kernel)
  | .bool _ => kit_ty (show kitB "bool" "bool" = some true by decide +kernel)
  | .int _ => kit_ty (show kitB "int" "bool" = some false by decide +kernel)
  | .str _ => kit_ty (show kitB "str" "bool" = some false by decide +kernel)
  | .list _ => kit_ty (show kitB "list" "bool" = some false by decide +kernel)
  | .tuple _ => kit_ty (show kitB "tuple" "bool" = some false by decide +kernel)
  | .dict _ => kit_ty (show kitB "dict" "bool" = some false by decide +kernel)
theorem kit_list {K : PySem.W.Frag} (d : PyData) : PySem.W.kitOne K (.type (tyD d)) (.type "list") = some (isL d) :=
  match d with
  | .none => kit_ty (show kitB "NoneType" "list" = some false by decide +kernel)
  | .bool _ => kit_ty (show kitB "bool" "list" = some false by decide +kernel)
  | .int _ => kit_ty (show kitB "int" "list" = some false by decide +kernel)
  | .str _ => kit_ty (show kitB "str" "list" = some false by decide +kernel)
  | .list _ => kit_ty (show kitB "list" "list" = some true by decide +kernel)
  | .tuple _ => kit_ty (show kitB "tuple" "list" = some false by decide +kernel)
  | .dict _ => kit_ty (show kitB "dict" "list" = some false by decide +kernel)
theorem kit_tuple {K : PySem.W.Frag} (d : PyData) : PySem.W.kitOne K (.type (tyD d)) (.type "tuple") = some (isT d) :=
  match d with
  | .none => kit_ty (show kitB "NoneType" "tuple" = some false by decide +kernel)
  | .bool _ => kit_ty (show kitB "bool" "tuple" = some false by decide +kernel)
  | .int _ => kit_ty (show kitB "int" "tuple" = some false by decide +kernel)
  | .str _ => kit_ty (show kitB "str" "tuple" = some false by decide +kernel)
  | .list _ => kit_ty (show kitB "list" "tuple" = some false by decide +kernel)
  | .tuple _ => kit_ty (show kitB "tuple" "tuple" = some true by decide +kernel)
  | .dict _ => kit_ty (show kitB "dict" "tuple" = some false by decide +kernel)
theorem kit_str {K : PySem.W.Frag} (d : PyData) : PySem.W.kitOne K (.type (tyD d)) (.type "str") = some (isS d) :=
  match d with
  | .none => kit_ty (show kitB "NoneType" "str" = some false by decide +kernel)
  | .bool _ => kit_ty (show kitB "bool" "str" = some false by decide +kernel)
  | .int _ => kit_ty (show kitB "int" "str" = some false by decide +kernel)
  | .str _ => kit_ty (show kitB "str" "str" = some true by decide +kernel)
  | .list _ => kit_ty (show kitB "list" "str" = some false by decide +kernel)
  | .tuple _ => kit_ty (show kitB "tuple" "str" = some false by decide +kernel)
  | .dict _ => kit_ty (show kitB "dict" "str" = some false by decide +kernel)
/-- type(x) != T -/
theorem neTyL {σ : L2.St} {H : Hp} {d : PyData} {Q : VK} (q : Q (.bl (!isL d)) H) : tC (.ty "list") σ H (fun y H2 => rNeTyG (.ty (tyD d)) y H2 Q) := by
  show rNeTyG (.ty (tyD d)) (.ty "list") H Q
  cases d with
  | list ds => exact .inl ⟨_, rfl, rfl, PySem.TypeEq.meta_list, q⟩
  | none => exact .inr ⟨_, _, rfl, rfl, PySem.TypeEq.meta_NoneType, PySem.TypeEq.meta_list, (show (Value.type "NoneType" == Value.type "list") = false by decide +kernel), (show (Value.type "list" == Value.type "NoneType") = false by decide +kernel), q⟩
  | bool _ => exact .inr ⟨_, _, rfl, rfl, PySem.TypeEq.meta_bool, PySem.TypeEq.meta_list, (show (Value.type "bool" == Value.type "list") = false by decide +kernel), (show (Value.type "list" == Value.type "bool") = false by decide +kernel), q⟩
  | int _ => exact .inr ⟨_, _, rfl, rfl, PySem.TypeEq.meta_int, PySem.TypeEq.meta_list, (show (Value.type "int" == Value.type "list") = false by decide +kernel), (show (Value.type "list" == Value.type "int") = false by decide +kernel), q⟩
  | str _ => exact .inr ⟨_, _, rfl, rfl, PySem.TypeEq.meta_str, PySem.TypeEq.meta_list, (show (Value.type "str" == Value.type "list") = false by decide +kernel), (show (Value.type "list" == Value.type "str") = false by decide +kernel), q⟩
  | tuple _ => exact .inr ⟨_, _, rfl, rfl, PySem.TypeEq.meta_tuple, PySem.TypeEq.meta_list, (show (Value.type "tuple" == Value.type "list") = false by decide +kernel), (show (Value.type "list" == Value.type "tuple") = false by decide +kernel), q⟩
  | dict _ => exact .inr ⟨_, _, rfl, rfl, PySem.TypeEq.meta_dict, PySem.TypeEq.meta_list, (show (Value.type "dict" == Value.type "list") = false by decide +kernel), (show (Value.type "list" == Value.type "dict") = false by decide +kernel), q⟩
theorem neTyT {σ : L2.St} {H : Hp} {d : PyData} {Q : VK} (q : Q (.bl (!isT d)) H) : tC (.ty "tuple") σ H (fun y H2 => rNeTyG (.ty (tyD d)) y H2 Q) := by
  show rNeTyG (.ty (tyD d)) (.ty "tuple") H Q
  cases d with
  | tuple ds => exact .inl ⟨_, rfl, rfl, PySem.TypeEq.meta_tuple, q⟩
  | none => exact .inr ⟨_, _, rfl, rfl, PySem.TypeEq.meta_NoneType, PySem.TypeEq.meta_tuple, (show (Value.type "NoneType" == Value.type "tuple") = false by decide +kernel), (show (Value.type "tuple" == Value.type "NoneType") = false by decide +kernel), q⟩
  | bool _ => exact .inr ⟨_, _, rfl, rfl, PySem.TypeEq.meta_bool, PySem.TypeEq.meta_tuple, (show (Value.type "bool" == Value.type "tuple") = false by decide +kernel), (show (Value.type "tuple" == Value.type "bool") = false by decide +kernel), q⟩
  | int _ => exact .inr ⟨_, _, rfl, rfl, PySem.TypeEq.meta_int, PySem.TypeEq.meta_tuple, (show (Value.type "int" == Value.type "tuple") = false by decide +kernel), (show (Value.type "tuple" == Value.type "int") = false by decide +kernel), q⟩
  | str _ => exact .inr ⟨_, _, rfl, rfl, PySem.TypeEq.meta_str, PySem.TypeEq.meta_tuple, (show (Value.type "str" == Value.type "tuple") = false by decide +kernel), (show (Value.type "tuple" == Value.type "str") = false by decide +kernel), q⟩
  | list _ => exact .inr ⟨_, _, rfl, rfl, PySem.TypeEq.meta_list, PySem.TypeEq.meta_tuple, (show (Value.type "list" == Value.type "tuple") = false by decide +kernel), (show (Value.type "tuple" == Value.type "list") = false by decide +kernel), q⟩
  | dict _ => exact .inr ⟨_, _, rfl, rfl, PySem.TypeEq.meta_dict, PySem.TypeEq.meta_tuple, (show (Value.type "dict" == Value.type "tuple") = false by decide +kernel), (show (Value.type "tuple" == Value.type "dict") = false by decide +kernel), q⟩

/-! ### how long the text of a value is -/
mutual
def wt : PyData → Nat
  | .none => 4
  | .bool _ => 5
  | .int i => (Str.ofString (toString i)).length
  | .str x => (reprText x).length
  | .list ds => 2 + wtAll ds
  | .tuple ds => 3 + wtAll ds
  | .dict _ => 2
def wtAll : List PyData → Nat
  | [] => 0
  | d :: ds => wt d + 2 + wtAll ds
end
/-! no dict but the empty one -/
mutual
def nod : PyData → Bool
  | .dict kvs => kvs.isEmpty
  | .list ds => nodAll ds
  | .tuple ds => nodAll ds
  | _ => true
def nodAll : List PyData → Bool
  | [] => true
  | d :: ds => nod d && nodAll ds
end
def sumLen (ts : List Str) : Nat := (ts.map fun t => t.length + 2).sum
theorem textFrom_sum : ∀ (ts : List Str) (k : Nat) (acc : Str), (textFrom k acc ts).length ≤ acc.length + sumLen ts
  | [], k, acc => by
    show acc.length ≤ _
    exact Nat.le_add_right _ _
  | t :: r, k, acc => by
    have z := textFrom_sum r (k + 1) (acc ++ (if k > 0 then ", " else "" : String) ++ t)
    have e : (acc ++ (if k > 0 then ", " else "" : String) ++ t).length ≤ acc.length + 2 + t.length := by
      rw [Str.length_append, Str.length_append]
      by_cases hk : k > 0
      · rw [if_pos hk]
        exact Nat.le_refl _
      · rw [if_neg hk]
        show acc.length + 0 + t.length ≤ _
        omega
    show (textFrom (k + 1) (acc ++ (if k > 0 then ", " else "" : String) ++ t) r).length ≤ acc.length + (t.length + 2 + sumLen r)
    omega
theorem join_sum : ∀ ts : List Str, (Str.join ", " ts).length ≤ sumLen ts
  | [] => Nat.zero_le _
  | [x] => by show x.length ≤ x.length + 2 + 0; omega
  | x :: y :: r => by
    have ih := join_sum (y :: r)
    show (x ++ ", " ++ Str.join ", " (y :: r)).length ≤ x.length + 2 + sumLen (y :: r)
    have e2 : ((", " : String) : Str).length = 2 := rfl
    rw [Str.length_append, Str.length_append, e2]
    omega
mutual
theorem shown_wt : ∀ d : PyData, nod d = true → d.shown.length ≤ wt d
  | .none, _ => by decide
  | .bool b, _ => by cases b <;> decide
  | .int i, _ => Nat.le_refl _
  | .str x, _ => Nat.le_refl _
  | .list ds, h => by
    have z := textFrom_sum (PyData.shownAll ds) 0 "["
    have z2 := shownAll_wt ds h
    show (textFrom 0 "[" (PyData.shownAll ds) ++ ("]" : Str)).length ≤ 2 + wtAll ds
    rw [Str.length_append]
    have e1 : ("[" : Str).length = 1 := rfl
    have e2 : ("]" : Str).length = 1 := rfl
    omega
  | .tuple ds, h => by
    have z := join_sum (PyData.shownAll ds)
    have z2 := shownAll_wt ds h
    show (("(" : Str) ++ Str.join ", " (PyData.shownAll ds) ++ (if (PyData.shownAll ds).length == 1 then ",)" else ")" : String)).length ≤ 3 + wtAll ds
    rw [Str.length_append, Str.length_append]
    have e1 : ("(" : Str).length = 1 := rfl
    have e2 : (((if (PyData.shownAll ds).length == 1 then ",)" else ")" : String)) : Str).length ≤ 2 := by split <;> decide
    omega
  | .dict kvs, h => by
    cases kvs with
    | nil => decide
    | cons _ _ => cases h
theorem shownAll_wt : ∀ ds : List PyData, nodAll ds = true → sumLen (PyData.shownAll ds) ≤ wtAll ds
  | [], _ => Nat.le_refl _
  | d :: ds, h => by
    have h : (nod d && nodAll ds) = true := h
    rw [Bool.and_eq_true] at h
    have a := shown_wt d h.1
    have b := shownAll_wt ds h.2
    show d.shown.length + 2 + sumLen (PyData.shownAll ds) ≤ wt d + 2 + wtAll ds
    omega
end
/-- data that is to be shown: its text, its depth -/
structure Bd (m k : Nat) (d : PyData) : Prop where
  w : wt d ≤ m
  dp : d.depth ≤ k
  s : d.showable = true
  n : nod d = true
structure BdAll (m k : Nat) (ds : List PyData) : Prop where
  w : wtAll ds ≤ m
  dp : PyData.depthAll ds ≤ k
  s : PyData.showableAll ds = true
  n : nodAll ds = true
theorem Bd.mono {m k m' k' : Nat} {d : PyData} (h : Bd m k d) (a : m ≤ m') (b : k ≤ k') : Bd m' k' d := ⟨Nat.le_trans h.w a, Nat.le_trans h.dp b, h.s, h.n⟩
theorem BdAll.mono {m k m' k' : Nat} {d : List PyData} (h : BdAll m k d) (a : m ≤ m') (b : k ≤ k') : BdAll m' k' d := ⟨Nat.le_trans h.w a, Nat.le_trans h.dp b, h.s, h.n⟩
theorem Bd.list {m k : Nat} {ds : List PyData} (h : BdAll m k ds) : Bd (2 + m) (k + 1) (.list ds) := ⟨Nat.add_le_add_left h.w 2, Nat.succ_le_succ h.dp, h.s, h.n⟩
theorem Bd.tuple {m k : Nat} {ds : List PyData} (h : BdAll m k ds) : Bd (3 + m) (k + 1) (.tuple ds) := ⟨Nat.add_le_add_left h.w 3, Nat.succ_le_succ h.dp, h.s, h.n⟩
theorem BdAll.nil {k : Nat} : BdAll 0 k [] := ⟨Nat.le_refl _, Nat.zero_le _, rfl, rfl⟩
theorem BdAll.cons {m n k : Nat} {d : PyData} {ds : List PyData} (h : Bd m k d) (g : BdAll n k ds) : BdAll (m + 2 + n) k (d :: ds) := by
  refine ⟨?_, Nat.max_le.mpr ⟨h.dp, g.dp⟩, ?_, ?_⟩
  · show wt d + 2 + wtAll ds ≤ _
    have := h.w
    have := g.w
    omega
  · show (d.showable && PyData.showableAll ds) = true
    rw [h.s, g.s]
    rfl
  · show (nod d && nodAll ds) = true
    rw [h.n, g.n]
    rfl
theorem BdAll.app {m n k : Nat} {as bs : List PyData} (h : BdAll m k as) (g : BdAll n k bs) : BdAll (m + n) k (as ++ bs) := by
  induction as generalizing m with
  | nil => exact g.mono (Nat.le_add_left _ _) (Nat.le_refl _)
  | cons d r ih =>
    obtain ⟨h1, h2, h3, h4⟩ := h
    have h3 : (d.showable && PyData.showableAll r) = true := h3
    have h4 : (nod d && nodAll r) = true := h4
    rw [Bool.and_eq_true] at h3 h4
    have h2 : max d.depth (PyData.depthAll r) ≤ k := h2
    have h1 : wt d + 2 + wtAll r ≤ m := h1
    have z := ih (m := wtAll r) ⟨Nat.le_refl _, Nat.le_trans (Nat.le_max_right _ _) h2, h3.2, h4.2⟩
    refine (BdAll.cons (m := wt d) ⟨Nat.le_refl _, Nat.le_trans (Nat.le_max_left _ _) h2, h3.1, h4.1⟩ z).mono (by omega) (Nat.le_refl _)
theorem BdAll.sub {m k : Nat} {as bs : List PyData} (h : BdAll m k bs) (s : as.Sublist bs) : BdAll m k as := by
  induction s generalizing m with
  | slnil => exact h
  | cons d _ ih =>
    obtain ⟨h1, h2, h3, h4⟩ := h
    have h3 : (d.showable && _) = true := h3
    have h4 : (nod d && _) = true := h4
    rw [Bool.and_eq_true] at h3 h4
    have h1 : wt d + 2 + _ ≤ m := h1
    exact ih ⟨by omega, Nat.le_trans (Nat.le_max_right _ _) h2, h3.2, h4.2⟩
  | @cons_cons l1 l2 d _ ih =>
    obtain ⟨h1, h2, h3, h4⟩ := h
    have h3 : (d.showable && _) = true := h3
    have h4 : (nod d && _) = true := h4
    rw [Bool.and_eq_true] at h3 h4
    have h1 : wt d + 2 + wtAll l2 ≤ m := h1
    have z := ih (m := wtAll l2) ⟨Nat.le_refl _, Nat.le_trans (Nat.le_max_right _ _) h2, h3.2, h4.2⟩
    exact (BdAll.cons (m := wt d) ⟨Nat.le_refl _, Nat.le_trans (Nat.le_max_left _ _) h2, h3.1, h4.1⟩ z).mono (by omega) (Nat.le_refl _)
theorem BdAll.get {m k : Nat} {ds : List PyData} (h : BdAll m k ds) {d : PyData} (hd : d ∈ ds) : Bd m k d := by
  induction ds generalizing m with
  | nil => cases hd
  | cons x r ih =>
    obtain ⟨h1, h2, h3, h4⟩ := h
    have h3 : (x.showable && _) = true := h3
    have h4 : (nod x && _) = true := h4
    rw [Bool.and_eq_true] at h3 h4
    have h1 : wt x + 2 + wtAll r ≤ m := h1
    rcases List.mem_cons.mp hd with rfl | hd
    · exact ⟨by omega, Nat.le_trans (Nat.le_max_left _ _) h2, h3.1, h4.1⟩
    · exact ih ⟨by omega, Nat.le_trans (Nat.le_max_right _ _) h2, h3.2, h4.2⟩ hd
/-- the text of a number of at most so many digits -/
theorem bd_int {i : Int} {k : Nat} (h : i.natAbs < 10 ^ 31) : Bd 40 k (.int i) := by
  have hb : i.natAbs < 2 ^ 110 := Nat.lt_trans h (by decide)
  have hl : i.natAbs.log2 < 1920 := Nat.lt_of_lt_of_le (PySem.Flt.log2_lt_of (by decide) hb) (by decide)
  refine ⟨?_, Nat.zero_le _, by show decide (i.natAbs.log2 < 1920) = true; exact decide_eq_true hl, rfl⟩
  show (Str.ofString (toString i)).length ≤ 40
  have z := PySem.int_text_length_le10 (a := i) (k := 31) (by decide) h
  rw [PySem.ofString_length]
  omega
theorem bd_ints {k m : Nat} : ∀ {ns : List Int}, (∀ n ∈ ns, n.natAbs < 10 ^ 31) → ns.length ≤ m → BdAll (m * 42) k (ns.map PyData.int)
  | [], _, _ => BdAll.nil.mono (Nat.zero_le _) (Nat.le_refl _)
  | n :: r, h, hm => by
    have hm : r.length + 1 ≤ m := hm
    have z := bd_ints (k := k) (m := r.length) (ns := r) (fun x hx => h x (List.mem_cons_of_mem _ hx)) (Nat.le_refl _)
    exact (BdAll.cons (bd_int (k := k) (h n List.mem_cons_self)) z).mono (by omega) (Nat.le_refl _)
/-! ### repr of any value -/
def rReprO (K : PySem.W.Frag) : List V → Hp → VK → Prop := fun xs H Q => ∃ (v : V) (d : PyData), xs = [v] ∧ Ox K H v d ∧ Bd 10000000 60 d ∧ Q (.str d.shown) H
theorem call_reprO {X : Cx} (hg : X.A.guards = some []) (hu : X.A.units + 64 < cLine) : CallR X (.builtin "repr") (rReprO X.K) := by
  intro pins s σ H xs us Q I r h
  obtain ⟨v, d, rfl, hv, hb, q⟩ := h
  obtain ⟨u, rfl, rx⟩ := vals1 r
  have hl : d.shown.length ≤ sizeLine := Nat.le_trans (Nat.le_trans (shown_wt d hb.n) hb.w) (by decide)
  have hdp := hb.dp
  have hs := hb.s
  cases hv with
  | non =>
    cases (show u = Value.none from rx)
    exact call_repr_gives (T := "NoneType") rfl F.slot_NoneType_repr F.entry_NoneType_repr (F.args_NoneType_repr_1 _) gives_none_repr ⟨.str _, H, I.tok _, ⟨_, rfl⟩, q⟩ (hx := by decide)
  | bl b =>
    cases (show u = Value.bool b from rx)
    exact PySem.P.repr_of_bool ⟨.str _, H, I.tok _, ⟨_, rfl⟩, by cases b <;> exact q⟩
  | int i =>
    obtain ⟨t, rfl⟩ := (show ∃ t, u = Value.int i t from rx)
    exact PySem.P.repr_of_int (of_decide_eq_true hs) ⟨.str _, H, I.tok _, ⟨_, rfl⟩, q⟩
  | str x =>
    obtain ⟨t, rfl⟩ := (show ∃ t, u = Value.str x t from rx)
    exact PySem.P.repr_of_str ⟨.str _, H, I.tok _, ⟨_, rfl⟩, q⟩ hl
  | @lst a xs ds hL ha =>
    cases (show u = Value.ref _ from rx)
    obtain ⟨its, rv, ⟨o, n, ho, hc, _, hd⟩, _⟩ := I.list hL
    have len : (PySem.listText (PyData.shownAll ds)).length ≤ sizeLine := hl
    have hdp : PyData.depthAll ds + 1 ≤ 60 := hdp
    obtain ⟨bs, as, ra, rb, rk⟩ := Ox.rkAll I ds xs its ha rv hs (fun t ht => Nat.le_trans (PySem.listText_mem_le ht) len)
    have rr := Reads.list ho hc hd ra
    have fresh : a ∉ bs := PySem.not_mem_of_deeper rr (Nat.lt_succ_self (PyData.depthAll ds)) rb
    refine PySem.call_repr_slot (T := "list") (idr := "list.__repr__") (by omega) ⟨o, ho, hc⟩ PySem.F.slot_list_repr.toG ?_
    cases its with
    | nil =>
      cases ra
      refine PySem.call_list_repr_empty ⟨o, ho, hc⟩ ho hd ⟨_, _, rfl, .str _, H, I.tok _, ⟨_, rfl⟩, ?_⟩
      have q : Q (.str (PySem.listText [])) H := q
      rw [PySem.listText_nil] at q
      exact q
    | cons y l => exact PySem.call_list_reprK ho hc hd fresh (by simpa using rk.length_eq) (fun i z e => rk.item i z (by simpa using e)) hg (fun b _ => PySem.Clear.nil b) (by show X.A.units + 1 + (PyData.depthAll ds + 1) < cLine; omega) (fun _ _ e => e) (fun h' t tk hk => ⟨_, _, rfl, .str _, H, I.kept hk, ⟨t, rfl⟩, q⟩) len
  | @tup a xs ds hT ha =>
    cases (show u = Value.ref _ from rx)
    obtain ⟨its, rv, ⟨o, ho, hc, n, hd⟩, _⟩ := I.tuple hT
    have len : (PySem.tupleText (PyData.shownAll ds)).length ≤ sizeLine := hl
    have hdp : PyData.depthAll ds + 1 ≤ 60 := hdp
    obtain ⟨bs, as, ra, rb, rk⟩ := Ox.rkAll I ds xs its ha rv hs (fun t ht => Nat.le_trans (PySem.tupleText_mem_le ht) len)
    have rr := Reads.tuple ho hc hd ra
    have fresh : a ∉ bs := PySem.not_mem_of_deeper rr (Nat.lt_succ_self (PyData.depthAll ds)) rb
    refine PySem.call_repr_slot (T := "tuple") (idr := "tuple.__repr__") (by omega) ⟨o, ho, hc⟩ PySem.F.slot_tuple_repr ?_
    exact PySem.call_tuple_reprK ho hc hd fresh rk hg (fun b _ => PySem.Clear.nil b) (by show X.A.units + 1 + (PyData.depthAll ds + 1) < cLine; omega) (fun _ _ e => e) (fun h' t tk hk => ⟨_, _, rfl, .str _, H, I.kept hk, ⟨t, rfl⟩, q⟩) len
  | @dct a ha =>
    cases (show u = Value.ref _ from rx)
    obtain ⟨o, es, ep, e1, ec, ed, e0, hns⟩ := Ox.dctAt I ha
    refine PySem.call_repr_slot (T := "dict") (idr := "dict.__repr__") (by omega) ⟨o, e1, ec⟩ PySem.F.slot_dict_repr ?_
    exact PySem.call_dict_reprK (d := 0) (as := []) e1 ec ed hns List.not_mem_nil (by rw [e0]; exact PySem.ReprEntriesK.of_two [] [] [] .nil .nil) hg (fun b _ => PySem.Clear.nil b) (by show X.A.units + 1 + (0 + 1) < cLine; omega) (fun _ _ e => e) (fun h' t tk hk => ⟨_, _, rfl, .str _, H, I.kept hk, ⟨t, rfl⟩, q⟩) (by decide)
end Lp
set_option Elab.async false
set_option linter.all false
set_option maxRecDepth 100000
set_option maxHeartbeats 1000000
namespace Lp
open PySem PySem.Spec PyProof.Rows L2
/-! ### a weaker promise of the same def -/
section
variable {P : Program} {w : World} {K : PySem.W.Frag} {mg : Str → Option Value} {base : Heap} {k : Nat} {x : Str} {sp sp' : Sp}
theorem FnOk.weak {CX : CXT} {f : Addr} {fd : FuncData} {ps : List Str} (F : FnOk P w K mg base CX k f fd ps sp) (h : ∀ vs H Q E, sp' vs H Q E → sp vs H Q E) : FnOk P w K mg base CX k f fd ps sp' :=
  ⟨fun vs H Q E s => F.len vs H Q E (h _ _ _ _ s), fun A out s H ar us vs Q E r e b v s1 => F.run A out s H ar us vs Q E r e b v (h _ _ _ _ s1)⟩
theorem FnG.weak {CX : CXT} {f : Addr} {fd : FuncData} {ps : List Str} (F : FnG P w K mg base CX k f fd ps sp) (h : ∀ vs H Q E, sp' vs H Q E → sp vs H Q E) : FnG P w K mg base CX k f fd ps sp' :=
  ⟨fun vs H Q E s => F.len vs H Q E (h _ _ _ _ s), fun A out s H ar us vs Q E g r e b v s1 => F.runG A out s H ar us vs Q E g r e b v (h _ _ _ _ s1)⟩
theorem cal_weak (c : Cal P w K mg base k x sp) (h : ∀ vs H Q E, sp' vs H Q E → sp vs H Q E) : Cal P w K mg base k x sp' := by
  obtain ⟨f, fd, ps, F, r⟩ := c.ex
  exact ⟨f, fd, ps, Lp.FnOk.weak F h, r⟩
theorem gc_weak (c : Gc P w K mg base k x sp) (h : ∀ vs H Q E, sp' vs H Q E → sp vs H Q E) : Gc P w K mg base k x sp' := by
  obtain ⟨f, fd, ps, F, r⟩ := c.ex
  exact ⟨f, fd, ps, Lp.FnG.weak F h, r⟩
end
/-! ### len(set(xs)), xs a list of ints -/
theorem firstMet_le (ns : List Int) : ∀ i : Nat, i ≤ ns.length → (PyProof.Rows.firstMet (fun j => ns.getD j 0) i).length ≤ i ∧ ((PyProof.Rows.firstMet (fun j => ns.getD j 0) i).length = i → PyProof.Rows.firstMet (fun j => ns.getD j 0) i = ns.take i ∧ (ns.take i).Nodup)
  | 0, _ => ⟨Nat.le_refl _, fun _ => ⟨by rw [List.take_zero]; rfl, by rw [List.take_zero]; exact List.nodup_nil⟩⟩
  | i + 1, h => by
    obtain ⟨h1, h2⟩ := firstMet_le ns i (by omega)
    have hlt : i < ns.length := h
    have e : ns.getD i 0 = ns[i] := by rw [List.getD_eq_getElem?_getD, List.getElem?_eq_getElem hlt] <;> rfl
    have st : PyProof.Rows.firstMet (fun j => ns.getD j 0) (i + 1) = if (PyProof.Rows.firstMet (fun j => ns.getD j 0) i).any (· == ns.getD i 0) = true then PyProof.Rows.firstMet (fun j => ns.getD j 0) i else PyProof.Rows.firstMet (fun j => ns.getD j 0) i ++ [ns.getD i 0] := by
      rw [PyProof.Rows.firstMet_succ]
      rfl
    rw [st]
    by_cases c : (PyProof.Rows.firstMet (fun j => ns.getD j 0) i).any (· == ns.getD i 0) = true
    · rw [if_pos c]
      exact ⟨by omega, fun z => by omega⟩
    · rw [if_neg c, List.length_append]
      refine ⟨by show _ + 1 ≤ _; omega, fun z => ?_⟩
      have z : (PyProof.Rows.firstMet (fun j => ns.getD j 0) i).length + 1 = i + 1 := z
      obtain ⟨a, b⟩ := h2 (by omega)
      have t : ns.take (i + 1) = ns.take i ++ [ns[i]] := take_get (List.getElem?_eq_getElem hlt)
      rw [a, e] at c
      rw [a, e, t]
      refine ⟨rfl, List.nodup_append.mpr ⟨b, List.nodup_cons.mpr ⟨List.not_mem_nil, List.nodup_nil⟩, fun x hx y hy q => c ?_⟩⟩
      rw [List.mem_singleton] at hy
      subst hy
      subst q
      exact List.any_eq_true.mpr ⟨_, hx, beq_self_eq_true _⟩
theorem firstMet_len (ns : List Int) : (PyProof.Rows.firstMet (fun j => ns.getD j 0) ns.length).length = ns.length ↔ ns.Nodup := by
  constructor
  · intro h
    have := ((firstMet_le ns ns.length (Nat.le_refl _)).2 h).2
    rwa [List.take_length] at this
  · intro h
    rw [RZ.firstMet_nodup h ns.length (Nat.le_refl _), List.take_length]
def tLenSetG (K : PySem.W.Frag) (ta : TE) : TE := fun σ H Q => ta σ H fun x H1 => ∃ (l : Addr) (ns : List Int), x = .ref l ∧ SqL K H1 l (ns.map V.int) ∧ ns.length ≤ 4000 ∧ ∀ c : Nat, (c = ns.length ↔ ns.Nodup) → Q (.int (c : Int)) H1
theorem pe_lenSetG {X : Cx} {a : Expr} {ta : TE} {p p2 q pos : Pos} (hg : Gl X "len") (hm : X.mg "len" = none) (hg2 : Gl X "set") (hm2 : X.mg "set" = none) (ha : PE X a ta) (hc : X.calm = true := by rfl)
    (na : starEach [a] X.env = (false, eval a X.env) :: starEach [] X.env := by rfl) : PE X (.Call (.Name "len" p) [.Call (.Name "set" p2) [a] [] q] [] pos) (tLenSetG X.K ta) := by
  refine ⟨fun pins s σ H Q I h => ?_⟩
  refine Call_ (ld_blt I hg hm boot_len ?_)
  refine PyProof.Rows.callWith_builtin1 (PyProof.Rows.args_cons ?_ rfl) rfl rfl
  refine Call_ (ld_blt I hg2 hm2 boot_set ?_)
  refine PyProof.Rows.callWith_type1 (PyProof.Rows.args_cons (thn (ha.run pins s σ H _ I h) fun v s1 ⟨x, H1, I1, r1, q1⟩ => PyProof.Rows.args_nil ?_) na) na rfl
  obtain ⟨l, ns, rfl, hq, hl, q1⟩ := q1
  cases r1
  obtain ⟨its, r, pl, hz⟩ := I1.list hq
  have hlen : its.toArray.size = ns.length := by rw [List.size_toArray, ← r.length, List.length_map]
  refine call_set_list (I1.ok.hd hc) pl.isList (by simpa using RZ.intsAre_vals r) (by rw [hlen]; unfold scanBound; omega) fun h' tk hS hk => ?_
  refine PyProof.Rows.args_nil ?_
  rw [hlen] at hS
  have hc2 := firstMet_len ns
  have hc3 := (firstMet_le ns ns.length (Nat.le_refl _)).1
  obtain ⟨o, es, ep, t, ho, hex, hd, _, _, _, hf, hn⟩ := hS
  have I2 : Inv X pins σ H1 { s1 with heap := h', toks := tk } := I1.kept fun b o e => hk b o (Heap.lt_size e) e
  exact call_len_set ho hex hd hf (by rw [hn] <;> omega) ⟨.int ((PyProof.Rows.firstMet (fun j => ns.getD j 0) ns.length).length : Nat), H1, I2.tok _, ⟨_, by rw [hn]⟩, q1 _ hc2⟩
/-! ### xs != [] -/
def rNeNil (K : PySem.W.Frag) : R2 := fun x y H Q => ∃ (a b : Addr) (xs : List V), x = .ref a ∧ y = .ref b ∧ SqL K H a xs ∧ SqL K H b [] ∧ Q (.bl (!xs.isEmpty)) H
theorem op_neNil {X : Cx} (hu : X.A.units + 64 < cLine) : OpR X (compareOp .NotEq) (rNeNil X.K) := by
  intro pins s σ H x y v u Q I rx ry h
  obtain ⟨a, b, xs, rfl, rfl, ha, hb, q⟩ := h
  cases (show v = Value.ref a from rx)
  cases (show u = Value.ref b from ry)
  obtain ⟨its, r1, p1, _⟩ := I.list ha
  obtain ⟨jts, r2, p2, _⟩ := I.list hb
  cases r2
  cases xs with
  | nil =>
    cases r1
    have e : (!PyData.eqv (dI []) (dI [])) = false := rfl
    exact op_neD hu pins s σ H (.ref a) (.ref b) _ _ Q I rfl rfl ⟨dI [], dI [], dp_ints (ns := []) ha, dp_ints (ns := []) hb, shaped_ints [], shaped_ints [], q⟩
  | cons z zs =>
    cases r1 with
    | cons r rr =>
      exact PySem.SeqAt.RcNeAt.lists_lengths p1.isList p2.isList rfl (by omega) X.prog X.w X.xe _ ⟨.bl true, H, I, rfl, q⟩
/-! ### set(xs) of more than a thousand -/
def rSetLH (K : PySem.W.Frag) (w : World) : List V → Hp → VK → Prop := fun xs H Q => ∃ (a : Addr) (ns : List Int), xs = [V.ref a] ∧ SqL K H a (ns.map V.int) ∧ ns.length ≤ 4000 ∧ ∀ (p : Addr) (c : Nat), H p = none → c ≤ ns.length → Q (.ref p) (upd H p (SetO w p (fun j => decide (j ∈ ns)) c))
theorem cr_setLH {X : Cx} (hc : X.calm = true) : CallR X (.type "set") (rSetLH X.K X.w) := by
  intro pins s σ H xs us Q I r h
  obtain ⟨a, ns, rfl, hq, hl, q⟩ := h
  cases r with
  | cons r rr =>
    cases rr
    cases (show _ = Value.ref a from r)
    obtain ⟨its, rv, p, _⟩ := I.list hq
    refine call_set_listI ns (I.ok.hd hc) p.isList (RZ.intsAre_vals rv) (Nat.lt_of_le_of_lt (Nat.succ_le_succ hl) (by decide)) fun h' tk c hs hcn hk => ?_
    refine ⟨.ref _, upd H _ (SetO X.w s.heap.objs.size (fun j => decide (j ∈ ns)) c), I.laid hk (Nat.le_refl _) ⟨hs, ?_, fun h1 h2 x k => ?_⟩, rfl, q _ c (I.hok.fresh (Nat.le_refl _)) hcn⟩
    · obtain ⟨o, _, _, _, e, _⟩ := hs
      exact ⟨o, e⟩
    · obtain ⟨o, es, ep, t, e, r⟩ := x
      exact ⟨o, es, ep, t, k o e, r⟩
theorem num_len3 : ∀ n : Int, -999 ≤ n → n ≤ 999 → (Str.ofString (toString n)).length ≤ 4 := by
  intro n h0 h1
  have key : ∀ i : Fin 1999, (Str.ofString (toString ((i.val : Int) - 999))).length ≤ 4 := by decide +kernel
  have e := key ⟨(n + 999).toNat, by omega⟩
  have e2 : (((n + 999).toNat : Nat) : Int) - 999 = n := by omega
  rw [e2] at e
  exact e
end Lp
namespace Lp
open PySem PySem.Spec PyProof.Rows L2
/-! ### != of equal lists of texts -/
def rNeStrs (K : PySem.W.Frag) : R2 := fun x y H Q => ∃ (a b : Addr) (zs : List Str), x = .ref a ∧ y = .ref b ∧ SqL K H a (zs.map V.str) ∧ SqL K H b (zs.map V.str) ∧ Q (.bl false) H
theorem op_neStrs {X : Cx} (hu : X.A.units + 64 < cLine) : OpR X (compareOp .NotEq) (rNeStrs X.K) := by
  intro pins s σ H x y v u Q I rx ry h
  obtain ⟨a, b, zs, rfl, rfl, ha, hb, q⟩ := h
  cases (show v = Value.ref a from rx)
  cases (show u = Value.ref b from ry)
  obtain ⟨its, r1, p1, _⟩ := I.list ha
  obtain ⟨jts, r2, p2, _⟩ := I.list hb
  have l1 := r1.length
  have l2 := r2.length
  refine PySem.SeqAt.RcNeAt.lists (e := fun _ => true) p1.isList p2.isList (by simp; omega) (by omega) (fun j h1 h2 => ?_) X.prog X.w X.xe _ ?_
  · have g1 : j < its.length := by simpa using h1
    have g2 : j < jts.length := by simpa using h2
    have gz : (zs.map V.str)[j]? = some (.str (zs[j]'(by rw [List.length_map] at l1; omega))) := by rw [List.getElem?_map, List.getElem?_eq_getElem (by rw [List.length_map] at l1; omega)]; rfl
    obtain ⟨u1, e1, t1, q1⟩ := r1.get gz
    obtain ⟨u2, e2, t2, q2⟩ := r2.get gz
    rw [List.getElem?_eq_getElem g1] at e1
    rw [List.getElem?_eq_getElem g2] at e2
    have f1 : its.toArray[j] = u1 := by simpa using Option.some.inj e1
    have f2 : jts.toArray[j] = u2 := by simpa using Option.some.inj e2
    rw [f1, f2, q1, q2]
    have z := PySem.SeqAt.EqAt.str_str (A := X.A.in1) (s := s) (zs[j]'(by rw [List.length_map] at l1; omega)) t1 (zs[j]'(by rw [List.length_map] at l1; omega)) t2
    rw [beq_self_eq_true] at z
    exact z
  · have e : (!(List.range its.toArray.size).all fun _ => true) = false := by simp
    rw [e]
    exact ⟨.bl false, H, I, rfl, q⟩
end Lp
set_option Elab.async false
set_option linter.all false
set_option maxRecDepth 100000
set_option maxHeartbeats 1000000
namespace Lp
open PySem PySem.Spec PyProof.Rows L2
/-! ### isinstance(e, (C1, C2, ..)) of the exception that is held -/
def rIsPT (K : PySem.W.Frag) (p : Addr × Obj) : List V → Hp → VK → Prop := fun xs H Q => ∃ (D tp : Addr) (cs : List V) (us : List Value) (b : Bool), xs = [.ref p.1, .ref tp] ∧ H tp = some (.tup cs) ∧ Paired ClsV cs us ∧ Zc (.ref D) none p.2 ∧ (∃ vs, p.2.data = .fields vs) ∧ ExcC K D ∧ PySem.W.kitAny K (.ref D) us = some b ∧ Q (.bl b) H
theorem call_isPT {X : Cx} {p : Addr × Obj} (hp : p ∈ X.pn) : CallR X (.builtin "isinstance") (rIsPT X.K p) := by
  intro pins s σ H xs us Q I r h
  obtain ⟨D, tp, cs, ws, b, rfl, hT, k, hz, ⟨vs, hv⟩, C, e, q⟩ := h
  obtain ⟨u1, u2, rfl, r1, r2⟩ := vals2 r
  cases (show u1 = Value.ref p.1 from r1)
  cases (show u2 = Value.ref tp from r2)
  have hget := (I.pin p (List.mem_append_left _ hp)).1
  obtain ⟨a, oe⟩ := p
  have J : PySem.W.InstAt s.heap a oe D none := by
    obtain ⟨oc, od, oda, osl⟩ := oe
    obtain ⟨h1, h2⟩ := hz
    dsimp only at h1 h2 hv
    subst h1 h2 hv
    exact ⟨hget, rfl, rfl, trivial⟩
  obtain ⟨_, its, rv, o, h1, h2, n, h3⟩ := (show ObjOk X.prog X.w H s.heap tp (.tup cs) from I.hok tp _ hT)
  have e3 := ClsV.all k rv
  subst e3
  obtain ⟨oc, od, dt, sl⟩ := o
  simp only at h2 h3
  subst h2 h3
  exact PySem.W.kia_tup (PySem.W.handS_kitx_exc C.hg C.hk C.hs C.hd C.ha C.hn C.ht C.hm) I.kIn J h1 e (fun z => nomatch z) fun tk => ⟨.bl b, H, I.kept (t' := tk) fun _ _ z => z, rfl, q⟩
/-! ### bs.count(b) of bools -/
def isBo (b : Bool) : Value → Bool
  | .bool c => c == b
  | _ => false
theorem bo_count {b : Bool} : ∀ {ys : List Bool} {us : List Value}, Vals (ys.map V.bl) us → us.countP (isBo b) = ys.count b
  | [], _, .nil => rfl
  | y :: ys, _, .cons r t => by
    cases (show _ = Value.bool y from r)
    rw [List.countP_cons, bo_count t, List.count_cons]
    rfl
theorem bo_mem {ys : List Bool} {us : List Value} (h : Vals (ys.map V.bl) us) {u : Value} (hu : u ∈ us) : ∃ c, u = .bool c := by
  obtain ⟨i, hi⟩ := List.mem_iff_getElem?.mp hu
  have hl := h.length
  have li := (List.getElem?_eq_some_iff.mp hi).1
  have g : (ys.map V.bl)[i]? = some (.bl (ys[i]'(by rw [List.length_map] at hl; omega))) := by rw [List.getElem?_map, List.getElem?_eq_getElem (by rw [List.length_map] at hl; omega)]; rfl
  obtain ⟨w, ew, rw'⟩ := h.get g
  rw [hi] at ew
  cases ew
  exact ⟨_, rw'⟩
def rCntB (K : PySem.W.Frag) : V → List V → Hp → VK → Prop := fun x xs H Q => ∃ (p : Addr) (ys : List Bool) (b : Bool), x = .ref p ∧ xs = [.bl b] ∧ SqL K H p (ys.map V.bl) ∧ Q (.int (ys.count b : Nat)) H
theorem mt_lcountB {X : Cx} : MtR X "list.count" (rCntB X.K) := by
  intro pins s σ H x xs v us Q I rx rxs h
  obtain ⟨p, ys, b, rfl, rfl, hs, q⟩ := h
  cases rx
  obtain ⟨u, rfl, ru⟩ := rxs.one
  cases (show u = Value.bool b from ru)
  obtain ⟨its, rv, ⟨⟨cls, dd, data, sl⟩, n, ho, hc, hdn, hd⟩, hlen⟩ := I.list hs
  simp only at hc hd
  subst hc hd
  refine call_meets PySem.F.slot_list_count ⟨_, ho, rfl⟩ PySem.F.entry_list_count (PySem.F.args_list_count_2 _ _)
    (SeqAt.list_countAt p its.toArray n dd sl (.bool b) (isBo b)) ⟨ho, fun y hy => ?_, ?_⟩
  · obtain ⟨c, rfl⟩ := bo_mem rv (by simpa using hy)
    exact PySem.SeqAt.EqAt.bool_bool c b
  · have ec : its.toArray.toList.countP (isBo b) = ys.count b := bo_count rv
    refine ⟨.int (ys.count b : Nat), H, I.tok _, ⟨s.toks, ?_⟩, q⟩
    show Value.int ((its.toArray.toList.countP (isBo b) : Nat) : Int) s.toks = Value.int ((ys.count b : Nat) : Int) s.toks
    rw [ec]
/-! ### == of lists of texts -/
def rEqStrs (K : PySem.W.Frag) : R2 := fun x y H Q => ∃ (a b : Addr) (zs : List Str), x = .ref a ∧ y = .ref b ∧ SqL K H a (zs.map V.str) ∧ SqL K H b (zs.map V.str) ∧ Q (.bl true) H
theorem op_eqStrs {X : Cx} (hu : X.A.units + 64 < cLine) : OpR X (compareOp .Eq) (rEqStrs X.K) := by
  intro pins s σ H x y v u Q I rx ry h
  obtain ⟨a, b, zs, rfl, rfl, ha, hb, q⟩ := h
  cases (show v = Value.ref a from rx)
  cases (show u = Value.ref b from ry)
  obtain ⟨its, r1, p1, _⟩ := I.list ha
  obtain ⟨jts, r2, p2, _⟩ := I.list hb
  have l1 := r1.length
  have l2 := r2.length
  refine PySem.SeqAt.RcAt.lists (e := fun _ => true) p1.isList p2.isList (by simp; omega) (by omega) (fun j h1 h2 => ?_) X.prog X.w X.xe _ ?_
  · have g1 : j < its.length := by simpa using h1
    have g2 : j < jts.length := by simpa using h2
    have gz : (zs.map V.str)[j]? = some (.str (zs[j]'(by rw [List.length_map] at l1; omega))) := by rw [List.getElem?_map, List.getElem?_eq_getElem (by rw [List.length_map] at l1; omega)]; rfl
    obtain ⟨u1, e1, t1, q1⟩ := r1.get gz
    obtain ⟨u2, e2, t2, q2⟩ := r2.get gz
    rw [List.getElem?_eq_getElem g1] at e1
    rw [List.getElem?_eq_getElem g2] at e2
    have f1 : its.toArray[j] = u1 := by simpa using Option.some.inj e1
    have f2 : jts.toArray[j] = u2 := by simpa using Option.some.inj e2
    rw [f1, f2, q1, q2]
    have z := PySem.SeqAt.EqAt.str_str (A := X.A.in1) (s := s) (zs[j]'(by rw [List.length_map] at l1; omega)) t1 (zs[j]'(by rw [List.length_map] at l1; omega)) t2
    rw [beq_self_eq_true] at z
    exact z
  · have e : ((List.range its.toArray.size).all fun _ => true) = true := by simp
    rw [e]
    exact ⟨.bl true, H, I, rfl, q⟩
/-! ### the call of a def that an expression chooses -/
structure FtX (P : Program) (w : World) (K : PySem.W.Frag) (mg : Str → Option Value) (base : Heap) (k : Nat) (f : Addr) (sp : Sp) : Prop where
  ex : ∃ (fd : FuncData) (ps : List Str), FnOk P w K mg base (L2.CX P w) k f fd ps sp ∧ PySem.W.keepIn K (.ref f) = true ∧ Binds K fd ps []
section
variable {X : Cx} {k j : Nat} {pos : Pos} {fe e : Expr} {es : List Expr} {t : TA} {tf : TE} {W : WX}
def tSel (G : Addr → Sp → Prop) (W : WX) (tf : TE) (t : TA) : TE := fun σ H Q => tf σ H fun x H1 => ∃ (f : Addr) (sp : Sp), x = .ref f ∧ G f sp ∧ t σ H1 fun vs H2 => sp vs H2 Q (WE W σ)
theorem pe_sel {G : Addr → Sp → Prop} (hG : ∀ f sp, G f sp → FtX X.prog X.w X.K X.mg X.base k f sp) (hr : Room j X.A) (hk : k ≤ j) (tk : Takes X W) (hf : PE X fe tf) (ha : PA X (e :: es) t)
    (hc : eval (.Call fe (e :: es) [] pos) X.env = (do callWith pos (← eval fe X.env) [] (backTo pos (starEach (e :: es) X.env)) (backToKw pos (keywordEach [] X.env))) := by rfl)
    (he : starEach (e :: es) X.env = (false, eval e X.env) :: starEach es X.env := by rfl) (hpl : (backTo pos (starEach es X.env)).any (·.1) = false := by rfl) : PE X (.Call fe (e :: es) [] pos) (tSel G W tf t) := by
  refine ⟨fun pins s σ H Q I h => ?_⟩
  refine Call_ (thn (hf.run pins s σ H _ I h) fun u s1 ⟨v, H1, I1, r1, f, sp, ev, g, ht⟩ => ?_) hc
  subst ev
  cases (show u = Value.ref f from r1)
  obtain ⟨fd, ps, F, kp, hb⟩ := (hG f sp g).ex
  refine PySem.W.callWith_K (h₀ := X.base) I1.ok.mod.kin kp (thn (ha.run pos pins s1 σ H1 _ I1 ht) fun us s2 ⟨vs, H2, I2, r, q⟩ => ⟨I2.kIn, ?_⟩) he hpl
  exact run_fnS F (hr.mono hk) hb (passAt tk σ) I2 r q
end
end Lp
set_option Elab.async false
set_option linter.all false
set_option maxRecDepth 100000
set_option maxHeartbeats 1000000
namespace Lp
open PySem PySem.Spec PyProof.Rows L2
/-! ### a def that raises nothing, among those that may raise; two promises of one def -/
section
variable {P : Program} {w : World} {K : PySem.W.Frag} {mg : Str → Option Value} {base : Heap} {k j : Nat} {x : Str} {sp sp1 sp2 : Sp}
theorem FnOk.lift {f : Addr} {fd : FuncData} {ps : List Str} (F : FnOk P w K mg base CX0 k f fd ps sp) : FnOk P w K mg base (L2.CX P w) k f fd ps sp :=
  ⟨F.len, fun A out s H ar us vs Q E r e b v h => codeAny_mono (F.run A out s H ar us vs Q E r e b v h) fun r s' hq => by
    cases r with
    | error e => exact False.elim hq
    | ok fl =>
      cases fl with
      | ret u => exact hq
      | next => exact hq
      | brk => exact hq
      | cont => exact hq⟩
def SpOr (a b : Sp) : Sp := fun vs H Q E => a vs H Q E ∨ b vs H Q E
theorem FnOk.or {CX : CXT} {f : Addr} {fd : FuncData} {ps : List Str} (F : FnOk P w K mg base CX k f fd ps sp1) (G : FnOk P w K mg base CX k f fd ps sp2) : FnOk P w K mg base CX k f fd ps (SpOr sp1 sp2) :=
  ⟨fun vs H Q E h => h.elim (F.len _ _ _ _) (G.len _ _ _ _), fun A out s H ar us vs Q E r e b v h => h.elim (F.run A out s H ar us vs Q E r e b v) (G.run A out s H ar us vs Q E r e b v)⟩
theorem FnOk.mono {CX : CXT} {f : Addr} {fd : FuncData} {ps : List Str} (F : FnOk P w K mg base CX k f fd ps sp) (h : k ≤ j) : FnOk P w K mg base CX j f fd ps sp :=
  ⟨F.len, fun A out s H ar us vs Q E r e b v => F.run A out s H ar us vs Q E (r.mono h) e b v⟩
/-! ### calls by keywords of defs that may raise -/
structure CalXk (P : Program) (w : World) (K : PySem.W.Frag) (mg : Str → Option Value) (base : Heap) (k : Nat) (x : Str) (n : Nat) (ks : List Str) (gV : List V → List V → List V) (sp : Sp) : Prop where
  ex : ∃ (f : Addr) (fd : FuncData) (ps : List Str) (g : List Value → List Value → List Value), FnOk P w K mg base (L2.CX P w) k f fd ps sp ∧ mg x = some (.ref f) ∧ PySem.W.keepIn K (.ref f) = true ∧ KBn K fd ps n ks g gV
end
section
variable {X : Cx} {k j : Nat} {x : Str} {p pos : Pos} {kws : List Keyword} {ks : List Str} {tk : TA} {gV : List V → List V → List V}
def tCxK (m : Nat) (sp : Sp) (gV : List V → List V → List V) (W : WX) (tk : TA) : TE := fun σ H Q => tk σ H fun zs H1 => zs.length = m ∧ sp (gV [] zs) H1 Q (WE W σ)
theorem pe_cxk0 {sp : Sp} {W : WX} (c : CalXk X.prog X.w X.K X.mg X.base k x 0 ks gV sp) (hr : Room j X.A) (hk : k ≤ j) (tk' : Takes X W) (hg : Gl X x) (hkw : PK X kws tk)
    (hall : (backToKw pos (keywordEach kws X.env)).all (·.1.isSome) = true := by rfl) (hks : (backToKw pos (keywordEach kws X.env)).filterMap (·.1) = ks := by rfl) (hdb : (x == ("__debug__" : Str)) = false := by decide)
    (hpl : ((backTo pos (starEach [] X.env)).any (·.1) || (backToKw pos (keywordEach kws X.env)).any (·.1.isNone)) = false := by rfl) :
    PE X (.Call (.Name x p) [] kws pos) (tCxK ks.length sp gV W tk) := by
  obtain ⟨f, fd, ps, g, F, hm, kp, hb⟩ := c.ex
  refine ⟨fun pins s σ H Q I h => ?_⟩
  refine wpAny_Call_Name_kw (ld_glob I hg hm ?_ hdb)
  refine PySem.W.callWith_KW0 (h₀ := X.base) I.ok.mod.kin kp hall ?_ hpl
  refine thn (hkw.run pos pins s σ H _ I h) fun ws s2 ⟨zs, H2, I2, rz, l2, q2⟩ => ⟨I2.kIn, ?_⟩
  rw [hks]
  have r2 := hb.rel (.nil : Vals [] []) rz
  refine wpAny_call (codeAny_mono (F.run X.A X.stack s2 H2 ⟨[], ks.zip ws⟩ (g [] ws) (gV [] zs) Q (WE W σ) (hr.mono hk) I2.env0 (hb.to s2 [] ws I2.kIn rfl (rz.length.symm.trans l2)) r2 q2) fun r s' hq => ?_)
  cases r with
  | error e => exact passAt tk' σ pins H2 s2 e s' I2 hq
  | ok fl =>
    cases fl with
    | ret u => exact I2.after hq
    | next => exact False.elim hq
    | brk => exact False.elim hq
    | cont => exact False.elim hq
end
/-! ### great numbers, told -/
theorem bd_big {i : Int} {k : Nat} (h : i.natAbs < 10 ^ 450) : Bd 500 k (.int i) := by
  have hb : i.natAbs < 2 ^ 1500 := Nat.lt_trans h (by decide +kernel)
  have hl : i.natAbs.log2 < 1920 := Nat.lt_of_lt_of_le (PySem.Flt.log2_lt_of (by decide) hb) (by decide)
  refine ⟨?_, Nat.zero_le _, by show decide (i.natAbs.log2 < 1920) = true; exact decide_eq_true hl, rfl⟩
  show (Str.ofString (toString i)).length ≤ 500
  have z := PySem.int_text_length_le10 (a := i) (k := 450) (by decide) h
  rw [PySem.ofString_length]
  omega
end Lp
set_option Elab.async false
set_option linter.all false
set_option maxRecDepth 100000
set_option maxHeartbeats 2000000
namespace Lp
open PySem PySem.Spec PyProof.Rows L2 HotX
/-! ### defs that may raise, the exception's context None -/
section
variable {P : Program} {w : World} {K : PySem.W.Frag} {mg : Str → Option Value} {base : Heap} {k j : Nat} {x : Str} {sp : Sp}
theorem _root_.L2.Fun.okN {x qual : Str} {st : Stmt} {f : Addr} {fd : FuncData} {N ps : List Str} {k : Nat} {sp : Sp} (F : Fun K x qual st f fd) (S : FnScope N ps (defScope st)) (len : ∀ vs H Q E, sp vs H Q E → vs.length = ps.length)
    (hbody : ∀ (cdv : Value) (A : Around) (outer : List Env) (s : Shared) (H : Hp) (vs : List V) (Q : VK) (E : XK), Room k (A.deeper (envOfC qual (defScope st) s.heap.objs.size f cdv)) → sp vs H Q E →
      ∃ t, PSs (cxOf (L2N.CX P w) P w K mg base N qual (defScope st) f cdv A outer s H E) (defBody st) t ∧ t { nx := fun _ H' => Q .non H', rt := Q } (start N vs) H) : FnOk P w K mg base (L2N.CX P w) (k + 1) f fd ps sp := by
  obtain ⟨oc, od, kV, doc, pm, an, cdv, ct, osl, rfl, lk, hcd⟩ := F.ex
  exact fn_of lk hcd S len fun A outer s H vs Q E hr hsp => hbody cdv A outer s H vs Q E hr hsp
theorem FnOk.liftN {f : Addr} {fd : FuncData} {ps : List Str} (F : FnOk P w K mg base CX0 k f fd ps sp) : FnOk P w K mg base (L2N.CX P w) k f fd ps sp :=
  ⟨F.len, fun A out s H ar us vs Q E r e b v h => codeAny_mono (F.run A out s H ar us vs Q E r e b v h) fun r s' hq => by
    cases r with
    | error e => exact False.elim hq
    | ok fl =>
      cases fl with
      | ret u => exact hq
      | next => exact hq
      | brk => exact hq
      | cont => exact hq⟩
structure CalN (P : Program) (w : World) (K : PySem.W.Frag) (mg : Str → Option Value) (base : Heap) (k : Nat) (x : Str) (sp : Sp) : Prop where
  ex : ∃ (f : Addr) (fd : FuncData) (ps : List Str), FnOk P w K mg base (L2N.CX P w) k f fd ps sp ∧ mg x = some (.ref f) ∧ PySem.W.keepIn K (.ref f) = true ∧ Binds K fd ps []
structure CalNk (P : Program) (w : World) (K : PySem.W.Frag) (mg : Str → Option Value) (base : Heap) (k : Nat) (x : Str) (n : Nat) (ks : List Str) (gV : List V → List V → List V) (sp : Sp) : Prop where
  ex : ∃ (f : Addr) (fd : FuncData) (ps : List Str) (g : List Value → List Value → List Value), FnOk P w K mg base (L2N.CX P w) k f fd ps sp ∧ mg x = some (.ref f) ∧ PySem.W.keepIn K (.ref f) = true ∧ KBn K fd ps n ks g gV
end
section
variable {X : Cx} {k j : Nat} {x : Str} {p pos : Pos} {e : Expr} {es : List Expr} {t : TA}
theorem pe_cn {sp : Sp} {W : WX} (c : CalN X.prog X.w X.K X.mg X.base k x sp) (hr : Room j X.A) (hk : k ≤ j) (tk : L2N.Takes X W) (hg : Gl X x) (ha : PA X (e :: es) t)
    (hdb : (x == ("__debug__" : Str)) = false := by decide) (he : starEach (e :: es) X.env = (false, eval e X.env) :: starEach es X.env := by rfl) (hpl : (backTo pos (starEach es X.env)).any (·.1) = false := by rfl) :
    PE X (.Call (.Name x p) (e :: es) [] pos) (tCx sp W t) := by
  obtain ⟨f, fd, ps, F, hm, kp, hb⟩ := c.ex
  refine ⟨fun pins s σ H Q I h => ?_⟩
  refine wpAny_Call_Name_kw (ld_glob I hg hm ?_ hdb)
  refine PySem.W.callWith_K (h₀ := X.base) I.ok.mod.kin kp (thn (ha.run pos pins s σ H _ I h) fun us s1 ⟨vs, H1, I1, r, q⟩ => ⟨I1.kIn, ?_⟩) he hpl
  exact run_fnS F (hr.mono hk) hb (L2N.passAt tk σ) I1 r q
variable {kws : List Keyword} {ks : List Str} {tk : TA} {gV : List V → List V → List V}
theorem pe_cnk0 {sp : Sp} {W : WX} (c : CalNk X.prog X.w X.K X.mg X.base k x 0 ks gV sp) (hr : Room j X.A) (hk : k ≤ j) (tk' : L2N.Takes X W) (hg : Gl X x) (hkw : PK X kws tk)
    (hall : (backToKw pos (keywordEach kws X.env)).all (·.1.isSome) = true := by rfl) (hks : (backToKw pos (keywordEach kws X.env)).filterMap (·.1) = ks := by rfl) (hdb : (x == ("__debug__" : Str)) = false := by decide)
    (hpl : ((backTo pos (starEach [] X.env)).any (·.1) || (backToKw pos (keywordEach kws X.env)).any (·.1.isNone)) = false := by rfl) :
    PE X (.Call (.Name x p) [] kws pos) (tCxK ks.length sp gV W tk) := by
  obtain ⟨f, fd, ps, g, F, hm, kp, hb⟩ := c.ex
  refine ⟨fun pins s σ H Q I h => ?_⟩
  refine wpAny_Call_Name_kw (ld_glob I hg hm ?_ hdb)
  refine PySem.W.callWith_KW0 (h₀ := X.base) I.ok.mod.kin kp hall ?_ hpl
  refine thn (hkw.run pos pins s σ H _ I h) fun ws s2 ⟨zs, H2, I2, rz, l2, q2⟩ => ⟨I2.kIn, ?_⟩
  rw [hks]
  have r2 := hb.rel (.nil : Vals [] []) rz
  refine wpAny_call (codeAny_mono (F.run X.A X.stack s2 H2 ⟨[], ks.zip ws⟩ (g [] ws) (gV [] zs) Q (WE W σ) (hr.mono hk) I2.env0 (hb.to s2 [] ws I2.kIn rfl (rz.length.symm.trans l2)) r2 q2) fun r s' hq => ?_)
  cases r with
  | error e => exact L2N.passAt tk' σ pins H2 s2 e s' I2 hq
  | ok fl =>
    cases fl with
    | ret u => exact I2.after hq
    | next => exact False.elim hq
    | brk => exact False.elim hq
    | cont => exact False.elim hq
end
/-! ### a def that is given the exception that is held, its context None -/
structure FnE2 (P : Program) (w : World) (K : PySem.W.Frag) (mg : Str → Option Value) (base : Heap) (k : Nat) (f : Addr) (fd : FuncData) (ps : List Str) (sp : Addr × Obj → Sp) : Prop where
  len : ∀ p vs H Q E, sp p vs H Q E → vs.length = ps.length
  run : ∀ (p : Addr × Obj) (A : Around) (out : List Env) (s : Shared) (H : Hp) (ar : Args) (us : List Value) (vs : List V) (Q : VK) (E : XK), L2H.RoomH k A → L2H.Hot1 A p → L2H.PinOk out H s p → Env0 P w K mg base A out s H →
    BindsTo s fd ar (ps.zip us) → Vals vs us → sp p vs H Q E → codeAny (model P w) A (.call (.ref f) ar) (CR CX0 out P w H s Q E) s
section
variable {P : Program} {w : World} {K : PySem.W.Frag} {mg : Str → Option Value} {base : Heap}
theorem okE2 {x qual : Str} {st : Stmt} {f : Addr} {fd : FuncData} {N ps : List Str} {k : Nat} {sp : Addr × Obj → Sp} (F : Fun K x qual st f fd) (S : FnScope N ps (defScope st)) (ln : ∀ p vs H Q E, sp p vs H Q E → vs.length = ps.length)
    (hb : ∀ (cdv : Value) (p : Addr × Obj) (A : Around) (out : List Env) (s : Shared) (H : Hp) (vs : List V) (Q : VK) (E : XK), L2H.HotC (L2H.cxH CX0 P w K mg base N qual (defScope st) f cdv A out s H E p) → L2H.RoomH k (A.deeper (envOfC qual (defScope st) s.heap.objs.size f cdv)) → sp p vs H Q E →
      ∃ t, PSs (L2H.cxH CX0 P w K mg base N qual (defScope st) f cdv A out s H E p) (defBody st) t ∧ t { nx := fun _ H' => Q .non H', rt := Q } (start N vs) H) : FnE2 P w K mg base (k + 1) f fd ps sp := by
  obtain ⟨oc, od, kV, doc, pm, an, cdv, ct, osl, rfl, lk, hcd⟩ := F.ex
  refine ⟨ln, fun p A out s H ar us vs Q E room hot hpin en bd rv hs => ?_⟩
  have KX : K.In s.heap := en.mod.kin.keeps fun b o e => (en.bs b o e).1
  have nl : s.heap.NoLimit := en.mod.nolimit.keeps fun b o e => (en.bs b o e).1
  have kd : ∀ y ∈ ps.zip us, (defScope st).names.lookup y.1 = some .local ∨ ((defScope st).names.lookup y.1 = some .cell ∧ ((cellsFrom (s.heap.objs.size + 1) (defScope st).names []).lookup y.1).isSome = true) := by
    rintro ⟨n, v⟩ hy
    have hm := (List.of_mem_zip hy).1
    exact (S.par n hm).elim (fun q => .inl q) fun q => .inr ⟨q, PySem.W.cellsFrom_some _ _ _ (.inl q)⟩
  refine codeAny_call_function room.depth (KX _ _ lk) rfl S.co S.gen rfl (PySem.W.codeRec_of KX hcd) (bd _ _ _ _ ?_)
  refine wpAny_newFunctionEnv_cells S.kind kd fun e1 he s1 x => ?_
  subst he
  refine ⟨nl.keeps x.toInCall.keep, codeAny_func ?_⟩
  obtain ⟨t, ht, hq⟩ := hb cdv p A out s H vs Q E ⟨p, hot, List.mem_cons_self⟩ (room.deeper _) hs
  have J0 : Inv (L2H.cxH CX0 P w K mg base N qual (defScope st) f cdv A out s H E p) [] (start N vs) H s1 := L2H.inv_startH S hpin en (ln _ _ _ _ _ hs) rv x
  refine wpAny_mono (ht.run [] s1 (start N vs) H _ J0 hq) (fun fl s' h3 => ?_) fun _ _ h3 => h3
  cases fl with
  | ret u => exact let ⟨v, _, H', J, r2, q⟩ := h3; ⟨v, H', J.os, J.bare, J.base, J.hok, r2, q⟩
  | next => exact let ⟨_, H', J, q⟩ := h3; ⟨.non, H', J.os, J.bare, J.base, J.hok, rfl, q⟩
  | brk => exact (let ⟨_, _, _, q⟩ := h3; q : False).elim
  | cont => exact (let ⟨_, _, _, q⟩ := h3; q : False).elim
structure CalE2 (P : Program) (w : World) (K : PySem.W.Frag) (mg : Str → Option Value) (base : Heap) (k : Nat) (x : Str) (sp : Addr × Obj → Sp) : Prop where
  ex : ∃ (f : Addr) (fd : FuncData) (ps : List Str), FnE2 P w K mg base k f fd ps sp ∧ mg x = some (.ref f) ∧ PySem.W.keepIn K (.ref f) = true ∧ Binds K fd ps []
end
section
variable {X : Cx} {k j : Nat} {x : Str} {p pos : Pos} {e : Expr} {es : List Expr} {t : TA}
theorem pe_ce2 {sp : Addr × Obj → Sp} {pr : Addr × Obj} (c : CalE2 X.prog X.w X.K X.mg X.base k x sp) (hr : L2H.RoomH k X.A) (hot : L2H.Hot1 X.A pr) (hp : pr ∈ X.pn) (hg : Gl X x) (ha : PA X (e :: es) t)
    (hdb : (x == ("__debug__" : Str)) = false := by decide) (he : starEach (e :: es) X.env = (false, eval e X.env) :: starEach es X.env := by rfl) (hpl : (backTo pos (starEach es X.env)).any (·.1) = false := by rfl) :
    PE X (.Call (.Name x p) (e :: es) [] pos) (tCe sp pr t) := by
  obtain ⟨f, fd, ps, F, hm, kp, hb⟩ := c.ex
  refine ⟨fun pins s σ H Q I h => ?_⟩
  refine wpAny_Call_Name_kw (ld_glob I hg hm ?_ hdb)
  refine PySem.W.callWith_K (h₀ := X.base) I.ok.mod.kin kp (thn (ha.run pos pins s σ H _ I h) fun us s1 ⟨vs, H1, I1, r, q⟩ => ⟨I1.kIn, ?_⟩) he hpl
  have hl : us.length = ps.length := by rw [← r.length]; exact F.len _ _ _ _ _ q
  have b := hb s1 us I1.kIn (by rw [List.append_nil]; exact hl)
  rw [List.append_nil] at b
  have P1 := I1.pin pr (List.mem_append_left _ hp)
  have hpin : L2H.PinOk X.stack H1 s1 pr := ⟨P1.1, P1.2.1, fun hm => (List.mem_cons.mp (I1.stkSub pr.1 hm)).elim P1.2.2.1 P1.2.2.2.1, P1.2.2.2.2⟩
  refine wpAny_call (codeAny_mono (F.run pr X.A X.stack s1 H1 ⟨us, []⟩ us vs Q E0 hr hot hpin I1.env0 b r q) fun r s' hq => ?_)
  cases r with
  | error e => exact pass0 pins σ H1 s1 e s' I1 hq
  | ok fl =>
    cases fl with
    | ret u => exact I1.after hq
    | next => exact False.elim hq
    | brk => exact False.elim hq
    | cont => exact False.elim hq
end
/-! ### iterators at their end, while an exception is held -/
section
variable {prog : Program} {w : World} {A : Around} {E : Value → Shared → Prop} {s : Shared}
theorem next_list_end_hot {it l x1 : Addr} {i : Nat} {items} {Q : Option Value → Shared → Prop} (hot : HotAt A x1 s.heap) (hne : it ≠ x1)
    (hit : s.heap.IsListIter it l i) (hl : s.heap.IsList l items) (hx : items[i]? = none)
    (hQ : ∀ h', Heap.ExtBut it s.heap h' → Q none { s with heap := h' }) : wpAny (model prog w) A (pyNext (.ref it)) Q E s := by
  obtain ⟨o, ho, hc, hd⟩ := id hit
  obtain ⟨ol, hol, _, nl, hdl⟩ := hl
  obtain ⟨hh, o1, vs1, h1, d1, c1⟩ := hot
  unfold pyNext
  refine wpAny_bind (wpAny_attempt (wpAny_callSpecial?_slot (name := Str.ofString "__next__") hit.typeIs slot_listiter_next
    (wpAny_call_entry slot_listiter_next hit.typeIs entry_listiter_next ?_ (args_listiter_next _))))
  show wpAny _ _ (field (.ref it) 0 >>= _) _ _ s
  refine wpAny_bind (wpAny_field ho hd (x := .ref l) rfl ?_)
  show wpAny _ _ (if (Value.ref l == Value.none) = true then _ else _) _ _ s
  rw [if_neg (show ¬ ((Value.ref l == Value.none) = true) from Bool.false_ne_true)]
  show wpAny _ _ (field (.ref it) 1 >>= _) _ _ s
  refine wpAny_bind (wpAny_field ho hd (x := .int i 0) rfl ?_)
  show wpAny _ _ (seqItems? (.ref l) >>= _) _ _ s
  refine wpAny_bind (wpAny_seqItems hol hdl ?_)
  simp only [Int.toNat_natCast, hx]
  refine wpAny_bind (wpAny_rule (wpAny_bind (wpAny_setField ho hd (by simp) ?_)))
  show wpAny _ _ (newExc (.type "StopIteration") [] >>= _) _ _ _
  refine wpAny_bind ?_
  simp only [newExc, newTuple]
  refine wpAny_bind (wpAny_newObj_type ?_ (by size_fits))
  refine wpAny_bind (m := firstArgMember _ _) (wpAny_of_eq (a := Value.none) (by first | rfl | (simp only [firstArgMember]; rfl)) ?_)
  refine wpAny_newObj_type ?_ (by size_fits)
  have g1 := Heap.get?_push_of_some { cls := .type "tuple", data := .seq ([] : List Value).toArray } ((Heap.get?_update_other s.heap (Obj.mapFields (·.setIfInBounds 0 .none)) hne).trans h1)
  refine raiseNew_hot ⟨hh, o1, vs1, Heap.get?_push_of_some _ g1, d1, c1⟩ (Nat.ne_of_lt (Heap.lt_size g1)) (Heap.get?_push_size _ rfl) rfl (by first | (simp; done) | (simp; omega) | (simp only [Array.size_append]; simp; omega)) ?_
  refine wpAny_bind (wpAny_isInstance (T := "StopIteration") (b := true) ⟨_, Heap.get?_update_self _ (Heap.get?_push_size _ rfl) rfl, rfl⟩ isSubtype_stop ?_)
  refine wpAny_pure (hQ _ fun b o hb e => ?_)
  have e1 := Heap.get?_push_of_some { cls := .type "tuple", data := .seq ([] : List Value).toArray } ((Heap.get?_update_other s.heap (Obj.mapFields (·.setIfInBounds 0 .none)) (Ne.symm hb)).trans e)
  rw [Heap.get?_update_other _ _ (Nat.ne_of_gt (Heap.lt_size e1))]
  exact Heap.get?_push_of_some _ e1
theorem next_tuple_end_hot {it l x1 : Addr} {i : Nat} {items} {Q : Option Value → Shared → Prop} (hot : HotAt A x1 s.heap) (hne : it ≠ x1)
    (hit : IsTupIter s.heap it l i) (hl : IsTup s.heap l items) (hx : items[i]? = none)
    (hQ : ∀ h', Heap.ExtBut it s.heap h' → Q none { s with heap := h' }) : wpAny (model prog w) A (pyNext (.ref it)) Q E s := by
  obtain ⟨o, ho, hc, hd⟩ := id hit
  obtain ⟨ol, hol, _, nl, hdl⟩ := hl
  obtain ⟨hh, o1, vs1, h1, d1, c1⟩ := hot
  unfold pyNext
  refine wpAny_bind (wpAny_attempt (wpAny_callSpecial?_slot (name := Str.ofString "__next__") hit.typeIs slot_tupleiter_next
    (wpAny_call_entry slot_tupleiter_next hit.typeIs entry_tupleiter_next ?_ (args_tupleiter_next _))))
  show wpAny _ _ (field (.ref it) 0 >>= _) _ _ s
  refine wpAny_bind (wpAny_field ho hd (x := .ref l) rfl ?_)
  show wpAny _ _ (if (Value.ref l == Value.none) = true then _ else _) _ _ s
  rw [if_neg (show ¬ ((Value.ref l == Value.none) = true) from Bool.false_ne_true)]
  show wpAny _ _ (field (.ref it) 1 >>= _) _ _ s
  refine wpAny_bind (wpAny_field ho hd (x := .int i 0) rfl ?_)
  show wpAny _ _ (seqItems? (.ref l) >>= _) _ _ s
  refine wpAny_bind (wpAny_seqItems hol hdl ?_)
  simp only [Int.toNat_natCast, hx]
  refine wpAny_bind (wpAny_rule (wpAny_bind (wpAny_setField ho hd (by simp) ?_)))
  show wpAny _ _ (newExc (.type "StopIteration") [] >>= _) _ _ _
  refine wpAny_bind ?_
  simp only [newExc, newTuple]
  refine wpAny_bind (wpAny_newObj_type ?_ (by size_fits))
  refine wpAny_bind (m := firstArgMember _ _) (wpAny_of_eq (a := Value.none) (by first | rfl | (simp only [firstArgMember]; rfl)) ?_)
  refine wpAny_newObj_type ?_ (by size_fits)
  have g1 := Heap.get?_push_of_some { cls := .type "tuple", data := .seq ([] : List Value).toArray } ((Heap.get?_update_other s.heap (Obj.mapFields (·.setIfInBounds 0 .none)) hne).trans h1)
  refine raiseNew_hot ⟨hh, o1, vs1, Heap.get?_push_of_some _ g1, d1, c1⟩ (Nat.ne_of_lt (Heap.lt_size g1)) (Heap.get?_push_size _ rfl) rfl (by first | (simp; done) | (simp; omega) | (simp only [Array.size_append]; simp; omega)) ?_
  refine wpAny_bind (wpAny_isInstance (T := "StopIteration") (b := true) ⟨_, Heap.get?_update_self _ (Heap.get?_push_size _ rfl) rfl, rfl⟩ isSubtype_stop ?_)
  refine wpAny_pure (hQ _ fun b o hb e => ?_)
  have e1 := Heap.get?_push_of_some { cls := .type "tuple", data := .seq ([] : List Value).toArray } ((Heap.get?_update_other s.heap (Obj.mapFields (·.setIfInBounds 0 .none)) (Ne.symm hb)).trans e)
  rw [Heap.get?_update_other _ _ (Nat.ne_of_gt (Heap.lt_size e1))]
  exact Heap.get?_push_of_some _ e1
theorem unpackItems_hot {t x1 : Addr} {items : Array Value} {Q : List Value → Shared → Prop} (hot : HotAt A x1 s.heap) (ht : IsTup s.heap t items)
    (hQ : ∀ h', Heap.ExtBut s.heap.objs.size s.heap h' → Q items.toList { s with heap := h' }) : wpAny (model prog w) A (unpackItems (.ref t) items.size none) Q E s := by
  have hlt : t ≠ s.heap.objs.size := by obtain ⟨o, ho, _⟩ := ht; exact Nat.ne_of_lt (Heap.lt_size ho)
  obtain ⟨hh, o1, vs1, h1, d1, c1⟩ := hot
  have hlx : x1 ≠ s.heap.objs.size := Nat.ne_of_lt (Heap.lt_size h1)
  unfold unpackItems
  refine wpAny_bind ?_
  · unfold notIterableAtAll
    refine wpAny_bind (wpAny_specialOf ht.typeIs slot_tuple_iter.lookup ?_)
    refine wpAny_pure ?_
    simp only [Bool.false_eq_true, if_false]
    refine wpAny_bind (wpAny_holding (iter_tuple ht ?_))
    refine wpAny_bind (wpAny_holding (draw_tuple hlt items.size 0 _ _ ⟨_, Heap.get?_push_size _ rfl, rfl, rfl⟩ (ht.push _) (by omega) fun h₁ hit₁ hs₁ => ?_))
    have hall : List.take items.size (List.drop 0 items.toList) = items.toList := by
      rw [List.drop_zero]; exact List.take_of_length_le (by simp)
    rw [hall]
    rw [if_neg (by simp)]
    have ht₁ : IsTup h₁ t items := (ht.push _).extBut hs₁.extBut hlt
    have hx₁ : h₁.get? x1 = some o1 := hs₁.extBut x1 o1 hlx (Heap.get?_push_of_some _ h1)
    refine wpAny_bind (wpAny_holding (next_tuple_end_hot ⟨hh, o1, vs1, hx₁, d1, c1⟩ (Ne.symm hlx) hit₁ ht₁ (by simp) fun h₂ he₂ => ?_))
    simp only [Option.isSome_none, Bool.false_eq_true, if_false]
    refine wpAny_pure (hQ h₂ fun b o hb e => he₂ b o hb (hs₁.extBut b o hb (Heap.get?_push_of_some _ e)))
theorem assign_tuple_hot {env : Env} {elts : List Expr} {k} {pos : Pos} {t x1 : Addr} {items : Array Value} {Q : Unit → Shared → Prop} (hot : HotAt A x1 s.heap) (ht : IsTup s.heap t items)
    (hn : (assignEach elts env).length = items.size) (hstar : (assignEach elts env).findIdx? (·.1) = none)
    (h : ∀ h', Heap.ExtBut s.heap.objs.size s.heap h' → wpAny (model prog w) A (assignInOrder ((assignEach elts env).map (·.2)) items.toList) Q E { s with heap := h' }) :
    wpAny (model prog w) A (assign (.Tuple elts k pos) env (.ref t)) Q E s := by
  rw [assign_Tuple]
  refine wpAny_bind (wpAny_standAt ?_)
  unfold unpack
  rw [hn, hstar]
  exact wpAny_bind (wpAny_holding (unpackItems_hot hot ht h))
end
section
variable {X : Cx} {pos : Pos}
theorem pg_tupH {K : PySem.W.Frag} {es : List Expr} {k : Nat} {t : TGs} {n : Nat} (hK : X.K = K) (hc : L2H.HotC X) (h : PGs X es t)
    (hn : (assignEach es X.env).length = n := by rfl) (hst : (assignEach es X.env).findIdx? (·.1) = none := by rfl) : PG X (.Tuple es k pos) (gTup K n t) := by
  subst hK
  refine ⟨fun pins s σ H v u Q I r hw => ?_⟩
  obtain ⟨a, xs, e1, hq, hl, hw⟩ := hw
  subst e1
  cases r
  obtain ⟨its, rv, ht, hz⟩ := I.tuple hq
  obtain ⟨x1, hot⟩ := hc.at I
  refine assign_tuple_hot hot ht (by simp [hn, ← hl, rv.length]) hst fun h' hx => ?_
  have I1 : Inv X pins σ H { s with heap := h' } := I.kept (t' := s.toks) fun b o e => hx b o (Nat.ne_of_lt (Heap.lt_size e)) e
  exact h.run pins _ σ H xs _ Q I1 (by simpa using rv) hw
theorem turn_listH {P : Program} {w : World} {K : PySem.W.Frag} {tg : Expr} (a it : Addr) : L2H.TurnH P w K tg (Itl K a) [it] it (fun i h => h.IsListIter it a i) where
  mem := by simp
  obj := fun i h st b hb => by
    have e : b = it := by simpa using hb
    subst e
    obtain ⟨o, e, c, d⟩ := st
    exact ⟨o, e, fun v z => by rw [d] at z; cases z⟩
  keep := fun i h h' st k => st.at fun o e => k it (by simp) o e
  item := by
    intro X hP hw hK hc i pins s σ H E I hf st hg
    subst hP hw hK
    obtain ⟨xs, x, hq, hx⟩ := hg
    obtain ⟨its, rv, p, hz⟩ := I.list hq
    obtain ⟨u, hu, ru⟩ := rv.get hx
    obtain ⟨f0, f1, f2, f3, f4, f5⟩ := hf it (by simp)
    refine wpAny_pyNext_list_item st p.isList (x := u) (by simpa using hu) fun h' st' sb => ?_
    have I1 : Inv X pins σ H { s with heap := h' } := I.turned (t' := s.toks) (fun b o hb e => (sb.2 b hb).trans e) f0 f1 f3 f4 f5
    obtain ⟨o, e, c, d⟩ := id st'
    exact ⟨u, rfl, go_of (s := { s with heap := h' }) e c d (by decide) ⟨x, H, I1, ru, ⟨rfl, fun ys hy => by rw [I.list_inj hy hq]; exact hx⟩, st', fun b hb => (hf b hb).1⟩⟩
  done := by
    intro X hP hw hK hc i pins s σ H E I hf st hg
    subst hP hw hK
    obtain ⟨xs, hq, hx⟩ := hg
    obtain ⟨its, rv, p, hz⟩ := I.list hq
    obtain ⟨f0, f1, f2, f3, f4, f5⟩ := hf it (by simp)
    have hl := rv.length
    obtain ⟨p1, ⟨hh, v1, e1, c1⟩, hp⟩ := hc
    have P1 := (I.pin p1 (List.mem_append_left _ hp)).1
    exact next_list_end_hot ⟨hh, p1.2, v1, P1, e1, c1⟩ (Ne.symm (f5 p1 (List.mem_append_left _ hp))) st p.isList (by simp; omega) fun h' eb => ⟨rfl, I.turned (t' := s.toks) (fun b o hb e => eb b o hb e) f0 f1 f3 f4 f5⟩
  self := fun _ _ _ _ _ st h => wpAny_pyIter_listiter st h
theorem pi_listH {K : PySem.W.Frag} {tg l : Expr} {tl : TE} (hK : X.K = K) (hl : PE X l tl) : L2H.PIH X tg l (iList K tl) := by
  subst hK
  refine ⟨fun pins s σ H R I h => ?_⟩
  refine thn (hl.run pins s σ H _ I h) fun v s1 ⟨x, H1, I1, r1, q1⟩ => ?_
  obtain ⟨a, e, ⟨xs, hq⟩, q⟩ := q1
  subst e
  cases r1
  obtain ⟨its, rv, p, hz⟩ := I1.list hq
  refine wpAny_pyIter_list p.isList ?_
  refine ⟨s1.heap.objs.size, [s1.heap.objs.size], _, _, H1, rfl, I1.kept (t' := s1.toks) fun b o e => Heap.get?_push_of_some _ e, turn_listH a _, ⟨_, Heap.get?_push_size _ rfl, rfl, rfl⟩, fun b hb => ?_, q⟩
  have e : b = s1.heap.objs.size := by simpa using hb
  subst e
  exact I1.fpOk (Nat.le_refl _) (I1.hok.fresh (Nat.le_refl _))
end
/-! ### a list comprehension while an exception is held -/
abbrev blkH (X : Cx) (s : Shared) (H : Hp) (scope : Scope) (cenv : Env) (fp : List Addr) : Cx := { X with s_0 := s, H_0 := H, env := cenv, outer := X.stack, ex := fp, fn := fun x => scope.names.lookup x == some .cell, xe := fun _ _ => False }
section
variable {X : Cx} {pins : List (Addr × Obj)} {σ : L2.St} {H : Hp} {s : Shared}
theorem block_startH {scope : Scope} {own : List (Str × Nat)} {fp : List Addr} (I : Inv X pins σ H s) (ok : BlkOk X.N X.env.scope scope own) (hN : X.N.Nodup) (hfp : ∀ b ∈ fp, FpOk X pins H b ∧ b < s.heap.objs.size) :
    Inv (blkH X s H scope (compEnvC scope (cellsFrom (s.heap.objs.size + 1) scope.names (cloFrom X.env.cells scope.names [])) s.heap.objs.size X.env) fp) [] (wipe σ (own.map (·.2))) H { s with heap := pushCells (s.heap.push { cls := .type "dict", data := .dict #[] }) scope.names } := by
  have J := block_start I ok hN hfp
  have o := J.ok
  refine ⟨⟨o.mod, o.kind, o.glob, o.blt, o.above, o.inj, o.has, o.cab, o.hd, o.frames, o.stk, o.exf, o.bs, o.bsz, o.noex, o.exfs, o.funs, o.frf⟩, J.os, J.bare, J.base, J.loc, J.cell, J.free, J.freeC, fun p hp => ?_, J.hok, J.len⟩
  have hp : p ∈ X.pn := by simpa using (show p ∈ X.pn ++ ([] : List (Addr × Obj)) from hp)
  have P1 := I.pin p (List.mem_append_left _ hp)
  refine ⟨pushCells_keeps _ _ _ _ (Heap.get?_push_of_some _ P1.1), P1.2.1, Nat.ne_of_lt (Heap.lt_size P1.1), fun hm => (List.mem_cons.mp (I.stkSub p.1 hm)).elim P1.2.2.1 P1.2.2.2.1, P1.2.2.2.2⟩
theorem lc_coreH {pins : List (Addr × Obj)} {s : Shared} {σ : L2.St} {H : Hp} {Q : VK} {elt tg iter : Expr} {ifs : List Expr} {scope : Scope} {own : List (Str × Nat)} {pos pos' : Pos} {wi : TI} {g : TG} {tt : TT} {te : TE} {use : Option (Value → Sem Unit)} {Qf : Value → Shared → Prop}
    (hc : L2H.HotC X) (hN : X.N.Nodup) (I : Inv X pins σ H s) (hi : L2H.PIH X tg iter wi) (ok : BlkOk X.N X.env.scope scope own)
    (hg : ∀ (s : Shared) (H : Hp) (C : Addr) (cl : List (Str × Addr)) (fp : List Addr), PG (blkH X s H scope (compEnvC scope cl C X.env) fp) tg g) (ht : ∀ (s : Shared) (H : Hp) (C : Addr) (cl : List (Str × Addr)) (fp : List Addr), PTs (blkH X s H scope (compEnvC scope cl C X.env) fp) ifs tt)
    (he : ∀ (s : Shared) (H : Hp) (C : Addr) (cl : List (Str × Addr)) (fp : List Addr), PE (blkH X s H scope (compEnvC scope cl C X.env) fp) elt te) (hs : ∀ x, foldedSetIterable iter X.env x = pure x)
    (h : tLc wi g tt te (own.map (·.2)) σ H Q)
    (hRR : ∀ D C s' m H', Inv X pins σ H' s' → Q (.ref D) H' → s'.heap.Ns C m → FpOk X pins H' C → compPost (model X.prog X.w) X.A X.xe use Qf (.ref D) C (.ok .next) s') :
    wpAny (model X.prog X.w) X.A (comprehension (.ListComp elt [⟨tg, iter, ifs, 0⟩] scope pos) scope X.env pos' (newList []) false (eval iter X.env) use) Qf X.xe s := by
  have hfree : ∀ y ∈ scope.names, y.2 = .free → ∃ c, X.env.cells.lookup y.1 = some c := fun y hy e => by
    rcases ok.free y hy e with k | k
    · exact I.ok.has _ (.inl k)
    · exact I.ok.has _ (.inr k)
  refine wpAny_comprehension_free (use := use) rfl hs (closure_ok hfree) ok.kind (fun y hy e => by rw [ok.uniq y hy, e])
    (thn (hi.run pins s σ H _ I h) fun xv s1 hx => thn hx fun itv s2 h2 => ?_)
  obtain ⟨it, fp, tn, J, H2, e, I2, T, st2, f2, q⟩ := h2
  subst e
  refine wpAny_newObj_type (newEnv_comp ?_) (by show 0 ≤ sizeLine; decide)
  generalize hD : s2.heap.objs.size = D
  have hDn : H2 D = none := I2.hok.fresh (Nat.le_of_eq hD)
  obtain ⟨W, ⟨m0, w0⟩, turn⟩ := q D hDn
  -- the new list
  generalize hs3 : ({ s2 with heap := s2.heap.push { cls := .type "list", data := .seq ([] : List Value).toArray } } : Shared) = s3
  have I3 : Inv X pins σ (upd H2 D (.lst [])) s3 := by
    rw [← hs3]
    refine I2.laid (t' := s2.toks) (fun b o e => Heap.get?_push_of_some _ e) (Nat.le_of_eq hD) ⟨Nat.zero_le _, [], 0, .nil, ?_⟩
    rw [← hD]
    exact Heap.get?_push_size _ rfl
  have h3 : s3.heap = s2.heap.push { cls := .type "list", data := .seq ([] : List Value).toArray } := by rw [← hs3]
  have sz : ∀ b ∈ fp, b < s2.heap.objs.size := fun b hb => by
    obtain ⟨o, e, _⟩ := T.obj _ _ st2 b hb
    exact Heap.lt_size e
  have f3 : ∀ b ∈ fp, FpOk X pins (upd H2 D (.lst [])) b ∧ b < s3.heap.objs.size := fun b hb => by
    have hlt := sz b hb
    refine ⟨⟨?_, (f2 b hb).2⟩, by rw [h3, Heap.size_push]; exact Nat.lt_succ_of_lt hlt⟩
    rw [upd_ne (by rw [← hD]; exact Nat.ne_of_lt hlt)]
    exact (f2 b hb).1
  have st3 : tn 0 s3.heap := T.keep _ _ _ st2 fun b _ o e => by rw [h3]; exact Heap.get?_push_of_some _ e
  have I4 := block_startH I3 ok hN f3
  have pg := hg s3 (upd H2 D (.lst [])) s3.heap.objs.size (cellsFrom (s3.heap.objs.size + 1) scope.names (cloFrom X.env.cells scope.names [])) fp
  have pt := ht s3 (upd H2 D (.lst [])) s3.heap.objs.size (cellsFrom (s3.heap.objs.size + 1) scope.names (cloFrom X.env.cells scope.names [])) fp
  have pe := he s3 (upd H2 D (.lst [])) s3.heap.objs.size (cellsFrom (s3.heap.objs.size + 1) scope.names (cloFrom X.env.cells scope.names [])) fp
  show codeAny _ _ (.compStart (.ListComp elt [⟨tg, iter, ifs, 0⟩] scope pos) 0 (.ref it) (.ref D) (compEnvC scope (cellsFrom (s3.heap.objs.size + 1) scope.names (cloFrom X.env.cells scope.names [])) s3.heap.objs.size X.env)) (compPost (model X.prog X.w) X.A X.xe use Qf (.ref D) s3.heap.objs.size) { s3 with heap := pushCells (s3.heap.push { cls := .type "dict", data := .dict #[] }) scope.names }
  have nfp : ∀ b ∈ fp, (upd H2 D (.lst [])) b = none := fun b hb => (f3 b hb).1.1
  generalize hce : compEnvC scope (cellsFrom (s3.heap.objs.size + 1) scope.names (cloFrom X.env.cells scope.names [])) s3.heap.objs.size X.env = ce at I4 pg pt pe ⊢
  have cL : ce.locals = s3.heap.objs.size := by subst hce; rfl
  generalize hH3 : upd H2 D (.lst []) = H3 at I3 I4 pg pt pe w0 nfp f3
  generalize hs4 : ({ s3 with heap := pushCells (s3.heap.push { cls := .type "dict", data := .dict #[] }) scope.names } : Shared) = s4 at I4 ⊢
  have st4 : tn 0 s4.heap := T.keep _ _ _ st3 fun b _ o e => by rw [← hs4]; exact pushCells_keeps _ _ _ _ (Heap.get?_push_of_some _ e)
  have stat : ∀ {σ' : L2.St} {H' : Hp} {s' : Shared}, Inv (blkH X s3 H3 scope ce fp) [] σ' H' s' → (∀ b ∈ fp, H' b = none) → ∀ b ∈ fp, FpOk (blkH X s3 H3 scope ce fp) [] H' b := fun {σ' H' s'} I' hn b hb =>
    ⟨hn b hb, (I'.ok.exf b hb).1, I'.ok.exfs b hb, .inl hb, fun x c e => (I'.ok.exf b hb).2 x c e, fun p hp => (f3 b hb).1.2.2.2.2.2 p (List.mem_append_left _ (by simpa using (show p ∈ X.pn ++ ([] : List (Addr × Obj)) from hp)))⟩
  have loop : codeAny (model X.prog X.w) X.A (.compLoop (.ListComp elt [⟨tg, iter, ifs, 0⟩] scope pos) 0 (.ref it) (.ref D) ce) (compPost (model X.prog X.w) X.A X.xe use Qf (.ref D) s3.heap.objs.size) s4 := by
    refine compLoop_any (fun n s' => ∃ i H', Inv (blkH X s3 H3 scope ce fp) [] (wipe σ (own.map (·.2))) H' s' ∧ tn i s'.heap ∧ (∀ b ∈ fp, H' b = none) ∧ W i n H') ?_ m0 ⟨0, H3, I4, st4, nfp, w0⟩
    rintro n s5 ⟨i, H5, I5, st5, n5, w5⟩
    rcases turn i n H5 w5 with ⟨stop, qq⟩ | ⟨go, Nx, hNx, step⟩
    · have td := T.done (blkH X s3 H3 scope ce fp) rfl rfl rfl hc i [] s5 _ H5 (fun _ _ => False) I5 (stat I5 n5) st5 stop
      refine thnF td fun r s6 ⟨hr, I6⟩ => ?_
      subst hr
      -- back in the def's context
      have I7 : Inv X pins σ H5 s6 := I3.call' (ch := fp) I6.os I6.base I6.hok I6.bare fun b hb => ⟨(f3 b hb).1.2.2.2.1, (f3 b hb).1.2.1, (f3 b hb).1.2.2.2.2.1, (f3 b hb).1.2.2.2.2.2⟩
      have nC : H5 s3.heap.objs.size = none := by
        have z : H5 ce.locals = none := I6.free
        rw [cL] at z
        exact z
      obtain ⟨m, hn, _⟩ := I6.loc
      have hn : s6.heap.Ns ce.locals m := hn
      rw [cL] at hn
      exact hRR D s3.heap.objs.size s6 m H5 I7 qq hn (I3.fpOk (Nat.le_refl _) nC)
    · have ti := T.item (blkH X s3 H3 scope ce fp) rfl rfl rfl hc i [] s5 _ H5 (fun _ _ => False) I5 (stat I5 n5) st5 go
      refine thnF ti fun r s6 ⟨u, hr, h6⟩ => ?_
      subst hr
      refine thnF h6 fun _ s7 ⟨x, H7, I7, r7, y7, st7, n7⟩ => ?_
      have I7' := I7.pinned (stat I7 n7) (T.obj _ _ st7)
      refine thnF (pg.run _ s7 _ H7 x u _ I7' r7 (step x H7 y7)) fun _ s8 ⟨σ8, H8, I8, hw8, q8⟩ => ?_
      refine thnF (pt.run _ s8 σ8 H8 _ I8 q8) fun b s9 ⟨H9, I9, q9⟩ => ?_
      -- the turn's end
      have fin : ∀ {s' : Shared} {H' : Hp}, Inv (blkH X s3 H3 scope ce fp) ([] ++ pinsAt fp s7.heap) σ8 H' s' → Nx H' → ∃ m, m < n ∧ ∃ i H', Inv (blkH X s3 H3 scope ce fp) [] (wipe σ (own.map (·.2))) H' s' ∧ tn i s'.heap ∧ (∀ b ∈ fp, H' b = none) ∧ W i m H' := fun {s' H'} I' nx => by
        obtain ⟨m', hm, w'⟩ := hNx H' nx
        have pin' : ∀ b ∈ fp, ∀ o, s7.heap.get? b = some o → s'.heap.get? b = some o ∧ H' b = none := fun b hb o e =>
          let z := I'.pin (b, o) (List.mem_append_right _ (List.mem_append_right _ (mem_pinsAt hb e)))
          ⟨z.1, z.2.1⟩
        have hl : (wipe σ (own.map (·.2))).length = σ8.length := by rw [← hw8, wipe_length]
        refine ⟨m', hm, i + 1, H', (I'.unpinned (pins := [])).weak hl (fun j v e => ?_), T.keep _ _ _ st7 fun b hb o e => (pin' b hb o e).1, fun b hb => ?_, w'⟩
        · rw [← hw8] at e
          exact (wipe_some e).1
        · obtain ⟨o, e, _⟩ := T.obj _ _ st7 b hb
          exact (pin' b hb o e).2
      cases b with
      | false =>
        simp only [Bool.false_eq_true, if_false] at q9 ⊢
        exact fin I9 q9
      | true =>
        simp only [if_true] at q9 ⊢
        refine thnF (pe.run _ s9 σ8 H9 _ I9 q9) fun z s10 ⟨yv, H10, I10, r10, acc, hD10, hz10, nx⟩ => ?_
        exact app_ok (X := blkH X s3 H3 scope ce fp) I10 hD10 hz10 r10 fun s11 I11 => fin I11 nx
  exact codeAny_compStart_list loop (T.self X.A 0 _ _ _ st4 loop)
/-- as a value -/
theorem pe_lcH {elt tg iter : Expr} {ifs : List Expr} {scope : Scope} {own : List (Str × Nat)} {pos : Pos} {wi : TI} {g : TG} {tt : TT} {te : TE} (hc : L2H.HotC X) (hN : X.N.Nodup) (hi : L2H.PIH X tg iter wi) (ok : BlkOk X.N X.env.scope scope own)
    (hg : ∀ (s : Shared) (H : Hp) (C : Addr) (cl : List (Str × Addr)) (fp : List Addr), PG (blkH X s H scope (compEnvC scope cl C X.env) fp) tg g) (ht : ∀ (s : Shared) (H : Hp) (C : Addr) (cl : List (Str × Addr)) (fp : List Addr), PTs (blkH X s H scope (compEnvC scope cl C X.env) fp) ifs tt)
    (he : ∀ (s : Shared) (H : Hp) (C : Addr) (cl : List (Str × Addr)) (fp : List Addr), PE (blkH X s H scope (compEnvC scope cl C X.env) fp) elt te) (hs : ∀ x, foldedSetIterable iter X.env x = pure x := by intro _; rfl) :
    PE X (.ListComp elt [⟨tg, iter, ifs, 0⟩] scope pos) (tLc wi g tt te (own.map (·.2))) := by
  refine ⟨fun pins s σ H Q I h => ?_⟩
  rw [eval_ListComp]
  refine lc_coreH hc hN I hi ok hg ht he hs h fun D C s' m H' I' q hn f => ⟨m, hn, fun h'' sb => ?_⟩
  obtain ⟨f0, f1, f2, f3, f4, f5⟩ := f
  exact ⟨.ref D, H', I'.turned (t' := s'.toks) (fun b o hb e => (sb.2 b hb).trans e) f0 f1 f3 f4 f5, rfl, q⟩
/-- name = [..] on one line, the name a local -/
theorem ps_setLcH {i : Nat} {y : Str} {py : Pos} {elt tg iter : Expr} {ifs : List Expr} {scope : Scope} {own : List (Str × Nat)} {pos spos : Pos} {wi : TI} {g : TG} {tt : TT} {te : TE} (hc : L2H.HotC X) (hN : X.N.Nodup) (hy : X.N[i]? = some y) (hyl : X.env.scope.names.lookup y = some .local)
    (hsw : swapsWith (.ListComp elt [⟨tg, iter, ifs, 0⟩] scope pos) (some (.Name y py)) spos.line X.env = pure true) (hi : L2H.PIH X tg iter wi) (ok : BlkOk X.N X.env.scope scope own)
    (hg : ∀ (s : Shared) (H : Hp) (C : Addr) (cl : List (Str × Addr)) (fp : List Addr), PG (blkH X s H scope (compEnvC scope cl C X.env) fp) tg g) (ht : ∀ (s : Shared) (H : Hp) (C : Addr) (cl : List (Str × Addr)) (fp : List Addr), PTs (blkH X s H scope (compEnvC scope cl C X.env) fp) ifs tt)
    (he : ∀ (s : Shared) (H : Hp) (C : Addr) (cl : List (Str × Addr)) (fp : List Addr), PE (blkH X s H scope (compEnvC scope cl C X.env) fp) elt te) (hs : ∀ x, foldedSetIterable iter X.env x = pure x := by intro _; rfl) :
    PS X (.Assign [.Name y py] (.ListComp elt [⟨tg, iter, ifs, 0⟩] scope pos) spos) (tAsg (tLc wi g tt te (own.map (·.2))) (gName i)) := by
  refine ⟨fun pins s σ H D I h => ?_⟩
  rw [exec_Assign_Name_used _ _ _ _ hsw]
  refine wpAny_bind (wpAny_standAt (wpAny_bind ?_))
  show wpAny _ X.A (do let _ ← comprehension (.ListComp elt [⟨tg, iter, ifs, 0⟩] scope pos) scope X.env (firstIterPos [⟨tg, iter, ifs, 0⟩] pos) (newList []) false (eval iter X.env) (some (assign (.Name y py) X.env))) _ _ s
  have h : tLc wi g tt te (own.map (·.2)) σ H (fun x H1 => gName i x σ H1 D.nx) := h
  refine wpAny_bind (thn (lc_coreH (Qf := fun _ s' => SP X pins D .next s') hc hN I hi ok hg ht he hs h fun L C s' m H' I' q hn f => ?_) fun _ s' hq => wpAny_pure (wpAny_pure hq))
  show wpAny _ _ (assign (.Name y py) X.env (.ref L)) _ _ _
  refine wpAny_assign_Name (store_ok2 (v := V.ref L) I' hN hy (.inl hyl) rfl (fun s2 I2 ⟨a, sb, ha⟩ => ?_) (.inr hyl))
  obtain ⟨f0, f1, f2, f3, f4, f5⟩ := f
  have haC : C ≠ a := by
    rcases ha with z | z
    · rw [z]; exact f1
    · exact fun e => f4 y a z e.symm
  refine ⟨m, hn.sameBut sb haC, fun h3 sb3 => ?_⟩
  exact ⟨_, H', I2.turned (t' := s2.toks) (fun b o hb e => (sb3.2 b hb).trans e) f0 f1 f3 f4 f5, q⟩

end
end Lp
set_option Elab.async false
set_option linter.all false
set_option maxRecDepth 100000
namespace L59
open PySem PySem.Spec PyProof.Rows L2 Lp
def topS (i : Nat) : Stmt := PySem.Challenge.pw_latepatches_k59_errors_of_shapes.main.body.getD i (.Pass ⟨0, 0, 0, 0⟩)
abbrev s_is_integer : Stmt := topS 20
abbrev N_is_integer : List Str := ["value"]
theorem sc_is_integer : FnScope N_is_integer ["value"] (defScope s_is_integer) := ⟨rfl, rfl, rfl, by decide +kernel, rfl, by decide +kernel, by decide +kernel⟩
abbrev s_is_integer_within : Stmt := topS 21
abbrev N_is_integer_within : List Str := ["value", "least", "greatest"]
theorem sc_is_integer_within : FnScope N_is_integer_within ["value", "least", "greatest"] (defScope s_is_integer_within) := ⟨rfl, rfl, rfl, by decide +kernel, rfl, by decide +kernel, by decide +kernel⟩
abbrev s_are_integers : Stmt := topS 22
abbrev N_are_integers : List Str := ["value", "least", "greatest", "most", "item"]
theorem sc_are_integers : FnScope N_are_integers ["value", "least", "greatest", "most"] (defScope s_are_integers) := ⟨rfl, rfl, rfl, by decide +kernel, rfl, by decide +kernel, by decide +kernel⟩
abbrev s_check_number : Stmt := topS 23
abbrev N_check_number : List Str := ["value", "least", "greatest"]
theorem sc_check_number : FnScope N_check_number ["value", "least", "greatest"] (defScope s_check_number) := ⟨rfl, rfl, rfl, by decide +kernel, rfl, by decide +kernel, by decide +kernel⟩
abbrev s_check_index : Stmt := topS 24
abbrev N_check_index : List Str := ["index", "count"]
theorem sc_check_index : FnScope N_check_index ["index", "count"] (defScope s_check_index) := ⟨rfl, rfl, rfl, by decide +kernel, rfl, by decide +kernel, by decide +kernel⟩
abbrev s_are_events : Stmt := topS 28
abbrev N_are_events : List Str := ["value"]
theorem sc_are_events : FnScope N_are_events ["value"] (defScope s_are_events) := ⟨rfl, rfl, rfl, by decide +kernel, rfl, by decide +kernel, by decide +kernel⟩
abbrev s_is_history : Stmt := topS 29
abbrev N_is_history : List Str := ["value", "started", "event"]
theorem sc_is_history : FnScope N_is_history ["value"] (defScope s_is_history) := ⟨rfl, rfl, rfl, by decide +kernel, rfl, by decide +kernel, by decide +kernel⟩
abbrev s_check_history : Stmt := topS 30
abbrev N_check_history : List Str := ["history"]
theorem sc_check_history : FnScope N_check_history ["history"] (defScope s_check_history) := ⟨rfl, rfl, rfl, by decide +kernel, rfl, by decide +kernel, by decide +kernel⟩
abbrev s_starts_of : Stmt := topS 31
abbrev N_starts_of : List Str := ["history", "event"]
theorem sc_starts_of : FnScope N_starts_of ["history"] (defScope s_starts_of) := ⟨rfl, rfl, rfl, by decide +kernel, rfl, by decide +kernel, by decide +kernel⟩
abbrev s_is_plain : Stmt := topS 32
abbrev N_is_plain : List Str := ["history", "starts"]
theorem sc_is_plain : FnScope N_is_plain ["history"] (defScope s_is_plain) := ⟨rfl, rfl, rfl, by decide +kernel, rfl, by decide +kernel, by decide +kernel⟩
abbrev s_is_shape : Stmt := topS 34
abbrev N_is_shape : List Str := ["value", "running", "sign"]
theorem sc_is_shape : FnScope N_is_shape ["value"] (defScope s_is_shape) := ⟨rfl, rfl, rfl, by decide +kernel, rfl, by decide +kernel, by decide +kernel⟩
abbrev s_check_shape : Stmt := topS 35
abbrev N_check_shape : List Str := ["shape"]
theorem sc_check_shape : FnScope N_check_shape ["shape"] (defScope s_check_shape) := ⟨rfl, rfl, rfl, by decide +kernel, rfl, by decide +kernel, by decide +kernel⟩
abbrev s_shape_of : Stmt := topS 36
abbrev N_shape_of : List Str := ["history", "event"]
theorem sc_shape_of : FnScope N_shape_of ["history"] (defScope s_shape_of) := ⟨rfl, rfl, rfl, by decide +kernel, rfl, by decide +kernel, by decide +kernel⟩
abbrev s_count_in_shape : Stmt := topS 37
abbrev N_count_in_shape : List Str := ["shape", "count", "running", "sign"]
theorem sc_count_in_shape : FnScope N_count_in_shape ["shape"] (defScope s_count_in_shape) := ⟨rfl, rfl, rfl, by decide +kernel, rfl, by decide +kernel, by decide +kernel⟩
abbrev s_count_survivors : Stmt := topS 38
abbrev N_count_survivors : List Str := ["shape", "survivor", "count", "started", "running", "present", "saved", "sign"]
theorem sc_count_survivors : FnScope N_count_survivors ["shape", "survivor"] (defScope s_count_survivors) := ⟨rfl, rfl, rfl, by decide +kernel, rfl, by decide +kernel, by decide +kernel⟩
abbrev s_nth_in_shape : Stmt := topS 39
abbrev N_nth_in_shape : List Str := ["shape", "index", "count", "history", "running", "started", "sign", "place"]
theorem sc_nth_in_shape : FnScope N_nth_in_shape ["shape", "index"] (defScope s_nth_in_shape) := ⟨rfl, rfl, rfl, by decide +kernel, rfl, by decide +kernel, by decide +kernel⟩
abbrev s_shape_rank : Stmt := topS 40
abbrev N_shape_rank : List Str := ["history", "rank", "running", "event", "place"]
theorem sc_shape_rank : FnScope N_shape_rank ["history"] (defScope s_shape_rank) := ⟨rfl, rfl, rfl, by decide +kernel, rfl, by decide +kernel, by decide +kernel⟩
abbrev s_law_pool : Stmt := topS 42
abbrev N_law_pool : List Str := ["script", "k", "cell"]
theorem sc_law_pool : FnScope N_law_pool ["script", "k"] (defScope s_law_pool) := ⟨rfl, rfl, rfl, by decide +kernel, rfl, by decide +kernel, by decide +kernel⟩
abbrev s_law_draw : Stmt := topS 43
abbrev N_law_draw : List Str := ["pool", "many", "digit", "mixed"]
theorem sc_law_draw : FnScope N_law_draw ["pool", "many"] (defScope s_law_draw) := ⟨rfl, rfl, rfl, by decide +kernel, rfl, by decide +kernel, by decide +kernel⟩
abbrev s_law_signs : Stmt := topS 44
abbrev N_law_signs : List Str := ["pool", "script", "many", "style", "wide", "found", "running", "starts", "turn", "hit", "up"]
theorem sc_law_signs : FnScope N_law_signs ["pool", "script"] (defScope s_law_signs) := ⟨rfl, rfl, rfl, by decide +kernel, rfl, by decide +kernel, by decide +kernel⟩
abbrev s_law_ways : Stmt := topS 45
abbrev N_law_ways : List Str := ["signs", "found", "running", "sign"]
theorem sc_law_ways : FnScope N_law_ways ["signs"] (defScope s_law_ways) := ⟨rfl, rfl, rfl, by decide +kernel, rfl, by decide +kernel, by decide +kernel⟩
abbrev s_law_row : Stmt := topS 46
abbrev N_law_row : List Str := ["pool", "signs", "found", "running", "starts", "sign"]
theorem sc_law_row : FnScope N_law_row ["pool", "signs"] (defScope s_law_row) := ⟨rfl, rfl, rfl, by decide +kernel, rfl, by decide +kernel, by decide +kernel⟩
abbrev s_law_said : Stmt := topS 47
abbrev N_law_said : List Str := ["e", "some", "found", "odd", "name", "holds"]
theorem sc_law_said : FnScope N_law_said ["e"] (defScope s_law_said) := ⟨rfl, rfl, rfl, by decide +kernel, rfl, by decide +kernel, by decide +kernel⟩
abbrev s_law_wrong_row : Stmt := topS 48
abbrev N_law_wrong_row : List Str := ["pool", "row", "at", "odd", "bent", "fresh", "some", "one"]
theorem sc_law_wrong_row : FnScope N_law_wrong_row ["pool", "row"] (defScope s_law_wrong_row) := ⟨rfl, rfl, rfl, by decide +kernel, rfl, by decide +kernel, by decide +kernel⟩
abbrev s_law_told : Stmt := topS 49
abbrev N_law_told : List Str := ["door", "one", "number", "said", "before", "e"]
theorem sc_law_told : FnScope N_law_told ["door", "one", "number"] (defScope s_law_told) := ⟨rfl, rfl, rfl, by decide +kernel, rfl, by decide +kernel, by decide +kernel⟩
abbrev s_law_wrong_signs : Stmt := topS 50
abbrev N_law_wrong_signs : List Str := ["pool", "signs", "at", "one", "some"]
theorem sc_law_wrong_signs : FnScope N_law_wrong_signs ["pool", "signs"] (defScope s_law_wrong_signs) := ⟨rfl, rfl, rfl, by decide +kernel, rfl, by decide +kernel, by decide +kernel⟩
abbrev s_law_right : Stmt := topS 51
abbrev N_law_right : List Str := ["pool", "signs", "bad", "row", "many", "numbers", "odd", "starts", "number", "far", "good", "door"]
theorem sc_law_right : FnScope N_law_right ["pool", "signs"] (defScope s_law_right) := ⟨rfl, rfl, rfl, by decide +kernel, rfl, by decide +kernel, by decide +kernel⟩
abbrev s_law_others : Stmt := topS 52
abbrev N_law_others : List Str := ["pool", "row", "starts", "a", "b", "left", "free", "to_far", "to_any", "one", "found"]
theorem sc_law_others : FnScope N_law_others ["pool", "row"] (defScope s_law_others) := ⟨rfl, rfl, rfl, by decide +kernel, rfl, by decide +kernel, by decide +kernel⟩
abbrev s_law_is_plain : Stmt := topS 53
abbrev N_law_is_plain : List Str := ["row", "starts", "one"]
theorem sc_law_is_plain : FnScope N_law_is_plain ["row"] (defScope s_law_is_plain) := ⟨rfl, rfl, rfl, by decide +kernel, rfl, by decide +kernel, by decide +kernel⟩
abbrev s_law_rows_right : Stmt := topS 54
abbrev N_law_rows_right : List Str := ["pool", "signs", "row", "bad", "thing", "due", "door"]
theorem sc_law_rows_right : FnScope N_law_rows_right ["pool", "signs"] (defScope s_law_rows_right) := ⟨rfl, rfl, rfl, by decide +kernel, rfl, by decide +kernel, by decide +kernel⟩
abbrev s_law : Stmt := topS 55
abbrev N_law : List Str := ["script", "k", "pool", "turn", "signs"]
theorem sc_law : FnScope N_law ["script"] (defScope s_law) := ⟨rfl, rfl, rfl, by decide +kernel, rfl, by decide +kernel, by decide +kernel⟩
end L59
set_option Elab.async false
set_option linter.all false
set_option maxRecDepth 100000
namespace L59
open PySem PySem.Spec PyProof.Rows L2 Lp
/-! ### values of any kind: is_integer and its kin -/
def toI : PyData → Int | .int i => i | _ => 0
def numB (lo hi : Int) : PyData → Bool | .int i => decide (lo ≤ i) && decide (i ≤ hi) | _ => false
theorem numB_iff {lo hi : Int} {d : PyData} : numB lo hi d = true ↔ ∃ i, d = .int i ∧ lo ≤ i ∧ i ≤ hi := by
  cases d with
  | int i =>
    show (decide (lo ≤ i) && decide (i ≤ hi)) = true ↔ _
    rw [Bool.and_eq_true, decide_eq_true_eq, decide_eq_true_eq]
    exact ⟨fun h => ⟨i, rfl, h⟩, fun ⟨j, e, h⟩ => by cases e; exact h⟩
  | none => exact ⟨(fun h => nomatch h), (fun ⟨j, e, h⟩ => nomatch e)⟩
  | bool _ => exact ⟨(fun h => nomatch h), (fun ⟨j, e, h⟩ => nomatch e)⟩
  | str _ => exact ⟨(fun h => nomatch h), (fun ⟨j, e, h⟩ => nomatch e)⟩
  | list _ => exact ⟨(fun h => nomatch h), (fun ⟨j, e, h⟩ => nomatch e)⟩
  | tuple _ => exact ⟨(fun h => nomatch h), (fun ⟨j, e, h⟩ => nomatch e)⟩
  | dict _ => exact ⟨(fun h => nomatch h), (fun ⟨j, e, h⟩ => nomatch e)⟩
theorem numB_all {lo hi : Int} : ∀ {ds : List PyData}, (ds.map (numB lo hi)).all id = true ↔ ∃ ns : List Int, ds = ns.map PyData.int ∧ ∀ n ∈ ns, lo ≤ n ∧ n ≤ hi
  | [] => ⟨fun _ => ⟨[], rfl, fun _ h => absurd h List.not_mem_nil⟩, fun _ => rfl⟩
  | d :: ds => by
    rw [List.map_cons, List.all_cons, Bool.and_eq_true, numB_all (ds := ds)]
    show numB lo hi d = true ∧ _ ↔ _
    rw [numB_iff]
    constructor
    · rintro ⟨⟨i, rfl, h⟩, ns, rfl, hn⟩
      exact ⟨i :: ns, rfl, fun n hm => (List.mem_cons.mp hm).elim (fun e => e ▸ h) (hn n)⟩
    · rintro ⟨ns, e, hn⟩
      cases ns with
      | nil => cases e
      | cons i ns =>
        rw [List.map_cons] at e
        cases e
        exact ⟨⟨i, rfl, hn i List.mem_cons_self⟩, ns, rfl, fun n hm => hn n (List.mem_cons_of_mem _ hm)⟩
theorem wt_len : ∀ ds : List PyData, 2 * ds.length ≤ wtAll ds
  | [] => Nat.zero_le _
  | d :: ds => by
    have := wt_len ds
    show 2 * (ds.length + 1) ≤ wt d + 2 + wtAll ds
    omega
theorem oxAll_ints_inv {K : PySem.W.Frag} {H : Hp} : ∀ {xs : List V} {ns : List Int}, OxAll K H xs (ns.map PyData.int) → xs = ns.map V.int
  | [], [], _ => rfl
  | x :: xs, n :: ns, h => by
    cases h with
    | cons h1 h2 =>
      cases h1
      rw [oxAll_ints_inv h2]
      rfl
  | [], _ :: _, h => nomatch h
  | _ :: _, [], h => nomatch h
theorem ox_ints_inv {K : PySem.W.Frag} {H : Hp} {v : V} {ns : List Int} (h : Ox K H v (dI ns)) : ∃ a, v = .ref a ∧ SqL K H a (ns.map V.int) := by
  cases h with
  | lst hs ha =>
    rw [oxAll_ints_inv ha] at hs
    exact ⟨_, rfl, hs⟩
theorem ox_ints {K : PySem.W.Frag} {H : Hp} {a : Addr} {ns : List Int} (h : SqL K H a (ns.map V.int)) : Ox K H (.ref a) (dI ns) := .lst h (oxAll_ints ns)
def AreI (lo hi m : Int) (d : PyData) : Prop := ∃ ns : List Int, d = dI ns ∧ ((ns.length : Nat) : Int) ≤ m ∧ ∀ n ∈ ns, lo ≤ n ∧ n ≤ hi
/-- different events -/
def EvD (d : PyData) : Prop := ∃ ns : List Int, d = dI ns ∧ (∀ e ∈ ns, e ≠ 0 ∧ -100 ≤ e ∧ e ≤ 100) ∧ ns.Nodup ∧ ns.length ≤ 200
section
variable {P : Program} {w : World} {K : PySem.W.Frag} {mg : Str → Option Value} {base : Heap}
def spIsIntO (K : PySem.W.Frag) : Sp := fun vs H Q _ => ∃ (v : V) (d : PyData), vs = [v] ∧ Ox K H v d ∧ Q (.bl (isI d)) H
theorem ok_is_integer_O {f : Addr} {fd : FuncData} (F : Fun K "is_integer" "is_integer" s_is_integer f fd) (B : NoB mg) : FnOk P w K mg base CX0 1 f fd ["value"] (spIsIntO K) := by
  refine F.ok sc_is_integer (fun vs H Q E h => ?_) (fun cdv A outer s H vs Q E hr h => ?_)
  · obtain ⟨v, d, rfl, _⟩ := h
    rfl
  · obtain ⟨v, d, rfl, hv, q⟩ := h
    refine ⟨_, (pss_one (ps_ret (pe_and (pe_callB call_isi (by rfl) B.isinstance (by decide +kernel) (pa_cons (pv 0) (pa_cons (pe_bltn (v := .ty "int") (by rfl) B.int boot_int rfl) pa_nil))) (pe_one (pe_not (pe_callB call_isi (by rfl) B.isinstance (by decide +kernel) (pa_cons (pv 0) (pa_cons (pe_bltn (v := .ty "bool") (by rfl) B.bool boot_bool rfl) pa_nil)))))))), ?_⟩
    refine ⟨_, rfl, _, _, _, _, _, rfl, .ty _, hv.tyx, kit_int d, _, rfl, ?_⟩
    by_cases h1 : (isI d || isB d) = true
    · rw [if_pos h1]
      refine ⟨_, rfl, _, _, _, _, _, rfl, .ty _, hv.tyx, kit_bool d, _, rfl, ?_⟩
      have e : (!isB d) = isI d := by cases d <;> first | rfl | cases h1
      rw [e]
      exact q
    · rw [if_neg h1]
      have e : isI d = false := by cases d <;> first | rfl | exact absurd rfl h1
      rw [e] at q
      exact q
def spWithinO (K : PySem.W.Frag) : Sp := fun vs H Q _ => ∃ (v : V) (d : PyData) (lo hi : Int), vs = [v, .int lo, .int hi] ∧ Ox K H v d ∧ Q (.bl (numB lo hi d)) H
theorem ok_is_integer_within_O {f : Addr} {fd : FuncData} (F : Fun K "is_integer_within" "is_integer_within" s_is_integer_within f fd) (T_is_integer : Cal P w K mg base 1 "is_integer" (spIsIntO K)) : FnOk P w K mg base CX0 2 f fd ["value", "least", "greatest"] (spWithinO K) := by
  refine F.ok sc_is_integer_within (fun vs H Q E h => ?_) (fun cdv A outer s H vs Q E hr h => ?_)
  · obtain ⟨v, d, lo, hi, rfl, _⟩ := h
    rfl
  · obtain ⟨v, d, lo, hi, rfl, hv, q⟩ := h
    refine ⟨_, (pss_one (ps_ret (pe_and (pe_c T_is_integer hr (by decide) (by rfl) (pa_cons (pv 0) pa_nil)) (pe_one (pe_chain op_le op_le (pv 1) (pv 0) (pv 2)))))), ?_⟩
    refine ⟨_, rfl, v, d, rfl, hv, _, rfl, ?_⟩
    cases hv with
    | int i =>
      refine iteT ?_
      refine ⟨_, rfl, _, rfl, _, _, rfl, rfl, _, rfl, ?_⟩
      by_cases h1 : lo ≤ i
      · rw [decide_eq_true h1]
        refine iteT ⟨_, rfl, _, _, rfl, rfl, ?_⟩
        have e : numB lo hi (.int i) = decide (i ≤ hi) := by
          show (decide (lo ≤ i) && _) = _
          rw [decide_eq_true h1]
          rfl
        rw [e] at q
        exact q
      · rw [decide_eq_false h1]
        have e : numB lo hi (.int i) = false := by
          show (decide (lo ≤ i) && _) = _
          rw [decide_eq_false h1]
          rfl
        rw [e] at q
        exact iteF q
    | non => exact iteF q
    | bl b => exact iteF q
    | str x => exact iteF q
    | lst _ _ => exact iteF q
    | tup _ _ => exact iteF q
    | dct _ => exact iteF q
/-! ### are_integers -/
def spAreIntsO (K : PySem.W.Frag) : Sp := fun vs H Q _ => ∃ (v : V) (d : PyData) (lo hi m : Int), vs = [v, .int lo, .int hi, .int m] ∧ Ox K H v d ∧ wt d ≤ 190000 ∧ ∀ H' (b : Bool), Same H H' → (b = true ↔ AreI lo hi m d) → Q (.bl b) H'
theorem ok_are_integers_O {f : Addr} {fd : FuncData} (F : Fun K "are_integers" "are_integers" s_are_integers f fd) (B : NoB mg) (T_is_integer_within : Cal P w K mg base 2 "is_integer_within" (spWithinO K)) : FnOk P w K mg base CX0 3 f fd ["value", "least", "greatest", "most"] (spAreIntsO K) := by
  refine F.ok sc_are_integers (fun vs H Q E h => ?_) (fun cdv A outer s H vs Q E hr h => ?_)
  · obtain ⟨v, d, lo, hi, m, rfl, _⟩ := h
    rfl
  · obtain ⟨v, d, lo, hi, m, rfl, hv, hw, q⟩ := h
    refine ⟨_, (pss_cons (ps_if (PW.pt (pw_or (pt_cmpR op_neTyG (pe_callTy call_type1 (by rfl) B.type (by decide +kernel) (pa_cons (pv 0) pa_nil)) (pe_bltn (v := .ty "list") (by rfl) B.list boot_list rfl) (nomark _)) (pw_or1 (pt_cmpR op_gt (pe_callB call_len_seq (by rfl) B.len PySem.boot_len (pa_cons (pv 0) pa_nil)) (pv 3) (nomark _))))) (pss_one (ps_ret pe_bl)) pss_nil)
        (pss_one (ps_ret (pe_callB (cr_all rfl) (by rfl) B.all (by decide +kernel) (pa_cons (pe_lc (own := [("item", 4)]) (g := gName 4) (tt := tYes) rfl sc_are_integers.nd (pi_list (pv 0)) (blkOk_by (own := [("item", 4)]) (N := N_are_integers) (sc := defScope s_are_integers) (by decide +kernel)) (fun _ _ _ _ _ => (pg_name (i := 4) sc_are_integers.nd rfl (Or.inl rfl))) (fun _ _ _ _ _ => pts_nil) (fun _ _ _ _ _ => (pe_c T_is_integer_within hr (by decide) (by rfl) (pa_cons (pv 4) (pa_cons (pv 1) (pa_cons (pv 2) pa_nil)))))) pa_nil))))), ?_⟩
    by_cases hl : isL d = true
    · cases hv with
      | @lst a xs ds hS ha =>
        have ln := oxAll_len ha
        have wl := wt_len ds
        have hw : 2 + wtAll ds ≤ 190000 := hw
        refine ⟨_, rfl, _, _, rfl, .lst hS, .inl ⟨_, rfl, rfl, PySem.TypeEq.meta_list, _, rfl, iteF ?_⟩⟩
        refine ⟨_, rfl, a, _, rfl, .inl hS, _, rfl, _, _, rfl, rfl, _, rfl, ?_⟩
        by_cases hm : m < ((xs.length : Nat) : Int)
        · rw [decide_eq_true hm]
          refine iteT (q _ false (Same.refl _) ⟨(fun h => nomatch h), fun ⟨ns, e, h, _⟩ => ?_⟩)
          cases e
          rw [List.length_map] at ln
          omega
        · rw [decide_eq_false hm]
          refine iteF ?_
          refine ⟨_, rfl, a, rfl, ⟨_, hS⟩, fun D hD => lc_list (xs := xs) (LcP H D fun i => ((ds.take i).map (numB lo hi)).map V.bl) (.init hD rfl) (fun i H' _ p => p.2.1.seq hS) (fun i x H' hx p => ?_) (fun H' p => ?_)⟩
          · obtain ⟨e, he, hxo⟩ := oxAll_get ha hx
            have li := lt_get he
            refine ⟨rfl, ?_⟩
            refine ⟨_, rfl, _, rfl, _, rfl, x, e, lo, hi, rfl, ox_same p.2.1 hxo, ?_⟩
            refine p.put (Same.refl _) ?_ (by rw [List.length_map, List.length_map, List.length_take]; omega)
            rw [take_get he, List.map_append, List.map_append]
            rfl
          · have h2 : H' D = some (.lst ((ds.map (numB lo hi)).map V.bl)) := by
              have z := p.2.2
              rw [ln] at z
              rw [z]
              show some (HO.lst (((ds.take ds.length).map (numB lo hi)).map V.bl)) = _
              rw [List.take_length]
            refine ⟨D, _, rfl, .of h2, q _ _ p.2.1 ?_⟩
            rw [numB_all]
            constructor
            · rintro ⟨ns, rfl, hn⟩
              rw [List.length_map] at ln
              exact ⟨ns, rfl, by omega, hn⟩
            · rintro ⟨ns, e, _, hn⟩
              cases e
              exact ⟨ns, rfl, hn⟩
      | non => cases hl
      | bl b => cases hl
      | int i => cases hl
      | str x => cases hl
      | tup _ _ => cases hl
      | dct _ => cases hl
    · have hl' : isL d = false := Bool.eq_false_iff.mpr hl
      refine ⟨_, rfl, _, _, rfl, hv.tyb, ?_⟩
      refine neTyL ⟨_, rfl, ?_⟩
      rw [hl']
      refine iteT (q _ false (Same.refl _) ⟨(fun h => nomatch h), fun ⟨ns, e, _⟩ => ?_⟩)
      subst e
      cases hl'
/-! ### are_events -/
def spAreEvO (K : PySem.W.Frag) : Sp := fun vs H Q _ => ∃ (v : V) (d : PyData), vs = [v] ∧ Ox K H v d ∧ wt d ≤ 190000 ∧ ∀ H' (b : Bool), Same H H' → (b = true ↔ EvD d) → Q (.bl b) H'
theorem ok_are_events_O {f : Addr} {fd : FuncData} (F : Fun K "are_events" "are_events" s_are_events f fd) (B : NoB mg) {t1 t2 : Tok} (T_g_LAST_PATCH : mg "LAST_PATCH" = some (.int 100 t1)) (T_g_MOST_EVENTS : mg "MOST_EVENTS" = some (.int 200 t2))
    (T_are_integers : Cal P w K mg base 3 "are_integers" (spAreIntsO K)) : FnOk P w K mg base CX0 4 f fd ["value"] (spAreEvO K) := by
  refine F.ok sc_are_events (fun vs H Q E h => ?_) (fun cdv A outer s H vs Q E hr h => ?_)
  · obtain ⟨v, d, rfl, _⟩ := h
    rfl
  · obtain ⟨v, d, rfl, hv, hw, q⟩ := h
    refine ⟨_, (pss_cons (ps_if (pt_not (pt_val (pe_c T_are_integers hr (by decide) (by rfl) (pa_cons (pv 0) (pa_cons (pe_un un_neg (pe_glob (v := .int 100) (by rfl) T_g_LAST_PATCH ⟨_, rfl⟩)) (pa_cons (pe_glob (v := .int 100) (by rfl) T_g_LAST_PATCH ⟨_, rfl⟩) (pa_cons (pe_glob (v := .int 200) (by rfl) T_g_MOST_EVENTS ⟨_, rfl⟩) pa_nil))))))) (pss_one (ps_ret pe_bl)) pss_nil)
        (pss_one (ps_ret (pe_and (pe_cmpR op_notIn_seq pe_int (pv 0) (by rfl)) (pe_one (pe_cmpR op_eq (pe_lenSetG (by rfl) B.len (by rfl) B.set (pv 0)) (pe_callB call_len_seq (by rfl) B.len PySem.boot_len (pa_cons (pv 0) pa_nil)) (nomark _))))))), ?_⟩
    refine ⟨_, rfl, _, rfl, v, d, -100, 100, 200, rfl, hv, hw, fun H1 b s1 hb => ?_⟩
    cases b with
    | false =>
      refine ⟨_, rfl, iteT (q _ false s1 ⟨(fun h => nomatch h), fun ⟨ns, e, h1, h2, h3⟩ => ?_⟩)⟩
      exact hb.mpr ⟨ns, e, by omega, fun n hn => (h1 n hn).2⟩
    | true =>
      obtain ⟨ns, rfl, hlen, hr0⟩ := hb.mp rfl
      obtain ⟨a, rfl, hS⟩ := ox_ints_inv hv
      refine ⟨_, rfl, iteF ?_⟩
      have hS1 := s1.seq hS
      by_cases h0 : (0 : Int) ∈ ns
      · refine ⟨_, rfl, a, ns.map V.int, rfl, .inl hS1, rfl, flatI ns, false, notInF h0, iteF (q _ false s1 ⟨(fun h => nomatch h), fun ⟨ms, e, h1, _⟩ => ?_⟩)⟩
        have e2 : ns = ms := by
          have := PyData.list.inj e
          exact List.map_inj_right (fun x y h => PyData.int.inj h) |>.mp this
        subst e2
        exact absurd rfl (h1 0 h0).1
      · refine ⟨_, rfl, a, ns.map V.int, rfl, .inl hS1, rfl, flatI ns, true, notInT h0, iteT ?_⟩
        refine ⟨_, rfl, a, ns, rfl, hS1, by omega, fun c hc => ?_⟩
        refine ⟨_, rfl, a, _, rfl, .inl hS1, rfl, ?_⟩
        rw [List.length_map]
        refine q _ _ s1 ?_
        rw [decide_eq_true_eq]
        constructor
        · intro h
          have h : (c : Int) = ((ns.length : Nat) : Int) := by
            have := V.int.inj h
            exact this
          exact ⟨ns, rfl, fun e he => ⟨fun z => h0 (z ▸ he), hr0 e he⟩, hc.mp (by omega), by omega⟩
        · rintro ⟨ms, e, _, nd, _⟩
          have e2 : ns = ms := by
            have := PyData.list.inj e
            exact List.map_inj_right (fun x y h => PyData.int.inj h) |>.mp this
          subst e2
          rw [hc.mpr nd]
end
section
variable {P : Program} {w : World} {K : PySem.W.Frag} {mg : Str → Option Value} {base : Heap}
/-- a def of the text at its name -/
structure At (K : PySem.W.Frag) (mg : Str → Option Value) (x : Str) (st : Stmt) (f : Addr) (fd : FuncData) : Prop where
  fn : Fun K x x st f fd
  mgf : mg x = some (.ref f)
theorem At.gc {k : Nat} {x : Str} {st : Stmt} {f : Addr} {fd : FuncData} {ps : List Str} {sp : Sp} (a : At K mg x st f fd) (b : Binds K fd ps []) (F : FnOk P w K mg base CX0 k f fd ps sp) : Cal P w K mg base k x sp := ⟨f, fd, ps, F, a.mgf, a.fn.kp, b⟩

/-! ### is_integer and its kin -/
def spIsInt : Sp := fun vs H Q _ => ∃ i : Int, vs = [.int i] ∧ Q (.bl true) H
def spWithin : Sp := fun vs H Q _ => ∃ i lo hi : Int, vs = [.int i, .int lo, .int hi] ∧ lo ≤ i ∧ i ≤ hi ∧ Q (.bl true) H
/-! ### are_integers -/
def spAreInts (K : PySem.W.Frag) : Sp := fun vs H Q _ => ∃ (a : Addr) (ns : List Int) (lo hi m : Int), vs = [.ref a, .int lo, .int hi, .int m] ∧ SqL K H a (ns.map V.int) ∧ ((ns.length : Nat) : Int) ≤ m ∧ ns.length ≤ 1000 ∧ (∀ n ∈ ns, lo ≤ n ∧ n ≤ hi) ∧ ∀ H', Same H H' → Q (.bl true) H'
/-! ### histories -/
structure Hist (ns : List Int) : Prop where
  rng : ∀ e ∈ ns, e ≠ 0 ∧ -100 ≤ e ∧ e ≤ 100
  nd : ns.Nodup
  ord : ∀ (i : Nat) (e : Int), ns[i]? = some e → e < 0 → -e ∈ ns.take i
  len : ns.length ≤ 200
theorem not_mem_take {ns : List Int} (nd : ns.Nodup) {i : Nat} {e : Int} (h : ns[i]? = some e) : e ∉ ns.take i := by
  intro hm
  obtain ⟨j, hj, e1⟩ := List.mem_iff_getElem.mp hm
  rw [List.length_take] at hj
  have hjn : j < ns.length := by omega
  have e2 : ns[j]? = some e := by
    rw [List.getElem?_eq_getElem hjn, ← e1, List.getElem_take]
  have := nd_ix nd e2 h
  omega
theorem mem_take_succ {ns : List Int} {i : Nat} {e x : Int} (h : ns[i]? = some e) : (x ∈ ns.take (i + 1)) ↔ (x ∈ ns.take i ∨ x = e) := by
  rw [take_get h, List.mem_append, List.mem_singleton]
/-! ### are_events -/
def spAreEv (K : PySem.W.Frag) : Sp := fun vs H Q _ => ∃ (a : Addr) (ns : List Int), vs = [.ref a] ∧ SqL K H a (ns.map V.int) ∧ (∀ e ∈ ns, e ≠ 0 ∧ -100 ≤ e ∧ e ≤ 100) ∧ ns.Nodup ∧ ns.length ≤ 200 ∧ ∀ H', Same H H' → Q (.bl true) H'
def spIsHist (K : PySem.W.Frag) : Sp := fun vs H Q _ => ∃ (a : Addr) (ns : List Int), vs = [.ref a] ∧ SqL K H a (ns.map V.int) ∧ Hist ns ∧ ∀ H', Same H H' → Q (.bl true) H'
theorem ok_is_history {f : Addr} {fd : FuncData} (F : Fun K "is_history" "is_history" s_is_history f fd) (B : NoB mg) (T_are_events : Cal P w K mg base 4 "are_events" (spAreEv K)) : FnOk P w K mg base CX0 5 f fd ["value"] (spIsHist K) := by
  refine F.ok sc_is_history (fun vs H Q E h => ?_) (fun cdv A outer s H vs Q E hr h => ?_)
  · obtain ⟨a, ns, rfl, _⟩ := h
    rfl
  · obtain ⟨a, ns, rfl, hS, hh, q⟩ := h
    have hu := hu_of hr
    refine ⟨_, (pss_cons (ps_if (pt_not (pt_val (pe_c T_are_events hr (by decide) (by rfl) (pa_cons (pv 0) pa_nil)))) (pss_one (ps_ret pe_bl)) pss_nil)
        (pss_cons (ps_set (i := 1) sc_is_history.nd rfl (Or.inl rfl) (pe_callTy0 cr_set0 (by rfl) B.set (by decide +kernel)))
        (pss_cons (ps_for PassesOwn.never rfl (pi_list (pv 0)) (pg_name (i := 2) sc_is_history.nd rfl (Or.inl rfl))
          (pss_one (ps_if (pt_cmpR op_gt (pv 2) pe_int (nomark _)) (pss_one (ps_expr (pe_sadd (pv 1) (pa_cons (pv 2) pa_nil)))) (pss_one (ps_if (pt_cmpR or_snotin (pe_un un_neg (pv 2)) (pv 1) (by rfl)) (pss_one (ps_ret pe_bl)) pss_nil)))))
        (pss_one (ps_ret pe_bl))))), ?_⟩
    refine ⟨_, rfl, a, ns, rfl, hS, hh.rng, hh.nd, hh.len, fun H1 s1 => ?_⟩
    refine ⟨_, rfl, iteF ?_⟩
    refine ⟨rfl, fun p np => ?_⟩
    have hS1 := s1.seq hS
    refine ⟨_, rfl, a, rfl, ⟨_, (same_new np).seq hS1⟩, for_list (xs := ns.map V.int) (fun i σ H' => (∃ y, σ = [some (.ref a), some (.ref p), y]) ∧ Same H1 H' ∧ ∃ n, n ≤ i ∧ H' p = some (SetO w p (fun x => decide (0 < x ∧ x ∈ ns.take i)) n)) ⟨⟨_, rfl⟩, same_new np, 0, Nat.le_refl _, ?_⟩ (fun i σ H' _ h => h.2.1.seq hS1) (fun i x σ H' hx h => ?_) (fun σ H' h => ?_)⟩
    · rw [upd_same]
      show some (SetO w p (fun x => false) 0) = some (SetO w p (fun x => decide (0 < x ∧ x ∈ ns.take 0)) 0)
      simp
    · obtain ⟨n, rfl, hn⟩ := get_int hx
      obtain ⟨⟨y, rfl⟩, sm, m, hm, hp⟩ := h
      have hi : i < 200 := Nat.lt_of_lt_of_le (lt_get hn) hh.len
      by_cases h0 : 0 < n
      · refine ⟨_, rfl, _, _, rfl, rfl, true, dT h0, ?_⟩
        refine ⟨_, rfl, ⟨p, _, m, rfl, hp⟩, _, rfl, p, n, _, m, rfl, rfl, hp, by show m + 1 < 4096; omega, ⟨_, rfl⟩, fun b o e => ?_, m + 1, by omega, ?_⟩
        rotate_left 1
        · have hnt : ¬ (0 < n ∧ n ∈ ns.take i) := fun z => not_mem_take hh.nd hn z.2
          rw [upd_same, decide_eq_false hnt, if_neg Bool.false_ne_true]
          refine congrArg some (congrArg (fun S => SetO w p S _) (funext fun x => ?_))
          rw [← Bool.decide_or]
          refine decide_eq_decide.mpr ?_
          have := mem_take_succ (x := x) hn
          rw [this]
          constructor
          · rintro (⟨a, b⟩ | rfl)
            · exact ⟨a, .inl b⟩
            · exact ⟨h0, .inr rfl⟩
          · rintro ⟨a, b | b⟩
            · exact .inl ⟨a, b⟩
            · exact .inr b
        · rw [upd_ne (ne_of_none e np)]
          exact sm _ _ e
      · refine ⟨_, rfl, _, _, rfl, rfl, false, dF h0, ?_⟩
        have e0 := (hh.rng n (mem_get hn)).1
        have hpre := hh.ord i n hn (by omega)
        refine ⟨_, rfl, n, rfl, _, rfl, -n, p, _, m, rfl, rfl, hp, false, nF ⟨by omega, hpre⟩, ⟨_, rfl⟩, sm, m, by omega, ?_⟩
        rw [hp]
        refine congrArg some (congrArg (fun S => SetO w p S m) (funext fun x => decide_eq_decide.mpr ?_))
        rw [mem_take_succ hn]
        constructor
        · exact fun ⟨a, b⟩ => ⟨a, .inl b⟩
        · rintro ⟨a, b | b⟩
          · exact ⟨a, b⟩
          · omega
    · obtain ⟨⟨y, rfl⟩, sm, _⟩ := h
      exact q _ (s1.trans sm)

/-! ### check_history -/
def spCheck (K : PySem.W.Frag) : Sp := fun vs H Q _ => ∃ (a : Addr) (ns : List Int), vs = [.ref a] ∧ SqL K H a (ns.map V.int) ∧ Hist ns ∧ ∀ H', Same H H' → Q .non H'
theorem ok_check_history {f : Addr} {fd : FuncData} (F : Fun K "check_history" "check_history" s_check_history f fd) (T_is_history : Cal P w K mg base 5 "is_history" (spIsHist K)) : FnOk P w K mg base CX0 6 f fd ["history"] (spCheck K) := by
  refine F.ok sc_check_history (fun vs H Q E h => ?_) (fun cdv A outer s H vs Q E hr h => ?_)
  · obtain ⟨a, ns, rfl, _⟩ := h
    rfl
  · obtain ⟨a, ns, rfl, hS, hh, q⟩ := h
    refine ⟨_, (pss_one (ps_if (pt_not (pt_val (pe_c T_is_history hr (by decide) (by rfl) (pa_cons (pv 0) pa_nil)))) (pss_one ps_never) pss_nil)), ?_⟩
    exact ⟨_, rfl, a, ns, rfl, hS, hh, fun H1 s1 => ⟨_, rfl, iteF (q _ s1)⟩⟩

end
/-! ### the good ones among them -/
theorem wtAll_small : ∀ {ns : List Int}, (∀ e ∈ ns, -100 ≤ e ∧ e ≤ 100) → wtAll (ns.map PyData.int) ≤ 6 * ns.length
  | [], _ => Nat.le_refl _
  | n :: r, h => by
    have a := wtAll_small (ns := r) fun e he => h e (List.mem_cons_of_mem _ he)
    have b := num_len n (h n List.mem_cons_self).1 (h n List.mem_cons_self).2
    show (Str.ofString (toString n)).length + 2 + wtAll (r.map PyData.int) ≤ 6 * (r.length + 1)
    omega
theorem bd_small {ns : List Int} {k m : Nat} (h : ∀ e ∈ ns, -100 ≤ e ∧ e ≤ 100) (hl : ns.length ≤ m) : BdAll (6 * m) k (ns.map PyData.int) := by
  have z := bd_ints (k := k) (m := m) (ns := ns) (fun e he => by
    have := h e he
    have z2 : e.natAbs ≤ 100 := by omega
    exact Nat.lt_of_le_of_lt z2 (by decide)) hl
  exact ⟨Nat.le_trans (wtAll_small h) (Nat.mul_le_mul_left _ hl), z.dp, z.s, z.n⟩
section
variable {P : Program} {w : World} {K : PySem.W.Frag} {mg : Str → Option Value} {base : Heap}
theorem areEv_good : ∀ vs H Q E, spAreEv K vs H Q E → spAreEvO K vs H Q E := by
  rintro vs H Q E ⟨a, ns, rfl, hS, hb, nd, hl, q⟩
  refine ⟨.ref a, dI ns, rfl, ox_ints hS, ?_, fun H' b s hb2 => ?_⟩
  · have z : wtAll (ns.map PyData.int) ≤ 6 * ns.length := wtAll_small fun e he => (hb e he).2
    show 2 + wtAll (ns.map PyData.int) ≤ 190000
    omega
  · have e : b = true := hb2.mpr ⟨ns, rfl, hb, nd, hl⟩
    subst e
    exact q H' s
end
/-! ### the classes of errors -/
structure Err (K : PySem.W.Frag) (mg : Str → Option Value) (E : Nat → Addr) : Prop where
  c0 : mg "EmptyHistoryError" = some (.ref (E 0))
  x0 : PySem.W.excIn K (E 0) [.type "ValueError", .type "Exception", .type "BaseException", .type "object"] "ValueError.__new__" = true
  k0 : PySem.W.keepIn K (.ref (E 0)) = true
  c1 : mg "FullError" = some (.ref (E 1))
  x1 : PySem.W.excIn K (E 1) [.type "ValueError", .type "Exception", .type "BaseException", .type "object"] "ValueError.__new__" = true
  k1 : PySem.W.keepIn K (.ref (E 1)) = true
  c2 : mg "InvalidFormatError" = some (.ref (E 2))
  x2 : PySem.W.excIn K (E 2) [.type "ValueError", .type "Exception", .type "BaseException", .type "object"] "ValueError.__new__" = true
  k2 : PySem.W.keepIn K (.ref (E 2)) = true
  c3 : mg "InvalidHistoryError" = some (.ref (E 3))
  x3 : PySem.W.excIn K (E 3) [.type "ValueError", .type "Exception", .type "BaseException", .type "object"] "ValueError.__new__" = true
  k3 : PySem.W.keepIn K (.ref (E 3)) = true
  c4 : mg "InvalidNumberError" = some (.ref (E 4))
  x4 : PySem.W.excIn K (E 4) [.type "ValueError", .type "Exception", .type "BaseException", .type "object"] "ValueError.__new__" = true
  k4 : PySem.W.keepIn K (.ref (E 4)) = true
  c5 : mg "InvalidOrderError" = some (.ref (E 5))
  x5 : PySem.W.excIn K (E 5) [.type "ValueError", .type "Exception", .type "BaseException", .type "object"] "ValueError.__new__" = true
  k5 : PySem.W.keepIn K (.ref (E 5)) = true
  c6 : mg "InvalidPatchError" = some (.ref (E 6))
  x6 : PySem.W.excIn K (E 6) [.type "ValueError", .type "Exception", .type "BaseException", .type "object"] "ValueError.__new__" = true
  k6 : PySem.W.keepIn K (.ref (E 6)) = true
  c7 : mg "InvalidPieceError" = some (.ref (E 7))
  x7 : PySem.W.excIn K (E 7) [.type "ValueError", .type "Exception", .type "BaseException", .type "object"] "ValueError.__new__" = true
  k7 : PySem.W.keepIn K (.ref (E 7)) = true
  c8 : mg "InvalidPresentsError" = some (.ref (E 8))
  x8 : PySem.W.excIn K (E 8) [.type "ValueError", .type "Exception", .type "BaseException", .type "object"] "ValueError.__new__" = true
  k8 : PySem.W.keepIn K (.ref (E 8)) = true
  c9 : mg "InvalidShapeError" = some (.ref (E 9))
  x9 : PySem.W.excIn K (E 9) [.type "ValueError", .type "Exception", .type "BaseException", .type "object"] "ValueError.__new__" = true
  k9 : PySem.W.keepIn K (.ref (E 9)) = true
  c10 : mg "InvalidStateError" = some (.ref (E 10))
  x10 : PySem.W.excIn K (E 10) [.type "ValueError", .type "Exception", .type "BaseException", .type "object"] "ValueError.__new__" = true
  k10 : PySem.W.keepIn K (.ref (E 10)) = true
  c11 : mg "InvalidTouchesError" = some (.ref (E 11))
  x11 : PySem.W.excIn K (E 11) [.type "ValueError", .type "Exception", .type "BaseException", .type "object"] "ValueError.__new__" = true
  k11 : PySem.W.keepIn K (.ref (E 11)) = true
  c12 : mg "InvalidValueError" = some (.ref (E 12))
  x12 : PySem.W.excIn K (E 12) [.type "ValueError", .type "Exception", .type "BaseException", .type "object"] "ValueError.__new__" = true
  k12 : PySem.W.keepIn K (.ref (E 12)) = true
  c13 : mg "MismatchError" = some (.ref (E 13))
  x13 : PySem.W.excIn K (E 13) [.type "ValueError", .type "Exception", .type "BaseException", .type "object"] "ValueError.__new__" = true
  k13 : PySem.W.keepIn K (.ref (E 13)) = true
  c14 : mg "NotRunningError" = some (.ref (E 14))
  x14 : PySem.W.excIn K (E 14) [.type "ValueError", .type "Exception", .type "BaseException", .type "object"] "ValueError.__new__" = true
  k14 : PySem.W.keepIn K (.ref (E 14)) = true
  c15 : mg "OutOfOrderError" = some (.ref (E 15))
  x15 : PySem.W.excIn K (E 15) [.type "ValueError", .type "Exception", .type "BaseException", .type "object"] "ValueError.__new__" = true
  k15 : PySem.W.keepIn K (.ref (E 15)) = true
  c16 : mg "StartedError" = some (.ref (E 16))
  x16 : PySem.W.excIn K (E 16) [.type "ValueError", .type "Exception", .type "BaseException", .type "object"] "ValueError.__new__" = true
  k16 : PySem.W.keepIn K (.ref (E 16)) = true
  c17 : mg "LatepatchError" = some (.ref (E 17))
  x17 : PySem.W.excIn K (E 17) [.type "ValueError", .type "Exception", .type "BaseException", .type "object"] "ValueError.__new__" = true
  k17 : PySem.W.keepIn K (.ref (E 17)) = true
  ec : ∀ d, d ≤ 17 → ExcC K (E d)
  kit : ∀ d j, d ≤ 17 → j < 17 → PySem.W.kitOne K (.ref (E d)) (.ref (E j)) = some (decide (j = d))
  kitL : ∀ d, d < 17 → PySem.W.kitOne K (.ref (E d)) (.ref (E 17)) = some true
  kitV : ∀ d, d < 17 → PySem.W.kitOne K (.ref (E d)) (.type "ValueError") = some true
  b : ∀ d, d < 17 → PySem.W.subIn K (.ref (E d)) (.type "BaseException") = some true
  t : ∀ d, d < 17 → PySem.W.typeIn K (.ref (E d)) = some (.type "type")
  m : ∀ d, d < 17 → PySem.W.exmOne K (.ref (E d)) (.ref (E 17)) = some true
/-! ### what the classes of errors must say, asked at once -/
def Ex (L : List Addr) : Nat → Addr := fun i => L.getD i 0
def ecB (K : PySem.W.Frag) (D : Addr) : Bool := xfB K D && (decide (PySem.W.findIn K (.ref D) "__class__" = some (some (.builtin "object.__class__"))) && decide (PySem.W.mroIn K D (.type "object") = some true))
def tyB (K : PySem.W.Frag) (D : Addr) : Bool := (PySem.W.clsIn K D).isSome && (decide (PySem.W.typeIn K (.ref D) = some (.type "type")) && (decide (PySem.W.subIn K (.ref D) (.type "ValueError") = some true) && decide (PySem.W.subIn K (.ref D) (.type "BaseException") = some true)))
section
variable {K : PySem.W.Frag} {E : Nat → Addr}
theorem ec_of (h : ((List.range 18).all fun d => ecB K (E d)) = true) (hn : PySem.W.specialIn K (.builtin "object.__class__") "__get__" = some (some (.builtin "getset_descriptor.__get__"))) (ht : PySem.W.takesIn K (.builtin "object.__class__") = some true) (d : Nat) (hd : d ≤ 17) : ExcC K (E d) := by
  have z := List.all_eq_true.mp h d (List.mem_range.mpr (by omega))
  unfold ecB at z
  rw [Bool.and_eq_true, Bool.and_eq_true, decide_eq_true_eq, decide_eq_true_eq] at z
  obtain ⟨z1, z2, z3⟩ := z
  have X := xfB_ok z1
  unfold xfB at z1
  simp only [Bool.and_eq_true, decide_eq_true_eq] at z1
  exact ⟨z1.1, z1.2.1, z1.2.2.1, z1.2.2.2, z2, hn, ht, z3⟩
theorem ty_of (h : ((List.range 18).all fun d => tyB K (E d)) = true) (d : Nat) (hd : d ≤ 17) : (PySem.W.clsIn K (E d)).isSome = true ∧ PySem.W.typeIn K (.ref (E d)) = some (.type "type") ∧ PySem.W.subIn K (.ref (E d)) (.type "ValueError") = some true ∧ PySem.W.subIn K (.ref (E d)) (.type "BaseException") = some true := by
  have z := List.all_eq_true.mp h d (List.mem_range.mpr (by omega))
  unfold tyB at z
  simp only [Bool.and_eq_true, decide_eq_true_eq] at z
  exact z
theorem kit_ref {C D : Addr} {r : Bool} (h1 : (PySem.W.clsIn K C).isSome = true) (h2 : PySem.W.typeIn K (.ref C) = some (.type "type")) (s : PySem.W.subIn K (.ref D) (.ref C) = some r) (sc : PySem.W.subIn K (.ref C) (.ref C) = some true) : PySem.W.kitOne K (.ref D) (.ref C) = some r := by
  unfold PySem.W.kitOne
  by_cases e : (Value.ref D == Value.ref C) = true
  · rw [if_pos e]
    have e2 : D = C := Value.ref.inj (beq_iff_eq.mp e)
    rw [e2, sc] at s
    exact s
  · rw [if_neg e]
    unfold PySem.W.kitCls
    show (if ((PySem.W.clsIn K C).isSome && PySem.W.typeIn K (.ref C) == some (.type "type")) = true then PySem.W.subIn K (.ref D) (.ref C) else none) = some r
    rw [h1, h2, if_pos (by rfl)]
    exact s
theorem sub_of (h : ((List.range 18).all fun d => (List.range 17).all fun j => decide (PySem.W.subIn K (.ref (E d)) (.ref (E j)) = some (decide (j = d)))) = true) (d j : Nat) (hd : d ≤ 17) (hj : j < 17) : PySem.W.subIn K (.ref (E d)) (.ref (E j)) = some (decide (j = d)) := by
  have z := List.all_eq_true.mp h d (List.mem_range.mpr (by omega))
  have z2 := List.all_eq_true.mp z j (List.mem_range.mpr hj)
  exact of_decide_eq_true z2
theorem kit_of (h : ((List.range 18).all fun d => (List.range 17).all fun j => decide (PySem.W.subIn K (.ref (E d)) (.ref (E j)) = some (decide (j = d)))) = true) (ht : ((List.range 18).all fun d => tyB K (E d)) = true) (d j : Nat) (hd : d ≤ 17) (hj : j < 17) : PySem.W.kitOne K (.ref (E d)) (.ref (E j)) = some (decide (j = d)) := by
  obtain ⟨t1, t2, _⟩ := ty_of ht j (by omega)
  refine kit_ref t1 t2 (sub_of h d j hd hj) ?_
  have z := sub_of h j j (by omega) hj
  rw [decide_eq_true rfl] at z
  exact z
theorem subL_of (h : ((List.range 18).all fun d => decide (PySem.W.subIn K (.ref (E d)) (.ref (E 17)) = some true)) = true) (d : Nat) (hd : d ≤ 17) : PySem.W.subIn K (.ref (E d)) (.ref (E 17)) = some true := of_decide_eq_true (List.all_eq_true.mp h d (List.mem_range.mpr (by omega)))
theorem kitL_of (h : ((List.range 18).all fun d => decide (PySem.W.subIn K (.ref (E d)) (.ref (E 17)) = some true)) = true) (ht : ((List.range 18).all fun d => tyB K (E d)) = true) (d : Nat) (hd : d < 17) : PySem.W.kitOne K (.ref (E d)) (.ref (E 17)) = some true := by
  obtain ⟨t1, t2, _⟩ := ty_of ht 17 (Nat.le_refl _)
  exact kit_ref t1 t2 (subL_of h d (by omega)) (subL_of h 17 (Nat.le_refl _))
theorem kitV_of (ht : ((List.range 18).all fun d => tyB K (E d)) = true) (d : Nat) (hd : d < 17) : PySem.W.kitOne K (.ref (E d)) (.type "ValueError") = some true := by
  obtain ⟨_, _, t3, _⟩ := ty_of ht d (by omega)
  unfold PySem.W.kitOne
  rw [if_neg (fun z => by cases beq_iff_eq.mp z)]
  show (if PySem.W.kitMeta "ValueError" = true then PySem.W.subIn K (.ref (E d)) (.type "ValueError") else none) = some true
  rw [if_pos (by decide +kernel), t3]
theorem exm_of (h : ((List.range 18).all fun d => decide (PySem.W.subIn K (.ref (E d)) (.ref (E 17)) = some true)) = true) (ht : ((List.range 18).all fun d => tyB K (E d)) = true) (d : Nat) (hd : d ≤ 17) : PySem.W.exmOne K (.ref (E d)) (.ref (E 17)) = some true := by
  obtain ⟨t1, t2, _, t4⟩ := ty_of ht 17 (Nat.le_refl _)
  unfold PySem.W.exmOne PySem.W.kitCls
  rw [t4, if_pos (by rfl)]
  show (if ((PySem.W.clsIn K (E 17)).isSome && PySem.W.typeIn K (.ref (E 17)) == some (.type "type")) = true then PySem.W.subIn K (.ref (E d)) (.ref (E 17)) else none) = some true
  rw [t1, t2, if_pos (by rfl), subL_of h d hd]
end
end L59
set_option Elab.async false
set_option linter.all false
set_option maxRecDepth 100000
namespace L59
open PySem PySem.Spec PyProof.Rows L2 Lp
/-! ### is_history of any value -/
def HistD (d : PyData) : Prop := ∃ ns : List Int, d = dI ns ∧ Hist ns
theorem dI_inj {ns ms : List Int} (e : dI ns = dI ms) : ns = ms := List.map_inj_right (fun x y h => PyData.int.inj h) |>.mp (PyData.list.inj e)
section
variable {P : Program} {w : World} {K : PySem.W.Frag} {mg : Str → Option Value} {base : Heap}
def spIsHistO (K : PySem.W.Frag) : Sp := fun vs H Q _ => ∃ (v : V) (d : PyData), vs = [v] ∧ Ox K H v d ∧ wt d ≤ 190000 ∧ ∀ H' (b : Bool), Same H H' → (b = true ↔ HistD d) → Q (.bl b) H'
theorem ok_is_history_O {f : Addr} {fd : FuncData} (F : Fun K "is_history" "is_history" s_is_history f fd) (B : NoB mg) (T_are_events : Cal P w K mg base 4 "are_events" (spAreEvO K)) : FnOk P w K mg base CX0 5 f fd ["value"] (spIsHistO K) := by
  refine F.ok sc_is_history (fun vs H Q E h => ?_) (fun cdv A outer s H vs Q E hr h => ?_)
  · obtain ⟨v, d, rfl, _⟩ := h
    rfl
  · obtain ⟨v, d, rfl, hv, hw, q0⟩ := h
    have hu := hu_of hr
    refine ⟨_, (pss_cons (ps_if (pt_not (pt_val (pe_c T_are_events hr (by decide) (by rfl) (pa_cons (pv 0) pa_nil)))) (pss_one (ps_ret pe_bl)) pss_nil)
        (pss_cons (ps_set (i := 1) sc_is_history.nd rfl (Or.inl rfl) (pe_callTy0 cr_set0 (by rfl) B.set (by decide +kernel)))
        (pss_cons (ps_for PassesOwn.never rfl (pi_list (pv 0)) (pg_name (i := 2) sc_is_history.nd rfl (Or.inl rfl))
          (pss_one (ps_if (pt_cmpR op_gt (pv 2) pe_int (nomark _)) (pss_one (ps_expr (pe_sadd (pv 1) (pa_cons (pv 2) pa_nil)))) (pss_one (ps_if (pt_cmpR or_snotin (pe_un un_neg (pv 2)) (pv 1) (by rfl)) (pss_one (ps_ret pe_bl)) pss_nil)))))
        (pss_one (ps_ret pe_bl))))), ?_⟩
    refine ⟨_, rfl, v, d, rfl, hv, hw, fun H1 b1 s1 hb1 => ?_⟩
    cases b1 with
    | false => exact ⟨_, rfl, iteT (q0 _ false s1 ⟨(fun h => nomatch h), fun ⟨ns, e, hp⟩ => hb1.mpr ⟨ns, e, hp.rng, hp.nd, hp.len⟩⟩)⟩
    | true =>
    obtain ⟨ns, rfl, hr0, nd0, hlen⟩ := hb1.mp rfl
    obtain ⟨a, rfl, hS⟩ := ox_ints_inv hv
    have q : ∀ (H' : Hp) (b : Bool), Same H H' → (b = true ↔ Hist ns) → Q (.bl b) H' := fun H' b s hb => q0 H' b s ⟨fun e => ⟨ns, rfl, hb.mp e⟩, fun ⟨ms, e, hp⟩ => by
      have e2 := dI_inj e
      subst e2
      exact hb.mpr hp⟩
    refine ⟨_, rfl, iteF ?_⟩
    refine ⟨rfl, fun p np => ?_⟩
    have hS1 := s1.seq hS
    refine ⟨_, rfl, a, rfl, ⟨_, (same_new np).seq hS1⟩, for_list (xs := ns.map V.int) (fun i σ H' => (∃ y, σ = [some (.ref a), some (.ref p), y]) ∧ Same H1 H' ∧ (∃ n, n ≤ i ∧ H' p = some (SetO w p (fun x => decide (0 < x ∧ x ∈ ns.take i)) n)) ∧ ∀ (j : Nat) (e : Int), j < i → ns[j]? = some e → e < 0 → -e ∈ ns.take j) ⟨⟨_, rfl⟩, same_new np, ⟨0, Nat.le_refl _, ?_⟩, fun j e h => absurd h (Nat.not_lt_zero _)⟩ (fun i σ H' _ h => h.2.1.seq hS1) (fun i x σ H' hx h => ?_) (fun σ H' h => ?_)⟩
    · rw [upd_same]
      show some (SetO w p (fun x => false) 0) = some (SetO w p (fun x => decide (0 < x ∧ x ∈ ns.take 0)) 0)
      simp
    · obtain ⟨n, rfl, hn⟩ := get_int hx
      obtain ⟨⟨y, rfl⟩, sm, ⟨m, hm, hp⟩, ho⟩ := h
      have hi : i < 200 := Nat.lt_of_lt_of_le (lt_get hn) hlen
      have e0 := (hr0 n (mem_get hn)).1
      have ho' : (n < 0 → -n ∈ ns.take i) → ∀ (j : Nat) (e : Int), j < i + 1 → ns[j]? = some e → e < 0 → -e ∈ ns.take j := fun hnn j e hj he hneg => by
        rcases Nat.lt_or_ge j i with h | h
        · exact ho j e h he hneg
        · have : j = i := by omega
          subst this
          rw [hn] at he
          cases he
          exact hnn hneg
      by_cases h0 : 0 < n
      · refine ⟨_, rfl, _, _, rfl, rfl, true, dT h0, ?_⟩
        refine ⟨_, rfl, ⟨p, _, m, rfl, hp⟩, _, rfl, p, n, _, m, rfl, rfl, hp, by show m + 1 < 4096; omega, ⟨_, rfl⟩, fun b o e => ?_, ⟨m + 1, by omega, ?_⟩, ho' (fun z => by omega)⟩
        rotate_left 1
        · have hnt : ¬ (0 < n ∧ n ∈ ns.take i) := fun z => not_mem_take nd0 hn z.2
          rw [upd_same, decide_eq_false hnt, if_neg Bool.false_ne_true]
          refine congrArg some (congrArg (fun S => SetO w p S _) (funext fun x => ?_))
          rw [← Bool.decide_or]
          refine decide_eq_decide.mpr ?_
          have := mem_take_succ (x := x) hn
          rw [this]
          constructor
          · rintro (⟨a, b⟩ | rfl)
            · exact ⟨a, .inl b⟩
            · exact ⟨h0, .inr rfl⟩
          · rintro ⟨a, b | b⟩
            · exact .inl ⟨a, b⟩
            · exact .inr b
        · rw [upd_ne (ne_of_none e np)]
          exact sm _ _ e
      · refine ⟨_, rfl, _, _, rfl, rfl, false, dF h0, ?_⟩
        by_cases hpre : -n ∈ ns.take i
        · refine ⟨_, rfl, n, rfl, _, rfl, -n, p, _, m, rfl, rfl, hp, false, nF ⟨by omega, hpre⟩, ⟨_, rfl⟩, sm, ⟨m, by omega, ?_⟩, ho' (fun _ => hpre)⟩
          rw [hp]
          refine congrArg some (congrArg (fun S => SetO w p S m) (funext fun x => decide_eq_decide.mpr ?_))
          rw [mem_take_succ hn]
          constructor
          · exact fun ⟨a, b⟩ => ⟨a, .inl b⟩
          · rintro ⟨a, b | b⟩
            · exact ⟨a, b⟩
            · omega
        · refine ⟨_, rfl, n, rfl, _, rfl, -n, p, _, m, rfl, rfl, hp, true, nT (fun z => hpre z.2), ?_⟩
          exact q _ false (s1.trans sm) ⟨(fun h => nomatch h), fun hh => absurd (hh.ord i n hn (by omega)) hpre⟩
    · obtain ⟨⟨y, rfl⟩, sm, _, ho⟩ := h
      refine q _ true (s1.trans sm) ⟨fun _ => ⟨hr0, nd0, fun i e he h0 => ho i e ?_ he h0, hlen⟩, fun _ => rfl⟩
      rw [List.length_map]
      exact lt_get he
end
section
variable {P : Program} {w : World} {K : PySem.W.Frag} {mg : Str → Option Value} {base : Heap} {E : Nat → Addr}
/-! ### check_history of any value -/
def spCheckX (K : PySem.W.Frag) (E : Nat → Addr) : Sp := fun vs H Q X => ∃ (v : V) (d : PyData), vs = [v] ∧ Ox K H v d ∧ wt d ≤ 190000 ∧ (HistD d → ∀ H', Same H H' → Q .non H') ∧ (¬ HistD d → ∀ H', Same H H' → X (.ref (E 3)) none H')
theorem ok_check_history_X {f : Addr} {fd : FuncData} (F : Fun K "check_history" "check_history" s_check_history f fd) (R : Err K mg E) (T_is_history : Cal P w K mg base 5 "is_history" (spIsHistO K)) : FnOk P w K mg base (L2N.CX P w) 6 f fd ["history"] (spCheckX K E) := by
  refine F.okN sc_check_history (fun vs H Q E h => ?_) (fun cdv A outer s H vs Q E_ hr h => ?_)
  · obtain ⟨v, d, rfl, _⟩ := h
    rfl
  · obtain ⟨v, d, rfl, hv, hw, q, x⟩ := h
    refine ⟨_, (pss_one (ps_if (pt_not (pt_val (pe_c T_is_history hr (by decide) (by rfl) (pa_cons (pv 0) pa_nil)))) (pss_one (L2N.ps_raise rfl (L2N.takes_of rfl rfl rfl rfl) (L2N.pmk_own PySem.F.excBase_ValueError R.x3 R.c3 R.k3 (raises_own (R.b 3 (by decide)) (R.t 3 (by decide))) rfl))) pss_nil)), ?_⟩
    refine ⟨_, rfl, v, d, rfl, hv, hw, fun H1 b s1 hb => ⟨_, rfl, ?_⟩⟩
    cases b with
    | true => exact iteF (q (hb.mp rfl) _ s1)
    | false => exact iteT (x (fun h => nomatch (hb.mpr h)) _ s1)
/-! ### the good ones -/
theorem isHist_good : ∀ vs H Q E, spIsHist K vs H Q E → spIsHistO K vs H Q E := by
  rintro vs H Q E ⟨a, ns, rfl, hS, hh, q⟩
  refine ⟨.ref a, dI ns, rfl, ox_ints hS, ?_, fun H' b s hb2 => ?_⟩
  · have z : wtAll (ns.map PyData.int) ≤ 6 * ns.length := wtAll_small fun e he => (hh.rng e he).2
    have := hh.len
    show 2 + wtAll (ns.map PyData.int) ≤ 190000
    omega
  · have e : b = true := hb2.mpr ⟨ns, rfl, hh⟩
    subst e
    exact q H' s
end
/-! ### the drawn history -/
def upL (n : Nat) : List Int := (List.range n).map fun i : Nat => 1 + (i : Int)
theorem nodup_map {α β : Type} {f : α → β} (hf : ∀ x y, f x = f y → x = y) : ∀ {l : List α}, l.Nodup → (l.map f).Nodup
  | [], _ => List.nodup_nil
  | x :: r, h => by
    obtain ⟨h1, h2⟩ := List.nodup_cons.mp h
    refine List.nodup_cons.mpr ⟨fun hm => ?_, nodup_map hf h2⟩
    obtain ⟨y, hy, e⟩ := List.mem_map.mp hm
    exact h1 (hf _ _ e ▸ hy)
theorem upL_nd (n : Nat) : (upL n).Nodup := nodup_map (fun x y e => by omega) List.nodup_range
theorem upL_mem {n : Nat} {k : Int} (h : k ∈ upL n) : 1 ≤ k ∧ k ≤ (n : Int) := by
  obtain ⟨i, hi, rfl⟩ := List.mem_map.mp h
  have := List.mem_range.mp hi
  omega
theorem upL_len (n : Nat) : (upL n).length = n := by
  unfold upL
  rw [List.length_map, List.length_range]
theorem rgV_up (b : Int) : rgV 1 b = (upL (b - 1).toNat).map V.int := by
  unfold rgV upL
  rw [List.map_map]
  rfl
structure Good (fr av fd : List Int) : Prop where
  rng : ∀ e ∈ fd, e ≠ 0 ∧ -100 ≤ e ∧ e ≤ 100
  nd : fd.Nodup
  ord : ∀ (i : Nat) (e : Int), fd[i]? = some e → e < 0 → -e ∈ fd.take i
  avn : av.Nodup
  avm : ∀ k ∈ av, 0 < k ∧ k ∈ fd ∧ -k ∉ fd
  frn : fr.Nodup
  frm : ∀ k ∈ fr, 1 ≤ k ∧ k ≤ 100 ∧ k ∉ fd
theorem ord_snoc {fd : List Int} {x : Int} (h : ∀ (i : Nat) (e : Int), fd[i]? = some e → e < 0 → -e ∈ fd.take i) (hx : x < 0 → -x ∈ fd) (i : Nat) (e : Int) (he : (fd ++ [x])[i]? = some e) (h0 : e < 0) : -e ∈ (fd ++ [x]).take i := by
  by_cases hi : i < fd.length
  · rw [List.getElem?_append_left hi] at he
    rw [List.take_append_of_le_length (Nat.le_of_lt hi)]
    exact h i e he h0
  · have hi2 := lt_get he
    rw [List.length_append, List.length_singleton] at hi2
    have e1 : i = fd.length := by omega
    subst e1
    rw [List.getElem?_append_right (Nat.le_refl _), Nat.sub_self] at he
    have e2 : x = e := Option.some.inj he
    subst e2
    rw [List.take_append_of_le_length (Nat.le_refl _), List.take_length]
    exact hx h0
theorem ord_mem {fd : List Int} (h : ∀ (i : Nat) (e : Int), fd[i]? = some e → e < 0 → -e ∈ fd.take i) {e : Int} (he : e ∈ fd) (h0 : e < 0) : -e ∈ fd := by
  obtain ⟨i, hi, rfl⟩ := List.mem_iff_getElem.mp he
  exact List.mem_of_mem_take (h i _ (List.getElem?_eq_getElem hi) h0)
theorem nodup_snoc {l : List Int} {x : Int} (h : l.Nodup) (hx : x ∉ l) : (l ++ [x]).Nodup :=
  List.nodup_append.mpr ⟨h, List.nodup_cons.mpr ⟨List.not_mem_nil, List.nodup_nil⟩, fun a ha b hb e => hx (by
    rw [List.mem_singleton] at hb
    rw [← hb, ← e]
    exact ha)⟩
theorem Good.push {k : Int} {fr av fd : List Int} (g : Good (k :: fr) av fd) : Good fr (av ++ [k]) (fd ++ [k]) := by
  obtain ⟨k1, k2, k3⟩ := g.frm k List.mem_cons_self
  obtain ⟨n1, n2⟩ := List.nodup_cons.mp g.frn
  have kn : -k ∉ fd := fun h => k3 (by
    have z := ord_mem g.ord h (by omega)
    rwa [Int.neg_neg] at z)
  have kav : k ∉ av := fun h => k3 (g.avm k h).2.1
  refine ⟨fun e he => ?_, nodup_snoc g.nd k3, ord_snoc g.ord (fun z => by omega), nodup_snoc g.avn kav, fun j hj => ?_, n2, fun j hj => ?_⟩
  · rcases List.mem_append.mp he with h | h
    · exact g.rng e h
    · rw [List.mem_singleton] at h
      omega
  · rw [List.mem_append, List.mem_append, List.mem_singleton, List.mem_singleton]
    rcases List.mem_append.mp hj with h | h
    · obtain ⟨a, b, c⟩ := g.avm j h
      exact ⟨a, .inl b, fun z => z.elim c fun z => by omega⟩
    · rw [List.mem_singleton] at h
      subst h
      exact ⟨by omega, .inr rfl, fun z => z.elim kn fun z => by omega⟩
  · obtain ⟨a, b, c⟩ := g.frm j (List.mem_cons_of_mem _ hj)
    refine ⟨a, b, fun z => ?_⟩
    rcases List.mem_append.mp z with h | h
    · exact c h
    · rw [List.mem_singleton] at h
      exact n1 (h ▸ hj)
theorem Good.stop {fr av fd : List Int} (g : Good fr av fd) {j : Nat} (hj : j < av.length) : Good fr (av.eraseIdx j) (fd ++ [-av[j]]) := by
  obtain ⟨a0, a1, a2⟩ := g.avm av[j] (List.getElem_mem hj)
  have pm := erase_perm av j hj
  have ndp : (av[j] :: av.eraseIdx j).Nodup := pm.nodup_iff.mpr g.avn
  obtain ⟨m1, m2⟩ := List.nodup_cons.mp ndp
  refine ⟨fun e he => ?_, nodup_snoc g.nd a2, ord_snoc g.ord (fun _ => by rw [Int.neg_neg]; exact a1), m2, fun k hk => ?_, g.frn, fun k hk => ?_⟩
  · rcases List.mem_append.mp he with h | h
    · exact g.rng e h
    · rw [List.mem_singleton] at h
      have := g.rng _ a1
      omega
  · have hk2 : k ∈ av := pm.mem_iff.mp (List.mem_cons_of_mem _ hk)
    obtain ⟨a, b, c⟩ := g.avm k hk2
    refine ⟨a, List.mem_append_left _ b, fun z => ?_⟩
    rcases List.mem_append.mp z with h | h
    · exact c h
    · rw [List.mem_singleton] at h
      have e : k = av[j] := by omega
      exact m1 (e ▸ hk)
  · obtain ⟨a, b, c⟩ := g.frm k hk
    refine ⟨a, b, fun z => ?_⟩
    rcases List.mem_append.mp z with h | h
    · exact c h
    · rw [List.mem_singleton] at h
      omega
theorem eqvT {xs ys : List Int} (h : xs = ys) : V.bl (PyData.eqv (dI xs) (dI ys)) = V.bl true := by rw [eqv_ints, decide_eq_true h]
theorem eqvF {xs ys : List Int} (h : ¬ xs = ys) : V.bl (PyData.eqv (dI xs) (dI ys)) = V.bl false := by rw [eqv_ints, decide_eq_false h]
theorem neqT {xs ys : List Int} (h : ¬ xs = ys) : V.bl (!PyData.eqv (dI xs) (dI ys)) = V.bl true := by rw [eqv_ints, decide_eq_false h]; rfl
theorem neqF {xs ys : List Int} (h : xs = ys) : V.bl (!PyData.eqv (dI xs) (dI ys)) = V.bl false := by rw [eqv_ints, decide_eq_true h]; rfl
theorem nodup_len {l : List Int} : ∀ {m : List Int}, l.Nodup → (∀ x ∈ l, x ∈ m) → l.length ≤ m.length := by
  induction l with
  | nil => intro m _ _; exact Nat.zero_le _
  | cons x r ih =>
    intro m h s
    obtain ⟨h1, h2⟩ := List.nodup_cons.mp h
    have hx := s x List.mem_cons_self
    have z := ih (m := m.erase x) h2 fun y hy => (List.mem_erase_of_ne (fun e : y = x => h1 (e ▸ hy))).mpr (s y (List.mem_cons_of_mem _ hy))
    rw [List.length_erase_of_mem hx] at z
    have := List.length_pos_of_mem hx
    show r.length + 1 ≤ m.length
    omega
theorem filt_succ {ns : List Int} {f : Int → Bool} {i : Nat} {e : Int} (h : ns[i]? = some e) : (ns.take (i + 1)).filter f = (ns.take i).filter f ++ if f e = true then [e] else [] := by
  rw [take_get h, List.filter_append, List.filter_cons]
  split <;> rfl
theorem filt_len {ns : List Int} {f : Int → Bool} (i : Nat) : ((ns.take i).filter f).length ≤ i := by
  have a := List.length_filter_le f (ns.take i)
  rw [List.length_take] at a
  omega
def stL (ns : List Int) : List Int := ns.filter fun e => decide (0 < e)
theorem stL_len (ns : List Int) : (stL ns).length ≤ ns.length := List.length_filter_le _ _
theorem stL_nd {ns : List Int} (hh : Hist ns) : (stL ns).Nodup := hh.nd.sublist List.filter_sublist
theorem mem_stL {ns : List Int} {k : Int} (h : k ∈ ns) (h0 : 0 < k) : k ∈ stL ns := List.mem_filter.mpr ⟨h, decide_eq_true h0⟩
section
variable {P : Program} {w : World} {K : PySem.W.Frag} {mg : Str → Option Value} {base : Heap}
/-! ### starts_of -/
def spStarts (K : PySem.W.Frag) : Sp := fun vs H Q _ => ∃ (a : Addr) (ns : List Int), vs = [.ref a] ∧ SqL K H a (ns.map V.int) ∧ ns.length ≤ 1000 ∧
  ∀ H' p, Same H H' → H' p = some (.lst ((stL ns).map V.int)) → H p = none → Q (.ref p) H'
theorem ok_starts_of {f : Addr} {fd : FuncData} (F : Fun K "starts_of" "starts_of" s_starts_of f fd) : FnOk P w K mg base CX0 1 f fd ["history"] (spStarts K) := by
  refine F.ok sc_starts_of (fun vs H Q E h => ?_) (fun cdv A outer s H vs Q E hr h => ?_)
  · obtain ⟨a, ns, rfl, _⟩ := h
    rfl
  · obtain ⟨a, ns, rfl, hS, hl, q⟩ := h
    refine ⟨_, (pss_one (ps_ret (pe_lc (own := [("event", 1)]) (g := gName 1) (tt := _) rfl sc_starts_of.nd (pi_list (pv 0)) (blkOk_by (own := [("event", 1)]) (N := N_starts_of) (sc := defScope s_starts_of) (by decide +kernel)) (fun _ _ _ _ _ => (pg_name (i := 1) sc_starts_of.nd rfl (Or.inl rfl))) (fun _ _ _ _ _ => (pts_one (pt_cmpR op_gt (pv 1) pe_int (nomark _)))) (fun _ _ _ _ _ => (pv 1))))), ?_⟩
    refine ⟨_, rfl, a, rfl, ⟨_, hS⟩, fun D hD => lc_list (xs := ns.map V.int) (LcP H D fun i => ((ns.take i).filter fun e => decide (0 < e)).map V.int) (.init hD rfl) (fun i H' _ p => p.2.1.seq hS) (fun i x H' hx p => ?_) (fun H1 p => ?_)⟩
    · obtain ⟨e, rfl, he⟩ := get_int hx
      have fs := filt_succ (f := fun e => decide (0 < e)) he
      have fl := filt_len (ns := ns) (f := fun e => decide (0 < e)) i
      have li := lt_get he
      refine ⟨rfl, ?_⟩
      by_cases h0 : 0 < e
      · refine ⟨_, rfl, _, _, rfl, rfl, true, dT h0, ?_⟩
        refine ⟨_, rfl, p.put (Same.refl _) ?_ (by rw [List.length_map]; omega)⟩
        show ((ns.take (i + 1)).filter _).map V.int = _
        rw [fs, if_pos (by simp [h0]), List.map_append]
        rfl
      · refine ⟨_, rfl, _, _, rfl, rfl, false, dF h0, ?_⟩
        refine p.skip (Same.refl _) ?_
        show ((ns.take (i + 1)).filter _).map V.int = _
        rw [fs, if_neg (by simp [h0]), List.append_nil]
    · have hp := p.2.2
      rw [List.length_map] at hp
      have hp : H1 D = some (.lst (((ns.take ns.length).filter fun e => decide (0 < e)).map V.int)) := hp
      rw [List.take_length] at hp
      exact q _ _ p.2.1 hp hD
/-! ### is_plain -/
def spPlain (K : PySem.W.Frag) : Sp := fun vs H Q _ => ∃ (a : Addr) (ns : List Int), vs = [.ref a] ∧ SqL K H a (ns.map V.int) ∧ Hist ns ∧ ∀ H', Same H H' → Q (.bl (decide (stL ns = upL (stL ns).length))) H'
theorem ok_is_plain {f : Addr} {fd : FuncData} (F : Fun K "is_plain" "is_plain" s_is_plain f fd) (B : NoB mg) (T_check_history : Cal P w K mg base 6 "check_history" (spCheck K)) (T_starts_of : Cal P w K mg base 1 "starts_of" (spStarts K)) : FnOk P w K mg base CX0 7 f fd ["history"] (spPlain K) := by
  refine F.ok sc_is_plain (fun vs H Q E h => ?_) (fun cdv A outer s H vs Q E hr h => ?_)
  · obtain ⟨a, ns, rfl, _⟩ := h
    rfl
  · obtain ⟨a, ns, rfl, hS, hh, q⟩ := h
    have hu64 := hr.units
    have hlen := hh.len
    have sl := stL_len ns
    refine ⟨_, (pss_cons (ps_expr (pe_c T_check_history hr (by decide) (by rfl) (pa_cons (pv 0) pa_nil)))
        (pss_cons (ps_set (i := 1) sc_is_plain.nd rfl (Or.inl rfl) (pe_c T_starts_of hr (by decide) (by rfl) (pa_cons (pv 0) pa_nil)))
        (pss_one (ps_ret (pe_cmpR (op_eqD hu64) (pv 1) (pe_listRg rfl (by rfl) B.list (prg_2 (by rfl) B.range pe_int (pe_op op_add (pe_callB call_len_seq (by rfl) B.len PySem.boot_len (pa_cons (pv 1) pa_nil)) pe_int))) (nomark _)))))), ?_⟩
    refine ⟨_, rfl, a, ns, rfl, hS, hh, fun H1 s1 => ?_⟩
    refine ⟨_, rfl, a, ns, rfl, s1.seq hS, by omega, fun H2 st s2 hst nst => ?_⟩
    refine ⟨_, rfl, _, rfl, st, _, rfl, .inl (.of hst), _, _, rfl, rfl, ?_⟩
    refine ⟨_, _, rfl, rfl, RgOk.of_le (by decide) (by rw [List.length_map]; omega) (by decide) (by omega), fun p np => ?_⟩
    have hst2 := same_new (o := .lst (rgV 1 ((((stL ns).map V.int).length : Nat) + 1))) np _ _ hst
    refine ⟨dI (stL ns), dI (upL (stL ns).length), dp_ints (.of hst2), dp_ints (.of ?_), shaped_ints _, shaped_ints _, ?_⟩
    · rw [upd_same, rgV_up, List.length_map]
      have e : ((((stL ns).length : Nat) : Int) + 1 - 1).toNat = (stL ns).length := by omega
      rw [e]
    · rw [eqv_ints]
      exact q _ ((s1.trans s2).trans (same_new np))
end
/-! ### signs -/
def stp (p : Nat × Nat) (b : Bool) : Nat × Nat := if b then (p.1, p.2 + 1) else (p.1 * p.2, p.2 - 1)
def wr (bs : List Bool) : Nat × Nat := bs.foldl stp (1, 0)
def waysN (bs : List Bool) : Nat := (wr bs).1
def runN (bs : List Bool) : Nat := (wr bs).2
def upsN (bs : List Bool) : Nat := bs.count true
def dnsN (bs : List Bool) : Nat := bs.count false
theorem wr_snoc (bs : List Bool) (b : Bool) : wr (bs ++ [b]) = stp (wr bs) b := by
  unfold wr
  rw [List.foldl_append]
  rfl
theorem ways_up (bs : List Bool) : waysN (bs ++ [true]) = waysN bs := by unfold waysN; rw [wr_snoc]; rfl
theorem ways_dn (bs : List Bool) : waysN (bs ++ [false]) = waysN bs * runN bs := by unfold waysN runN; rw [wr_snoc]; rfl
theorem run_up (bs : List Bool) : runN (bs ++ [true]) = runN bs + 1 := by unfold runN; rw [wr_snoc]; rfl
theorem run_dn (bs : List Bool) : runN (bs ++ [false]) = runN bs - 1 := by unfold runN; rw [wr_snoc]; rfl
theorem ups_up (bs : List Bool) : upsN (bs ++ [true]) = upsN bs + 1 := by unfold upsN; rw [List.count_append]; rfl
theorem ups_dn (bs : List Bool) : upsN (bs ++ [false]) = upsN bs := by unfold upsN; rw [List.count_append]; rfl
theorem dns_up (bs : List Bool) : dnsN (bs ++ [true]) = dnsN bs := by unfold dnsN; rw [List.count_append]; rfl
theorem dns_dn (bs : List Bool) : dnsN (bs ++ [false]) = dnsN bs + 1 := by unfold dnsN; rw [List.count_append]; rfl
/-- nowhere more stops than starts ahead -/
def SgOk (bs : List Bool) : Prop := ∀ i, bs[i]? = some false → 0 < runN (bs.take i)
theorem sgOk_nil : SgOk [] := fun i h => by simp at h
theorem SgOk.pre {bs : List Bool} {b : Bool} (h : SgOk (bs ++ [b])) : SgOk bs := fun i hi => by
  have hl := (List.getElem?_eq_some_iff.mp hi).1
  have z := h i (by rw [List.getElem?_append_left hl]; exact hi)
  rwa [List.take_append_of_le_length (Nat.le_of_lt hl)] at z
theorem SgOk.last {bs : List Bool} (h : SgOk (bs ++ [false])) : 0 < runN bs := by
  have z := h bs.length (by rw [List.getElem?_append_right (Nat.le_refl _), Nat.sub_self]; rfl)
  rwa [List.take_append_of_le_length (Nat.le_refl _), List.take_length] at z
theorem SgOk.snoc {bs : List Bool} {b : Bool} (h : SgOk bs) (hb : b = false → 0 < runN bs) : SgOk (bs ++ [b]) := fun i hi => by
  by_cases hl : i < bs.length
  · rw [List.getElem?_append_left hl] at hi
    rw [List.take_append_of_le_length (Nat.le_of_lt hl)]
    exact h i hi
  · have h2 := (List.getElem?_eq_some_iff.mp hi).1
    rw [List.length_append, List.length_singleton] at h2
    have e : i = bs.length := by omega
    subst e
    rw [List.getElem?_append_right (Nat.le_refl _), Nat.sub_self] at hi
    rw [List.take_append_of_le_length (Nat.le_refl _), List.take_length]
    exact hb (Option.some.inj hi)
theorem SgOk.take {bs : List Bool} (h : SgOk bs) (n : Nat) : SgOk (bs.take n) := fun i hi => by
  have hl := (List.getElem?_eq_some_iff.mp hi).1
  rw [List.length_take] at hl
  rw [List.getElem?_take_of_lt (by omega)] at hi
  rw [List.take_take, Nat.min_eq_left (by omega)]
  exact h i hi
/-- induction from the end -/
theorem snoc_ind {α : Type} {P : List α → Prop} (h0 : P []) (h1 : ∀ l a, P l → P (l ++ [a])) : ∀ l, P l := by
  have key : ∀ n (l : List α), l.length = n → P l := by
    intro n
    induction n with
    | zero => intro l h; rw [List.length_eq_zero_iff.mp h]; exact h0
    | succ n ih =>
      intro l h
      have hne : l ≠ [] := fun e => by rw [e] at h; exact absurd h (by simp)
      rw [← List.dropLast_concat_getLast hne]
      exact h1 _ _ (ih _ (by rw [List.length_dropLast, h]; rfl))
  exact fun l => key _ l rfl
theorem run_eq {bs : List Bool} : SgOk bs → runN bs + dnsN bs = upsN bs := by
  refine snoc_ind (P := fun bs => SgOk bs → runN bs + dnsN bs = upsN bs) (fun _ => rfl) (fun l a ih h => ?_) bs
  have := ih h.pre
  cases a with
  | true => rw [run_up, dns_up, ups_up]; omega
  | false =>
    have := h.last
    rw [run_dn, dns_dn, ups_dn]; omega
theorem ups_dns (bs : List Bool) : upsN bs + dnsN bs = bs.length := by
  refine snoc_ind (P := fun bs => upsN bs + dnsN bs = bs.length) rfl (fun l a ih => ?_) bs
  cases a with
  | true => rw [ups_up, dns_up, List.length_append, List.length_singleton]; omega
  | false => rw [ups_dn, dns_dn, List.length_append, List.length_singleton]; omega
theorem ways_pos {bs : List Bool} : SgOk bs → 0 < waysN bs := by
  refine snoc_ind (P := fun bs => SgOk bs → 0 < waysN bs) (fun _ => by decide) (fun l a ih h => ?_) bs
  cases a with
  | true => rw [ways_up]; exact ih h.pre
  | false => rw [ways_dn]; exact Nat.mul_pos (ih h.pre) h.last
theorem ways_snoc_le {bs : List Bool} {b : Bool} (h : SgOk (bs ++ [b])) : waysN bs ≤ waysN (bs ++ [b]) := by
  cases b with
  | true => rw [ways_up]; exact Nat.le_refl _
  | false => rw [ways_dn]; exact Nat.le_mul_of_pos_right _ h.last
theorem take_snoc {α : Type} {l : List α} {i : Nat} {x : α} (h : l[i]? = some x) : l.take (i + 1) = l.take i ++ [x] := by
  rw [List.take_add_one, h]
  rfl
theorem ways_take_le {bs : List Bool} (h : SgOk bs) : ∀ k i, i + k = bs.length → waysN (bs.take i) ≤ waysN bs
  | 0, i, e => by rw [List.take_of_length_le (by omega)]; exact Nat.le_refl _
  | k + 1, i, e => by
    have hi : i < bs.length := by omega
    have e1 := take_snoc (List.getElem?_eq_getElem hi)
    have := h.take (i + 1)
    rw [e1] at this
    have z := ways_snoc_le this
    rw [← e1] at z
    exact Nat.le_trans z (ways_take_le h k (i + 1) (by omega))
theorem ways_lt {bs : List Bool} (hu : upsN bs ≤ 100) : SgOk bs → waysN bs < 2 ^ (7 * bs.length + 1) := by
  refine snoc_ind (P := fun bs => upsN bs ≤ 100 → SgOk bs → waysN bs < 2 ^ (7 * bs.length + 1)) (fun _ _ => by decide) (fun l a ih hu h => ?_) bs hu
  rw [List.length_append, List.length_singleton]
  cases a with
  | true =>
    rw [ups_up] at hu
    rw [ways_up]
    exact Nat.lt_of_lt_of_le (ih (by omega) h.pre) (Nat.pow_le_pow_right (by decide) (by omega))
  | false =>
    rw [ups_dn] at hu
    have r := run_eq h.pre
    rw [ways_dn]
    have z := ih hu h.pre
    have e : 7 * (l.length + 1) + 1 = (7 * l.length + 1) + 7 := by omega
    rw [e, Nat.pow_add]
    exact Nat.mul_lt_mul_of_lt_of_le z (by have : (2 : Nat) ^ 7 = 128 := by decide
                                           omega) (by decide)
/-! ### all histories of a shape -/
def negL (st : Nat) : List Int := (List.range st).map fun k : Nat => (0 : Int) - ((st : Int) + (k : Int) * (-1))
def ableL (st : Nat) (b : Bool) (row : List Int) : List Int := if b then [(st : Int)] else (negL st).filter fun x => decide (x ∉ row)
def evStep (p : List (List Int) × Nat) (b : Bool) : List (List Int) × Nat :=
  (p.1.flatMap (fun row => (ableL (p.2 + b.toNat) b row).map fun x => row ++ [x]), p.2 + b.toNat)
def ev (bs : List Bool) : List (List Int) × Nat := bs.foldl evStep ([[]], 0)
def everyL (bs : List Bool) : List (List Int) := (ev bs).1
theorem ev_snoc (bs : List Bool) (b : Bool) : ev (bs ++ [b]) = evStep (ev bs) b := by
  unfold ev
  rw [List.foldl_append]
  rfl
theorem ev_two (bs : List Bool) : (ev bs).2 = upsN bs := by
  refine snoc_ind (P := fun bs => (ev bs).2 = upsN bs) rfl (fun l a ih => ?_) bs
  rw [ev_snoc]
  cases a with
  | true => rw [ups_up, ← ih]; rfl
  | false => rw [ups_dn, ← ih]; rfl
theorem every_snoc (bs : List Bool) (b : Bool) : everyL (bs ++ [b]) = (everyL bs).flatMap fun row => (ableL (upsN bs + b.toNat) b row).map fun x => row ++ [x] := by
  unfold everyL
  rw [ev_snoc]
  unfold evStep
  rw [ev_two]
theorem negL_mem {st : Nat} {x : Int} : x ∈ negL st ↔ -(st : Int) ≤ x ∧ x < 0 := by
  unfold negL
  rw [List.mem_map]
  constructor
  · rintro ⟨k, hk, rfl⟩
    have := List.mem_range.mp hk
    omega
  · rintro ⟨h1, h2⟩
    exact ⟨(x + st).toNat, List.mem_range.mpr (by omega), by omega⟩
theorem nodup_map' {α β : Type} {f : α → β} (hf : ∀ x y, f x = f y → x = y) : ∀ {l : List α}, l.Nodup → (l.map f).Nodup
  | [], _ => List.nodup_nil
  | x :: r, h => by
    obtain ⟨h1, h2⟩ := List.nodup_cons.mp h
    refine List.nodup_cons.mpr ⟨fun hm => ?_, nodup_map' hf h2⟩
    obtain ⟨y, hy, e⟩ := List.mem_map.mp hm
    exact h1 (hf _ _ e ▸ hy)
theorem negL_nd (st : Nat) : (negL st).Nodup := nodup_map' (fun x y e => by omega) List.nodup_range
theorem negL_len (st : Nat) : (negL st).length = st := by unfold negL; rw [List.length_map, List.length_range]
def isNeg (x : Int) : Bool := decide (x < 0)
/-- a row: its stops -/
structure RowOk (st k : Nat) (row : List Int) : Prop where
  nd : (row.filter isNeg).Nodup
  rng : ∀ x ∈ row, -(st : Int) ≤ x ∧ x ≤ st ∧ x ≠ 0
  len : (row.filter isNeg).length = k
theorem filter_split {α : Type} (p : α → Bool) : ∀ l : List α, (l.filter p).length + (l.filter fun x => !p x).length = l.length
  | [] => rfl
  | x :: r => by
    have := filter_split p r
    rw [List.filter_cons, List.filter_cons, List.length_cons]
    cases p x
    · show (r.filter p).length + ((r.filter fun x => !p x).length + 1) = _
      omega
    · show (r.filter p).length + 1 + (r.filter fun x => !p x).length = _
      omega
theorem able_len {st k : Nat} {row : List Int} (h : RowOk st k row) : (ableL st false row).length + k = st := by
  have e : (ableL st false row) = (negL st).filter fun x => decide (x ∉ row) := rfl
  have s := filter_split (fun x => decide (x ∈ row)) (negL st)
  have e2 : ((negL st).filter fun x => !decide (x ∈ row)) = (negL st).filter fun x => decide (x ∉ row) := by
    congr 1
    funext x
    rw [decide_not]
  rw [e2, negL_len] at s
  have n1 : ((negL st).filter fun x => decide (x ∈ row)).Nodup := (negL_nd st).sublist List.filter_sublist
  have l1 : ((negL st).filter fun x => decide (x ∈ row)).length ≤ (row.filter isNeg).length := nodup_len n1 fun x hx => by
    rw [List.mem_filter] at hx
    obtain ⟨a, b⟩ := hx
    exact List.mem_filter.mpr ⟨of_decide_eq_true b, decide_eq_true (negL_mem.mp a).2⟩
  have l2 : (row.filter isNeg).length ≤ ((negL st).filter fun x => decide (x ∈ row)).length := nodup_len h.nd fun x hx => by
    rw [List.mem_filter] at hx
    obtain ⟨a, b⟩ := hx
    exact List.mem_filter.mpr ⟨negL_mem.mpr ⟨(h.rng x a).1, of_decide_eq_true b⟩, decide_eq_true a⟩
  rw [e]
  have := h.len
  omega
theorem flatMap_len {α β : Type} {f : α → List β} {c : Nat} : ∀ {l : List α}, (∀ x ∈ l, (f x).length = c) → (l.flatMap f).length = l.length * c
  | [], _ => by simp
  | x :: r, h => by
    rw [List.flatMap_cons, List.length_append, h x List.mem_cons_self, flatMap_len fun y hy => h y (List.mem_cons_of_mem _ hy), List.length_cons, Nat.succ_mul]
    omega
theorem every_ok {bs : List Bool} : SgOk bs → (∀ row ∈ everyL bs, RowOk (upsN bs) (dnsN bs) row ∧ row.length = bs.length) ∧ (everyL bs).length = waysN bs := by
  refine snoc_ind (P := fun bs => SgOk bs → (∀ row ∈ everyL bs, RowOk (upsN bs) (dnsN bs) row ∧ row.length = bs.length) ∧ (everyL bs).length = waysN bs) (fun _ => ⟨fun row hr => ?_, rfl⟩) (fun l a ih h => ?_) bs
  · have e : row = [] := List.mem_singleton.mp hr
    subst e
    exact ⟨⟨List.nodup_nil, fun x hx => absurd hx List.not_mem_nil, rfl⟩, rfl⟩
  · obtain ⟨i1, i2⟩ := ih h.pre
    rw [every_snoc]
    cases a with
    | true =>
      rw [ups_up, dns_up, ways_up]
      refine ⟨fun row hr => ?_, ?_⟩
      · obtain ⟨r0, h0, h1⟩ := List.mem_flatMap.mp hr
        obtain ⟨x, hx, rfl⟩ := List.mem_map.mp h1
        have ex : x = ((upsN l + 1 : Nat) : Int) := List.mem_singleton.mp hx
        obtain ⟨⟨a1, a2, a3⟩, a4⟩ := i1 r0 h0
        have ef : (r0 ++ [x]).filter isNeg = r0.filter isNeg := by
          rw [List.filter_append]
          have : isNeg x = false := decide_eq_false (by omega)
          rw [List.filter_cons, this]
          simp
        refine ⟨⟨by rw [ef]; exact a1, fun y hy => ?_, by rw [ef]; exact a3⟩, by rw [List.length_append, List.length_append, a4]; rfl⟩
        rcases List.mem_append.mp hy with z | z
        · have := a2 y z
          omega
        · rw [List.mem_singleton] at z
          omega
      · rw [flatMap_len (c := 1) fun row _ => by rw [List.length_map]; rfl, i2, Nat.mul_one]
    | false =>
      rw [ups_dn, dns_dn, ways_dn]
      refine ⟨fun row hr => ?_, ?_⟩
      · obtain ⟨r0, h0, h1⟩ := List.mem_flatMap.mp hr
        obtain ⟨x, hx, rfl⟩ := List.mem_map.mp h1
        have hx' : x ∈ (negL (upsN l)).filter fun x => decide (x ∉ r0) := hx
        obtain ⟨b1, b2⟩ := List.mem_filter.mp hx'
        have b3 := negL_mem.mp b1
        have b4 := of_decide_eq_true b2
        obtain ⟨⟨a1, a2, a3⟩, a4⟩ := i1 r0 h0
        have ef : (r0 ++ [x]).filter isNeg = r0.filter isNeg ++ [x] := by
          rw [List.filter_append]
          have : isNeg x = true := decide_eq_true b3.2
          rw [List.filter_cons, this]
          simp
        refine ⟨⟨?_, fun y hy => ?_, by rw [ef, List.length_append, a3]; rfl⟩, by rw [List.length_append, List.length_append, a4]; rfl⟩
        · rw [ef]
          refine List.nodup_append.mpr ⟨a1, List.nodup_cons.mpr ⟨List.not_mem_nil, List.nodup_nil⟩, fun p hp q hq e => ?_⟩
          rw [List.mem_singleton] at hq
          subst hq
          subst e
          exact b4 (List.mem_filter.mp hp).1
        · rcases List.mem_append.mp hy with z | z
          · exact a2 y z
          · rw [List.mem_singleton] at z
            omega
      · have r := run_eq h.pre
        rw [flatMap_len (c := runN l) fun row hr => by
          have := able_len (i1 row hr).1
          rw [List.length_map]
          show (ableL (upsN l) false row).length = _
          omega, i2]
/-! ### the history with an index -/
def nthR : List Bool → Nat → List Int × List Int
  | [], _ => ([], [])
  | true :: l, idx => ((nthR l idx).1 ++ [((upsN l : Nat) : Int) + 1], (nthR l idx).2 ++ [((upsN l : Nat) : Int) + 1])
  | false :: l, idx => ((nthR l (idx / runN l.reverse)).1 ++ [-((nthR l (idx / runN l.reverse)).2.getD ((nthR l (idx / runN l.reverse)).2.length - 1 - idx % runN l.reverse) 0)],
      (nthR l (idx / runN l.reverse)).2.eraseIdx ((nthR l (idx / runN l.reverse)).2.length - 1 - idx % runN l.reverse))
def nthS (bs : List Bool) (idx : Nat) : List Int × List Int := nthR bs.reverse idx
def nthL (bs : List Bool) (idx : Nat) : List Int := (nthS bs idx).1
theorem ups_rev (bs : List Bool) : upsN bs.reverse = upsN bs := List.count_reverse
theorem rev_snoc (bs : List Bool) (b : Bool) : (bs ++ [b]).reverse = b :: bs.reverse := by simp
theorem nthR_up (l : List Bool) (idx : Nat) : nthR (true :: l) idx = ((nthR l idx).1 ++ [((upsN l : Nat) : Int) + 1], (nthR l idx).2 ++ [((upsN l : Nat) : Int) + 1]) := rfl
theorem nthR_dn (l : List Bool) (idx : Nat) : nthR (false :: l) idx = ((nthR l (idx / runN l.reverse)).1 ++ [-((nthR l (idx / runN l.reverse)).2.getD ((nthR l (idx / runN l.reverse)).2.length - 1 - idx % runN l.reverse) 0)],
      (nthR l (idx / runN l.reverse)).2.eraseIdx ((nthR l (idx / runN l.reverse)).2.length - 1 - idx % runN l.reverse)) := rfl
theorem nth_up (bs : List Bool) (idx : Nat) : nthS (bs ++ [true]) idx = ((nthS bs idx).1 ++ [((upsN bs : Nat) : Int) + 1], (nthS bs idx).2 ++ [((upsN bs : Nat) : Int) + 1]) := by
  unfold nthS
  rw [rev_snoc, nthR_up, ups_rev]
theorem nth_dn (bs : List Bool) (idx : Nat) : nthS (bs ++ [false]) idx = ((nthS bs (idx / runN bs)).1 ++ [-((nthS bs (idx / runN bs)).2.getD ((nthS bs (idx / runN bs)).2.length - 1 - idx % runN bs) 0)],
    (nthS bs (idx / runN bs)).2.eraseIdx ((nthS bs (idx / runN bs)).2.length - 1 - idx % runN bs)) := by
  unfold nthS
  rw [rev_snoc, nthR_dn, List.reverse_reverse]
theorem div_lt_ways {bs : List Bool} {idx : Nat} (h : idx < waysN (bs ++ [false])) (ok : SgOk (bs ++ [false])) : idx / runN bs < waysN bs := by
  rw [ways_dn] at h
  exact (Nat.div_lt_iff_lt_mul ok.last).mpr h
theorem upL_succ (n : Nat) : upL (n + 1) = upL n ++ [1 + ((n : Nat) : Int)] := by
  unfold upL
  rw [List.range_succ, List.map_append]
  rfl
theorem upL_drop {n m : Nat} (h : n < m) : (upL m).drop n = (1 + ((n : Nat) : Int)) :: (upL m).drop (n + 1) := by
  have hl : n < (upL m).length := by rw [upL_len]; exact h
  have e : (upL m)[n]? = some (1 + ((n : Nat) : Int)) := by
    unfold upL
    rw [List.getElem?_map, List.getElem?_range h]
    rfl
  have e2 : (upL m)[n] = 1 + ((n : Nat) : Int) := Option.some.inj ((List.getElem?_eq_getElem hl).symm.trans e)
  rw [List.drop_eq_getElem_cons hl, e2]
/-- what holds of a history and its running patches, found so -/
structure NthOk (bs : List Bool) (s : List Int × List Int) : Prop where
  good : Good ((upL 100).drop (upsN bs)) s.2 s.1
  asc : s.2.Pairwise (· < ·)
  mem : ∀ k : Int, k ∈ s.2 ↔ (1 ≤ k ∧ k ≤ ((upsN bs : Nat) : Int) ∧ -k ∉ s.1)
  run : s.2.length = runN bs
  len : s.1.length = bs.length
  pl : stL s.1 = upL (upsN bs)
theorem good_nil : Good (upL 100) [] [] :=
  ⟨fun e he => absurd he List.not_mem_nil, List.nodup_nil, fun i e he => by simp at he, List.nodup_nil, fun k hk => absurd hk List.not_mem_nil, upL_nd 100, fun k hk => ⟨(upL_mem hk).1, (upL_mem hk).2, List.not_mem_nil⟩⟩
theorem nth_ok {bs : List Bool} (ok : SgOk bs) (u : upsN bs ≤ 100) : ∀ idx, idx < waysN bs → NthOk bs (nthS bs idx) := by
  refine snoc_ind (P := fun bs => SgOk bs → upsN bs ≤ 100 → ∀ idx, idx < waysN bs → NthOk bs (nthS bs idx)) (fun _ _ idx _ => ?_) (fun l a ih ok u idx hi => ?_) bs ok u
  · exact ⟨good_nil, List.Pairwise.nil, fun k => ⟨fun h => absurd h List.not_mem_nil, fun ⟨h1, h2, _⟩ => by have h2' : k ≤ 0 := h2; omega⟩, rfl, rfl, rfl⟩
  · cases a with
    | true =>
      rw [ways_up] at hi
      rw [ups_up] at u
      have h := ih ok.pre (by omega) idx hi
      have g := h.good
      rw [upL_drop (show upsN l < 100 by omega)] at g
      have e1 : ((upsN l : Nat) : Int) + 1 = 1 + ((upsN l : Nat) : Int) := Int.add_comm _ _
      have fr := g.frm _ List.mem_cons_self
      have bnd : ∀ e ∈ (nthS l idx).1, e ≤ ((upsN l : Nat) : Int) := fun e he => by
        by_cases h0 : 0 < e
        · have hm : e ∈ stL (nthS l idx).1 := mem_stL he h0
          rw [h.pl] at hm
          exact (upL_mem hm).2
        · omega
      rw [nth_up, e1]
      refine ⟨?_, ?_, fun k => ?_, ?_, ?_, ?_⟩
      · rw [ups_up]
        exact g.push
      · refine List.pairwise_append.mpr ⟨h.asc, List.pairwise_singleton _ _, fun x hx y hy => ?_⟩
        rw [List.mem_singleton] at hy
        have := (h.mem x).mp hx
        omega
      · rw [ups_up, List.mem_append, List.mem_append, List.mem_singleton, List.mem_singleton, h.mem]
        constructor
        · rintro (⟨a, b, c⟩ | rfl)
          · exact ⟨a, by omega, fun z => z.elim c fun z => by omega⟩
          · refine ⟨by omega, by omega, fun z => z.elim (fun z => ?_) fun z => by omega⟩
            have := ord_mem g.ord z (by omega)
            rw [Int.neg_neg] at this
            exact fr.2.2 this
        · rintro ⟨a, b, c⟩
          by_cases e : k = 1 + ((upsN l : Nat) : Int)
          · exact .inr e
          · exact .inl ⟨a, by omega, fun z => c (.inl z)⟩
      · rw [List.length_append, h.run, run_up]
        rfl
      · rw [List.length_append, h.len, List.length_append]
        rfl
      · rw [ups_up, upL_succ, ← h.pl]
        unfold stL
        rw [List.filter_append]
        congr 1
        rw [List.filter_cons, if_pos (decide_eq_true (by omega))]
        rfl
    | false =>
      rw [ups_dn] at u
      have h := ih ok.pre u (idx / runN l) (div_lt_ways hi ok)
      have rp := ok.last
      have hr := h.run
      have hm : idx % runN l < runN l := Nat.mod_lt _ rp
      have hj : (nthS l (idx / runN l)).2.length - 1 - idx % runN l < (nthS l (idx / runN l)).2.length := by omega
      rw [nth_dn]
      generalize (nthS l (idx / runN l)).2.length - 1 - idx % runN l = j at hj
      have eg : (nthS l (idx / runN l)).2.getD j 0 = (nthS l (idx / runN l)).2[j] := by
        rw [List.getD_eq_getElem?_getD, List.getElem?_eq_getElem hj]
        rfl
      rw [eg]
      have gm := (h.mem _).mp (List.getElem_mem hj)
      have pm := erase_perm (nthS l (idx / runN l)).2 j hj
      have nd : ((nthS l (idx / runN l)).2[j] :: (nthS l (idx / runN l)).2.eraseIdx j).Nodup := pm.nodup_iff.mpr h.good.avn
      obtain ⟨n1, n2⟩ := List.nodup_cons.mp nd
      refine ⟨?_, ?_, fun k => ?_, ?_, ?_, ?_⟩
      · rw [ups_dn]
        exact h.good.stop hj
      · exact h.asc.sublist (List.eraseIdx_sublist _ _)
      · rw [ups_dn]
        have e1 : k ∈ (nthS l (idx / runN l)).2 ↔ k = (nthS l (idx / runN l)).2[j] ∨ k ∈ (nthS l (idx / runN l)).2.eraseIdx j := by
          rw [← pm.mem_iff, List.mem_cons]
        rw [List.mem_append, List.mem_singleton]
        constructor
        · intro hk
          obtain ⟨a, b, c⟩ := (h.mem k).mp (e1.mpr (.inr hk))
          exact ⟨a, b, fun z => z.elim c fun z => n1 ((show (nthS l (idx / runN l)).2[j] = k by omega) ▸ hk)⟩
        · rintro ⟨a, b, c⟩
          have hk := (h.mem k).mpr ⟨a, b, fun z => c (.inl z)⟩
          exact (e1.mp hk).resolve_left fun z => c (.inr (by rw [z]))
      · rw [List.length_eraseIdx_of_lt hj, run_dn, hr]
      · rw [List.length_append, h.len, List.length_append]
        rfl
      · rw [ups_dn, ← h.pl]
        unfold stL
        rw [List.filter_append, List.filter_cons, if_neg (by simp; omega)]
        simp
theorem NthOk.hist {bs : List Bool} {s : List Int × List Int} (h : NthOk bs s) (l : bs.length ≤ 200) : Hist s.1 := ⟨h.good.rng, h.good.nd, h.good.ord, by rw [h.len]; exact l⟩
/-! what is left to be counted -/
def tlN (bs : List Bool) (i : Nat) : Nat → Nat
  | 0 => 1
  | k + 1 => tlN bs i k * (if bs[i + k]? = some false then runN (bs.take (i + k)) else 1)
theorem tl_ways {bs : List Bool} (i : Nat) : ∀ k, i + k ≤ bs.length → waysN (bs.take (i + k)) = waysN (bs.take i) * tlN bs i k
  | 0, _ => (Nat.mul_one _).symm
  | k + 1, h => by
    have hlt : i + k < bs.length := by omega
    have hg := List.getElem?_eq_getElem hlt
    have es := take_snoc hg
    show waysN (bs.take (i + k + 1)) = waysN (bs.take i) * (tlN bs i k * (if bs[i + k]? = some false then runN (bs.take (i + k)) else 1))
    rw [es, hg, ← Nat.mul_assoc, ← tl_ways i k (by omega)]
    cases bs[i + k] with
    | true => rw [ways_up, if_neg (by decide), Nat.mul_one]
    | false => rw [ways_dn, if_pos rfl]
theorem tl_left {bs : List Bool} (i : Nat) : ∀ k, tlN bs i (k + 1) = (if bs[i]? = some false then runN (bs.take i) else 1) * tlN bs (i + 1) k
  | 0 => by
    show 1 * (if bs[i + 0]? = some false then _ else 1) = _ * 1
    rw [Nat.one_mul, Nat.mul_one, Nat.add_zero]
  | k + 1 => by
    show tlN bs i (k + 1) * (if bs[i + (k + 1)]? = some false then runN (bs.take (i + (k + 1))) else 1) = _
    rw [tl_left i k, Nat.mul_assoc]
    congr 1
    show tlN bs (i + 1) k * _ = tlN bs (i + 1) k * (if bs[i + 1 + k]? = some false then runN (bs.take (i + 1 + k)) else 1)
    have e : i + (k + 1) = i + 1 + k := by omega
    rw [e]
def restN (bs : List Bool) (i : Nat) : Nat := tlN bs i (bs.length - i)
theorem rest_all {bs : List Bool} : restN bs 0 = waysN bs := by
  have z := tl_ways (bs := bs) 0 bs.length (by omega)
  rw [Nat.zero_add, List.take_length] at z
  unfold restN
  rw [Nat.sub_zero, z]
  exact (Nat.one_mul _).symm
theorem rest_end (bs : List Bool) : restN bs bs.length = 1 := by unfold restN; rw [Nat.sub_self]; rfl
theorem rest_up {bs : List Bool} {i : Nat} (h : bs[i]? = some true) : restN bs i = restN bs (i + 1) := by
  have hl := (List.getElem?_eq_some_iff.mp h).1
  unfold restN
  have e : bs.length - i = (bs.length - (i + 1)) + 1 := by omega
  rw [e, tl_left, if_neg (by rw [h]; decide), Nat.one_mul]
theorem rest_dn {bs : List Bool} {i : Nat} (h : bs[i]? = some false) : restN bs i = runN (bs.take i) * restN bs (i + 1) := by
  have hl := (List.getElem?_eq_some_iff.mp h).1
  unfold restN
  have e : bs.length - i = (bs.length - (i + 1)) + 1 := by omega
  rw [e, tl_left, if_pos h]
theorem rest_pos {bs : List Bool} (ok : SgOk bs) : ∀ k i, i + k = bs.length → 0 < restN bs i
  | 0, i, e => by
    have e1 : i = bs.length := by omega
    rw [e1, rest_end]
    decide
  | k + 1, i, e => by
    have hlt : i < bs.length := by omega
    have hg := List.getElem?_eq_getElem hlt
    have ih := rest_pos ok k (i + 1) (by omega)
    cases q : bs[i] with
    | true => rw [q] at hg; rw [rest_up hg]; exact ih
    | false => rw [q] at hg; rw [rest_dn hg]; exact Nat.mul_pos (ok i hg) ih
theorem rest_ways {bs : List Bool} {i : Nat} (h : i ≤ bs.length) : waysN bs = waysN (bs.take i) * restN bs i := by
  have z := tl_ways (bs := bs) i (bs.length - i) (by omega)
  have e : i + (bs.length - i) = bs.length := by omega
  rw [e, List.take_length] at z
  exact z
theorem part_lt {bs : List Bool} (ok : SgOk bs) {i idx : Nat} (h : i ≤ bs.length) (hi : idx < waysN bs) : idx / restN bs i < waysN (bs.take i) :=
  (Nat.div_lt_iff_lt_mul (rest_pos ok (bs.length - i) i (by omega))).mpr (by rw [← rest_ways h]; exact hi)
/-! ### step by step -/
def parS (bs : List Bool) (idx i : Nat) : List Int × List Int := nthS (bs.take i) (idx / restN bs i)
theorem par_up {bs : List Bool} {i : Nat} (idx : Nat) (h : bs[i]? = some true) : parS bs idx (i + 1) = ((parS bs idx i).1 ++ [((upsN (bs.take i) : Nat) : Int) + 1], (parS bs idx i).2 ++ [((upsN (bs.take i) : Nat) : Int) + 1]) := by
  unfold parS
  rw [take_snoc h, nth_up, rest_up h]
theorem par_dn {bs : List Bool} {i : Nat} (idx : Nat) (h : bs[i]? = some false) : parS bs idx (i + 1) = ((parS bs idx i).1 ++ [-((parS bs idx i).2.getD ((parS bs idx i).2.length - 1 - idx % restN bs i / restN bs (i + 1)) 0)],
    (parS bs idx i).2.eraseIdx ((parS bs idx i).2.length - 1 - idx % restN bs i / restN bs (i + 1))) := by
  have e1 : idx / restN bs (i + 1) / runN (bs.take i) = idx / restN bs i := by rw [rest_dn h, Nat.div_div_eq_div_mul, Nat.mul_comm]
  have e2 : idx % restN bs i / restN bs (i + 1) = idx / restN bs (i + 1) % runN (bs.take i) := by
    rw [rest_dn h, Nat.mul_comm]
    exact Nat.mod_mul_right_div_self _ _ _
  rw [e2]
  unfold parS
  rw [take_snoc h, nth_dn, e1]
theorem par_mod {bs : List Bool} {i : Nat} (idx : Nat) (h : bs[i]? = some false) : idx % restN bs i % restN bs (i + 1) = idx % restN bs (i + 1) :=
  Nat.mod_mod_of_dvd _ ⟨runN (bs.take i), by rw [rest_dn h, Nat.mul_comm]⟩
theorem par_ok {bs : List Bool} (ok : SgOk bs) (u : upsN bs ≤ 100) {idx : Nat} (hi : idx < waysN bs) {i : Nat} (h : i ≤ bs.length) : NthOk (bs.take i) (parS bs idx i) :=
  nth_ok (ok.take i) (Nat.le_trans (List.Sublist.count_le _ (List.take_sublist _ bs)) u) _ (part_lt ok h hi)
theorem par_end (bs : List Bool) (idx : Nat) : parS bs idx bs.length = nthS bs idx := by
  unfold parS
  rw [List.take_length, rest_end, Nat.div_one]
theorem par_zero {bs : List Bool} {idx : Nat} (hi : idx < waysN bs) : parS bs idx 0 = ([], []) := rfl
theorem par_take {bs : List Bool} (ok : SgOk bs) (u : upsN bs ≤ 100) {idx : Nat} (hi : idx < waysN bs) : ∀ k i, i + k = bs.length → (nthL bs idx).take i = (parS bs idx i).1
  | 0, i, e => by
    have e1 : i = bs.length := by omega
    have := (par_ok ok u hi (Nat.le_refl bs.length)).len
    rw [par_end, List.take_length] at this
    subst e1
    unfold nthL
    rw [par_end, List.take_of_length_le (by omega)]
  | k + 1, i, e => by
    have ih := par_take ok u hi k (i + 1) (by omega)
    have hlt : i < bs.length := by omega
    have hg := List.getElem?_eq_getElem hlt
    have l := (par_ok ok u hi (i := i) (by omega)).len
    rw [List.length_take, Nat.min_eq_left (by omega)] at l
    have e1 : (nthL bs idx).take i = ((nthL bs idx).take (i + 1)).take i := by rw [List.take_take, Nat.min_eq_left (by omega)]
    rw [e1, ih]
    cases q : bs[i] with
    | true =>
      rw [q] at hg
      rw [par_up idx hg]
      show ((parS bs idx i).1 ++ _).take i = _
      rw [List.take_append_of_le_length (by omega), List.take_of_length_le (by omega)]
    | false =>
      rw [q] at hg
      rw [par_dn idx hg]
      show ((parS bs idx i).1 ++ _).take i = _
      rw [List.take_append_of_le_length (by omega), List.take_of_length_le (by omega)]
/-! the same, all of them -/
theorem asc_ext : ∀ {l m : List Int}, l.Pairwise (· < ·) → m.Pairwise (· < ·) → (∀ x, x ∈ l ↔ x ∈ m) → l = m
  | [], [], _, _, _ => rfl
  | [], y :: m, _, _, h => absurd ((h y).mpr List.mem_cons_self) List.not_mem_nil
  | x :: l, [], _, _, h => absurd ((h x).mp List.mem_cons_self) List.not_mem_nil
  | x :: l, y :: m, hl, hm, h => by
    obtain ⟨l1, l2⟩ := List.pairwise_cons.mp hl
    obtain ⟨m1, m2⟩ := List.pairwise_cons.mp hm
    have exy : x = y := by
      rcases List.mem_cons.mp ((h x).mp List.mem_cons_self) with e | e
      · exact e
      · rcases List.mem_cons.mp ((h y).mpr List.mem_cons_self) with e' | e'
        · exact e'.symm
        · have := m1 x e
          have := l1 y e'
          omega
    subst exy
    rw [asc_ext l2 m2 fun z => ⟨fun hz => ?_, fun hz => ?_⟩]
    · rcases List.mem_cons.mp ((h z).mp (List.mem_cons_of_mem _ hz)) with e | e
      · have := l1 z hz
        omega
      · exact e
    · rcases List.mem_cons.mp ((h z).mpr (List.mem_cons_of_mem _ hz)) with e | e
      · have := m1 z hz
        omega
      · exact e
theorem negL_asc (st : Nat) : (negL st).Pairwise (· < ·) := by
  unfold negL
  rw [List.pairwise_map]
  exact List.pairwise_lt_range.imp fun {a b} h => by omega
theorem able_nth {bs : List Bool} {s : List Int × List Int} (h : NthOk bs s) : ableL (upsN bs) false s.1 = (List.range (runN bs)).map fun p => -(s.2.getD (s.2.length - 1 - p) 0) := by
  have e : ((List.range (runN bs)).map fun p => -(s.2.getD (s.2.length - 1 - p) 0)) = s.2.reverse.map fun x => -x := by
    refine List.ext_getElem? fun i => ?_
    rw [List.getElem?_map, List.getElem?_map, ← h.run]
    by_cases hi : i < s.2.length
    · rw [List.getElem?_range hi, List.getElem?_reverse hi]
      show some (-(s.2.getD (s.2.length - 1 - i) 0)) = _
      rw [List.getD_eq_getElem?_getD]
      have hj : s.2.length - 1 - i < s.2.length := by omega
      rw [List.getElem?_eq_getElem hj]
      rfl
    · rw [List.getElem?_eq_none (by rw [List.length_range]; omega), List.getElem?_eq_none (by rw [List.length_reverse]; omega)]
      rfl
  rw [e]
  refine asc_ext ((negL_asc _).sublist List.filter_sublist) ?_ fun x => ?_
  · rw [List.pairwise_map, List.pairwise_reverse]
    exact h.asc.imp fun {a b} h => by omega
  · show x ∈ (negL (upsN bs)).filter (fun x => decide (x ∉ s.1)) ↔ _
    rw [List.mem_filter, negL_mem, decide_eq_true_eq, List.mem_map]
    constructor
    · rintro ⟨⟨a, b⟩, c⟩
      exact ⟨-x, List.mem_reverse.mpr ((h.mem (-x)).mpr ⟨by omega, by omega, by rw [Int.neg_neg]; exact c⟩), Int.neg_neg x⟩
    · rintro ⟨k, hk, rfl⟩
      obtain ⟨a, b, c⟩ := (h.mem k).mp (List.mem_reverse.mp hk)
      exact ⟨⟨by omega, by omega⟩, c⟩
theorem range_mul {α : Type} (f : Nat → α) (r : Nat) : ∀ w, (List.range (w * r)).map f = (List.range w).flatMap fun i => (List.range r).map fun p => f (i * r + p)
  | 0 => by rw [Nat.zero_mul]; rfl
  | w + 1 => by
    rw [Nat.succ_mul, List.range_add, List.map_append, range_mul f r w, List.range_succ, List.flatMap_append, List.map_map]
    simp [Function.comp_def]
theorem flatMap_congr' {α β : Type} {f g : α → List β} : ∀ {l : List α}, (∀ x ∈ l, f x = g x) → l.flatMap f = l.flatMap g
  | [], _ => rfl
  | x :: r, h => by rw [List.flatMap_cons, List.flatMap_cons, h x List.mem_cons_self, flatMap_congr' fun y hy => h y (List.mem_cons_of_mem _ hy)]
theorem every_nth {bs : List Bool} (ok : SgOk bs) (u : upsN bs ≤ 100) : everyL bs = (List.range (waysN bs)).map (nthL bs) := by
  refine snoc_ind (P := fun bs => SgOk bs → upsN bs ≤ 100 → everyL bs = (List.range (waysN bs)).map (nthL bs)) (fun _ _ => rfl) (fun l a ih ok u => ?_) bs ok u
  cases a with
  | true =>
    rw [ups_up] at u
    rw [every_snoc, ih ok.pre (by omega), ways_up, List.flatMap_map]
    have e : ∀ i ∈ List.range (waysN l), ((ableL (upsN l + true.toNat) true (nthL l i)).map fun x => nthL l i ++ [x]) = [nthL (l ++ [true]) i] := fun i _ => by
      unfold nthL
      rw [nth_up]
      rfl
    rw [flatMap_congr' e]
    generalize List.range (waysN l) = m
    induction m with
    | nil => rfl
    | cons x r ih2 => rw [List.flatMap_cons, List.map_cons, ih2]; rfl
  | false =>
    rw [ups_dn] at u
    rw [every_snoc, ih ok.pre u, ways_dn, List.flatMap_map, range_mul]
    refine flatMap_congr' fun i hi => ?_
    have hi' := List.mem_range.mp hi
    show ((ableL (upsN l) false (nthL l i)).map fun x => nthL l i ++ [x]) = _
    have ea : ableL (upsN l) false (nthL l i) = _ := able_nth (nth_ok ok.pre u i hi')
    rw [ea, List.map_map]
    refine List.map_congr_left fun p hp => ?_
    have hp' := List.mem_range.mp hp
    have d1 : (i * runN l + p) / runN l = i := by
      rw [Nat.mul_comm, Nat.mul_add_div ok.last, Nat.div_eq_of_lt hp', Nat.add_zero]
    have d2 : (i * runN l + p) % runN l = p := by
      rw [Nat.mul_comm, Nat.mul_add_mod, Nat.mod_eq_of_lt hp']
    show nthL l i ++ [_] = nthL (l ++ [false]) (i * runN l + p)
    unfold nthL
    rw [nth_dn, d1, d2]
/-! in list order -/
theorem lex_last : ∀ (row : List Int) (x y : Int), HT.lexLt (row ++ [x]) (row ++ [y]) = decide (x < y)
  | [], x, y => by
    show (if x = y then HT.lexLt [] [] else decide (x < y)) = _
    by_cases e : x = y
    · subst e
      rw [if_pos rfl]
      exact (decide_eq_false (by omega)).symm
    · rw [if_neg e]
  | a :: r, x, y => by
    show (if a = a then HT.lexLt (r ++ [x]) (r ++ [y]) else decide (a < a)) = _
    rw [if_pos rfl, lex_last r x y]
theorem lex_ext : ∀ {a b : List Int} (x y : Int), a.length = b.length → HT.lexLt a b = true → HT.lexLt (a ++ [x]) (b ++ [y]) = true
  | [], [], _, _, _, h => absurd h (by decide)
  | [], _ :: _, _, _, e, _ => absurd e (by simp)
  | _ :: _, [], _, _, e, _ => absurd e (by simp)
  | p :: a, q :: b, x, y, e, h => by
    have h' : (if p = q then HT.lexLt a b else decide (p < q)) = true := h
    show (if p = q then HT.lexLt (a ++ [x]) (b ++ [y]) else decide (p < q)) = true
    by_cases c : p = q
    · rw [if_pos c] at h'
      rw [if_pos c]
      exact lex_ext x y (Nat.succ.inj e) h'
    · rw [if_neg c] at h'
      rw [if_neg c]
      exact h'
theorem every_asc {bs : List Bool} (ok : SgOk bs) : (everyL bs).Pairwise fun x y => HT.lexLt x y = true := by
  refine snoc_ind (P := fun bs => SgOk bs → (everyL bs).Pairwise fun x y => HT.lexLt x y = true) (fun _ => List.pairwise_singleton _ _) (fun l a ih ok => ?_) bs ok
  have len := (every_ok ok.pre).1
  rw [every_snoc, List.pairwise_flatMap]
  refine ⟨fun row hr => ?_, ?_⟩
  · rw [List.pairwise_map]
    have asc : (ableL (upsN l + a.toNat) a row).Pairwise (· < ·) := by
      cases a with
      | true => exact List.pairwise_singleton _ _
      | false => exact (negL_asc _).sublist List.filter_sublist
    exact asc.imp fun {x y} h => by rw [lex_last]; exact decide_eq_true h
  · refine (ih ok.pre).imp_of_mem fun {p q} hp hq h x hx y hy => ?_
    obtain ⟨x', _, rfl⟩ := List.mem_map.mp hx
    obtain ⟨y', _, rfl⟩ := List.mem_map.mp hy
    exact lex_ext _ _ (by rw [(len p hp).2, (len q hq).2]) h
theorem lex_uniq : ∀ {l m : List (List Int)}, l.Pairwise (fun x y => HT.lexLt x y = true) → m.Pairwise (fun x y => HT.lexLt y x = false) → m.Perm l → m = l
  | [], m, _, _, p => List.Perm.eq_nil p
  | x :: l, [], _, _, p => absurd p.length_eq (by simp)
  | x :: l, y :: m, hl, hm, p => by
    obtain ⟨l1, l2⟩ := List.pairwise_cons.mp hl
    obtain ⟨m1, m2⟩ := List.pairwise_cons.mp hm
    have exy : y = x := by
      rcases List.mem_cons.mp (p.mem_iff.mp List.mem_cons_self) with e | e
      · exact e
      · rcases List.mem_cons.mp (p.mem_iff.mpr List.mem_cons_self) with e' | e'
        · exact e'.symm
        · have a := l1 y e
          have b := m1 x e'
          rw [a] at b
          cases b
    subst exy
    rw [lex_uniq l2 m2 p.cons_inv]
/-! and back -/
def rkStep (s : Nat × List Int) (e : Int) : Nat × List Int := if 0 < e then (s.1, s.2 ++ [e]) else (s.1 * s.2.length + (s.2.length - 1 - s.2.idxOf (-e)), s.2.erase (-e))
theorem idx_nd {l : List Int} (nd : l.Nodup) {j : Nat} (h : j < l.length) : l.idxOf l[j] = j := by
  have hm := List.getElem_mem h
  have hi := List.idxOf_lt_length_of_mem hm
  have g : l[l.idxOf l[j]]? = some l[j] := by
    rw [List.getElem?_eq_getElem hi]
    exact congrArg some (List.getElem_idxOf hi)
  exact nd_ix nd g (List.getElem?_eq_getElem h)
theorem rk_dn {bs : List Bool} (ok : SgOk bs) (u : upsN bs ≤ 100) {idx i : Nat} (hi : idx < waysN bs) (h : bs[i]? = some false) :
    ∃ j, ∃ hj : j < (parS bs idx i).2.length, parS bs idx (i + 1) = ((parS bs idx i).1 ++ [-((parS bs idx i).2[j])], (parS bs idx i).2.eraseIdx j) ∧ (parS bs idx i).2.idxOf ((parS bs idx i).2[j]) = j ∧
      j = (parS bs idx i).2.length - 1 - idx % restN bs i / restN bs (i + 1) ∧ idx / restN bs i * (parS bs idx i).2.length + ((parS bs idx i).2.length - 1 - j) = idx / restN bs (i + 1) := by
  have hl := lt_get h
  have n := par_ok ok u hi (i := i) (by omega)
  have rp := ok i h
  have d := par_dn idx h
  have e1 : idx / restN bs (i + 1) / runN (bs.take i) = idx / restN bs i := by rw [rest_dn h, Nat.div_div_eq_div_mul, Nat.mul_comm]
  have e2 : idx % restN bs i / restN bs (i + 1) = idx / restN bs (i + 1) % runN (bs.take i) := by
    rw [rest_dn h, Nat.mul_comm]
    exact Nat.mod_mul_right_div_self _ _ _
  have hm := Nat.mod_lt (idx / restN bs (i + 1)) rp
  have nr := n.run
  have hj : (parS bs idx i).2.length - 1 - idx % restN bs i / restN bs (i + 1) < (parS bs idx i).2.length := by omega
  refine ⟨_, hj, ?_, idx_nd n.good.avn hj, rfl, ?_⟩
  · rw [d, List.getD_eq_getElem?_getD, List.getElem?_eq_getElem hj]
    rfl
  · have dm := Nat.div_add_mod (idx / restN bs (i + 1)) (runN (bs.take i))
    rw [e1, Nat.mul_comm] at dm
    rw [nr, e2]
    omega
end L59
set_option Elab.async false
set_option linter.all false
set_option maxRecDepth 100000
namespace L59
open PySem PySem.Spec PyProof.Rows L2 Lp
/-! ### signs as text -/
def sgC (b : Bool) : Nat := if b then 43 else 45
def sgS (bs : List Bool) : Str := ⟨(bs.map sgC).toArray⟩
theorem plus_eq : ("+" : Str) = ⟨#[43]⟩ := by decide +kernel
theorem minus_eq : ("-" : Str) = ⟨#[45]⟩ := by decide +kernel
theorem sgS_len (bs : List Bool) : (sgS bs).length = bs.length := by
  show ((bs.map sgC).toArray).size = _
  rw [List.size_toArray, List.length_map]
theorem sgS_up (bs : List Bool) : sgS bs ++ ("+" : Str) = sgS (bs ++ [true]) := by
  rw [plus_eq]
  show (⟨(bs.map sgC).toArray ++ [43].toArray⟩ : Str) = ⟨((bs ++ [true]).map sgC).toArray⟩
  rw [List.map_append, List.append_toArray]
  rfl
theorem sgS_dn (bs : List Bool) : sgS bs ++ ("-" : Str) = sgS (bs ++ [false]) := by
  rw [minus_eq]
  show (⟨(bs.map sgC).toArray ++ [45].toArray⟩ : Str) = ⟨((bs ++ [false]).map sgC).toArray⟩
  rw [List.map_append, List.append_toArray]
  rfl
theorem sgS_nil : ("" : Str) = sgS [] := by decide +kernel
theorem sgS_cat (as bs : List Bool) : sgS as ++ sgS bs = sgS (as ++ bs) := by
  show (⟨(as.map sgC).toArray ++ (bs.map sgC).toArray⟩ : Str) = ⟨((as ++ bs).map sgC).toArray⟩
  rw [List.map_append, List.append_toArray]
theorem sg_get {bs : List Bool} {i c : Nat} (h : (sgS bs).cps[i]? = some c) : ∃ b, bs[i]? = some b ∧ c = sgC b := by
  have h' : (bs.map sgC)[i]? = some c := by
    rw [← h]
    exact List.getElem?_toArray.symm
  rw [List.getElem?_map] at h'
  cases e : bs[i]? with
  | none => rw [e] at h'; cases h'
  | some b => rw [e] at h'; cases h'; exact ⟨b, rfl, rfl⟩
theorem sg_size (bs : List Bool) : (sgS bs).cps.size = bs.length := sgS_len bs
theorem eqP (b : Bool) : decide (V.str ⟨#[sgC b]⟩ = V.str ("+" : Str)) = b := by
  rw [plus_eq]
  cases b
  · exact decide_eq_false fun e => by have := V.str.inj e; revert this; decide
  · exact decide_eq_true rfl
theorem eqM (b : Bool) : decide (V.str ⟨#[sgC b]⟩ = V.str ("-" : Str)) = !b := by
  rw [minus_eq]
  cases b
  · exact decide_eq_true rfl
  · exact decide_eq_false fun e => by have := V.str.inj e; revert this; decide
theorem blP (b : Bool) : V.bl (decide (V.str ⟨#[sgC b]⟩ = V.str ("+" : Str))) = V.bl b := congrArg V.bl (eqP b)
theorem blM (b : Bool) : V.bl (decide (V.str ⟨#[sgC b]⟩ = V.str ("-" : Str))) = V.bl (!b) := congrArg V.bl (eqM b)
theorem cnt_sg (b : Bool) : ∀ bs : List Bool, PyProof.Rows.cnt (sgC b) (bs.map sgC) = ((bs.count b : Nat) : Int)
  | [] => rfl
  | x :: r => by
    rw [List.map_cons, PyProof.Rows.cnt_cons, cnt_sg b r, List.count_cons]
    cases x <;> cases b <;> (simp [sgC]; try omega)
theorem count_P (bs : List Bool) : Txt.count (sgS bs) ("+" : Str) = ((upsN bs : Nat) : Int) := by
  rw [plus_eq, PyProof.Rows.count_cnt]
  exact cnt_sg true bs
theorem count_M (bs : List Bool) : Txt.count (sgS bs) ("-" : Str) = ((dnsN bs : Nat) : Int) := by
  rw [minus_eq, PyProof.Rows.count_cnt]
  exact cnt_sg false bs
theorem cut_sg (bs : List Bool) (k : Nat) (h : k ≤ bs.length) : cutS (sgS bs) none (some (k : Int)) = sgS (bs.take k) := by
  unfold cutS
  rw [HT.sIx_none, HT.sIx_nat, sgS_len, List.drop_zero, Nat.sub_zero, Nat.min_eq_left h]
  show (⟨(((bs.map sgC).toArray.toList).take k).toArray⟩ : Str) = ⟨((bs.take k).map sgC).toArray⟩
  rw [List.map_take]
section
variable {P : Program} {w : World} {K : PySem.W.Frag} {mg : Str → Option Value} {base : Heap}
/-! ### draws -/
/-- the list of three ints that draws are made of: at most n draws were made in the second way -/
def Src (H : Hp) (a : Addr) (n : Nat) : Prop := ∃ x y z : Int, H a = some (.lst [.int x, .int y, .int z]) ∧ 0 ≤ y ∧ y < 2 ^ 300 ∧ 0 ≤ z ∧ z ≤ (n : Int)
theorem Src.mono {H : Hp} {a : Addr} {n m : Nat} (h : Src H a n) (l : n ≤ m) : Src H a m := by
  obtain ⟨x, y, z, h1, h2, h3, h4, h5⟩ := h
  exact ⟨x, y, z, h1, h2, h3, h4, by omega⟩
theorem Src.bt {H H' : Hp} {a b : Addr} {n : Nat} (h : Src H a n) (x : Bt b H H') (e : a ≠ b) : Src H' a n := by
  obtain ⟨p, y, z, h1, h2⟩ := h
  exact ⟨p, y, z, x _ _ e h1, h2⟩
theorem Src.same {H H' : Hp} {a : Addr} {n : Nat} (h : Src H a n) (x : Same H H') : Src H' a n := by
  obtain ⟨p, y, z, h1, h2⟩ := h
  exact ⟨p, y, z, x _ _ h1, h2⟩
theorem Src.new {H : Hp} {a p : Addr} {n : Nat} {o : HO} (h : Src H a n) (e : H p = none) : Src (upd H p o) a n := h.same (same_new e)
theorem Src.ne {H : Hp} {a p : Addr} {n : Nat} (h : Src H a n) (e : H p = none) : p ≠ a := fun z => by
  obtain ⟨_, _, _, h1, _⟩ := h
  rw [← z, e] at h1
  cases h1
theorem Src.upd {H : Hp} {a p : Addr} {n : Nat} {o : HO} (h : Src H a n) (e : p ≠ a) : Src (upd H p o) a n := by
  obtain ⟨x, y, z, h1, h2⟩ := h
  exact ⟨x, y, z, by rw [upd_ne e.symm]; exact h1, h2⟩
def spDraw : Sp := fun vs H Q _ => ∃ (a : Addr) (m : Int) (n : Nat), vs = [.ref a, .int m] ∧ Src H a n ∧ n ≤ 1000000 ∧ 1 ≤ m ∧ m ≤ 1000000 ∧ ∀ r H', 0 ≤ r → r < m → Src H' a (n + 1) → Bt a H H' → Q (.int r) H'
theorem lt_pow {i : Int} {n : Nat} (h0 : 0 ≤ i) (h : i < 2 ^ n) : i.natAbs < 2 ^ n := by
  have e : ((i.natAbs : Nat) : Int) = i := Int.natAbs_of_nonneg h0
  have h' : ((i.natAbs : Nat) : Int) < ((2 ^ n : Nat) : Int) := by
    rw [e]
    simpa using h
  exact Int.ofNat_lt.mp h'
theorem zz_le {z : Int} (h0 : 0 ≤ z) (h : z ≤ 1000001) : z * z ≤ 1000002000001 := by
  have := Int.mul_le_mul h h h0 (by decide)
  omega
theorem ok_law_draw {f : Addr} {fd : FuncData} (F : Fun K "_law_draw" "_law_draw" s_law_draw f fd) : FnG P w K mg base CX0 1 f fd ["pool", "many"] spDraw := by
  refine okG F sc_law_draw (fun vs H Q E h => ?_) (fun cdv A outer s H vs Q E hG hr h => ?_)
  · obtain ⟨a, m, n, rfl, _⟩ := h
    rfl
  · obtain ⟨a, m, n, rfl, ⟨x, y, z, ha, y0, y1, z0, z1⟩, hn, m0, m1, q⟩ := h
    refine ⟨_, (pss_cons (ps_if (pt_cmpR op_gt (pe_ix ix_list (pv 0) pe_int (fun _ _ => rfl)) pe_int (nomark _)) (pss_cons (ps_set (i := 2) sc_law_draw.nd rfl (Or.inl rfl) (pe_op op_mod (pe_ix ix_list (pv 0) pe_int (fun _ _ => rfl)) (pv 1)))
          (pss_cons (ps_asg (pe_op op_fdivW (pe_ix ix_list (pv 0) pe_int (fun _ _ => rfl)) (pv 1)) (pg_sub (pv 0) pe_int set_list))
          (pss_one (ps_ret (pv 2))))) pss_nil)
        (pss_cons (ps_asg (pe_op op_add (pe_ix ix_list (pv 0) pe_int (fun _ _ => rfl)) pe_int) (pg_sub (pv 0) pe_int set_list))
        (pss_cons (ps_set (i := 3) sc_law_draw.nd rfl (Or.inl rfl) (pe_op op_mod (pe_op op_powW (pe_op op_add (pe_ix ix_list (pv 0) pe_int (fun _ _ => rfl)) (pe_op op_mulW pe_int (pe_ix ix_list (pv 0) pe_int (fun _ _ => rfl)))) pe_int) (pe_op op_add (pe_op op_powW pe_int pe_int) pe_int)))
        (pss_cons (ps_set (i := 3) sc_law_draw.nd rfl (Or.inl rfl) (pe_op op_mod (pe_op op_powW (pe_op op_add (pv 3) (pe_op op_mulW pe_int (pe_ix ix_list (pv 0) pe_int (fun _ _ => rfl)))) pe_int) (pe_op op_add (pe_op op_powW pe_int pe_int) pe_int)))
        (pss_one (ps_ret (pe_op op_mod (pe_op op_fdivW (pv 3) pe_int) (pv 1)))))))), ?_⟩
    have hS : SqL K H a [.int x, .int y, .int z] := .of ha
    by_cases hx : 0 < x
    · refine ⟨_, rfl, a, _, 0, _, rfl, rfl, hS, at0, _, _, rfl, rfl, true, dT hx, ?_⟩
      refine ⟨_, rfl, a, _, 0, _, rfl, rfl, hS, at0, _, rfl, _, _, rfl, rfl, (by show (0 : Int) < m; omega), ?_⟩
      refine ⟨_, rfl, a, _, 0, _, rfl, rfl, hS, at0, _, rfl, _, _, rfl, rfl, wide_div (b := 30) (by omega) (lt_pow (by omega) (by omega)) (by decide) (by decide), ?_⟩
      refine ⟨_, rfl, a, _, 0, 0, rfl, rfl, ha, rfl, _, rfl, ?_⟩
      exact q _ _ (Int.emod_nonneg _ (by omega)) (Int.emod_lt_of_pos _ (by omega)) ⟨_, _, _, upd_same, y0, y1, z0, by omega⟩ (.at_ _ _ _)
    · refine ⟨_, rfl, a, _, 0, _, rfl, rfl, hS, at0, _, _, rfl, rfl, false, dF hx, ?_⟩
      refine ⟨_, rfl, a, _, 2, _, rfl, rfl, hS, at2, _, _, rfl, rfl, _, rfl, a, _, 2, 2, rfl, rfl, ha, rfl, ?_⟩
      have hS2 : SqL K (upd H a (.lst [.int x, .int y, .int (z + 1)])) a [.int x, .int y, .int (z + 1)] := .of upd_same
      have c1 : CPowW (y + 69061 * (z + 1)) 3 := powW_ok (n := 400) (lt_pow (by omega) (by omega)) (by decide) (by decide)
      have p1 : CPowW 10 41 := powW_ok (n := 4) (by decide) (by decide) (by decide)
      have p2 : CPowW 10 38 := powW_ok (n := 4) (by decide) (by decide) (by decide)
      have k1 : (10 : Int) ^ (41 : Int).toNat + 37 = 100000000000000000000000000000000000000037 := by decide +kernel
      have k2 : (10 : Int) ^ (38 : Int).toNat + 133 = 100000000000000000000000000000000000133 := by decide +kernel
      have n1 : (0 : Int) < 10 ^ (41 : Int).toNat + 37 := by rw [k1]; decide
      have n2 : (0 : Int) < 10 ^ (38 : Int).toNat + 133 := by rw [k2]; decide
      refine ⟨_, rfl, a, _, 1, _, rfl, rfl, hS2, at1, _, rfl, a, _, 2, _, rfl, rfl, hS2, at2, _, _, rfl, rfl, wide_mul (a := 30) (b := 30) (by decide) (lt_pow (by omega) (by omega)) (by decide) (by decide) (by decide), _, _, rfl, rfl, _, _, rfl, rfl, c1, _, _, rfl, rfl, p1, _, _, rfl, rfl, _, _, rfl, rfl, n1, ?_⟩
      generalize (y + 69061 * (z + 1)) ^ (3 : Int).toNat = big
      have b0 : 0 ≤ big % (10 ^ (41 : Int).toNat + 37) := Int.emod_nonneg _ (Int.ne_of_gt n1)
      have b1 : big % (10 ^ (41 : Int).toNat + 37) < 100000000000000000000000000000000000000037 := by
        have := Int.emod_lt_of_pos big n1
        rw [k1] at this
        rw [k1]
        exact this
      have c2 : ∀ mx : Int, 0 ≤ mx → mx < 100000000000000000000000000000000000000037 → CPowW (mx + 88469 * (z + 1)) 3 := fun mx b0 b1 => powW_ok (n := 400) (lt_pow (by omega) (by omega)) (by decide) (by decide)
      refine ⟨_, rfl, _, rfl, a, _, 2, _, rfl, rfl, hS2, at2, _, _, rfl, rfl, wide_mul (a := 30) (b := 30) (by decide) (lt_pow (by omega) (by omega)) (by decide) (by decide) (by decide), _, _, rfl, rfl, _, _, rfl, rfl, c2 _ b0 b1, _, _, rfl, rfl, p2, _, _, rfl, rfl, _, _, rfl, rfl, n2, ?_⟩
      refine ⟨_, rfl, _, _, rfl, rfl, wide_div (b := 30) (by decide) (by decide) (by decide) (by decide), _, rfl, _, _, rfl, rfl, (by show (0 : Int) < m; omega), ?_⟩
      exact q _ _ (Int.emod_nonneg _ (by omega)) (Int.emod_lt_of_pos _ (by omega)) ⟨_, _, _, upd_same, y0, y1, by omega, by omega⟩ (.at_ _ _ _)
/-! ### the pool of draws -/
def spPool (K : PySem.W.Frag) : Sp := fun vs H Q _ => ∃ (a : Addr) (ns : List Int) (k : Nat), vs = [.ref a, .int (k : Int)] ∧ SqL K H a (ns.map V.int) ∧ k ≤ 1000 ∧ ∀ H' p, Same H H' → H p = none → Src H' p 0 → Q (.ref p) H'
theorem ok_law_pool {f : Addr} {fd : FuncData} (F : Fun K "_law_pool" "_law_pool" s_law_pool f fd) (B : NoB mg) : FnG P w K mg base CX0 1 f fd ["script", "k"] (spPool K) := by
  refine okG F sc_law_pool (fun vs H Q E h => ?_) (fun cdv A outer s H vs Q E hG hr h => ?_)
  · obtain ⟨a, ns, k, rfl, _⟩ := h
    rfl
  · obtain ⟨a, ns, k, rfl, hS, hk, q⟩ := h
    refine ⟨_, (pss_cons (ps_set (i := 2) sc_law_pool.nd rfl (Or.inl rfl) pe_int)
        (Evl.pss_cut (ps_if (pt_cmpR op_lt (pv 1) (pe_callB call_len_seq (by rfl) B.len PySem.boot_len (pa_cons (pv 0) pa_nil)) (nomark _)) (pss_one (ps_set (i := 2) sc_law_pool.nd rfl (Or.inl rfl) (pe_ix ix_list (pv 0) (pv 1) (fun _ _ => rfl)))) pss_nil)
        (pss_one (ps_ret (pe_lst (pa_cons (pe_callB (call_max2 rfl) (by rfl) B.max (by decide +kernel) (pa_cons pe_int (pa_cons (pe_op op_sub (pv 2) (pe_op op_powW pe_int pe_int)) pa_nil))) (pa_cons (pe_op op_add (pe_op op_mulW (pe_op op_mod (pv 2) (pe_op op_add (pe_op op_powW pe_int pe_int) pe_int)) pe_int) (pv 1)) (pa_cons pe_int pa_nil)))))))), ?_⟩
    refine ⟨fun σ' H' => (∃ c : Int, σ' = [some (.ref a), some (.int (k : Int)), some (.int c)]) ∧ H' = H, ?_, fun σ' H' hm => ?_⟩
    · by_cases hlt : k < ns.length
      · refine ⟨_, rfl, _, rfl, a, _, rfl, .inl hS, _, _, rfl, rfl, true, dT (by rw [List.length_map]; omega), ?_⟩
        exact ⟨_, rfl, _, rfl, a, _, _, _, rfl, rfl, hS, atI_nat (get_at hlt), ⟨_, rfl⟩, rfl⟩
      · refine ⟨_, rfl, _, rfl, a, _, rfl, .inl hS, _, _, rfl, rfl, false, dF (by rw [List.length_map]; omega), ⟨_, rfl⟩, rfl⟩
    · obtain ⟨⟨c, rfl⟩, rfl⟩ := hm
      have p1 : CPowW 10 18 := powW_ok (n := 4) (by decide) (by decide) (by decide)
      have p2 : CPowW 10 40 := powW_ok (n := 4) (by decide) (by decide) (by decide)
      have e : (10 : Int) ^ (40 : Int).toNat + 121 = 10000000000000000000000000000000000000121 := by decide +kernel
      have m0 : (0 : Int) < 10 ^ (40 : Int).toNat + 121 := by rw [e]; decide
      have r0 := Int.emod_nonneg c (Int.ne_of_gt m0)
      have r1 := Int.emod_lt_of_pos c m0
      have r2 : c % (10 ^ (40 : Int).toNat + 121) < 10000000000000000000000000000000000000121 := by
        rw [e] at r1
        rw [e]
        exact r1
      refine ⟨_, rfl, _, _, rfl, rfl, p1, _, _, rfl, rfl, _, _, rfl, _, rfl, _, _, rfl, rfl, p2, _, _, rfl, rfl, _, _, rfl, rfl, m0, _, _, rfl, rfl, wide_mul (a := 200) (b := 30) (lt_pow r0 (by omega)) (by decide) (by decide) (by decide) (by decide),
        _, rfl, _, _, rfl, rfl, by show 3 ≤ sizeLine; decide, fun p np => q _ p (same_new np) np ?_⟩
      exact ⟨_, _, _, upd_same, by omega, by omega, Int.le_refl _, Int.le_refl _⟩
end
theorem sg_len {bs : List Bool} (ok : SgOk bs) (u : upsN bs ≤ 100) : bs.length ≤ 200 := by
  have a := run_eq ok
  have b := ups_dns bs
  omega
theorem wide_ways {bs : List Bool} (ok : SgOk bs) (u : upsN bs ≤ 100) : CMulW ((waysN bs : Nat) : Int) ((runN bs : Nat) : Int) := by
  have l := sg_len ok u
  have a := run_eq ok
  refine wide_mul (a := 1401) (b := 30) (lt_pow (by omega) ?_) (lt_pow (by omega) (by omega)) (by decide) (by decide) (by decide)
  have z := Nat.lt_of_lt_of_le (ways_lt u ok) (Nat.pow_le_pow_right (by decide) (show 7 * bs.length + 1 ≤ 1401 by omega))
  have := Int.ofNat_lt.mpr z
  rwa [Int.natCast_pow] at this
theorem ups_take {bs : List Bool} (u : upsN bs ≤ 100) (i : Nat) : upsN (bs.take i) ≤ 100 := Nat.le_trans (List.Sublist.count_le _ (List.take_sublist i bs)) u
section
variable {P : Program} {w : World} {K : PySem.W.Frag} {mg : Str → Option Value} {base : Heap}
/-! ### _law_signs -/
def spSigns (K : PySem.W.Frag) : Sp := fun vs H Q _ => ∃ (src sc : Addr) (ns : List Int) (n : Nat) (H0 : Hp), vs = [.ref src, .ref sc] ∧ Src H src n ∧ n ≤ 800000 ∧ SqL K H0 sc (ns.map V.int) ∧ H0 src = none ∧ Bt src H0 H ∧
  ∀ (H' : Hp) (bs : List Bool), SgOk bs → upsN bs ≤ 100 → 0 < bs.length → bs.length ≤ 200 → Bt src H H' → Src H' src (n + 500) → Q (.str (sgS bs)) H'
set_option maxHeartbeats 1000000 in
theorem ok_law_signs {f : Addr} {fd : FuncData} (F : Fun K "_law_signs" "_law_signs" s_law_signs f fd) (B : NoB mg) (T_law_draw : Gc P w K mg base 1 "_law_draw" spDraw) : FnG P w K mg base CX0 2 f fd ["pool", "script"] (spSigns K) := by
  refine okG F sc_law_signs (fun vs H Q E h => ?_) (fun cdv A outer s H vs Q E hG hr h => ?_)
  · obtain ⟨src, sc, ns, n, H0, rfl, _⟩ := h
    rfl
  · obtain ⟨src, sc, ns, n, H0, rfl, hs, hn, hS, h0, b0, q⟩ := h
    have hu64 := hr.units
    refine ⟨_, (pss_cons (ps_par (i := 2) (j := 3) (by rfl) sc_law_signs.nd rfl rfl (by decide) rfl rfl (pa_cons (pe_ix ix_list (pe_lst (pa_cons (pe_op op_add pe_int (pe_g T_law_draw hG hr (by decide) (by rfl) (pa_cons (pv 0) (pa_cons pe_int pa_nil)))) (pa_cons (pe_op op_add pe_int (pe_g T_law_draw hG hr (by decide) (by rfl) (pa_cons (pv 0) (pa_cons pe_int pa_nil)))) (pa_cons pe_int pa_nil)))) (pe_g T_law_draw hG hr (by decide) (by rfl) (pa_cons (pv 0) (pa_cons pe_int pa_nil))) (fun _ _ => rfl)) (pa_cons (pe_g T_law_draw hG hr (by decide) (by rfl) (pa_cons (pv 0) (pa_cons pe_int pa_nil))) pa_nil)) (by rfl))
        (pss_cons (ps_set (i := 4) sc_law_signs.nd rfl (Or.inl rfl) (pe_op op_add pe_int (pe_g T_law_draw hG hr (by decide) (by rfl) (pa_cons (pv 0) (pa_cons pe_int pa_nil)))))
        (pss_cons (ps_asg (pe_mid (pe_ifExp (pt_cmpR (op_eqD hu64) (pv 1) (pe_lst pa_nil) (nomark _)) (pe_tup (pa_cons pe_int (pa_cons pe_int (pa_cons pe_int pa_nil)))) (pe_tup (pa_cons (pv 2) (pa_cons (pv 3) (pa_cons (pv 4) pa_nil)))))) (pg_tup rfl (pgs_cons (pg_name (i := 2) sc_law_signs.nd rfl (Or.inl rfl)) (pgs_cons (pg_name (i := 3) sc_law_signs.nd rfl (Or.inl rfl)) (pgs_cons (pg_name (i := 4) sc_law_signs.nd rfl (Or.inl rfl)) pgs_nil)))))
        (pss_cons (ps_asg (pe_tup (pa_cons pe_str (pa_cons pe_int (pa_cons pe_int pa_nil)))) (pg_tup rfl (pgs_cons (pg_name (i := 5) sc_law_signs.nd rfl (Or.inl rfl)) (pgs_cons (pg_name (i := 6) sc_law_signs.nd rfl (Or.inl rfl)) (pgs_cons (pg_name (i := 7) sc_law_signs.nd rfl (Or.inl rfl)) pgs_nil)))))
        (pss_cons (ps_for PassesOwn.never rfl (pi_range1 rfl B.range (pa_cons (pv 2) pa_nil)) (pg_name (i := 8) sc_law_signs.nd rfl (Or.inl rfl))
          (pss_cons (ps_set (i := 9) sc_law_signs.nd rfl (Or.inl rfl) (pe_g T_law_draw hG hr (by decide) (by rfl) (pa_cons (pv 0) (pa_cons pe_int pa_nil))))
          (pss_cons (ps_set (i := 10) sc_law_signs.nd rfl (Or.inl rfl) (pe_ix ix_list (pe_lst (pa_cons (pe_cmpR op_gt (pv 9) pe_int (nomark _)) (pa_cons (pe_cmpR op_eq (pv 6) pe_int (nomark _)) (pa_cons (pe_cmpR op_lt (pv 7) (pv 4) (nomark _)) (pa_cons (pe_cmpR op_lt (pv 6) (pe_op op_add (pe_op op_mod (pv 4) pe_int) (pv 9)) (nomark _)) pa_nil))))) (pv 3) (fun _ _ => rfl)))
          (pss_one (ps_if (pt_mid (PW.pt (pw_or (pt_cmpR op_eq (pv 6) pe_int (nomark _)) (pw_or1 (PW.pt (pw_and (pt_cmpR op_lt (pv 7) pe_int (nomark _)) (pw_and1 (pt_val (pv 10))))))))) (pss_cons (ps_if (pt_cmpR op_eq (pv 7) pe_int (nomark _)) (pss_one (ps_ret (pv 5))) pss_nil)
            (pss_one (ps_par3 (i := 5) (j := 6) (l := 7) (by rfl) sc_law_signs.nd rfl rfl rfl (by decide) (by decide) (by decide) rfl rfl rfl (pa_cons (pe_op op_add_str (pv 5) pe_str) (pa_cons (pe_op op_add (pv 6) pe_int) (pa_cons (pe_op op_add (pv 7) pe_int) pa_nil))) (by rfl)))) (pss_one (ps_par (i := 5) (j := 6) (by rfl) sc_law_signs.nd rfl rfl (by decide) rfl rfl (pa_cons (pe_op op_add_str (pv 5) pe_str) (pa_cons (pe_op op_sub (pv 6) pe_int) pa_nil)) (by rfl))))))))
        (pss_one (ps_ret (pv 5)))))))), ?_⟩
    refine ⟨_, rfl, src, 8, n, rfl, hs, by omega, by decide, by decide, fun r1 H1 r10 r11 hs1 b1 => ⟨_, _, rfl, rfl, ?_⟩⟩
    refine ⟨_, rfl, src, 60, n + 1, rfl, hs1, by omega, by decide, by decide, fun r2 H2 r20 r21 hs2 b2 => ⟨_, _, rfl, rfl, ?_⟩⟩
    refine ⟨by show 3 ≤ sizeLine; decide, fun L nL => ?_⟩
    refine ⟨_, rfl, src, 3, n + 2, rfl, hs2.new nL, by omega, by decide, by decide, fun r3 H3 r30 r31 hs3 b3 => ?_⟩
    have nLs := hs2.ne nL
    have hL3 : H3 L = some (.lst [.int (1 + r1), .int (1 + r2), .int 200]) := b3 _ _ nLs upd_same
    obtain ⟨many, em, k1, k2⟩ : ∃ m : Int, atI [V.int (1 + r1), .int (1 + r2), .int 200] r3 = some (.int m) ∧ 1 ≤ m ∧ m ≤ 200 := by
      have c : r3 = 0 ∨ r3 = 1 ∨ r3 = 2 := by omega
      rcases c with rfl | rfl | rfl
      · exact ⟨_, at0, by omega, by omega⟩
      · exact ⟨_, at1, by omega, by omega⟩
      · exact ⟨_, at2, by omega, by omega⟩
    have b03 : Bt src H H3 := ((b1.trans b2).add nL).trans b3
    refine ⟨L, _, r3, _, rfl, rfl, .of hL3, em, ?_⟩
    refine ⟨_, rfl, src, 4, n + 3, rfl, hs3, by omega, by decide, by decide, fun st H4 st0 st1 hs4 b4 => ⟨_, _, rfl, ?_⟩⟩
    refine ⟨_, rfl, src, 100, n + 4, rfl, hs4, by omega, by decide, by decide, fun wd H5 wd0 wd1 hs5 b5 => ⟨_, _, rfl, rfl, ?_⟩⟩
    have b05 := (b03.trans b4).trans b5
    refine ⟨fun v H6 => ∃ (T : Addr) (m s d : Int), v = .ref T ∧ H6 T = some (.tup [.int m, .int s, .int d]) ∧ 1 ≤ m ∧ m ≤ 200 ∧ 0 ≤ s ∧ s < 4 ∧ 1 ≤ d ∧ d ≤ 100 ∧ Src H6 src (n + 5) ∧ Bt src H H6, ?_, fun v H6 hm => ?_⟩
    · refine ⟨_, rfl, Nat.zero_le _, fun e ne => ?_⟩
      have hsc : SqL K H5 sc (ns.map V.int) := seqN hS h0 (Same.refl _) (b0.trans b05)
      have hsc2 := (same_new (o := .lst []) ne).seq hsc
      by_cases hb : ns = []
      · refine ⟨dI ns, dI [], dp_ints hsc2, dp_ints (ns := []) (.of upd_same), shaped_ints _, shaped_ints _, true, eqvT hb, ?_⟩
        exact ⟨by show 3 ≤ sizeLine; decide, fun T nT => ⟨T, _, _, _, rfl, upd_same, by decide, by decide, by decide, by decide, by decide, by decide, (hs5.new ne).new nT, (b05.add ne).add nT⟩⟩
      · refine ⟨dI ns, dI [], dp_ints hsc2, dp_ints (ns := []) (.of upd_same), shaped_ints _, shaped_ints _, false, eqvF hb, ?_⟩
        exact ⟨_, rfl, _, rfl, _, rfl, by show 3 ≤ sizeLine; decide, fun T nT => ⟨T, _, _, _, rfl, upd_same, k1, k2, st0, st1, by omega, by omega, (hs5.new ne).new nT, (b05.add ne).add nT⟩⟩
    · obtain ⟨T, m, sy, d, rfl, hT, m0, m1, s0, s1, d0, d1, hs6, b6⟩ := hm
      refine ⟨T, _, rfl, .of hT, rfl, _, _, rfl, _, _, rfl, _, _, rfl, rfl, ?_⟩
      refine ⟨by show 3 ≤ sizeLine; decide, fun T2 nT2 => ⟨T2, _, rfl, .of upd_same, rfl, _, _, rfl, _, _, rfl, _, _, rfl, rfl, ?_⟩⟩
      refine ⟨_, rfl, m, rfl, by omega, by omega, for_range (lo := 0) (n := m.toNat) (fun i σ H' => ∃ (y1 y2 y3 : Option V) (z : Str) (rn up : Int) (bs : List Bool), σ = [some (.ref src), some (.ref sc), some (.int m), some (.int sy), some (.int d), some (.str z), some (.int rn), some (.int up), y1, y2, y3] ∧
        z = sgS bs ∧ rn = ((runN bs : Nat) : Int) ∧ up = ((upsN bs : Nat) : Int) ∧ SgOk bs ∧ upsN bs ≤ 100 ∧ bs.length = i ∧ Src H' src (n + 5 + i) ∧ Bt src H H')
        ⟨_, _, _, _, _, _, [], rfl, sgS_nil, rfl, rfl, sgOk_nil, by decide, rfl, hs6.new nT2, b6.add nT2⟩ (fun i σ H' hi h => ?_) (fun σ H' h => ?_)⟩
      · obtain ⟨y1, y2, y3, z, rn, up, bs, rfl, rfl, rfl, rfl, ok, u1, le, hsi, bi⟩ := h
        refine ⟨_, rfl, src, 4, n + 5 + i, rfl, hsi, by omega, by decide, by decide, fun hit G1 h0' h1' hg1 c1 => ?_⟩
        refine ⟨_, rfl, _, _, rfl, rfl, _, rfl, rfl, _, rfl, _, rfl, _, _, rfl, rfl, _, rfl, _, rfl, _, _, rfl, rfl, (by decide : (0 : Int) < 5), _, rfl, _, _, rfl, rfl, _, _, rfl, rfl, by show 4 ≤ sizeLine; decide, fun L2 nL2 => ?_⟩
        obtain ⟨bb, ebb⟩ : ∃ bb : Bool, atI [V.bl (decide (1 < hit)), V.bl (decide (V.int ((runN bs : Nat) : Int) = V.int 0)), V.bl (decide (((upsN bs : Nat) : Int) < d)), V.bl (decide (((runN bs : Nat) : Int) < d % 5 + hit))] sy = some (.bl bb) := by
          have c : sy = 0 ∨ sy = 1 ∨ sy = 2 ∨ sy = 3 := by omega
          rcases c with rfl | rfl | rfl | rfl
          · exact ⟨_, at0⟩
          · exact ⟨_, at1⟩
          · exact ⟨_, at2⟩
          · exact ⟨_, atI_nat (j := 3) rfl⟩
        refine ⟨_, rfl, L2, _, sy, .bl bb, rfl, rfl, .of upd_same, ebb, ?_⟩
        have hg2 := hg1.new (o := .lst [V.bl (decide (1 < hit)), V.bl (decide (V.int ((runN bs : Nat) : Int) = V.int 0)), V.bl (decide (((upsN bs : Nat) : Int) < d)), V.bl (decide (((runN bs : Nat) : Int) < d % 5 + hit))]) nL2
        have c2 := (bi.trans c1).add (o := .lst [V.bl (decide (1 < hit)), V.bl (decide (V.int ((runN bs : Nat) : Int) = V.int 0)), V.bl (decide (((upsN bs : Nat) : Int) < d)), V.bl (decide (((runN bs : Nat) : Int) < d % 5 + hit))]) nL2
        generalize upd G1 L2 (.lst [V.bl (decide (1 < hit)), V.bl (decide (V.int ((runN bs : Nat) : Int) = V.int 0)), V.bl (decide (((upsN bs : Nat) : Int) < d)), V.bl (decide (((runN bs : Nat) : Int) < d % 5 + hit))]) = G2 at hg2 c2 ⊢
        refine ⟨fun b H3 => H3 = G2 ∧ (b = false → 0 < runN bs), ?_, fun b H3 hM => ?_⟩
        · by_cases hr0 : runN bs = 0
          · exact ⟨_, rfl, rfl, true, dT (by rw [hr0]; rfl), rfl, fun z => nomatch z⟩
          · refine ⟨_, rfl, rfl, false, dF (vne (by omega)), ?_⟩
            by_cases hu1 : ((upsN bs : Nat) : Int) < 100
            · exact ⟨_, rfl, _, _, rfl, rfl, true, dT hu1, _, rfl, bb, rfl, rfl, fun _ => Nat.pos_of_ne_zero hr0⟩
            · exact ⟨_, rfl, _, _, rfl, rfl, false, dF hu1, rfl, fun _ => Nat.pos_of_ne_zero hr0⟩
        · obtain ⟨rfl, hb1⟩ := hM
          cases b with
          | true =>
            by_cases hu1 : upsN bs = 100
            · refine ⟨_, rfl, rfl, true, dT (by rw [hu1]; rfl), ?_⟩
              have pos : 0 < bs.length := by
                have := ups_dns bs
                omega
              exact ⟨_, rfl, q _ bs ok u1 pos (by omega) c2 (hg2.mono (by omega))⟩
            · refine ⟨_, rfl, rfl, false, dF (vne (by omega)), ?_⟩
              have hz : (sgS bs).length + ("+" : Str).length ≤ sizeLine := by
                rw [sgS_len]
                exact zs (by show bs.length + 1 ≤ _; omega)
              refine ⟨_, rfl, _, _, rfl, rfl, hz, _, rfl, _, _, rfl, rfl, _, rfl, _, _, rfl, rfl, _, _, _, rfl, ?_⟩
              refine ⟨_, _, _, _, _, _, bs ++ [true], rfl, sgS_up bs, ?_, ?_, ok.snoc (fun z => nomatch z), by rw [ups_up]; omega, by rw [List.length_append, le]; rfl, hg2.mono (by omega), c2⟩
              · rw [run_up]; omega
              · rw [ups_up]; omega
          | false =>
            have hrp := hb1 rfl
            have hz : (sgS bs).length + ("-" : Str).length ≤ sizeLine := by
              rw [sgS_len]
              exact zs (by show bs.length + 1 ≤ _; omega)
            refine ⟨_, rfl, _, _, rfl, rfl, hz, _, rfl, _, _, rfl, rfl, _, _, rfl, ?_⟩
            refine ⟨_, _, _, _, _, _, bs ++ [false], rfl, sgS_dn bs, ?_, ?_, ok.snoc (fun _ => hrp), by rw [ups_dn]; exact u1, by rw [List.length_append, le]; rfl, hg2.mono (by omega), c2⟩
            · rw [run_dn]; omega
            · rw [ups_dn]
      · obtain ⟨y1, y2, y3, z, rn, up, bs, rfl, rfl, rfl, rfl, ok, u1, le, hsi, bi⟩ := h
        exact ⟨_, rfl, q _ bs ok u1 (by omega) (by omega) bi (hsi.mono (by omega))⟩
end
section
variable {P : Program} {w : World} {K : PySem.W.Frag} {mg : Str → Option Value} {base : Heap}
/-! ### is_shape -/
def spIsShape : Sp := fun vs H Q _ => ∃ bs : List Bool, vs = [.str (sgS bs)] ∧ SgOk bs ∧ upsN bs ≤ 100 ∧ Q (.bl true) H
theorem ok_is_shape {f : Addr} {fd : FuncData} (F : Fun K "is_shape" "is_shape" s_is_shape f fd) (B : NoB mg) {t1 : Tok} (T_g_LAST_PATCH : mg "LAST_PATCH" = some (.int 100 t1)) : FnOk P w K mg base CX0 1 f fd ["value"] spIsShape := by
  refine F.ok sc_is_shape (fun vs H Q E h => ?_) (fun cdv A outer s H vs Q E hr h => ?_)
  · obtain ⟨bs, rfl, _⟩ := h
    rfl
  · obtain ⟨bs, rfl, ok, u1, q⟩ := h
    refine ⟨_, (pss_cons (ps_if (pt_not (pt_val (pe_callB call_isi (by rfl) B.isinstance (by decide +kernel) (pa_cons (pv 0) (pa_cons (pe_bltn (v := .ty "str") (by rfl) B.str boot_str rfl) pa_nil))))) (pss_one (ps_ret pe_bl)) pss_nil)
        (pss_cons (ps_set (i := 1) sc_is_shape.nd rfl (Or.inl rfl) pe_int)
        (pss_cons (ps_for PassesOwn.never rfl (pi_str (pv 0)) (pg_name (i := 2) sc_is_shape.nd rfl (Or.inl rfl))
          (pss_one (ps_if (pt_cmpR op_eq (pv 2) pe_str (nomark _)) (pss_one (ps_aug (i := 1) sc_is_shape.nd rfl (Or.inl rfl) pe_int ip_add)) (pss_one (ps_if (pt_mid (PW.pt (pw_and (pt_cmpR op_eq (pv 2) pe_str (nomark _)) (pw_and1 (pt_cmpR op_gt (pv 1) pe_int (nomark _)))))) (pss_one (ps_aug (i := 1) sc_is_shape.nd rfl (Or.inl rfl) pe_int ip_sub)) (pss_one (ps_ret pe_bl)))))))
        (pss_one (ps_ret (pe_cmpR op_le (pe_bm PySem.F.plainAttrs_str PySem.F.slot_str_count PySem.F.type_str_count mt_count (pv 0) (pa_cons pe_str pa_nil)) (pe_glob (v := .int 100) (by rfl) T_g_LAST_PATCH ⟨_, rfl⟩) (nomark _))))))), ?_⟩
    refine ⟨_, rfl, _, _, _, _, true, rfl, .ty _, .base (.str _), kit_ty (by decide +kernel), true, rfl, iteF ?_⟩
    refine ⟨_, rfl, _, rfl, for_it (walk_str (z := sgS bs)) (fun i σ H' => ∃ (y : Option V) (rn : Int), σ = [some (.str (sgS bs)), some (.int rn), y] ∧ rn = ((runN (bs.take i) : Nat) : Int) ∧ H' = H) ⟨_, _, rfl, rfl, rfl⟩ (fun i σ H' _ h => trivial) (fun i x σ H' H2 hi h hy => ?_) (fun σ H' h => ?_)⟩
    · obtain ⟨e1, c, hc, rfl⟩ := hy
      subst e1
      obtain ⟨b, hb, rfl⟩ := sg_get hc
      obtain ⟨y, rn, rfl, rfl, rfl⟩ := h
      have es := take_snoc hb
      cases b with
      | true =>
        refine ⟨_, rfl, rfl, true, blP true, ?_⟩
        exact ⟨_, rfl, _, _, rfl, rfl, _, _, rfl, by rw [es, run_up]; dsimp only; omega, rfl⟩
      | false =>
        have hp := ok i hb
        refine ⟨_, rfl, rfl, false, blP false, ?_⟩
        refine ⟨fun b H3 => b = true ∧ H3 = H2, ⟨_, rfl, rfl, true, blM false, _, rfl, _, _, rfl, rfl, true, dT (by omega), rfl, rfl⟩, fun b H3 hm => ?_⟩
        obtain ⟨rfl, rfl⟩ := hm
        exact ⟨_, rfl, _, _, rfl, rfl, _, _, rfl, by rw [es, run_dn]; dsimp only; omega, rfl⟩
    · obtain ⟨y, rn, rfl, rfl, rfl⟩ := h
      refine ⟨_, rfl, rfl, _, _, rfl, rfl, _, _, rfl, rfl, ?_⟩
      rw [count_P]
      dsimp only
      rw [decide_eq_true (show ((upsN bs : Nat) : Int) ≤ 100 by omega)]
      exact q
/-! ### _check_shape -/
def spCheckS : Sp := fun vs H Q _ => ∃ bs : List Bool, vs = [.str (sgS bs)] ∧ SgOk bs ∧ upsN bs ≤ 100 ∧ Q .non H
theorem ok_check_shape {f : Addr} {fd : FuncData} (F : Fun K "_check_shape" "_check_shape" s_check_shape f fd) (T_is_shape : Cal P w K mg base 1 "is_shape" spIsShape) : FnOk P w K mg base CX0 2 f fd ["shape"] spCheckS := by
  refine F.ok sc_check_shape (fun vs H Q E h => ?_) (fun cdv A outer s H vs Q E hr h => ?_)
  · obtain ⟨bs, rfl, _⟩ := h
    rfl
  · obtain ⟨bs, rfl, ok, u1, q⟩ := h
    refine ⟨_, (pss_one (ps_if (pt_not (pt_val (pe_c T_is_shape hr (by decide) (by rfl) (pa_cons (pv 0) pa_nil)))) (pss_one ps_never) pss_nil)), ?_⟩
    exact ⟨_, rfl, bs, rfl, ok, u1, _, rfl, iteF q⟩
/-! ### count_in_shape -/
def spCount : Sp := fun vs H Q _ => ∃ bs : List Bool, vs = [.str (sgS bs)] ∧ SgOk bs ∧ upsN bs ≤ 100 ∧ ∀ H', Same H H' → Q (.int ((waysN bs : Nat) : Int)) H'
theorem ok_count_in_shape {f : Addr} {fd : FuncData} (F : Fun K "count_in_shape" "count_in_shape" s_count_in_shape f fd) (T_check_shape : Cal P w K mg base 2 "_check_shape" spCheckS) : FnOk P w K mg base CX0 3 f fd ["shape"] spCount := by
  refine F.ok sc_count_in_shape (fun vs H Q E h => ?_) (fun cdv A outer s H vs Q E hr h => ?_)
  · obtain ⟨bs, rfl, _⟩ := h
    rfl
  · obtain ⟨bs, rfl, ok, u1, q⟩ := h
    refine ⟨_, (pss_cons (ps_expr (pe_c T_check_shape hr (by decide) (by rfl) (pa_cons (pv 0) pa_nil)))
        (pss_cons (ps_asg (pe_tup (pa_cons pe_int (pa_cons pe_int pa_nil))) (pg_tup rfl (pgs_cons (pg_name (i := 1) sc_count_in_shape.nd rfl (Or.inl rfl)) (pgs_cons (pg_name (i := 2) sc_count_in_shape.nd rfl (Or.inl rfl)) pgs_nil))))
        (pss_cons (ps_for PassesOwn.never rfl (pi_str (pv 0)) (pg_name (i := 3) sc_count_in_shape.nd rfl (Or.inl rfl))
          (pss_one (ps_if (pt_cmpR op_eq (pv 3) pe_str (nomark _)) (pss_one (ps_aug (i := 2) sc_count_in_shape.nd rfl (Or.inl rfl) pe_int ip_add)) (pss_cons (ps_aug (i := 1) sc_count_in_shape.nd rfl (Or.inl rfl) (pv 2) ip_mulW)
            (pss_one (ps_aug (i := 2) sc_count_in_shape.nd rfl (Or.inl rfl) pe_int ip_sub))))))
        (pss_one (ps_ret (pv 1)))))), ?_⟩
    refine ⟨_, rfl, bs, rfl, ok, u1, by show 2 ≤ sizeLine; decide, fun T nT => ⟨T, _, rfl, .of upd_same, rfl, _, _, rfl, _, _, rfl, rfl, ?_⟩⟩
    refine ⟨_, rfl, _, rfl, for_it (walk_str (z := sgS bs)) (fun i σ H' => ∃ (y : Option V) (c rn : Int), σ = [some (.str (sgS bs)), some (.int c), some (.int rn), y] ∧ c = ((waysN (bs.take i) : Nat) : Int) ∧ rn = ((runN (bs.take i) : Nat) : Int) ∧ Same H H') ⟨_, _, _, rfl, rfl, rfl, same_new nT⟩ (fun i σ H' _ h => trivial) (fun i x σ H' H2 hi h hy => ?_) (fun σ H' h => ?_)⟩
    · obtain ⟨e1, c, hc, rfl⟩ := hy
      subst e1
      obtain ⟨b, hb, rfl⟩ := sg_get hc
      obtain ⟨y, cc, rn, rfl, rfl, rfl, sm⟩ := h
      have es := take_snoc hb
      cases b with
      | true =>
        refine ⟨_, rfl, rfl, true, blP true, ?_⟩
        exact ⟨_, rfl, _, _, rfl, rfl, _, _, _, rfl, by rw [es, ways_up], by rw [es, run_up]; dsimp only; omega, sm⟩
      | false =>
        have hp := ok i hb
        refine ⟨_, rfl, rfl, false, blP false, ?_⟩
        refine ⟨_, rfl, _, rfl, _, _, rfl, rfl, wide_ways (ok.take i) (ups_take u1 i), ?_⟩
        exact ⟨_, rfl, _, _, rfl, rfl, _, _, _, rfl, by rw [es, ways_dn, Int.natCast_mul], by rw [es, run_dn]; dsimp only; omega, sm⟩
    · obtain ⟨y, cc, rn, rfl, rfl, rfl, sm⟩ := h
      rw [sg_size, List.take_length] at *
      exact ⟨_, rfl, q _ sm⟩
end
section
variable {P : Program} {w : World} {K : PySem.W.Frag} {mg : Str → Option Value} {base : Heap}
/-! ### _law_ways -/
def spWays : Sp := fun vs H Q _ => ∃ bs : List Bool, vs = [.str (sgS bs)] ∧ SgOk bs ∧ upsN bs ≤ 100 ∧ ∀ H', Same H H' → Q (.int ((waysN bs : Nat) : Int)) H'
theorem ok_law_ways {f : Addr} {fd : FuncData} (F : Fun K "_law_ways" "_law_ways" s_law_ways f fd) (B : NoB mg) : FnG P w K mg base CX0 1 f fd ["signs"] (spWays) := by
  refine okG F sc_law_ways (fun vs H Q E h => ?_) (fun cdv A outer s H vs Q E hG hr h => ?_)
  · obtain ⟨bs, rfl, _⟩ := h
    rfl
  · obtain ⟨bs, rfl, ok, u1, q⟩ := h
    refine ⟨_, (pss_cons (ps_asg (pe_tup (pa_cons pe_int (pa_cons pe_int pa_nil))) (pg_tup rfl (pgs_cons (pg_name (i := 1) sc_law_ways.nd rfl (Or.inl rfl)) (pgs_cons (pg_name (i := 2) sc_law_ways.nd rfl (Or.inl rfl)) pgs_nil))))
        (pss_cons (ps_for PassesOwn.never rfl (pi_str (pv 0)) (pg_name (i := 3) sc_law_ways.nd rfl (Or.inl rfl))
          (Evl.pss_cut (ps_if (pt_cmpR op_eq (pv 3) pe_str (nomark _)) (pss_one (ps_set (i := 1) sc_law_ways.nd rfl (Or.inl rfl) (pe_op op_mulW (pv 1) (pv 2)))) pss_nil)
          (pss_one (ps_set (i := 2) sc_law_ways.nd rfl (Or.inl rfl) (pe_op op_add (pv 2) (pe_ix ix_list (pe_lst (pa_cons pe_int (pa_cons (pe_un un_neg pe_int) pa_nil))) (pe_callTy call_int1 (by rfl) B.int (by decide +kernel) (pa_cons (pe_cmpR op_eq (pv 3) pe_str (nomark _)) pa_nil)) (fun _ _ => rfl)))))))
        (pss_one (ps_ret (pv 1))))), ?_⟩
    refine ⟨by show 2 ≤ sizeLine; decide, fun T nT => ⟨T, _, rfl, .of upd_same, rfl, _, _, rfl, _, _, rfl, rfl, ?_⟩⟩
    refine ⟨_, rfl, _, rfl, for_it (walk_str (z := sgS bs)) (fun i σ H' => ∃ (y : Option V) (c rn : Int), σ = [some (.str (sgS bs)), some (.int c), some (.int rn), y] ∧ c = ((waysN (bs.take i) : Nat) : Int) ∧ rn = ((runN (bs.take i) : Nat) : Int) ∧ Same H H') ⟨_, _, _, rfl, rfl, rfl, same_new nT⟩ (fun i σ H' _ h => trivial) (fun i x σ H' H2 hi h hy => ?_) (fun σ H' h => ?_)⟩
    · obtain ⟨e1, c, hc, rfl⟩ := hy
      subst e1
      obtain ⟨b, hb, rfl⟩ := sg_get hc
      obtain ⟨y, cc, rn, rfl, rfl, rfl, sm⟩ := h
      have es := take_snoc hb
      refine ⟨fun σ' H' => H' = H2 ∧ σ' = [some (.str (sgS bs)), some (.int ((waysN (bs.take (i + 1)) : Nat) : Int)), some (.int ((runN (bs.take i) : Nat) : Int)), some (.str ⟨#[sgC b]⟩)], ?_, fun σ' H' hm => ?_⟩
      · cases b with
        | true => exact ⟨_, rfl, rfl, false, blM true, rfl, by rw [es, ways_up]; rfl⟩
        | false => exact ⟨_, rfl, rfl, true, blM false, _, rfl, _, rfl, _, _, rfl, rfl, wide_ways (ok.take i) (ups_take u1 i), rfl, by rw [es, ways_dn, Int.natCast_mul]; rfl⟩
      · obtain ⟨rfl, rfl⟩ := hm
        refine ⟨_, rfl, 1, rfl, by show 2 ≤ sizeLine; decide, fun L nL => ?_⟩
        refine ⟨_, rfl, rfl, .inr ⟨!b, congrArg (fun v => [v]) (blM b), ?_⟩⟩
        have fin : ∀ y : Option V, Same H (upd H' L (.lst [.int 1, .int (-1)])) := fun _ => Lp.Same.add sm nL
        cases b with
        | true => exact ⟨L, _, 0, _, rfl, rfl, .of upd_same, at0, _, _, rfl, rfl, _, _, _, rfl, rfl, by rw [es, run_up]; omega, fin none⟩
        | false =>
          have hp := ok i hb
          exact ⟨L, _, 1, _, rfl, rfl, .of upd_same, at1, _, _, rfl, rfl, _, _, _, rfl, rfl, by rw [es, run_dn]; omega, fin none⟩
    · obtain ⟨y, cc, rn, rfl, rfl, rfl, sm⟩ := h
      rw [sg_size, List.take_length] at *
      exact ⟨_, rfl, q _ sm⟩
end
section
variable {P : Program} {w : World} {K : PySem.W.Frag} {mg : Str → Option Value} {base : Heap}
/-! ### check_number -/
def spCheckN : Sp := fun vs H Q _ => ∃ i lo hi : Int, vs = [.int i, .int lo, .int hi] ∧ lo ≤ i ∧ i ≤ hi ∧ Q .non H
theorem ok_check_number {f : Addr} {fd : FuncData} (F : Fun K "check_number" "check_number" s_check_number f fd) (T_is_integer_within : Cal P w K mg base 2 "is_integer_within" spWithin) : FnOk P w K mg base CX0 3 f fd ["value", "least", "greatest"] spCheckN := by
  refine F.ok sc_check_number (fun vs H Q E h => ?_) (fun cdv A outer s H vs Q E hr h => ?_)
  · obtain ⟨i, lo, hi, rfl, _⟩ := h
    rfl
  · obtain ⟨i, lo, hi, rfl, h1, h2, q⟩ := h
    refine ⟨_, (pss_one (ps_if (pt_not (pt_val (pe_c T_is_integer_within hr (by decide) (by rfl) (pa_cons (pv 0) (pa_cons (pv 1) (pa_cons (pv 2) pa_nil)))))) (pss_one ps_never) pss_nil)), ?_⟩
    exact ⟨_, rfl, _, rfl, _, rfl, i, lo, hi, rfl, h1, h2, _, rfl, iteF q⟩
theorem natAbs_lt {n k : Nat} (h : n < 2 ^ k) : ((n : Nat) : Int).natAbs < 2 ^ k := h
end
theorem ix_neg {p n : Nat} (h : p < n) : seqIndex? (-1 - (p : Int)) n = some (n - 1 - p) := by
  have h1 : (-1 - (p : Int)) < 0 := by omega
  have e : (-1 - (p : Int)) + (n : Int) = ((n - 1 - p : Nat) : Int) := by omega
  show (if (decide (0 ≤ (if (-1 - (p : Int)) < 0 then (-1 - (p : Int)) + (n : Int) else (-1 - (p : Int)))) && decide ((if (-1 - (p : Int)) < 0 then (-1 - (p : Int)) + (n : Int) else (-1 - (p : Int))) < (n : Int))) = true then some ((if (-1 - (p : Int)) < 0 then (-1 - (p : Int)) + (n : Int) else (-1 - (p : Int)))).toNat else none) = _
  rw [if_pos h1, e, decide_eq_true (show (0 : Int) ≤ ((n - 1 - p : Nat) : Int) by omega), decide_eq_true (show ((n - 1 - p : Nat) : Int) < (n : Int) by omega)]
  rfl
theorem first_at {l : List Int} (nd : l.Nodup) {j : Nat} (h : j < l.length) : ∀ m : Nat, m < j → l[m]? ≠ some l[j] := fun m hm e => by
  have := nd_ix nd e (List.getElem?_eq_getElem h)
  omega
section
variable {P : Program} {w : World} {K : PySem.W.Frag} {mg : Str → Option Value} {base : Heap}
/-! ### check_index -/
def spCI : Sp := fun vs H Q _ => ∃ i c : Int, vs = [.int i, .int c] ∧ 0 ≤ i ∧ i < c ∧ Q .non H
theorem ok_check_index {f : Addr} {fd : FuncData} (F : Fun K "check_index" "check_index" s_check_index f fd) (T_check_number : Cal P w K mg base 3 "check_number" spCheckN) : FnOk P w K mg base CX0 4 f fd ["index", "count"] spCI := by
  refine F.ok sc_check_index (fun vs H Q E h => ?_) (fun cdv A outer s H vs Q E hr h => ?_)
  · obtain ⟨i, c, rfl, _⟩ := h
    rfl
  · obtain ⟨i, c, rfl, h0, h1, q⟩ := h
    refine ⟨_, (pss_one (ps_expr (pe_c T_check_number hr (by decide) (by rfl) (pa_cons (pv 0) (pa_cons pe_int (pa_cons (pe_op op_sub (pv 1) pe_int) pa_nil)))))), ?_⟩
    exact ⟨_, rfl, _, rfl, _, _, rfl, rfl, i, 0, c - 1, rfl, h0, by omega, q⟩
/-! ### nth_in_shape -/
def spNth : Sp := fun vs H Q _ => ∃ (bs : List Bool) (idx : Nat), vs = [.str (sgS bs), .int (idx : Int)] ∧ SgOk bs ∧ upsN bs ≤ 100 ∧ idx < waysN bs ∧ ∀ H' p, Same H H' → H p = none → H' p = some (.lst ((nthL bs idx).map V.int)) → Q (.ref p) H'
theorem ways_lt2 {bs : List Bool} (ok : SgOk bs) (u : upsN bs ≤ 100) : waysN bs < 2 ^ 1401 := by
  have l := sg_len ok u
  exact Nat.lt_of_lt_of_le (ways_lt u ok) (Nat.pow_le_pow_right (by decide) (show 7 * bs.length + 1 ≤ 1401 by omega))
set_option maxHeartbeats 1000000 in
theorem ok_nth_in_shape {f : Addr} {fd : FuncData} (F : Fun K "nth_in_shape" "nth_in_shape" s_nth_in_shape f fd) (T_z_divmod : mg "divmod" = none) (B : NoB mg) (T_count_in_shape : Cal P w K mg base 3 "count_in_shape" spCount) (T_check_index : Cal P w K mg base 4 "check_index" spCI) : FnOk P w K mg base CX0 5 f fd ["shape", "index"] spNth := by
  refine F.ok sc_nth_in_shape (fun vs H Q E h => ?_) (fun cdv A outer s H vs Q E hr h => ?_)
  · obtain ⟨bs, idx, rfl, _⟩ := h
    rfl
  · obtain ⟨bs, idx, rfl, ok, u1, hi, q⟩ := h
    have slen := sg_len ok u1
    have wl2 := ways_lt2 ok u1
    refine ⟨_, (pss_cons (ps_set (i := 2) sc_nth_in_shape.nd rfl (Or.inl rfl) (pe_c T_count_in_shape hr (by decide) (by rfl) (pa_cons (pv 0) pa_nil)))
        (pss_cons (ps_expr (pe_c T_check_index hr (by decide) (by rfl) (pa_cons (pv 1) (pa_cons (pv 2) pa_nil))))
        (pss_cons (ps_par3 (i := 3) (j := 4) (l := 5) (by rfl) sc_nth_in_shape.nd rfl rfl rfl (by decide) (by decide) (by decide) rfl rfl rfl (pa_cons (pe_lst pa_nil) (pa_cons (pe_lst pa_nil) (pa_cons pe_int pa_nil))) (by rfl))
        (pss_cons (ps_for PassesOwn.never rfl (pi_str (pv 0)) (pg_name (i := 6) sc_nth_in_shape.nd rfl (Or.inl rfl))
          (pss_one (ps_if (pt_cmpR op_eq (pv 6) pe_str (nomark _)) (pss_cons (ps_aug (i := 5) sc_nth_in_shape.nd rfl (Or.inl rfl) pe_int ip_add)
            (pss_cons (ps_expr (pe_bm PySem.F.plainAttrs_list PySem.F.slot_list_append PySem.F.type_list_append mt_append (pv 4) (pa_cons (pv 5) pa_nil)))
            (pss_one (ps_expr (pe_bm PySem.F.plainAttrs_list PySem.F.slot_list_append PySem.F.type_list_append mt_append (pv 3) (pa_cons (pv 5) pa_nil)))))) (pss_cons (ps_aug (i := 2) sc_nth_in_shape.nd rfl (Or.inl rfl) (pe_callB call_len_seq (by rfl) B.len PySem.boot_len (pa_cons (pv 4) pa_nil)) iop_fdivW)
            (pss_cons (ps_asg (pe_callB call_divmodW (by rfl) T_z_divmod (by decide +kernel) (pa_cons (pv 1) (pa_cons (pv 2) pa_nil))) (pg_tup rfl (pgs_cons (pg_name (i := 7) sc_nth_in_shape.nd rfl (Or.inl rfl)) (pgs_cons (pg_name (i := 1) sc_nth_in_shape.nd rfl (Or.inl rfl)) pgs_nil))))
            (pss_one (ps_expr (pe_bm PySem.F.plainAttrs_list PySem.F.slot_list_append PySem.F.type_list_append mt_append (pv 3) (pa_cons (pe_un un_neg (pe_bm PySem.F.plainAttrs_list PySem.F.slot_list_pop PySem.F.type_list_pop mt_popAt (pv 4) (pa_cons (pe_op op_sub (pe_un un_neg pe_int) (pv 7)) pa_nil))) pa_nil)))))))))
        (pss_one (ps_ret (pv 3))))))), ?_⟩
    refine ⟨_, rfl, bs, rfl, ok, u1, fun H1 s1 => ?_⟩
    refine ⟨_, rfl, _, rfl, (idx : Int), ((waysN bs : Nat) : Int), rfl, by omega, by omega, ?_⟩
    refine ⟨Nat.zero_le _, fun hp nhp => ⟨Nat.zero_le _, fun rp nrp => ⟨_, _, _, rfl, ?_⟩⟩⟩
    have nhr : hp ≠ rp := ne_of_none upd_same nrp
    have hp0 : H hp = none := s1.free nhp
    have rp0 : H rp = none := s1.free ((same_new (o := .lst []) nhp).free nrp)
    refine ⟨_, rfl, _, rfl, for_it (walk_str (z := sgS bs)) (fun i σ H' => ∃ (y6 y7 : Option V) (ix c st : Int), σ = [some (.str (sgS bs)), some (.int ix), some (.int c), some (.ref hp), some (.ref rp), some (.int st), y6, y7] ∧ ix = ((idx % restN bs i : Nat) : Int) ∧ c = ((restN bs i : Nat) : Int) ∧ st = ((upsN (bs.take i) : Nat) : Int) ∧
      Same H H' ∧ H' hp = some (.lst ((parS bs idx i).1.map V.int)) ∧ H' rp = some (.lst ((parS bs idx i).2.map V.int))) ⟨_, _, _, _, _, rfl, ?_, ?_, rfl, (s1.trans (same_new nhp)).trans (same_new nrp), ?_, ?_⟩ (fun i σ H' _ h => trivial) (fun i x σ H' H2 hi2 h hy => ?_) (fun σ H' h => ?_)⟩
    · rw [rest_all, Nat.mod_eq_of_lt hi]
    · rw [rest_all]
    · rw [upd_ne nhr, upd_same, par_zero hi]
      rfl
    · rw [upd_same, par_zero hi]
      rfl
    · obtain ⟨e1, cc, hc, rfl⟩ := hy
      subst e1
      obtain ⟨b, hb, rfl⟩ := sg_get hc
      obtain ⟨y6, y7, ix, c, st, rfl, rfl, rfl, rfl, sm, hh, hr⟩ := h
      have hlt := lt_get hb
      have n := par_ok ok u1 hi (i := i) (by omega)
      have nl := n.len
      rw [List.length_take] at nl
      have nr := n.run
      have r1 := run_eq (ok.take i)
      have ui := ups_take u1 i
      have es := take_snoc hb
      cases b with
      | true =>
        have pu := par_up idx hb
        refine ⟨_, rfl, rfl, true, blP true, ?_⟩
        refine ⟨_, rfl, _, _, rfl, rfl, _, rfl, .inl ⟨rfl, _, .of hr⟩, _, rfl, rp, _, _, rfl, rfl, hr, by rw [List.length_map]; exact zl (by omega), ?_⟩
        have hh2 : (upd H2 rp (.lst ((parS bs idx i).2.map V.int ++ [.int (((upsN (bs.take i) : Nat) : Int) + 1)]))) hp = some (.lst ((parS bs idx i).1.map V.int)) := by rw [upd_ne nhr]; exact hh
        refine ⟨_, rfl, .inl ⟨rfl, _, .of hh2⟩, _, rfl, hp, _, _, rfl, rfl, hh2, by rw [List.length_map]; exact zl (by omega), _, _, _, _, _, rfl, ?_, ?_, ?_, Lp.Same.mut (Lp.Same.mut sm rp0) hp0, ?_, ?_⟩
        · rw [rest_up hb]
        · rw [rest_up hb]
        · rw [es, ups_up]; dsimp only; omega
        · rw [upd_same, pu, List.map_append]
          rfl
        · rw [upd_ne nhr.symm, upd_same, pu, List.map_append]
          rfl
      | false =>
        have pos := ok i hb
        obtain ⟨j, hj, pd, _, ej, _⟩ := rk_dn ok u1 hi hb
        have rd := rest_dn hb
        have rpos := rest_pos ok (bs.length - (i + 1)) (i + 1) (by omega)
        have rle : restN bs i ≤ waysN bs := by
          rw [rest_ways (bs := bs) (i := i) (by omega)]
          exact Nat.le_mul_of_pos_left _ (ways_pos (ok.take i))
        have rle2 : restN bs (i + 1) ≤ restN bs i := by rw [rd]; exact Nat.le_mul_of_pos_left _ pos
        have lenE : ((((parS bs idx i).2.map V.int).length : Nat) : Int) = ((runN (bs.take i) : Nat) : Int) := by rw [List.length_map, nr]
        have ec : ((restN bs i : Nat) : Int) / ((((parS bs idx i).2.map V.int).length : Nat) : Int) = ((restN bs (i + 1) : Nat) : Int) := by
          rw [lenE, ← Int.natCast_ediv, rd, Nat.mul_div_cancel_left _ pos]
        have mlt : idx % restN bs i / restN bs (i + 1) < runN (bs.take i) := (Nat.div_lt_iff_lt_mul rpos).mpr (by rw [← rd]; exact Nat.mod_lt _ (by omega))
        refine ⟨_, rfl, rfl, false, blP false, ?_⟩
        refine ⟨_, rfl, _, rfl, rp, _, rfl, .inl (.of hr), _, _, rfl, rfl, wide_div (b := 30) (by rw [lenE]; omega) (by rw [lenE]; exact natAbs_lt (by omega)) (by decide) (by decide), ?_⟩
        refine ⟨_, rfl, _, rfl, ((idx % restN bs i : Nat) : Int), ((restN bs (i + 1) : Nat) : Int), congrArg (fun z => [V.int ((idx % restN bs i : Nat) : Int), V.int z]) ec, ?_, fun T nT => ?_⟩
        · refine divp_ok (by omega) ?_
          have b1 := PyProof.Rows.intBits_le (natAbs_lt (n := idx % restN bs i) (k := 1401) (by
            have := Nat.mod_le idx (restN bs i)
            omega))
          omega
        · have hhT := same_new (o := .tup [.int (((idx % restN bs i : Nat) : Int) / ((restN bs (i + 1) : Nat) : Int)), .int (((idx % restN bs i : Nat) : Int) % ((restN bs (i + 1) : Nat) : Int))]) nT _ _ hh
          have hrT := same_new (o := .tup [.int (((idx % restN bs i : Nat) : Int) / ((restN bs (i + 1) : Nat) : Int)), .int (((idx % restN bs i : Nat) : Int) % ((restN bs (i + 1) : Nat) : Int))]) nT _ _ hr
          have sT := sm.trans (same_new (o := .tup [.int (((idx % restN bs i : Nat) : Int) / ((restN bs (i + 1) : Nat) : Int)), .int (((idx % restN bs i : Nat) : Int) % ((restN bs (i + 1) : Nat) : Int))]) nT)
          refine ⟨T, _, rfl, .of upd_same, rfl, _, _, rfl, _, _, rfl, rfl, ?_⟩
          have ep : ((idx % restN bs i : Nat) : Int) / ((restN bs (i + 1) : Nat) : Int) = ((idx % restN bs i / restN bs (i + 1) : Nat) : Int) := (Int.natCast_ediv _ _).symm
          have em : ((idx % restN bs i : Nat) : Int) % ((restN bs (i + 1) : Nat) : Int) = ((idx % restN bs i % restN bs (i + 1) : Nat) : Int) := (Int.natCast_emod _ _).symm
          refine ⟨_, rfl, .inl ⟨rfl, _, .of hhT⟩, _, rfl, .inl ⟨rfl, _, .of hrT⟩, 1, rfl, _, rfl, _, _, rfl, rfl, rp, _, -1 - ((idx % restN bs i / restN bs (i + 1) : Nat) : Int), j, _, rfl, congrArg (fun z => [V.int (-1 - z)]) ep, hrT, by omega, by omega, by rw [List.length_map, ix_neg (by omega), ← ej], get_at hj, _, rfl, ?_⟩
          have hh2 : (upd (upd H2 T (.tup [.int (((idx % restN bs i : Nat) : Int) / ((restN bs (i + 1) : Nat) : Int)), .int (((idx % restN bs i : Nat) : Int) % ((restN bs (i + 1) : Nat) : Int))])) rp (.lst (((parS bs idx i).2.map V.int).eraseIdx j))) hp = some (.lst ((parS bs idx i).1.map V.int)) := by rw [upd_ne nhr]; exact hhT
          refine ⟨hp, _, _, rfl, rfl, hh2, by rw [List.length_map]; exact zl (by omega), _, _, _, _, _, rfl, ?_, ?_, ?_, Lp.Same.mut (Lp.Same.mut sT rp0) hp0, ?_, ?_⟩
          · rw [em, par_mod idx hb]
          · exact ec
          · rw [es, ups_dn]
          · rw [upd_same, pd, List.map_append]
            rfl
          · rw [upd_ne nhr.symm, upd_same, pd, erase_map]
    · obtain ⟨y6, y7, ix, c, st, rfl, rfl, rfl, rfl, sm, hh, hr⟩ := h
      rw [sg_size, par_end] at hh
      exact ⟨_, rfl, q _ hp sm hp0 hh⟩
end
end L59
set_option Elab.async false
set_option linter.all false
set_option maxRecDepth 100000
namespace L59
open PySem PySem.Spec PyProof.Rows L2 Lp
/-! ### histories with other numbers -/
def posL (ns : List Int) : List Bool := ns.map fun e => decide (0 < e)
theorem posL_snoc (ns : List Int) (e : Int) : posL (ns ++ [e]) = posL ns ++ [decide (0 < e)] := by
  unfold posL
  rw [List.map_append]
  rfl
def oneC (b : Bool) : Str := ⟨#[sgC b]⟩
theorem empty_cps : ("" : Str).cps = #[] := by decide +kernel
theorem glue_fold : ∀ (bs : List Bool) (acc : Array Nat), (bs.map oneC).foldl (fun acc p => acc ++ ("" : Str).cps ++ p.cps) acc = acc ++ (bs.map sgC).toArray
  | [], acc => by simp
  | b :: bs, acc => by
    rw [List.map_cons, List.foldl_cons, glue_fold bs, empty_cps]
    apply Array.toList_inj.mp
    simp [oneC]
theorem join_sg : ∀ bs : List Bool, Txt.join ("" : Str) (bs.map oneC) = sgS bs
  | [] => by decide +kernel
  | b :: bs => by
    show (⟨(bs.map oneC).foldl (fun acc p => acc ++ ("" : Str).cps ++ p.cps) (oneC b).cps⟩ : Str) = ⟨((b :: bs).map sgC).toArray⟩
    rw [glue_fold]
    exact congrArg Str.mk (Array.toList_inj.mp (by simp [oneC]))
theorem sum_one : ∀ bs : List Bool, ((bs.map oneC).map fun x => x.length).sum = bs.length
  | [] => rfl
  | b :: bs => by
    rw [List.map_cons, List.map_cons, List.sum_cons, sum_one bs, List.length_cons]
    show 1 + bs.length = bs.length + 1
    omega
theorem map_inj {f : Int → Int} : ∀ {l : List Int}, (l.map f).Nodup → ∀ a ∈ l, ∀ b ∈ l, f a = f b → a = b
  | [], _, a, ha, _, _, _ => absurd ha List.not_mem_nil
  | x :: l, nd, a, ha, b, hb, e => by
    rw [List.map_cons] at nd
    obtain ⟨n1, n2⟩ := List.nodup_cons.mp nd
    rcases List.mem_cons.mp ha with ea | ha2
    · rcases List.mem_cons.mp hb with eb | hb2
      · rw [ea, eb]
      · exact absurd (List.mem_map.mpr ⟨b, hb2, e.symm.trans (congrArg f ea)⟩) n1
    · rcases List.mem_cons.mp hb with eb | hb2
      · exact absurd (List.mem_map.mpr ⟨a, ha2, e.trans (congrArg f eb)⟩) n1
      · exact map_inj n2 a ha2 b hb2 e
theorem map_on {f : Int → Int} {l : List Int} (hf : ∀ a ∈ l, ∀ b ∈ l, f a = f b → a = b) (nd : l.Nodup) : (l.map f).Nodup :=
  List.pairwise_map.mpr (List.Pairwise.imp_of_mem (fun ha hb ne e => ne (hf _ ha _ hb e)) nd)
/-- a history with other numbers -/
def gE (sv : Int → Int) (e : Int) : Int := if 0 < e then sv e else 0 - sv (0 - e)
def upsF (ns : List Int) : List Int := ns.filter fun e => decide (0 < e)
theorem mem_upsF {ns : List Int} {e : Int} (h : e ∈ ns) (h0 : 0 < e) : e ∈ upsF ns := List.mem_filter.mpr ⟨h, decide_eq_true h0⟩
theorem neg_mem {ns : List Int} (hh : Hist ns) {e : Int} (h : e ∈ ns) (h0 : ¬ 0 < e) : 0 - e ∈ ns ∧ 0 < 0 - e := by
  have := (hh.rng e h).1
  have z := ord_mem hh.ord h (by omega)
  rw [Int.zero_sub]
  exact ⟨z, by omega⟩
theorem hist_map {ns : List Int} {sv : Int → Int} (hh : Hist ns) (nd : ((upsF ns).map sv).Nodup) (rg : ∀ e ∈ ns, 0 < e → 1 ≤ sv e ∧ sv e ≤ 100) : Hist (ns.map (gE sv)) ∧ posL (ns.map (gE sv)) = posL ns := by
  have up : ∀ e ∈ ns, 0 < e → gE sv e = sv e := fun e _ h => if_pos h
  have dn : ∀ e ∈ ns, ¬ 0 < e → gE sv e = 0 - sv (0 - e) := fun e _ h => if_neg h
  have inj : ∀ a ∈ ns, ∀ b ∈ ns, gE sv a = gE sv b → a = b := fun a ha b hb e => by
    by_cases pa : 0 < a
    · have ra := rg a ha pa
      by_cases pb : 0 < b
      · rw [up a ha pa, up b hb pb] at e
        exact map_inj nd a (mem_upsF ha pa) b (mem_upsF hb pb) e
      · obtain ⟨m, p⟩ := neg_mem hh hb pb
        have rb := rg _ m p
        rw [up a ha pa, dn b hb pb] at e
        omega
    · obtain ⟨ma, qa⟩ := neg_mem hh ha pa
      have ra := rg _ ma qa
      by_cases pb : 0 < b
      · have rb := rg b hb pb
        rw [dn a ha pa, up b hb pb] at e
        omega
      · obtain ⟨m, p⟩ := neg_mem hh hb pb
        rw [dn a ha pa, dn b hb pb] at e
        have := map_inj nd _ (mem_upsF ma qa) _ (mem_upsF m p) (by omega)
        omega
  refine ⟨⟨fun x hx => ?_, map_on inj hh.nd, fun i x hx h0 => ?_, by rw [List.length_map]; exact hh.len⟩, ?_⟩
  · obtain ⟨e, he, rfl⟩ := List.mem_map.mp hx
    by_cases p : 0 < e
    · have r := rg e he p
      rw [up e he p]
      omega
    · obtain ⟨m, q⟩ := neg_mem hh he p
      have r := rg _ m q
      rw [dn e he p]
      omega
  · rw [List.getElem?_map] at hx
    cases e : ns[i]? with
    | none => rw [e] at hx; cases hx
    | some n =>
      rw [e] at hx
      have ex : gE sv n = x := Option.some.inj hx
      have hn := mem_get e
      by_cases p : 0 < n
      · have r := rg n hn p
        rw [up n hn p] at ex
        omega
      · have nz := (hh.rng n hn).1
        have o := hh.ord i n e (by omega)
        rw [dn n hn p] at ex
        rw [← List.map_take]
        refine List.mem_map.mpr ⟨-n, o, ?_⟩
        unfold gE
        rw [if_pos (by omega)]
        rw [Int.zero_sub] at ex
        rw [← ex]
        rw [Int.zero_sub, Int.neg_neg]
  · unfold posL
    rw [List.map_map]
    refine List.map_congr_left fun e he => ?_
    show decide (0 < gE sv e) = decide (0 < e)
    by_cases p : 0 < e
    · have r := rg e he p
      rw [up e he p, decide_eq_true p, decide_eq_true (by omega)]
    · obtain ⟨m, q⟩ := neg_mem hh he p
      have r := rg _ m q
      rw [dn e he p, decide_eq_false p, decide_eq_false (by omega)]
theorem upsF_snoc {ns : List Int} {i : Nat} {e : Int} (h : ns[i]? = some e) : upsF (ns.take (i + 1)) = upsF (ns.take i) ++ if 0 < e then [e] else [] := by
  unfold upsF
  rw [take_get h, List.filter_append]
  congr 1
  by_cases p : 0 < e
  · rw [if_pos p]
    exact List.filter_cons_of_pos (decide_eq_true p)
  · rw [if_neg p]
    exact List.filter_cons_of_neg (by simpa using p)
theorem upsF_len {ns : List Int} (hh : Hist ns) (i : Nat) : (upsF (ns.take i)).length ≤ 100 := by
  have z := nodup_len (l := upsF (ns.take i)) (m := upL 100) ((hh.nd.sublist (List.take_sublist i ns)).sublist List.filter_sublist) (fun x hx => by
    obtain ⟨h1, h2⟩ := List.mem_filter.mp hx
    have r := hh.rng x (List.mem_of_mem_take h1)
    have p : 0 < x := of_decide_eq_true h2
    unfold upL
    exact List.mem_map.mpr ⟨(x - 1).toNat, List.mem_range.mpr (by omega), by omega⟩)
  rwa [upL_len] at z
theorem idx_first {l : List Int} {x : Int} (h : x ∈ l) : l[l.idxOf x]? = some x ∧ ∀ m, m < l.idxOf x → l[m]? ≠ some x := by
  induction l with
  | nil => exact absurd h List.not_mem_nil
  | cons y l ih =>
    by_cases e : y = x
    · subst e
      rw [List.idxOf_cons, beq_self_eq_true]
      exact ⟨rfl, fun m hm => absurd hm (Nat.not_lt_zero _)⟩
    · have b : (y == x) = false := by simpa using e
      rw [List.idxOf_cons, b]
      have hx : x ∈ l := (List.mem_cons.mp h).resolve_left fun z => e z.symm
      obtain ⟨i1, i2⟩ := ih hx
      refine ⟨i1, fun m hm => ?_⟩
      cases m with
      | zero => exact fun z => e (Option.some.inj z)
      | succ m => exact i2 m (Nat.lt_of_succ_lt_succ hm)
theorem erase_ix {l : List Int} {x : Int} (h : x ∈ l) : l.eraseIdx (l.idxOf x) = l.erase x := by
  induction l with
  | nil => exact absurd h List.not_mem_nil
  | cons y l ih =>
    by_cases e : y = x
    · subst e
      rw [List.idxOf_cons, beq_self_eq_true, List.erase_cons_head]
      rfl
    · have b : (y == x) = false := by simpa using e
      have hx : x ∈ l := (List.mem_cons.mp h).resolve_left fun z => e z.symm
      rw [List.idxOf_cons, b, List.erase_cons_tail (by simpa using e)]
      show y :: l.eraseIdx (l.idxOf x) = _
      rw [ih hx]
section
variable {P : Program} {w : World} {K : PySem.W.Frag} {mg : Str → Option Value} {base : Heap}
/-! ### shape_of -/
def spShapeOf (K : PySem.W.Frag) : Sp := fun vs H Q _ => ∃ (a : Addr) (ns : List Int), vs = [.ref a] ∧ SqL K H a (ns.map V.int) ∧ Hist ns ∧ ∀ H', Same H H' → Q (.str (sgS (posL ns))) H'
theorem ok_shape_of {f : Addr} {fd : FuncData} (F : Fun K "shape_of" "shape_of" s_shape_of f fd) (T_check_history : Cal P w K mg base 6 "check_history" (spCheck K)) : FnOk P w K mg base CX0 7 f fd ["history"] (spShapeOf K) := by
  refine F.ok sc_shape_of (fun vs H Q E h => ?_) (fun cdv A outer s H vs Q E hr h => ?_)
  · obtain ⟨a, ns, rfl, _⟩ := h
    rfl
  · obtain ⟨a, ns, rfl, hS, hh, q⟩ := h
    refine ⟨_, (pss_cons (ps_expr (pe_c T_check_history hr (by decide) (by rfl) (pa_cons (pv 0) pa_nil)))
        (pss_one (ps_ret (pe_join pe_str (pe_lc (own := [("event", 1)]) (g := gName 1) (tt := tYes) rfl sc_shape_of.nd (pi_list (pv 0)) (blkOk_by (own := [("event", 1)]) (N := N_shape_of) (sc := defScope s_shape_of) (by decide +kernel)) (fun _ _ _ _ _ => (pg_name (i := 1) sc_shape_of.nd rfl (Or.inl rfl))) (fun _ _ _ _ _ => pts_nil) (fun _ _ _ _ _ => (pe_ifExp (pt_cmpR op_gt (pv 1) pe_int (nomark _)) pe_str pe_str))))))), ?_⟩
    refine ⟨_, rfl, a, ns, rfl, hS, hh, fun H1 s1 => ?_⟩
    have hS1 := s1.seq hS
    refine ⟨⟨_, rfl⟩, _, rfl, a, rfl, ⟨_, hS1⟩, fun D hD => lc_list (xs := ns.map V.int) (LcP H1 D fun i => ((posL (ns.take i)).map oneC).map V.str) (.init hD rfl) (fun i H' _ pp => pp.2.1.seq hS1) (fun i x H' hx pp => ?_) (fun H2 pp => ?_)⟩
    · obtain ⟨e, rfl, he⟩ := get_int hx
      have hl := lt_get he
      have hl2 := hh.len
      refine ⟨rfl, ?_⟩
      by_cases c : 0 < e
      · refine ⟨_, rfl, _, _, rfl, rfl, true, dT c, pp.put (Same.refl _) ?_ ?_⟩
        · rw [take_get he, posL_snoc, List.map_append, List.map_append, decide_eq_true c]
          show _ = _ ++ [V.str ("+" : Str)]
          rw [plus_eq]
          rfl
        · unfold posL
          rw [List.length_map, List.length_map, List.length_map, List.length_take]
          omega
      · refine ⟨_, rfl, _, _, rfl, rfl, false, dF c, pp.put (Same.refl _) ?_ ?_⟩
        · rw [take_get he, posL_snoc, List.map_append, List.map_append, decide_eq_false c]
          show _ = _ ++ [V.str ("-" : Str)]
          rw [minus_eq]
          rfl
        · unfold posL
          rw [List.length_map, List.length_map, List.length_map, List.length_take]
          omega
    · have h2 : H2 D = some (.lst (((posL ns).map oneC).map V.str)) := by
        have z : H2 D = some (.lst (((posL (ns.take (ns.map V.int).length)).map oneC).map V.str)) := pp.2.2
        rw [List.length_map, List.take_length] at z
        exact z
      refine ⟨_, D, _, rfl, rfl, .inl (.of h2), ?_, ?_⟩
      · rw [sum_one, List.length_map]
        have e0 : ("" : Str).length = 0 := rfl
        rw [e0]
        unfold posL
        rw [List.length_map]
        have := hh.len
        omega
      · rw [join_sg]
        exact q _ (s1.trans pp.2.1)
end
section
variable {P : Program} {w : World} {K : PySem.W.Frag} {mg : Str → Option Value} {base : Heap}
/-! ### shape_rank of any plain history -/
def spRankA (K : PySem.W.Frag) : Sp := fun vs H Q _ => ∃ (a : Addr) (ns : List Int), vs = [.ref a] ∧ SqL K H a (ns.map V.int) ∧ Hist ns ∧ stL ns = upL (stL ns).length ∧ ∀ H' (r : Int), Same H H' → Q (.int r) H'
theorem st_len {st : List Int} {ns : List Int} (hh : Hist ns) (nd : st.Nodup) (h : ∀ k ∈ st, 0 < k ∧ k ∈ ns) : st.length ≤ 100 := by
  have z := nodup_len (m := upL 100) nd fun k hk => by
    obtain ⟨h1, h2⟩ := h k hk
    have := hh.rng k h2
    exact List.mem_map.mpr ⟨(k - 1).toNat, List.mem_range.mpr (by omega), by omega⟩
  rwa [upL_len] at z
theorem ok_shape_rank_A {f : Addr} {fd : FuncData} (F : Fun K "shape_rank" "shape_rank" s_shape_rank f fd) (B : NoB mg) (T_is_plain : Cal P w K mg base 7 "is_plain" (spPlain K)) : FnOk P w K mg base CX0 8 f fd ["history"] (spRankA K) := by
  refine F.ok sc_shape_rank (fun vs H Q E h => ?_) (fun cdv A outer s H vs Q E hr h => ?_)
  · obtain ⟨a, ns, rfl, _⟩ := h
    rfl
  · obtain ⟨a, ns, rfl, hS, hh, epl, q⟩ := h
    have hl := hh.len
    refine ⟨_, (pss_cons (ps_if (pt_not (pt_val (pe_c T_is_plain hr (by decide) (by rfl) (pa_cons (pv 0) pa_nil)))) (pss_one ps_never) pss_nil)
        (pss_cons (ps_par (i := 1) (j := 2) (by rfl) sc_shape_rank.nd rfl rfl (by decide) rfl rfl (pa_cons pe_int (pa_cons (pe_lst pa_nil) pa_nil)) (by rfl))
        (pss_cons (ps_for PassesOwn.never rfl (pi_list (pv 0)) (pg_name (i := 3) sc_shape_rank.nd rfl (Or.inl rfl))
          (pss_one (ps_if (pt_cmpR op_gt (pv 3) pe_int (nomark _)) (pss_one (ps_expr (pe_bm PySem.F.plainAttrs_list PySem.F.slot_list_append PySem.F.type_list_append mt_append (pv 2) (pa_cons (pv 3) pa_nil)))) (pss_cons (ps_set (i := 4) sc_shape_rank.nd rfl (Or.inl rfl) (pe_op op_sub (pe_op op_sub (pe_callB call_len_seq (by rfl) B.len PySem.boot_len (pa_cons (pv 2) pa_nil)) pe_int) (pe_bm PySem.F.plainAttrs_list PySem.F.slot_list_index PySem.F.type_list_index mt_index (pv 2) (pa_cons (pe_un un_neg (pv 3)) pa_nil))))
            (pss_cons (ps_set (i := 1) sc_shape_rank.nd rfl (Or.inl rfl) (pe_op op_add (pe_op op_mulW (pv 1) (pe_callB call_len_seq (by rfl) B.len PySem.boot_len (pa_cons (pv 2) pa_nil))) (pv 4)))
            (pss_one (ps_expr (pe_bm PySem.F.plainAttrs_list PySem.F.slot_list_remove PySem.F.type_list_remove mt_remove (pv 2) (pa_cons (pe_un un_neg (pv 3)) pa_nil)))))))))
        (pss_one (ps_ret (pv 1)))))), ?_⟩
    refine ⟨_, rfl, a, ns, rfl, hS, hh, fun H1 s1 => ?_⟩
    refine ⟨true, congrArg V.bl (decide_eq_true epl), iteF ?_⟩
    refine ⟨Nat.zero_le _, fun rp nrp => ⟨_, _, rfl, ?_⟩⟩
    have rp0 : H rp = none := s1.free nrp
    refine ⟨_, rfl, a, rfl, ⟨_, (s1.trans (same_new nrp)).seq hS⟩, for_list (xs := ns.map V.int) (fun i σ H' => ∃ (y3 y4 : Option V) (rk : Nat) (st : List Int), σ = [some (.ref a), some (.int (rk : Int)), some (.ref rp), y3, y4] ∧ Same H H' ∧ H' rp = some (.lst (st.map V.int)) ∧ st.Nodup ∧ (∀ k, k ∈ st ↔ 0 < k ∧ k ∈ ns.take i ∧ -k ∉ ns.take i) ∧ rk + 1 ≤ 2 ^ (7 * i)) ⟨_, _, 0, [], rfl, s1.trans (same_new nrp), upd_same, List.nodup_nil, fun k => ⟨fun h => absurd h List.not_mem_nil, fun h => by have := h.2.1; simp at this⟩, Nat.le_refl _⟩ (fun i σ H' _ ⟨_, _, _, _, _, sm, _⟩ => sm.seq hS) (fun i x σ H' hx h => ?_) (fun σ H' h => ?_)⟩
    · obtain ⟨e, rfl, he⟩ := get_int hx
      obtain ⟨y3, y4, rk, st, rfl, sm, hr', nd, hm, hb⟩ := h
      have il := lt_get he
      have e0 := (hh.rng e (mem_get he)).1
      have sl := st_len hh nd fun k hk => ⟨((hm k).mp hk).1, List.mem_of_mem_take ((hm k).mp hk).2.1⟩
      have ent := not_mem_take hh.nd he
      by_cases hp : 0 < e
      · have nen : -e ∉ ns.take i := fun z => by
          obtain ⟨j, hj, ej⟩ := List.mem_iff_getElem.mp z
          rw [List.length_take] at hj
          have gj : ns[j]? = some (-e) := by rw [List.getElem?_eq_getElem (by omega), ← ej, List.getElem_take]
          have o := hh.ord j (-e) gj (by omega)
          rw [Int.neg_neg] at o
          have : e ∈ ns.take i := by
            have t : (ns.take i).take j = ns.take j := by rw [List.take_take, Nat.min_eq_left (by omega)]
            rw [← t] at o
            exact List.mem_of_mem_take o
          exact ent this
        refine ⟨_, rfl, _, _, rfl, rfl, true, dT hp, ?_⟩
        refine ⟨_, rfl, .inl ⟨rfl, _, .of hr'⟩, _, rfl, rp, _, _, rfl, rfl, hr', by rw [List.length_map]; exact zl (by omega), _, _, rk, st ++ [e], rfl, Lp.Same.mut sm rp0, by rw [upd_same, List.map_append]; rfl, nodup_snoc nd (fun z => ent ((hm e).mp z).2.1), fun k => ?_, Nat.le_trans hb (Nat.pow_le_pow_right (by decide) (by omega))⟩
        rw [List.mem_append, List.mem_singleton, hm k, mem_take_succ he, mem_take_succ he]
        constructor
        · rintro (⟨a1, a2, a3⟩ | rfl)
          · exact ⟨a1, .inl a2, fun z => z.elim a3 fun z => by omega⟩
          · exact ⟨hp, .inr rfl, fun z => z.elim nen fun z => by omega⟩
        · rintro ⟨a1, a2 | rfl, a3⟩
          · exact .inl ⟨a1, a2, fun z => a3 (.inl z)⟩
          · exact .inr rfl
      · have hneg : e < 0 := by omega
        have km : -e ∈ st := (hm (-e)).mpr ⟨by omega, hh.ord i e he hneg, by rw [Int.neg_neg]; exact ent⟩
        obtain ⟨i1, i2⟩ := idx_first km
        have gV : (st.map V.int)[st.idxOf (-e)]? = some (.int (-e)) := by rw [List.getElem?_map, i1]; rfl
        have ix := lt_get i1
        have pw : rk < 2 ^ 1400 := Nat.lt_of_lt_of_le (Nat.lt_of_succ_le hb) (Nat.pow_le_pow_right (by decide) (show 7 * i ≤ 1400 by omega))
        refine ⟨_, rfl, _, _, rfl, rfl, false, dF hp, ?_⟩
        refine ⟨_, rfl, rp, _, rfl, .inl (.of hr'), _, _, rfl, rfl, _, rfl, .inl ⟨rfl, _, .of hr'⟩, _, rfl, _, rfl, rp, _, _, st.idxOf (-e), .int (-e), rfl, rfl, .of hr', rfl, flatI _, gV, by show ((-e) == -e) = true; exact beq_self_eq_true _, fun m z' hm' hz' => ?_, ?_⟩
        · obtain ⟨z, rfl, hz⟩ := get_int hz'
          show (z == -e) = false
          exact beq_eq_false_iff_ne.mpr fun c => i2 m hm' (by rw [hz, c])
        · refine ⟨_, _, rfl, rfl, ?_⟩
          rw [List.length_map]
          refine ⟨_, rfl, _, rfl, rp, _, rfl, .inl (.of hr'), _, _, rfl, rfl, wide_mul (a := 1400) (b := 30) pw (by rw [List.length_map]; omega) (by decide) (by decide) (by decide), _, rfl, _, _, rfl, rfl, ?_⟩
          rw [List.length_map]
          refine ⟨_, rfl, .inl ⟨rfl, _, .of hr'⟩, _, rfl, _, rfl, rp, st, -e, st.idxOf (-e), rfl, rfl, hr', i1, i2, ?_⟩
          rw [erase_ix km]
          refine ⟨some (.int e), some (.int ((st.length : Int) - 1 - (st.idxOf (-e) : Int))), rk * st.length + (st.length - 1 - st.idxOf (-e)), st.erase (-e), ?_, Lp.Same.mut sm rp0, upd_same, nd.erase _, fun k => ?_, ?_⟩
          · have e1 : ((rk * st.length + (st.length - 1 - st.idxOf (-e)) : Nat) : Int) = (rk : Int) * (st.length : Int) + ((st.length : Int) - 1 - (st.idxOf (-e) : Int)) := by
              rw [Int.natCast_add, Int.natCast_mul]
              omega
            rw [e1]
            rfl
          · rw [nd.mem_erase_iff, hm k, mem_take_succ he, mem_take_succ he]
            constructor
            · rintro ⟨a0, a1, a2, a3⟩
              exact ⟨a1, .inl a2, fun z => z.elim a3 fun z => a0 (by omega)⟩
            · rintro ⟨a1, a2 | a2, a3⟩
              · exact ⟨fun z => a3 (.inr (by omega)), a1, a2, fun z => a3 (.inl z)⟩
              · omega
          · have h1 : rk * st.length ≤ rk * 100 := Nat.mul_le_mul_left rk sl
            have h2 : 2 ^ (7 * (i + 1)) = 2 ^ (7 * i) * 128 := by rw [show 7 * (i + 1) = 7 * i + 7 by omega, Nat.pow_add]
            rw [h2]
            omega
    · obtain ⟨y3, y4, rk, st, rfl, sm, _⟩ := h
      exact ⟨_, rfl, q _ _ sm⟩
end
end L59
set_option Elab.async false
set_option linter.all false
set_option maxRecDepth 100000
namespace L59
open PySem PySem.Spec PyProof.Rows L2 Lp
/-! ### survivors -/
structure SvS where
  cnt : Nat
  st : Nat
  run : Nat
  pr : Nat
  sv : Nat
def svStep (v : Nat) (s : SvS) (b : Bool) : SvS :=
  if b then ⟨s.cnt, s.st + 1, s.run + 1, if s.st + 1 = v then s.cnt else 0, s.sv + s.pr⟩ else ⟨s.cnt * s.run, s.st, s.run - 1, s.sv, s.sv * (s.run - 1)⟩
def svS (v : Nat) (bs : List Bool) : SvS := bs.foldl (svStep v) ⟨1, 0, 0, if v = 0 then 1 else 0, 0⟩
def survN (bs : List Bool) (v : Nat) : Nat := (svS v bs).pr
theorem sv_snoc (v : Nat) (bs : List Bool) (b : Bool) : svS v (bs ++ [b]) = svStep v (svS v bs) b := by
  unfold svS
  rw [List.foldl_append]
  rfl
theorem sv_is (v : Nat) (bs : List Bool) : (svS v bs).cnt = waysN bs ∧ (svS v bs).st = upsN bs ∧ (svS v bs).run = runN bs := by
  refine snoc_ind (P := fun bs => (svS v bs).cnt = waysN bs ∧ (svS v bs).st = upsN bs ∧ (svS v bs).run = runN bs) ⟨rfl, rfl, rfl⟩ (fun l a ih => ?_) bs
  obtain ⟨h1, h2, h3⟩ := ih
  rw [sv_snoc]
  cases a with
  | true => rw [ways_up, ups_up, run_up]; exact ⟨h1, congrArg (· + 1) h2, congrArg (· + 1) h3⟩
  | false =>
    rw [ways_dn, ups_dn, run_dn, ← h1, ← h2, ← h3]
    exact ⟨rfl, rfl, rfl⟩
theorem sv_up (v : Nat) (bs : List Bool) : (svS v (bs ++ [true])).pr = (if upsN bs + 1 = v then waysN bs else 0) ∧ (svS v (bs ++ [true])).sv = (svS v bs).sv + (svS v bs).pr := by
  obtain ⟨h1, h2, h3⟩ := sv_is v bs
  rw [sv_snoc, ← h1, ← h2]
  exact ⟨rfl, rfl⟩
theorem sv_dn (v : Nat) (bs : List Bool) : (svS v (bs ++ [false])).pr = (svS v bs).sv ∧ (svS v (bs ++ [false])).sv = (svS v bs).sv * (runN bs - 1) := by
  obtain ⟨h1, h2, h3⟩ := sv_is v bs
  rw [sv_snoc, ← h3]
  exact ⟨rfl, rfl⟩
/-- nothing of a patch that was not started -/
theorem sv_none {v : Nat} {bs : List Bool} (h : upsN bs < v) : (svS v bs).pr = 0 ∧ (svS v bs).sv = 0 := by
  refine snoc_ind (P := fun bs => upsN bs < v → (svS v bs).pr = 0 ∧ (svS v bs).sv = 0) (fun h => ⟨if_neg (by have : 0 < v := h; omega), rfl⟩) (fun l a ih h => ?_) bs h
  cases a with
  | true =>
    rw [ups_up] at h
    obtain ⟨i1, i2⟩ := ih (by omega)
    obtain ⟨j1, j2⟩ := sv_up v l
    rw [j1, j2, i1, i2, if_neg (by omega)]
    exact ⟨rfl, rfl⟩
  | false =>
    rw [ups_dn] at h
    obtain ⟨i1, i2⟩ := ih h
    obtain ⟨j1, j2⟩ := sv_dn v l
    rw [j1, j2, i2]
    exact ⟨rfl, Nat.zero_mul _⟩
theorem sv_le (v : Nat) {bs : List Bool} (ok : SgOk bs) : (svS v bs).pr + (svS v bs).sv ≤ waysN bs := by
  refine snoc_ind (P := fun bs => SgOk bs → (svS v bs).pr + (svS v bs).sv ≤ waysN bs) (fun _ => ?_) (fun l a ih h => ?_) bs ok
  · show (if v = 0 then 1 else 0) + 0 ≤ 1
    split <;> decide
  · have i := ih h.pre
    cases a with
    | true =>
      obtain ⟨j1, j2⟩ := sv_up v l
      rw [j1, j2, ways_up]
      by_cases e : upsN l + 1 = v
      · obtain ⟨k1, k2⟩ := sv_none (v := v) (bs := l) (by omega)
        rw [if_pos e, k1, k2]
        exact Nat.le_refl _
      · rw [if_neg e]
        omega
    | false =>
      obtain ⟨j1, j2⟩ := sv_dn v l
      have r := h.last
      rw [j1, j2, ways_dn]
      have e : (svS v l).sv + (svS v l).sv * (runN l - 1) = (svS v l).sv * runN l := by
        conv => lhs; lhs; rw [← Nat.mul_one (svS v l).sv]
        rw [← Nat.mul_add]
        congr 1
        omega
      rw [e]
      exact Nat.mul_le_mul_right _ (by omega)
/-! over all values -/
def sumTo (f : Nat → Nat) : Nat → Nat
  | 0 => f 0
  | n + 1 => sumTo f n + f (n + 1)
theorem sumTo_add (f g : Nat → Nat) : ∀ n, sumTo (fun v => f v + g v) n = sumTo f n + sumTo g n
  | 0 => rfl
  | n + 1 => by
    show sumTo (fun v => f v + g v) n + (f (n + 1) + g (n + 1)) = sumTo f n + f (n + 1) + (sumTo g n + g (n + 1))
    rw [sumTo_add f g n]
    omega
theorem sumTo_mul (f : Nat → Nat) (c : Nat) : ∀ n, sumTo (fun v => f v * c) n = sumTo f n * c
  | 0 => rfl
  | n + 1 => by
    show sumTo (fun v => f v * c) n + f (n + 1) * c = (sumTo f n + f (n + 1)) * c
    rw [sumTo_mul f c n, Nat.add_mul]
theorem sumTo_congr {f g : Nat → Nat} : ∀ {n}, (∀ v, v ≤ n → f v = g v) → sumTo f n = sumTo g n
  | 0, h => h 0 (Nat.le_refl _)
  | n + 1, h => by
    show sumTo f n + f (n + 1) = sumTo g n + g (n + 1)
    rw [sumTo_congr fun v hv => h v (by omega), h (n + 1) (Nat.le_refl _)]
theorem sumTo_one {k c : Nat} : ∀ {n}, k ≤ n → sumTo (fun v => if k = v then c else 0) n = c
  | 0, h => by
    have e : k = 0 := by omega
    subst e
    rfl
  | n + 1, h => by
    show sumTo (fun v => if k = v then c else 0) n + (if k = n + 1 then c else 0) = c
    by_cases e : k = n + 1
    · rw [if_pos e]
      have z : sumTo (fun v => if k = v then c else 0) n = sumTo (fun _ => 0) n := sumTo_congr fun v hv => if_neg (by omega)
      have z2 : ∀ m, sumTo (fun _ => 0) m = 0 := fun m => by
        induction m with
        | zero => rfl
        | succ m ih => show sumTo (fun _ => 0) m + 0 = 0; rw [ih]
      rw [z, z2]
      omega
    · rw [if_neg e, sumTo_one (by omega)]
      omega
theorem sv_sum {bs : List Bool} (ok : SgOk bs) : ∀ n, upsN bs ≤ n → sumTo (fun v => (svS v bs).pr) n = waysN bs ∧ sumTo (fun v => (svS v bs).sv) n = waysN bs * runN bs := by
  refine snoc_ind (P := fun bs => SgOk bs → ∀ n, upsN bs ≤ n → sumTo (fun v => (svS v bs).pr) n = waysN bs ∧ sumTo (fun v => (svS v bs).sv) n = waysN bs * runN bs) (fun _ n _ => ?_) (fun l a ih h n hn => ?_) bs ok
  · refine ⟨?_, ?_⟩
    · show sumTo (fun v => if v = 0 then 1 else 0) n = 1
      have : sumTo (fun v => if v = 0 then 1 else 0) n = sumTo (fun v => if 0 = v then 1 else 0) n := sumTo_congr fun v _ => by
        by_cases e : v = 0
        · rw [if_pos e, if_pos e.symm]
        · rw [if_neg e, if_neg (fun z => e z.symm)]
      rw [this, sumTo_one (Nat.zero_le _)]
    · have z2 : ∀ m, sumTo (fun _ => 0) m = 0 := fun m => by
        induction m with
        | zero => rfl
        | succ m ih => show sumTo (fun _ => 0) m + 0 = 0; rw [ih]
      exact z2 n
  · cases a with
    | true =>
      rw [ups_up] at hn
      obtain ⟨i1, i2⟩ := ih h.pre n (by omega)
      refine ⟨?_, ?_⟩
      · rw [sumTo_congr fun v _ => (sv_up v l).1, sumTo_one hn, ways_up]
      · rw [sumTo_congr fun v _ => (sv_up v l).2, sumTo_add, i1, i2, ways_up, run_up, Nat.mul_add, Nat.mul_one]
    | false =>
      rw [ups_dn] at hn
      obtain ⟨i1, i2⟩ := ih h.pre n hn
      refine ⟨?_, ?_⟩
      · rw [sumTo_congr fun v _ => (sv_dn v l).1, i2, ways_dn]
      · rw [sumTo_congr fun v _ => (sv_dn v l).2, sumTo_mul, i2, ways_dn, run_dn]
/-! from the end: al and be at moment n - k -/
def abN (bs : List Bool) : Nat → Nat × Nat
  | 0 => (1, 0)
  | k + 1 => match bs[bs.length - (k + 1)]? with
    | some true => ((abN bs k).2, (abN bs k).2)
    | some false => (0, (abN bs k).1 + (abN bs k).2 * (runN (bs.take (bs.length - (k + 1))) - 1))
    | none => (0, 0)
def alN (bs : List Bool) (i : Nat) : Nat := (abN bs (bs.length - i)).1
def beN (bs : List Bool) (i : Nat) : Nat := (abN bs (bs.length - i)).2
theorem al_end (bs : List Bool) : alN bs bs.length = 1 := by unfold alN; rw [Nat.sub_self]; rfl
theorem be_end (bs : List Bool) : beN bs bs.length = 0 := by unfold beN; rw [Nat.sub_self]; rfl
theorem ab_up {bs : List Bool} {i : Nat} (h : bs[i]? = some true) : alN bs i = beN bs (i + 1) ∧ beN bs i = beN bs (i + 1) := by
  have hl := (List.getElem?_eq_some_iff.mp h).1
  have e : bs.length - i = (bs.length - (i + 1)) + 1 := by omega
  have e2 : bs.length - ((bs.length - (i + 1)) + 1) = i := by omega
  unfold alN beN
  rw [e]
  unfold abN
  rw [e2, h]
  cases q : bs.length - (i + 1) <;> exact ⟨rfl, rfl⟩
theorem ab_dn {bs : List Bool} {i : Nat} (h : bs[i]? = some false) : alN bs i = 0 ∧ beN bs i = alN bs (i + 1) + beN bs (i + 1) * (runN (bs.take i) - 1) := by
  have hl := (List.getElem?_eq_some_iff.mp h).1
  have e : bs.length - i = (bs.length - (i + 1)) + 1 := by omega
  have e2 : bs.length - ((bs.length - (i + 1)) + 1) = i := by omega
  unfold alN beN
  rw [e]
  unfold abN
  rw [e2, h]
  cases q : bs.length - (i + 1) <;> exact ⟨rfl, rfl⟩
/-- what a state at moment i leads to -/
theorem ab_lin {bs : List Bool} (v i : Nat) (hi : i ≤ bs.length) (hv : v ≤ upsN (bs.take i)) : ∀ k, i + k ≤ bs.length →
    (svS v (bs.take i)).pr * alN bs i + (svS v (bs.take i)).sv * beN bs i = (svS v (bs.take (i + k))).pr * alN bs (i + k) + (svS v (bs.take (i + k))).sv * beN bs (i + k)
  | 0, _ => rfl
  | k + 1, h => by
    rw [ab_lin v i hi hv k (by omega)]
    have hlt : i + k < bs.length := by omega
    have hg := List.getElem?_eq_getElem hlt
    have mono : upsN (bs.take i) ≤ upsN (bs.take (i + k)) := by
      have e : bs.take i = (bs.take (i + k)).take i := by rw [List.take_take, Nat.min_eq_left (by omega)]
      rw [e]
      exact List.Sublist.count_le _ (List.take_sublist _ _)
    have es := take_snoc hg
    show _ = (svS v (bs.take (i + k + 1))).pr * alN bs (i + k + 1) + (svS v (bs.take (i + k + 1))).sv * beN bs (i + k + 1)
    rw [es]
    generalize bs[i + k] = b at hg es
    cases b with
    | true =>
      obtain ⟨a1, a2⟩ := ab_up hg
      obtain ⟨j1, j2⟩ := sv_up v (bs.take (i + k))
      rw [a1, a2, j1, j2, if_neg (by omega), Nat.zero_mul, Nat.zero_add, Nat.add_mul, Nat.add_comm]
    | false =>
      obtain ⟨a1, a2⟩ := ab_dn hg
      obtain ⟨j1, j2⟩ := sv_dn v (bs.take (i + k))
      rw [a1, a2, j1, j2, Nat.mul_zero, Nat.zero_add, Nat.mul_add, Nat.mul_assoc, Nat.mul_comm (beN bs (i + k + 1))]
/-- the value of the start that ends at moment m (or the original one) -/
theorem surv_at {bs : List Bool} {m : Nat} (hm : m ≤ bs.length) (h : m = 0 ∨ (0 < m ∧ bs[m - 1]? = some true)) : survN bs (upsN (bs.take m)) = waysN (bs.take m) * alN bs m := by
  have z := ab_lin (upsN (bs.take m)) m hm (Nat.le_refl _) (bs.length - m) (by omega)
  have e : m + (bs.length - m) = bs.length := by omega
  rw [e, al_end, be_end, List.take_length, Nat.mul_one, Nat.mul_zero, Nat.add_zero] at z
  unfold survN
  rw [← z]
  have key : (svS (upsN (bs.take m)) (bs.take m)).pr = waysN (bs.take m) ∧ (svS (upsN (bs.take m)) (bs.take m)).sv = 0 := by
    rcases h with h | h
    · subst h
      exact ⟨rfl, rfl⟩
    · obtain ⟨hm1, h⟩ := h
      have es := take_snoc h
      have e1 : m - 1 + 1 = m := by omega
      rw [e1] at es
      rw [es, ups_up, ways_up]
      obtain ⟨j1, j2⟩ := sv_up (upsN (bs.take (m - 1)) + 1) (bs.take (m - 1))
      obtain ⟨k1, k2⟩ := sv_none (v := upsN (bs.take (m - 1)) + 1) (bs := bs.take (m - 1)) (by omega)
      rw [j1, j2, k1, k2, if_pos rfl]
      exact ⟨rfl, rfl⟩
  rw [key.1, key.2, Nat.zero_mul, Nat.add_zero]
/-! the products in between -/
def prodN (bs : List Bool) (i : Nat) : Nat → Nat
  | 0 => 1
  | k + 1 => prodN bs i k * (if bs[i + k]? = some false then runN (bs.take (i + k)) - 1 else 1)
theorem prod_left {bs : List Bool} (i : Nat) : ∀ k, prodN bs i (k + 1) = (if bs[i]? = some false then runN (bs.take i) - 1 else 1) * prodN bs (i + 1) k
  | 0 => by
    show 1 * (if bs[i + 0]? = some false then _ else 1) = _ * 1
    rw [Nat.one_mul, Nat.mul_one, Nat.add_zero]
  | k + 1 => by
    show prodN bs i (k + 1) * (if bs[i + (k + 1)]? = some false then runN (bs.take (i + (k + 1))) - 1 else 1) = _
    rw [prod_left i k, Nat.mul_assoc]
    congr 1
    show prodN bs (i + 1) k * _ = prodN bs (i + 1) k * (if bs[i + 1 + k]? = some false then runN (bs.take (i + 1 + k)) - 1 else 1)
    have e : i + (k + 1) = i + 1 + k := by omega
    rw [e]
/-- the weight of moment j ahead of moment m's turn -/
def wtN (bs : List Bool) (m j : Nat) : Nat := if j = m then alN bs m else if bs[j]? = some true then beN bs m * prodN bs (j + 1) (m - (j + 1)) else 0
theorem wt_top (bs : List Bool) (m : Nat) : wtN bs m m = alN bs m := if_pos rfl
theorem wt_end {bs : List Bool} {j : Nat} (h : j < bs.length) : wtN bs bs.length j = 0 := by
  unfold wtN
  rw [if_neg (by omega), be_end, Nat.zero_mul]
  split <;> rfl
theorem wt_up {bs : List Bool} {m j : Nat} (h : bs[m]? = some true) (hj : j ≤ m) : wtN bs m j = wtN bs (m + 1) j := by
  obtain ⟨a1, a2⟩ := ab_up h
  unfold wtN
  rw [if_neg (show ¬ j = m + 1 by omega)]
  by_cases e : j = m
  · subst e
    rw [if_pos rfl, if_pos h, a1]
    have e : j + 1 - (j + 1) = 0 := by omega
    rw [e]
    exact (Nat.mul_one _).symm
  · rw [if_neg e]
    by_cases c : bs[j]? = some true
    · rw [if_pos c, if_pos c, a2]
      have e2 : m + 1 - (j + 1) = (m - (j + 1)) + 1 := by omega
      rw [e2]
      have e3 : j + 1 + (m - (j + 1)) = m := by omega
      show _ = beN bs (m + 1) * (prodN bs (j + 1) (m - (j + 1)) * (if bs[j + 1 + (m - (j + 1))]? = some false then _ else 1))
      rw [e3, if_neg (by rw [h]; decide), Nat.mul_one]
    · rw [if_neg c, if_neg c]
theorem wt_dn {bs : List Bool} {m j : Nat} (h : bs[m]? = some false) (hj : j ≤ m) : wtN bs m j = wtN bs (m + 1) j + (if bs[j]? = some true then alN bs (m + 1) * prodN bs (j + 1) (m - (j + 1)) else 0) := by
  obtain ⟨a1, a2⟩ := ab_dn h
  unfold wtN
  rw [if_neg (show ¬ j = m + 1 by omega)]
  by_cases e : j = m
  · subst e
    rw [if_pos rfl, if_neg (by rw [h]; decide), if_neg (by rw [h]; decide), a1]
  · rw [if_neg e]
    by_cases c : bs[j]? = some true
    · rw [if_pos c, if_pos c, if_pos c, a2]
      have e2 : m + 1 - (j + 1) = (m - (j + 1)) + 1 := by omega
      rw [e2]
      have e3 : j + 1 + (m - (j + 1)) = m := by omega
      show _ = beN bs (m + 1) * (prodN bs (j + 1) (m - (j + 1)) * (if bs[j + 1 + (m - (j + 1))]? = some false then runN (bs.take (j + 1 + (m - (j + 1)))) - 1 else 1)) + _
      rw [e3, if_pos h, Nat.add_mul, Nat.mul_assoc, Nat.mul_comm (runN (bs.take m) - 1), Nat.add_comm]
    · rw [if_neg c, if_neg c, if_neg c]
/-! bounds -/
theorem ab_lt {bs : List Bool} (ok : SgOk bs) (u : upsN bs ≤ 100) : ∀ k, k ≤ bs.length → (abN bs k).1 ≤ 100 ^ k ∧ (abN bs k).2 ≤ 100 ^ k
  | 0, _ => ⟨Nat.le_refl _, Nat.zero_le _⟩
  | k + 1, h => by
    obtain ⟨i1, i2⟩ := ab_lt ok u k (by omega)
    have hlt : bs.length - (k + 1) < bs.length := by omega
    have hg := List.getElem?_eq_getElem hlt
    have r := run_eq (ok.take (bs.length - (k + 1)))
    have uu : upsN (bs.take (bs.length - (k + 1))) ≤ 100 := Nat.le_trans (List.Sublist.count_le _ (List.take_sublist _ bs)) u
    have pp : (100 : Nat) ^ k ≤ 100 ^ (k + 1) := Nat.pow_le_pow_right (by decide) (by omega)
    unfold abN
    rw [hg]
    cases q : bs[bs.length - (k + 1)] with
    | true => exact ⟨Nat.le_trans i2 pp, Nat.le_trans i2 pp⟩
    | false =>
      rw [q] at hg
      have pos := ok _ hg
      refine ⟨Nat.zero_le _, ?_⟩
      show (abN bs k).1 + (abN bs k).2 * (runN (bs.take (bs.length - (k + 1))) - 1) ≤ _
      have m1 : (abN bs k).2 * (runN (bs.take (bs.length - (k + 1))) - 1) ≤ 100 ^ k * 99 := Nat.mul_le_mul i2 (by omega)
      rw [Nat.pow_succ]
      omega
theorem prod_le {bs : List Bool} (ok : SgOk bs) (u : upsN bs ≤ 100) (i : Nat) : ∀ k, prodN bs i k ≤ 100 ^ k
  | 0 => Nat.le_refl _
  | k + 1 => by
    have ih := prod_le ok u i k
    have r := run_eq (ok.take (i + k))
    have uu : upsN (bs.take (i + k)) ≤ 100 := Nat.le_trans (List.Sublist.count_le _ (List.take_sublist _ bs)) u
    show prodN bs i k * _ ≤ _
    rw [Nat.pow_succ]
    refine Nat.mul_le_mul ih ?_
    split <;> omega
section
variable {P : Program} {w : World} {K : PySem.W.Frag} {mg : Str → Option Value} {base : Heap}
/-! ### count_survivors -/
def spSurv : Sp := fun vs H Q _ => ∃ (bs : List Bool) (v : Nat), vs = [.str (sgS bs), .int (v : Int)] ∧ SgOk bs ∧ upsN bs ≤ 100 ∧ v ≤ upsN bs ∧ ∀ H', Same H H' → Q (.int ((survN bs v : Nat) : Int)) H'
set_option maxHeartbeats 1000000 in
theorem ok_count_survivors {f : Addr} {fd : FuncData} (F : Fun K "count_survivors" "count_survivors" s_count_survivors f fd) (T_check_shape : Cal P w K mg base 2 "_check_shape" spCheckS) (T_check_number : Cal P w K mg base 3 "check_number" spCheckN) : FnOk P w K mg base CX0 4 f fd ["shape", "survivor"] spSurv := by
  refine F.ok sc_count_survivors (fun vs H Q E h => ?_) (fun cdv A outer s H vs Q E hr h => ?_)
  · obtain ⟨bs, v, rfl, _⟩ := h
    rfl
  · obtain ⟨bs, v, rfl, ok, u1, hv, q⟩ := h
    refine ⟨_, (pss_cons (ps_expr (pe_c T_check_shape hr (by decide) (by rfl) (pa_cons (pv 0) pa_nil)))
        (pss_cons (ps_expr (pe_c T_check_number hr (by decide) (by rfl) (pa_cons (pv 1) (pa_cons pe_int (pa_cons (pe_bm PySem.F.plainAttrs_str PySem.F.slot_str_count PySem.F.type_str_count mt_count (pv 0) (pa_cons pe_str pa_nil)) pa_nil)))))
        (pss_cons (ps_asg (pe_tup (pa_cons pe_int (pa_cons pe_int (pa_cons pe_int pa_nil)))) (pg_tup rfl (pgs_cons (pg_name (i := 2) sc_count_survivors.nd rfl (Or.inl rfl)) (pgs_cons (pg_name (i := 3) sc_count_survivors.nd rfl (Or.inl rfl)) (pgs_cons (pg_name (i := 4) sc_count_survivors.nd rfl (Or.inl rfl)) pgs_nil)))))
        (pss_cons (ps_asg (pe_mid (pe_ifExp (pt_cmpR op_eq (pv 1) pe_int (nomark _)) (pe_tup (pa_cons pe_int (pa_cons pe_int pa_nil))) (pe_tup (pa_cons pe_int (pa_cons pe_int pa_nil))))) (pg_tup rfl (pgs_cons (pg_name (i := 5) sc_count_survivors.nd rfl (Or.inl rfl)) (pgs_cons (pg_name (i := 6) sc_count_survivors.nd rfl (Or.inl rfl)) pgs_nil))))
        (pss_cons (ps_for PassesOwn.never rfl (pi_str (pv 0)) (pg_name (i := 7) sc_count_survivors.nd rfl (Or.inl rfl))
          (pss_one (ps_if (pt_cmpR op_eq (pv 7) pe_str (nomark _)) (pss_cons (ps_aug (i := 3) sc_count_survivors.nd rfl (Or.inl rfl) pe_int ip_add)
            (pss_cons (ps_aug (i := 4) sc_count_survivors.nd rfl (Or.inl rfl) pe_int ip_add)
            (pss_cons (ps_aug (i := 6) sc_count_survivors.nd rfl (Or.inl rfl) (pv 5) ip_add)
            (pss_one (ps_set (i := 5) sc_count_survivors.nd rfl (Or.inl rfl) (pe_mid (pe_ifExp (pt_cmpR op_eq (pv 3) (pv 1) (nomark _)) (pv 2) pe_int))))))) (pss_cons (ps_par (i := 5) (j := 6) (by rfl) sc_count_survivors.nd rfl rfl (by decide) rfl rfl (pa_cons (pv 6) (pa_cons (pe_op op_mulW (pv 6) (pe_op op_sub (pv 4) pe_int)) pa_nil)) (by rfl))
            (pss_cons (ps_aug (i := 2) sc_count_survivors.nd rfl (Or.inl rfl) (pv 4) ip_mulW)
            (pss_one (ps_aug (i := 4) sc_count_survivors.nd rfl (Or.inl rfl) pe_int ip_sub)))))))
        (pss_one (ps_ret (pv 5)))))))), ?_⟩
    refine ⟨_, rfl, bs, rfl, ok, u1, ?_⟩
    refine ⟨_, rfl, _, rfl, rfl, _, _, rfl, rfl, (v : Int), 0, Txt.count (sgS bs) "+", rfl, by omega, by rw [count_P]; omega, ?_⟩
    refine ⟨by show 3 ≤ sizeLine; decide, fun T nT => ⟨T, _, rfl, .of upd_same, rfl, _, _, rfl, _, _, rfl, _, _, rfl, rfl, ?_⟩⟩
    refine ⟨fun x H' => ∃ T : Addr, x = .ref T ∧ Same H H' ∧ H' T = some (.tup [.int (((if v = 0 then 1 else 0 : Nat) : Nat) : Int), .int 0]), ?_, fun x H2 hm => ?_⟩
    · by_cases h0 : v = 0
      · subst h0
        exact ⟨_, rfl, rfl, true, dT rfl, by show 2 ≤ sizeLine; decide, fun T2 nT2 => ⟨T2, rfl, (same_new nT).trans (same_new nT2), upd_same⟩⟩
      · refine ⟨_, rfl, rfl, false, dF (vne (by omega)), by show 2 ≤ sizeLine; decide, fun T2 nT2 => ⟨T2, rfl, (same_new nT).trans (same_new nT2), ?_⟩⟩
        rw [if_neg h0]
        exact upd_same
    · obtain ⟨T2, rfl, sm2, hT2⟩ := hm
      refine ⟨T2, _, rfl, .of hT2, rfl, _, _, rfl, _, _, rfl, rfl, ?_⟩
      refine ⟨_, rfl, _, rfl, for_it (walk_str (z := sgS bs)) (fun i σ H' => ∃ (y : Option V) (c st rn pr sv : Int), σ = [some (.str (sgS bs)), some (.int (v : Int)), some (.int c), some (.int st), some (.int rn), some (.int pr), some (.int sv), y] ∧
        c = ((waysN (bs.take i) : Nat) : Int) ∧ st = ((upsN (bs.take i) : Nat) : Int) ∧ rn = ((runN (bs.take i) : Nat) : Int) ∧ pr = (((svS v (bs.take i)).pr : Nat) : Int) ∧ sv = (((svS v (bs.take i)).sv : Nat) : Int) ∧ H' = H2) ⟨_, _, _, _, _, _, rfl, rfl, rfl, rfl, rfl, rfl, rfl⟩ (fun i σ H' _ h => trivial) (fun i x σ H' H3 hi h hy => ?_) (fun σ H' h => ?_)⟩
      · obtain ⟨e1, c, hc, rfl⟩ := hy
        subst e1
        obtain ⟨b, hb, rfl⟩ := sg_get hc
        obtain ⟨y, cc, st, rn, pr, sv, rfl, rfl, rfl, rfl, rfl, rfl, rfl⟩ := h
        have es := take_snoc hb
        have oki := ok.take i
        have ui := ups_take u1 i
        have wl := ways_lt2 oki ui
        have sl := sv_le v oki
        have rl := run_eq oki
        cases b with
        | true =>
          obtain ⟨j1, j2⟩ := sv_up v (bs.take i)
          refine ⟨_, rfl, rfl, true, blP true, ?_⟩
          refine ⟨_, rfl, _, _, rfl, rfl, _, rfl, _, _, rfl, rfl, _, rfl, _, rfl, _, _, rfl, rfl, ?_⟩
          refine ⟨fun x H' => x = .int (((svS v (bs.take (i + 1))).pr : Nat) : Int) ∧ H' = H3, ?_, fun x H' hm => ?_⟩
          · by_cases h0 : upsN (bs.take i) + 1 = v
            · refine ⟨_, rfl, _, rfl, rfl, true, dT (congrArg V.int (by dsimp only; omega)), _, rfl, ?_, rfl⟩
              rw [es, j1, if_pos h0]
            · refine ⟨_, rfl, _, rfl, rfl, false, dF (vne (by dsimp only; omega)), ?_, rfl⟩
              rw [es, j1, if_neg h0]
              rfl
          · obtain ⟨rfl, rfl⟩ := hm
            refine ⟨_, _, _, _, _, _, rfl, ?_, ?_, ?_, rfl, ?_, rfl⟩
            · rw [es, ways_up]
            · rw [es, ups_up]; dsimp only; omega
            · rw [es, run_up]; dsimp only; omega
            · rw [es, j2]; dsimp only; omega
        | false =>
          have hp := ok i hb
          obtain ⟨j1, j2⟩ := sv_dn v (bs.take i)
          have e1 : ((runN (bs.take i) : Nat) : Int) - 1 = ((runN (bs.take i) - 1 : Nat) : Int) := by omega
          refine ⟨_, rfl, rfl, false, blP false, ?_⟩
          refine ⟨_, rfl, _, rfl, _, rfl, _, _, rfl, rfl, _, _, rfl, rfl, wide_mul (a := 1401) (b := 30) (natAbs_lt (by omega)) (by rw [e1]; exact natAbs_lt (by omega)) (by decide) (by decide) (by decide), _, _, rfl, ?_⟩
          refine ⟨_, rfl, _, rfl, _, _, rfl, rfl, wide_ways oki ui, ?_⟩
          refine ⟨_, rfl, _, _, rfl, rfl, _, _, _, _, _, _, rfl, ?_, ?_, ?_, ?_, ?_, rfl⟩
          · rw [es, ways_dn, Int.natCast_mul]
          · rw [es, ups_dn]
          · rw [es, run_dn]; dsimp only; omega
          · rw [es, j1]
          · rw [es, j2, e1, Int.natCast_mul]
      · obtain ⟨y, cc, st, rn, pr, sv, rfl, rfl, rfl, rfl, rfl, rfl, rfl⟩ := h
        rw [sg_size, List.take_length] at *
        exact ⟨_, rfl, q _ sm2⟩
end
/-! ### any text as a shape -/
def stepC (o : Option Nat) (c : Nat) : Option Nat := o.bind fun r => if c = 43 then some (r + 1) else if c = 45 ∧ 0 < r then some (r - 1) else none
def scanL (cs : List Nat) : Option Nat := cs.foldl stepC (some 0)
theorem scan_snoc (cs : List Nat) (c : Nat) : scanL (cs ++ [c]) = stepC (scanL cs) c := by
  unfold scanL
  rw [List.foldl_append]
  rfl
theorem scan_dead : ∀ k : List Nat, k.foldl stepC none = none
  | [] => rfl
  | _ :: k => scan_dead k
theorem scan_pre {cs : List Nat} (k : List Nat) (h : scanL cs = none) : scanL (cs ++ k) = none := by
  unfold scanL at *
  rw [List.foldl_append, h]
  exact scan_dead k
def shapeB (cs : List Nat) : Bool := (scanL cs).isSome && decide (cs.count 43 ≤ 100)
theorem step_up (r : Nat) : stepC (some r) 43 = some (r + 1) := rfl
theorem step_dn {r : Nat} (h : 0 < r) : stepC (some r) 45 = some (r - 1) := by
  show (if (45 : Nat) = 43 then some (r + 1) else if (45 : Nat) = 45 ∧ 0 < r then some (r - 1) else none) = _
  rw [if_neg (by decide), if_pos ⟨rfl, h⟩]
theorem step_no {r c : Nat} (h1 : c ≠ 43) (h2 : ¬ (c = 45 ∧ 0 < r)) : stepC (some r) c = none := by
  show (if c = 43 then some (r + 1) else if c = 45 ∧ 0 < r then some (r - 1) else none) = none
  rw [if_neg h1, if_neg h2]
theorem cnt_one (a b : Nat) (l : List Nat) : (l ++ [b]).count a = l.count a + if b = a then 1 else 0 := by
  rw [List.count_append, List.count_cons, List.count_nil, Nat.zero_add]
  simp
structure Sg (cs : List Nat) (r : Nat) : Prop where
  sg : ∀ c ∈ cs, c = 43 ∨ c = 45
  run : r + cs.count 45 = cs.count 43
  len : cs.count 43 + cs.count 45 = cs.length
  pre : ∀ k, k < cs.length → 2 * (cs.take (k + 1)).count 45 ≤ k + 1
theorem Sg.snoc {cs : List Nat} {r r' c : Nat} (h : Sg cs r) (hc : (c = 43 ∧ r' = r + 1) ∨ (c = 45 ∧ r' + 1 = r)) : Sg (cs ++ [c]) r' := by
  obtain ⟨a1, a2, a3, a4⟩ := h
  refine ⟨fun d hd => ?_, ?_, ?_, fun k hk => ?_⟩
  · rcases List.mem_append.mp hd with e | e
    · exact a1 d e
    · rw [List.mem_singleton] at e
      rcases hc with ⟨e2, _⟩ | ⟨e2, _⟩
      · exact .inl (e.trans e2)
      · exact .inr (e.trans e2)
  · rw [cnt_one, cnt_one]
    rcases hc with ⟨rfl, e⟩ | ⟨rfl, e⟩
    · rw [if_neg (by decide), if_pos rfl]; omega
    · rw [if_pos rfl, if_neg (by decide)]; omega
  · rw [cnt_one, cnt_one, List.length_append, List.length_singleton]
    rcases hc with ⟨rfl, e⟩ | ⟨rfl, e⟩
    · rw [if_pos rfl, if_neg (by decide)]; omega
    · rw [if_neg (by decide), if_pos rfl]; omega
  · rw [List.length_append, List.length_singleton] at hk
    by_cases hl : k < cs.length
    · rw [List.take_append_of_le_length (by omega)]
      exact a4 k hl
    · have e : k = cs.length := by omega
      subst e
      rw [List.take_of_length_le (by rw [List.length_append]; exact Nat.le_refl _), cnt_one]
      rcases hc with ⟨rfl, e⟩ | ⟨rfl, e⟩
      · rw [if_neg (by decide)]; omega
      · rw [if_pos rfl]; omega
theorem scan_some : ∀ cs : List Nat, ∀ r, scanL cs = some r → Sg cs r := by
  refine snoc_ind (fun r h => ?_) (fun l a ih r h => ?_)
  · have e : r = 0 := (Option.some.inj h).symm
    subst e
    exact ⟨fun _ h => (nomatch h), rfl, rfl, fun k h => absurd h (Nat.not_lt_zero _)⟩
  · rw [scan_snoc] at h
    cases e : scanL l with
    | none => rw [e] at h; cases h
    | some r0 =>
      have s := ih r0 e
      rw [e] at h
      by_cases c1 : a = 43
      · subst c1
        rw [step_up] at h
        exact s.snoc (.inl ⟨rfl, (Option.some.inj h).symm⟩)
      · by_cases c2 : a = 45 ∧ 0 < r0
        · obtain ⟨rfl, p⟩ := c2
          rw [step_dn p] at h
          have := Option.some.inj h
          exact s.snoc (.inr ⟨rfl, by omega⟩)
        · rw [step_no c1 c2] at h
          cases h
theorem scan_of : ∀ cs : List Nat, (∀ c ∈ cs, c = 43 ∨ c = 45) → (∀ k, k < cs.length → 2 * (cs.take (k + 1)).count 45 ≤ k + 1) → ∃ r, scanL cs = some r := by
  refine snoc_ind (fun _ _ => ⟨0, rfl⟩) (fun l a ih h1 h2 => ?_)
  obtain ⟨r, hr⟩ := ih (fun c hc => h1 c (List.mem_append_left _ hc)) (fun k hk => by
    have z := h2 k (by rw [List.length_append]; omega)
    rwa [List.take_append_of_le_length (by omega)] at z)
  have s := scan_some l r hr
  rw [scan_snoc, hr]
  rcases h1 a (List.mem_append_right _ List.mem_cons_self) with rfl | rfl
  · exact ⟨_, step_up r⟩
  · have z := h2 l.length (by rw [List.length_append]; exact Nat.lt_succ_self _)
    rw [List.take_of_length_le (by rw [List.length_append]; exact Nat.le_refl _), cnt_one, if_pos rfl] at z
    have a2 := s.run
    have a3 := s.len
    exact ⟨_, step_dn (by omega)⟩
theorem cnt_nat (c : Nat) : ∀ l : List Nat, PyProof.Rows.cnt c l = ((l.count c : Nat) : Int)
  | [] => rfl
  | x :: r => by
    rw [PyProof.Rows.cnt_cons, cnt_nat c r, List.count_cons]
    by_cases h : x = c
    · subst h
      simp
      omega
    · rw [if_neg h]
      have : (x == c) = false := beq_eq_false_iff_ne.mpr h
      rw [this]
      simp
theorem tcount_P (z : Str) : Txt.count z ("+" : Str) = ((z.cps.toList.count 43 : Nat) : Int) := by
  rw [plus_eq, PyProof.Rows.count_cnt]
  exact cnt_nat _ _
theorem tcount_M (z : Str) : Txt.count z ("-" : Str) = ((z.cps.toList.count 45 : Nat) : Int) := by
  rw [minus_eq, PyProof.Rows.count_cnt]
  exact cnt_nat _ _
theorem chr_eq (c d : Nat) : decide (V.str ⟨#[c]⟩ = V.str ⟨#[d]⟩) = decide (c = d) := by
  by_cases h : c = d
  · subst h
    rw [decide_eq_true rfl, decide_eq_true rfl]
  · rw [decide_eq_false h]
    exact decide_eq_false fun e => h (by
      have e1 := V.str.inj e
      have e2 := Str.mk.inj e1
      have e3 := congrArg Array.toList e2
      exact (List.cons.inj e3).1)
theorem blC43 (c : Nat) : V.bl (decide (V.str ⟨#[c]⟩ = V.str ("+" : Str))) = V.bl (decide (c = 43)) := by rw [plus_eq, chr_eq]
theorem blC45 (c : Nat) : V.bl (decide (V.str ⟨#[c]⟩ = V.str ("-" : Str))) = V.bl (decide (c = 45)) := by rw [minus_eq, chr_eq]
def shapeD : PyData → Bool
  | .str z => shapeB z.cps.toList
  | _ => false
section
variable {P : Program} {w : World} {K : PySem.W.Frag} {mg : Str → Option Value} {base : Heap}
/-! ### is_shape of any value -/
def spIsShapeA (K : PySem.W.Frag) : Sp := fun vs H Q _ => ∃ (v : V) (d : PyData), vs = [v] ∧ Ox K H v d ∧ Q (.bl (shapeD d)) H
theorem ok_is_shape_A {f : Addr} {fd : FuncData} (F : Fun K "is_shape" "is_shape" s_is_shape f fd) (B : NoB mg) {t1 : Tok} (T_g_LAST_PATCH : mg "LAST_PATCH" = some (.int 100 t1)) : FnOk P w K mg base CX0 1 f fd ["value"] (spIsShapeA K) := by
  refine F.ok sc_is_shape (fun vs H Q E h => ?_) (fun cdv A outer s H vs Q E hr h => ?_)
  · obtain ⟨v, d, rfl, _⟩ := h
    rfl
  · obtain ⟨v, d, rfl, hv, q⟩ := h
    refine ⟨_, (pss_cons (ps_if (pt_not (pt_val (pe_callB call_isi (by rfl) B.isinstance (by decide +kernel) (pa_cons (pv 0) (pa_cons (pe_bltn (v := .ty "str") (by rfl) B.str boot_str rfl) pa_nil))))) (pss_one (ps_ret pe_bl)) pss_nil)
        (pss_cons (ps_set (i := 1) sc_is_shape.nd rfl (Or.inl rfl) pe_int)
        (pss_cons (ps_for PassesOwn.never rfl (pi_str (pv 0)) (pg_name (i := 2) sc_is_shape.nd rfl (Or.inl rfl))
          (pss_one (ps_if (pt_cmpR op_eq (pv 2) pe_str (nomark _)) (pss_one (ps_aug (i := 1) sc_is_shape.nd rfl (Or.inl rfl) pe_int ip_add)) (pss_one (ps_if (pt_mid (PW.pt (pw_and (pt_cmpR op_eq (pv 2) pe_str (nomark _)) (pw_and1 (pt_cmpR op_gt (pv 1) pe_int (nomark _)))))) (pss_one (ps_aug (i := 1) sc_is_shape.nd rfl (Or.inl rfl) pe_int ip_sub)) (pss_one (ps_ret pe_bl)))))))
        (pss_one (ps_ret (pe_cmpR op_le (pe_bm PySem.F.plainAttrs_str PySem.F.slot_str_count PySem.F.type_str_count mt_count (pv 0) (pa_cons pe_str pa_nil)) (pe_glob (v := .int 100) (by rfl) T_g_LAST_PATCH ⟨_, rfl⟩) (nomark _))))))), ?_⟩
    by_cases hs : isS d = true
    · cases hv with
      | str z =>
        refine ⟨_, rfl, _, _, _, _, true, rfl, .ty _, .base (.str _), kit_ty (by decide +kernel), true, rfl, iteF ?_⟩
        refine ⟨_, rfl, _, rfl, for_it (walk_str (z := z)) (fun i σ H' => ∃ (y : Option V) (rn : Int) (r : Nat), σ = [some (.str z), some (.int rn), y] ∧ rn = (r : Int) ∧ scanL (z.cps.toList.take i) = some r ∧ H' = H) ⟨_, _, 0, rfl, rfl, rfl, rfl⟩ (fun i σ H' _ h => trivial) (fun i x σ H' H2 hi h hy => ?_) (fun σ H' h => ?_)⟩
        · obtain ⟨e1, c, hc, rfl⟩ := hy
          subst e1
          obtain ⟨y, rn, r, rfl, rfl, hs, rfl⟩ := h
          have hc' : z.cps.toList[i]? = some c := by rw [Array.getElem?_toList]; exact hc
          have es := take_snoc hc'
          have e2 := scan_snoc (z.cps.toList.take i) c
          rw [← es, hs] at e2
          have dead : scanL (z.cps.toList.take (i + 1)) = none → shapeD (.str z) = false := fun e => by
            have := scan_pre (z.cps.toList.drop (i + 1)) e
            rw [List.take_append_drop] at this
            show ((scanL z.cps.toList).isSome && _) = false
            rw [this]
            rfl
          by_cases c1 : c = 43
          · refine ⟨_, rfl, rfl, true, (blC43 c).trans (congrArg V.bl (decide_eq_true c1)), ?_⟩
            subst c1
            rw [step_up] at e2
            exact ⟨_, rfl, _, _, rfl, rfl, _, _, _, rfl, rfl, e2, rfl⟩
          · refine ⟨_, rfl, rfl, false, (blC43 c).trans (congrArg V.bl (decide_eq_false c1)), ?_⟩
            by_cases c2 : c = 45
            · subst c2
              by_cases c3 : 0 < r
              · refine ⟨fun b H3 => b = true ∧ H3 = H2, ⟨_, rfl, rfl, true, blC45 45, _, rfl, _, _, rfl, rfl, true, dT (by omega), rfl, rfl⟩, fun b H3 hm => ?_⟩
                obtain ⟨rfl, rfl⟩ := hm
                rw [step_dn c3] at e2
                exact ⟨_, rfl, _, _, rfl, rfl, _, _, r - 1, rfl, by dsimp only; omega, e2, rfl⟩
              · refine ⟨fun b H3 => b = false ∧ H3 = H2, ⟨_, rfl, rfl, true, blC45 45, _, rfl, _, _, rfl, rfl, false, dF (by omega), rfl, rfl⟩, fun b H3 hm => ?_⟩
                obtain ⟨rfl, rfl⟩ := hm
                rw [step_no c1 (fun x => c3 x.2)] at e2
                rw [dead e2] at q
                exact q
            · refine ⟨fun b H3 => b = false ∧ H3 = H2, ⟨_, rfl, rfl, false, (blC45 c).trans (congrArg V.bl (decide_eq_false c2)), rfl, rfl⟩, fun b H3 hm => ?_⟩
              obtain ⟨rfl, rfl⟩ := hm
              rw [step_no c1 (fun x => c2 x.1)] at e2
              rw [dead e2] at q
              exact q
        · obtain ⟨y, rn, r, rfl, rfl, hs, rfl⟩ := h
          rw [List.take_of_length_le (by rw [Array.length_toList]; exact Nat.le_refl _)] at hs
          refine ⟨_, rfl, rfl, _, _, rfl, rfl, _, _, rfl, rfl, ?_⟩
          rw [tcount_P]
          dsimp only
          have e : shapeD (.str z) = decide (((z.cps.toList.count 43 : Nat) : Int) ≤ 100) := by
            show ((scanL z.cps.toList).isSome && decide (z.cps.toList.count 43 ≤ 100)) = _
            rw [hs]
            by_cases h : z.cps.toList.count 43 ≤ 100
            · rw [decide_eq_true h, decide_eq_true (show ((z.cps.toList.count 43 : Nat) : Int) ≤ 100 by omega)]
              rfl
            · rw [decide_eq_false h, decide_eq_false (show ¬ ((z.cps.toList.count 43 : Nat) : Int) ≤ 100 by omega)]
              rfl
          rw [e] at q
          exact q
      | non => cases hs
      | bl b => cases hs
      | int i => cases hs
      | lst _ _ => cases hs
      | tup _ _ => cases hs
      | dct _ => cases hs
    · have hs' : isS d = false := Bool.eq_false_iff.mpr hs
      refine ⟨_, rfl, _, _, _, _, _, rfl, .ty _, hv.tyx, kit_str d, _, rfl, ?_⟩
      rw [hs']
      have e : shapeD d = false := by cases d <;> first | rfl | cases hs'
      rw [e] at q
      exact iteT q
end
section
variable {P : Program} {w : World} {K : PySem.W.Frag} {mg : Str → Option Value} {base : Heap} {E : Nat → Addr}
/-! ### shapes that are none -/
def spBadS (K : PySem.W.Frag) (E : Nat → Addr) : Sp := fun vs H Q X => ∃ (v : V) (d : PyData), vs = [v] ∧ Ox K H v d ∧ shapeD d = false ∧ X (.ref (E 9)) none H
theorem ok_check_shape_B {f : Addr} {fd : FuncData} (F : Fun K "_check_shape" "_check_shape" s_check_shape f fd) (R : Err K mg E) (T_is_shape : Cal P w K mg base 1 "is_shape" (spIsShapeA K)) : FnOk P w K mg base (L2N.CX P w) 2 f fd ["shape"] (spBadS K E) := by
  refine F.okN sc_check_shape (fun vs H Q E h => ?_) (fun cdv A outer s H vs Q E_ hr h => ?_)
  · obtain ⟨v, d, rfl, _⟩ := h
    rfl
  · obtain ⟨v, d, rfl, hv, hs, x⟩ := h
    refine ⟨_, (pss_one (ps_if (pt_not (pt_val (pe_c T_is_shape hr (by decide) (by rfl) (pa_cons (pv 0) pa_nil)))) (pss_one (L2N.ps_raise rfl (L2N.takes_of rfl rfl rfl rfl) (L2N.pmk_own PySem.F.excBase_ValueError R.x9 R.c9 R.k9 (raises_own (R.b 9 (by decide)) (R.t 9 (by decide))) rfl))) pss_nil)), ?_⟩
    refine ⟨_, rfl, v, d, rfl, hv, _, rfl, ?_⟩
    rw [hs]
    exact iteT x
theorem ok_count_in_shape_B {f : Addr} {fd : FuncData} (F : Fun K "count_in_shape" "count_in_shape" s_count_in_shape f fd) (T_check_shape : CalN P w K mg base 2 "_check_shape" (SpOr spCheckS (spBadS K E))) : FnOk P w K mg base (L2N.CX P w) 3 f fd ["shape"] (spBadS K E) := by
  refine F.okN sc_count_in_shape (fun vs H Q E h => ?_) (fun cdv A outer s H vs Q E_ hr h => ?_)
  · obtain ⟨v, d, rfl, _⟩ := h
    rfl
  · obtain ⟨v, d, rfl, hv, hs, x⟩ := h
    refine ⟨_, (pss_cons (ps_expr (pe_cn T_check_shape hr (by decide) (L2N.takes_of rfl rfl rfl rfl) (by rfl) (pa_cons (pv 0) pa_nil))) (pss_cons ps_never (pss_cons ps_never (pss_one ps_never)))), ?_⟩
    exact ⟨_, rfl, .inr ⟨v, d, rfl, hv, hs, x⟩⟩
/-! ### numbers that are none -/
def spBadN (K : PySem.W.Frag) (E : Nat → Addr) : Sp := fun vs H Q X => ∃ (v : V) (d : PyData) (lo hi : Int), vs = [v, .int lo, .int hi] ∧ Ox K H v d ∧ numB lo hi d = false ∧ X (.ref (E 4)) none H
theorem ok_check_number_B {f : Addr} {fd : FuncData} (F : Fun K "check_number" "check_number" s_check_number f fd) (R : Err K mg E) (T_is_integer_within : Cal P w K mg base 2 "is_integer_within" (spWithinO K)) : FnOk P w K mg base (L2N.CX P w) 3 f fd ["value", "least", "greatest"] (spBadN K E) := by
  refine F.okN sc_check_number (fun vs H Q E h => ?_) (fun cdv A outer s H vs Q E_ hr h => ?_)
  · obtain ⟨v, d, lo, hi, rfl, _⟩ := h
    rfl
  · obtain ⟨v, d, lo, hi, rfl, hv, hs, x⟩ := h
    refine ⟨_, (pss_one (ps_if (pt_not (pt_val (pe_c T_is_integer_within hr (by decide) (by rfl) (pa_cons (pv 0) (pa_cons (pv 1) (pa_cons (pv 2) pa_nil)))))) (pss_one (L2N.ps_raise rfl (L2N.takes_of rfl rfl rfl rfl) (L2N.pmk_own PySem.F.excBase_ValueError R.x4 R.c4 R.k4 (raises_own (R.b 4 (by decide)) (R.t 4 (by decide))) rfl))) pss_nil)), ?_⟩
    refine ⟨_, rfl, _, rfl, _, rfl, v, d, lo, hi, rfl, hv, _, rfl, ?_⟩
    rw [hs]
    exact iteT x
def spBadI (K : PySem.W.Frag) (E : Nat → Addr) : Sp := fun vs H Q X => ∃ (v : V) (d : PyData) (c : Int), vs = [v, .int c] ∧ Ox K H v d ∧ numB 0 (c - 1) d = false ∧ X (.ref (E 4)) none H
theorem ok_check_index_B {f : Addr} {fd : FuncData} (F : Fun K "check_index" "check_index" s_check_index f fd) (T_check_number : CalN P w K mg base 3 "check_number" (SpOr spCheckN (spBadN K E))) : FnOk P w K mg base (L2N.CX P w) 4 f fd ["index", "count"] (spBadI K E) := by
  refine F.okN sc_check_index (fun vs H Q E h => ?_) (fun cdv A outer s H vs Q E_ hr h => ?_)
  · obtain ⟨v, d, c, rfl, _⟩ := h
    rfl
  · obtain ⟨v, d, c, rfl, hv, hs, x⟩ := h
    refine ⟨_, (pss_one (ps_expr (pe_cn T_check_number hr (by decide) (L2N.takes_of rfl rfl rfl rfl) (by rfl) (pa_cons (pv 0) (pa_cons pe_int (pa_cons (pe_op op_sub (pv 1) pe_int) pa_nil)))))), ?_⟩
    exact ⟨_, rfl, _, rfl, _, _, rfl, rfl, .inr ⟨v, d, 0, c - 1, rfl, hv, hs, x⟩⟩
/-! ### count_survivors, nth_in_shape -/
def spBadSN (K : PySem.W.Frag) (E : Nat → Addr) (top : List Bool → Int) : Sp := fun vs H Q X => ∃ (v u : V), vs = [v, u] ∧ ((∃ d, Ox K H v d ∧ shapeD d = false ∧ ∀ H', Same H H' → X (.ref (E 9)) none H') ∨ (∃ bs d, v = .str (sgS bs) ∧ SgOk bs ∧ upsN bs ≤ 100 ∧ Ox K H u d ∧ numB 0 (top bs) d = false ∧ ∀ H', Same H H' → X (.ref (E 4)) none H'))
theorem ok_count_survivors_B {f : Addr} {fd : FuncData} (F : Fun K "count_survivors" "count_survivors" s_count_survivors f fd) (T_check_shape : CalN P w K mg base 2 "_check_shape" (SpOr spCheckS (spBadS K E))) (T_check_number : CalN P w K mg base 3 "check_number" (SpOr spCheckN (spBadN K E))) : FnOk P w K mg base (L2N.CX P w) 4 f fd ["shape", "survivor"] (spBadSN K E fun bs => ((upsN bs : Nat) : Int)) := by
  refine F.okN sc_count_survivors (fun vs H Q E h => ?_) (fun cdv A outer s H vs Q E_ hr h => ?_)
  · obtain ⟨v, u, rfl, _⟩ := h
    rfl
  · obtain ⟨v, u, rfl, h⟩ := h
    refine ⟨_, (pss_cons (ps_expr (pe_cn T_check_shape hr (by decide) (L2N.takes_of rfl rfl rfl rfl) (by rfl) (pa_cons (pv 0) pa_nil))) (pss_cons (ps_expr (pe_cn T_check_number hr (by decide) (L2N.takes_of rfl rfl rfl rfl) (by rfl) (pa_cons (pv 1) (pa_cons pe_int (pa_cons (pe_bm PySem.F.plainAttrs_str PySem.F.slot_str_count PySem.F.type_str_count mt_count (pv 0) (pa_cons pe_str pa_nil)) pa_nil))))) (pss_cons ps_never (pss_cons ps_never (pss_cons ps_never (pss_one ps_never)))))), ?_⟩
    rcases h with ⟨d, hv, hs, x⟩ | ⟨bs, d, rfl, ok, u1, hu, hs, x⟩
    · exact ⟨_, rfl, .inr ⟨v, d, rfl, hv, hs, x _ (.refl _)⟩⟩
    · refine ⟨_, rfl, .inl ⟨bs, rfl, ok, u1, ?_⟩⟩
      refine ⟨_, rfl, _, rfl, rfl, _, _, rfl, rfl, ?_⟩
      rw [count_P]
      exact .inr ⟨u, d, 0, _, rfl, hu, hs, x _ (.refl _)⟩
theorem ok_nth_in_shape_B {f : Addr} {fd : FuncData} (F : Fun K "nth_in_shape" "nth_in_shape" s_nth_in_shape f fd) (T_z_divmod : mg "divmod" = none) (B : NoB mg) (T_count_in_shape : CalN P w K mg base 3 "count_in_shape" (SpOr spCount (spBadS K E))) (T_check_index : CalN P w K mg base 4 "check_index" (SpOr spCI (spBadI K E))) : FnOk P w K mg base (L2N.CX P w) 5 f fd ["shape", "index"] (spBadSN K E fun bs => ((waysN bs : Nat) : Int) - 1) := by
  refine F.okN sc_nth_in_shape (fun vs H Q E h => ?_) (fun cdv A outer s H vs Q E_ hr h => ?_)
  · obtain ⟨v, u, rfl, _⟩ := h
    rfl
  · obtain ⟨v, u, rfl, h⟩ := h
    refine ⟨_, (pss_cons (ps_set (i := 2) sc_nth_in_shape.nd rfl (Or.inl rfl) (pe_cn T_count_in_shape hr (by decide) (L2N.takes_of rfl rfl rfl rfl) (by rfl) (pa_cons (pv 0) pa_nil))) (pss_cons (ps_expr (pe_cn T_check_index hr (by decide) (L2N.takes_of rfl rfl rfl rfl) (by rfl) (pa_cons (pv 1) (pa_cons (pv 2) pa_nil)))) (pss_cons ps_never (pss_cons ps_never (pss_one ps_never))))), ?_⟩
    rcases h with ⟨d, hv, hs, x⟩ | ⟨bs, d, rfl, ok, u1, hu, hs, x⟩
    · exact ⟨_, rfl, .inr ⟨v, d, rfl, hv, hs, x _ (.refl _)⟩⟩
    · refine ⟨_, rfl, .inl ⟨bs, rfl, ok, u1, fun H1 s1 => ?_⟩⟩
      exact ⟨_, rfl, _, rfl, .inr ⟨u, d, _, rfl, ox_same s1 hu, hs, x _ s1⟩⟩
/-! ### shape_of, is_plain, shape_rank -/
def spBadH (K : PySem.W.Frag) (E : Nat → Addr) : Sp := fun vs H Q X => ∃ (v : V) (d : PyData), vs = [v] ∧ Ox K H v d ∧ wt d ≤ 190000 ∧ ¬ HistD d ∧ ∀ H', Same H H' → X (.ref (E 3)) none H'
theorem ok_shape_of_B {f : Addr} {fd : FuncData} (F : Fun K "shape_of" "shape_of" s_shape_of f fd) (T_check_history : CalN P w K mg base 6 "check_history" (spCheckX K E)) : FnOk P w K mg base (L2N.CX P w) 7 f fd ["history"] (spBadH K E) := by
  refine F.okN sc_shape_of (fun vs H Q E h => ?_) (fun cdv A outer s H vs Q E_ hr h => ?_)
  · obtain ⟨v, d, rfl, _⟩ := h
    rfl
  · obtain ⟨v, d, rfl, hv, hw, nh, x⟩ := h
    refine ⟨_, (pss_cons (ps_expr (pe_cn T_check_history hr (by decide) (L2N.takes_of rfl rfl rfl rfl) (by rfl) (pa_cons (pv 0) pa_nil)))
        (pss_one (ps_ret (pe_join pe_str (pe_lc (own := [("event", 1)]) (g := gName 1) (tt := tYes) rfl sc_shape_of.nd (pi_list (pv 0)) (blkOk_by (own := [("event", 1)]) (N := N_shape_of) (sc := defScope s_shape_of) (by decide +kernel)) (fun _ _ _ _ _ => (pg_name (i := 1) sc_shape_of.nd rfl (Or.inl rfl))) (fun _ _ _ _ _ => pts_nil) (fun _ _ _ _ _ => (pe_ifExp (pt_cmpR op_gt (pv 1) pe_int (nomark _)) pe_str pe_str))))))), ?_⟩
    exact ⟨_, rfl, v, d, rfl, hv, hw, fun h => absurd h nh, fun _ => x⟩
theorem ok_is_plain_B {f : Addr} {fd : FuncData} (F : Fun K "is_plain" "is_plain" s_is_plain f fd) (B : NoB mg) (T_check_history : CalN P w K mg base 6 "check_history" (spCheckX K E)) (T_starts_of : Cal P w K mg base 1 "starts_of" (spStarts K)) : FnOk P w K mg base (L2N.CX P w) 7 f fd ["history"] (spBadH K E) := by
  refine F.okN sc_is_plain (fun vs H Q E h => ?_) (fun cdv A outer s H vs Q E_ hr h => ?_)
  · obtain ⟨v, d, rfl, _⟩ := h
    rfl
  · obtain ⟨v, d, rfl, hv, hw, nh, x⟩ := h
    have hu64 := hr.units
    refine ⟨_, (pss_cons (ps_expr (pe_cn T_check_history hr (by decide) (L2N.takes_of rfl rfl rfl rfl) (by rfl) (pa_cons (pv 0) pa_nil)))
        (pss_cons (ps_set (i := 1) sc_is_plain.nd rfl (Or.inl rfl) (pe_c T_starts_of hr (by decide) (by rfl) (pa_cons (pv 0) pa_nil)))
        (pss_one (ps_ret (pe_cmpR (op_eqD hu64) (pv 1) (pe_listRg rfl (by rfl) B.list (prg_2 (by rfl) B.range pe_int (pe_op op_add (pe_callB call_len_seq (by rfl) B.len PySem.boot_len (pa_cons (pv 1) pa_nil)) pe_int))) (nomark _)))))), ?_⟩
    exact ⟨_, rfl, v, d, rfl, hv, hw, fun h => absurd h nh, fun _ => x⟩
/-- a history that is not plain, or none -/
def spBadR (K : PySem.W.Frag) (E : Nat → Addr) : Sp := fun vs H Q X => ∃ (v : V) (d : PyData), vs = [v] ∧ Ox K H v d ∧ wt d ≤ 190000 ∧ (¬ HistD d ∨ ∃ ns, d = dI ns ∧ Hist ns ∧ stL ns ≠ upL (stL ns).length) ∧ ∀ H', Same H H' → X (.ref (E 3)) none H'
theorem ok_shape_rank_B {f : Addr} {fd : FuncData} (F : Fun K "shape_rank" "shape_rank" s_shape_rank f fd) (B : NoB mg) (R : Err K mg E) (T_is_plain : CalN P w K mg base 7 "is_plain" (SpOr (spPlain K) (spBadH K E))) : FnOk P w K mg base (L2N.CX P w) 8 f fd ["history"] (spBadR K E) := by
  refine F.okN sc_shape_rank (fun vs H Q E h => ?_) (fun cdv A outer s H vs Q E_ hr h => ?_)
  · obtain ⟨v, d, rfl, _⟩ := h
    rfl
  · obtain ⟨v, d, rfl, hv, hw, hn, x⟩ := h
    refine ⟨_, (pss_cons (ps_if (pt_not (pt_val (pe_cn T_is_plain hr (by decide) (L2N.takes_of rfl rfl rfl rfl) (by rfl) (pa_cons (pv 0) pa_nil)))) (pss_one (L2N.ps_raise rfl (L2N.takes_of rfl rfl rfl rfl) (L2N.pmk_own PySem.F.excBase_ValueError R.x3 R.c3 R.k3 (raises_own (R.b 3 (by decide)) (R.t 3 (by decide))) rfl))) pss_nil) (pss_cons ps_never (pss_cons ps_never (pss_one ps_never)))), ?_⟩
    rcases hn with nh | ⟨ns, rfl, hh, np⟩
    · exact ⟨_, rfl, .inr ⟨v, d, rfl, hv, hw, nh, x⟩⟩
    · obtain ⟨a, rfl, hS⟩ := ox_ints_inv hv
      refine ⟨_, rfl, .inl ⟨a, ns, rfl, hS, hh, fun H1 s1 => ⟨_, rfl, ?_⟩⟩⟩
      rw [decide_eq_false np]
      exact iteT (x _ s1)
end
end L59
set_option Elab.async false
set_option linter.all false
set_option maxRecDepth 100000
namespace L59
open PySem PySem.Spec PyProof.Rows L2 Lp
/-! ### _law_said -/
theorem kitAny_nil {K : PySem.W.Frag} {c : Value} : PySem.W.kitAny K c [] = some false := by simp [PySem.W.kitAny]
theorem kitAny_cons {K : PySem.W.Frag} {c u : Value} {us : List Value} (h : PySem.W.kitOne K c u = some false) (g : PySem.W.kitAny K c us = some false) : PySem.W.kitAny K c (u :: us) = some false := by simp [PySem.W.kitAny, h, g]
theorem boot_ValueError : bootBuiltins "ValueError" = some (.type "ValueError") := by decide +kernel
/-- the word of an error -/
def wdE (d : Nat) : Str := if d = 3 then "history" else if d = 9 then "shape" else "number"
section
variable {P : Program} {w : World} {K : PySem.W.Frag} {mg : Str → Option Value} {base : Heap} {E : Nat → Addr}
theorem Err.no (R : Err K mg E) {d j : Nat} (hd : d ≤ 17) (hj : j < 17) (ne : j ≠ d) : PySem.W.kitOne K (.ref (E d)) (.ref (E j)) = some false := by
  rw [R.kit d j hd hj, decide_eq_false ne]
def spSaidE (K : PySem.W.Frag) (E : Nat → Addr) : Addr × Obj → Sp := fun pr vs H Q _ => ∃ (d : Nat), vs = [.ref pr.1] ∧ (d = 3 ∨ d = 4 ∨ d = 9) ∧ Zc (.ref (E d)) none pr.2 ∧ (∃ vs, pr.2.data = .fields vs) ∧ ∀ H', Same H H' → Q (.str (wdE d)) H'
def saidL (d : Nat) : List (Str × Bool) := [("history", decide (3 = d)), ("shape", decide (9 = d)), ("number", decide (4 = d))]
theorem ok_law_said {f : Addr} {fd : FuncData} (F : Fun K "_law_said" "_law_said" s_law_said f fd) (B : NoB mg) (R : Err K mg E) (T_z_ValueError : mg "ValueError" = none) : FnE2 P w K mg base 1 f fd ["e"] (spSaidE K E) := by
  refine okE2 F sc_law_said (fun pr vs H Q E h => ?_) (fun cdv pr A outer s H vs Q E_ hot hr h => ?_)
  · obtain ⟨d, rfl, _⟩ := h
    rfl
  · obtain ⟨d, rfl, hd, hz, hf, q⟩ := h
    refine ⟨_, (pss_cons (ps_set (i := 1) sc_law_said.nd rfl (Or.inl rfl) (pe_lst (pa_cons (pe_tup (pa_cons pe_str (pa_cons (pe_callB (call_isP List.mem_cons_self) (by rfl) B.isinstance (by decide +kernel) (pa_cons (pv 0) (pa_cons (pe_glob (v := .ref (E 3)) (by rfl) R.c3 rfl) pa_nil))) pa_nil))) (pa_cons (pe_tup (pa_cons pe_str (pa_cons (pe_callB (call_isP List.mem_cons_self) (by rfl) B.isinstance (by decide +kernel) (pa_cons (pv 0) (pa_cons (pe_glob (v := .ref (E 9)) (by rfl) R.c9 rfl) pa_nil))) pa_nil))) pa_nil))))
        (pss_cons (ps_expr (pe_bm PySem.F.plainAttrs_list PySem.F.slot_list_append PySem.F.type_list_append mt_append (pv 1) (pa_cons (pe_tup (pa_cons pe_str (pa_cons (pe_callB (call_isP List.mem_cons_self) (by rfl) B.isinstance (by decide +kernel) (pa_cons (pv 0) (pa_cons (pe_glob (v := .ref (E 4)) (by rfl) R.c4 rfl) pa_nil))) pa_nil))) pa_nil)))
        (pss_cons (ps_setLcH (i := 2) (own := [("name", 4), ("holds", 5)]) (g := _) (tt := _) hot sc_law_said.nd rfl rfl (sw_true rfl rfl rfl (by decide +kernel)) (pi_listH (K := K) rfl (pv 1)) (blkOk_by (own := [("name", 4), ("holds", 5)]) (N := N_law_said) (sc := defScope s_law_said) (by decide +kernel)) (fun _ _ _ _ _ => (pg_tupH (K := K) (n := 2) rfl hot (pgs_cons (pg_name (i := 4) sc_law_said.nd rfl (Or.inl rfl)) (pgs_cons (pg_name (i := 5) sc_law_said.nd rfl (Or.inl rfl)) pgs_nil)))) (fun _ _ _ _ _ => (pts_one (pt_val (pv 5)))) (fun _ _ _ _ _ => (pv 4)))
        (pss_cons (ps_set (i := 3) sc_law_said.nd rfl (Or.inl rfl) (pe_callB (call_isPT List.mem_cons_self) (by rfl) B.isinstance (by decide +kernel) (pa_cons (pv 0) (pa_cons (pe_tup (pa_cons (pe_glob (v := .ref (E 0)) (by rfl) R.c0 rfl) (pa_cons (pe_glob (v := .ref (E 1)) (by rfl) R.c1 rfl) (pa_cons (pe_glob (v := .ref (E 2)) (by rfl) R.c2 rfl) (pa_cons (pe_glob (v := .ref (E 5)) (by rfl) R.c5 rfl) (pa_cons (pe_glob (v := .ref (E 6)) (by rfl) R.c6 rfl) pa_nil)))))) pa_nil))))
        (pss_cons (ps_set (i := 3) sc_law_said.nd rfl (Or.inl rfl) (pe_or (pv 3) (pe_one (pe_callB (call_isPT List.mem_cons_self) (by rfl) B.isinstance (by decide +kernel) (pa_cons (pv 0) (pa_cons (pe_tup (pa_cons (pe_glob (v := .ref (E 7)) (by rfl) R.c7 rfl) (pa_cons (pe_glob (v := .ref (E 8)) (by rfl) R.c8 rfl) (pa_cons (pe_glob (v := .ref (E 10)) (by rfl) R.c10 rfl) (pa_cons (pe_glob (v := .ref (E 11)) (by rfl) R.c11 rfl) pa_nil))))) pa_nil))))))
        (pss_cons (ps_set (i := 3) sc_law_said.nd rfl (Or.inl rfl) (pe_or (pv 3) (pe_one (pe_callB (call_isPT List.mem_cons_self) (by rfl) B.isinstance (by decide +kernel) (pa_cons (pv 0) (pa_cons (pe_tup (pa_cons (pe_glob (v := .ref (E 12)) (by rfl) R.c12 rfl) (pa_cons (pe_glob (v := .ref (E 13)) (by rfl) R.c13 rfl) (pa_cons (pe_glob (v := .ref (E 14)) (by rfl) R.c14 rfl) (pa_cons (pe_glob (v := .ref (E 15)) (by rfl) R.c15 rfl) (pa_cons (pe_glob (v := .ref (E 16)) (by rfl) R.c16 rfl) pa_nil)))))) pa_nil))))))
        (pss_one (ps_ret (pe_ifExp (PW.pt (pw_or (pt_val (pv 3)) (pw_or (pt_not (pt_val (pe_callB (call_isP List.mem_cons_self) (by rfl) B.isinstance (by decide +kernel) (pa_cons (pv 0) (pa_cons (pe_bltn (v := .ty "ValueError") (by rfl) T_z_ValueError boot_ValueError rfl) pa_nil))))) (pw_or1 (pt_cmpR op_ne (pe_callB call_len_seq (by rfl) B.len PySem.boot_len (pa_cons (pv 2) pa_nil)) pe_int (nomark _)))))) pe_str (pe_ix ix_list (pv 2) pe_int (fun _ _ => rfl))))))))))), ?_⟩
    have d17 : d ≤ 17 := by omega
    have ec := R.ec d d17
    have no : ∀ j : Nat, j < 17 → j ≠ 3 → j ≠ 4 → j ≠ 9 → PySem.W.kitOne K (.ref (E d)) (.ref (E j)) = some false := fun j hj h2 h3 h4 => R.no d17 hj (by omega)
    refine ⟨_, rfl, E d, _, _, _, rfl, hz, hf, ec, fun u h => h, R.kit d 3 d17 (by decide), by show 2 ≤ sizeLine; decide, fun t1 n1 => ?_⟩
    have s1 := same_new (o := .tup [V.str "history", .bl (decide (3 = d))]) n1
    have h1 : (upd H t1 (.tup [V.str "history", .bl (decide (3 = d))])) t1 = some (.tup [.str "history", .bl (decide (3 = d))]) := upd_same
    generalize upd H t1 (.tup [V.str "history", .bl (decide (3 = d))]) = H1 at s1 h1 ⊢
    refine ⟨_, rfl, E d, _, _, _, rfl, hz, hf, ec, fun u h => h, R.kit d 9 d17 (by decide), by show 2 ≤ sizeLine; decide, fun t2 n2 => ?_⟩
    have s2 := same_new (o := .tup [V.str "shape", .bl (decide (9 = d))]) n2
    have h2 : (upd H1 t2 (.tup [V.str "shape", .bl (decide (9 = d))])) t2 = some (.tup [.str "shape", .bl (decide (9 = d))]) := upd_same
    have h12 := s2 _ _ h1
    have s12 := s1.trans s2
    generalize upd H1 t2 (.tup [V.str "shape", .bl (decide (9 = d))]) = H2 at s12 h2 h12 ⊢
    refine ⟨by show 2 ≤ sizeLine; decide, fun p np => ?_⟩
    have sp := same_new (o := .lst [V.ref t1, .ref t2]) np
    have h1p := sp _ _ h12
    have h2p := sp _ _ h2
    have hp : (upd H2 p (.lst [V.ref t1, .ref t2])) p = some (.lst [.ref t1, .ref t2]) := upd_same
    have s1p := s12.trans sp
    have np0 := s12.free np
    generalize upd H2 p (.lst [V.ref t1, .ref t2]) = H3 at s1p h1p h2p hp ⊢
    refine ⟨_, rfl, .inl ⟨rfl, _, .of hp⟩, _, rfl, E d, _, _, _, rfl, hz, hf, ec, fun u h => h, R.kit d 4 d17 (by decide), by show 2 ≤ sizeLine; decide, fun t3 n3 => ?_⟩
    have s3 := same_new (o := .tup [V.str "number", .bl (decide (4 = d))]) n3
    have h3 : (upd H3 t3 (.tup [V.str "number", .bl (decide (4 = d))])) t3 = some (.tup [.str "number", .bl (decide (4 = d))]) := upd_same
    have h13 := s3 _ _ h1p
    have h23 := s3 _ _ h2p
    have hp3 := s3 _ _ hp
    have s13 := s1p.trans s3
    generalize upd H3 t3 (.tup [V.str "number", .bl (decide (4 = d))]) = H4 at s13 h13 h23 h3 hp3 ⊢
    have npe : ∀ (t : Addr) (l : List V), H4 t = some (.tup l) → t ≠ p := fun t l e z => by rw [z, hp3] at e; cases e
    refine ⟨p, _, _, rfl, rfl, hp3, by show 2 < sizeLine; decide, ?_⟩
    have g1 : (upd H4 p (.lst ([V.ref t1, .ref t2] ++ [.ref t3]))) t1 = some (.tup [.str "history", .bl (decide (3 = d))]) := by rw [upd_ne (npe _ _ h13)]; exact h13
    have g2 : (upd H4 p (.lst ([V.ref t1, .ref t2] ++ [.ref t3]))) t2 = some (.tup [.str "shape", .bl (decide (9 = d))]) := by rw [upd_ne (npe _ _ h23)]; exact h23
    have g3 : (upd H4 p (.lst ([V.ref t1, .ref t2] ++ [.ref t3]))) t3 = some (.tup [.str "number", .bl (decide (4 = d))]) := by rw [upd_ne (npe _ _ h3)]; exact h3
    have gp : (upd H4 p (.lst ([V.ref t1, .ref t2] ++ [.ref t3]))) p = some (.lst [.ref t1, .ref t2, .ref t3]) := upd_same
    have s5 : Same H (upd H4 p (.lst ([V.ref t1, .ref t2] ++ [.ref t3]))) := Lp.Same.mut s13 np0
    generalize upd H4 p (.lst ([V.ref t1, .ref t2] ++ [.ref t3])) = H5 at s5 g1 g2 g3 gp ⊢
    refine ⟨_, rfl, p, rfl, ⟨_, .of gp⟩, fun D nD => lc_list (xs := [V.ref t1, .ref t2, .ref t3]) (LcP H5 D fun i => (((saidL d).take i).filter (·.2)).map fun x => V.str x.1) (.init nD rfl) (fun i H' _ p' => .of (p'.2.1 _ _ gp)) (fun i x H' hx p' => ?_) (fun H6 p6 => ?_)⟩
    · match i, hx with
      | 0, hx =>
        cases hx
        refine ⟨t1, _, rfl, .of (p'.2.1 _ _ g1), rfl, _, _, rfl, _, _, rfl, rfl, rfl, _, rfl, _, rfl, ?_⟩
        rcases hd with rfl | rfl | rfl
        · exact iteT ⟨_, rfl, p'.put (.refl _) rfl (by decide)⟩
        · exact iteF (p'.skip (.refl _) rfl)
        · exact iteF (p'.skip (.refl _) rfl)
      | 1, hx =>
        cases hx
        refine ⟨t2, _, rfl, .of (p'.2.1 _ _ g2), rfl, _, _, rfl, _, _, rfl, rfl, rfl, _, rfl, _, rfl, ?_⟩
        rcases hd with rfl | rfl | rfl
        · exact iteF (p'.skip (.refl _) rfl)
        · exact iteF (p'.skip (.refl _) rfl)
        · exact iteT ⟨_, rfl, p'.put (.refl _) rfl (by decide)⟩
      | 2, hx =>
        cases hx
        refine ⟨t3, _, rfl, .of (p'.2.1 _ _ g3), rfl, _, _, rfl, _, _, rfl, rfl, rfl, _, rfl, _, rfl, ?_⟩
        rcases hd with rfl | rfl | rfl
        · exact iteF (p'.skip (.refl _) rfl)
        · exact iteT ⟨_, rfl, p'.put (.refl _) rfl (by decide)⟩
        · exact iteF (p'.skip (.refl _) rfl)
      | i + 3, hx => cases hx
    · have hD6 : H6 D = some (.lst ([wdE d].map V.str)) := by
        rw [p6.2.2]
        rcases hd with rfl | rfl | rfl <;> rfl
      have s6 := s5.trans p6.2.1
      have k4 : ∀ a b c e : Nat, a < 17 ∧ a ≠ 3 ∧ a ≠ 4 ∧ a ≠ 9 → b < 17 ∧ b ≠ 3 ∧ b ≠ 4 ∧ b ≠ 9 → c < 17 ∧ c ≠ 3 ∧ c ≠ 4 ∧ c ≠ 9 → e < 17 ∧ e ≠ 3 ∧ e ≠ 4 ∧ e ≠ 9 → PySem.W.kitAny K (.ref (E d)) [.ref (E a), .ref (E b), .ref (E c), .ref (E e)] = some false := fun a b c e ha hb hc he =>
        kitAny_cons (no a ha.1 ha.2.1 ha.2.2.1 ha.2.2.2) (kitAny_cons (no b hb.1 hb.2.1 hb.2.2.1 hb.2.2.2) (kitAny_cons (no c hc.1 hc.2.1 hc.2.2.1 hc.2.2.2) (kitAny_cons (no e he.1 he.2.1 he.2.2.1 he.2.2.2) kitAny_nil)))
      have c4 : ∀ a b c e : Nat, Paired ClsV [V.ref (E a), .ref (E b), .ref (E c), .ref (E e)] [Value.ref (E a), .ref (E b), .ref (E c), .ref (E e)] := fun a b c e => .cons (.own _) (.cons (.own _) (.cons (.own _) (.cons (.own _) .nil)))
      refine ⟨_, rfl, by show 5 ≤ sizeLine; decide, fun u1 m1 => ⟨E d, u1, _, _, false, rfl, upd_same, .cons (.own _) (c4 1 2 5 6), hz, hf, ec, kitAny_cons (no 0 (by decide) (by decide) (by decide) (by decide)) (k4 1 2 5 6 (by decide) (by decide) (by decide) (by decide)), ?_⟩⟩
      have s7 := s6.trans (same_new (o := .tup [V.ref (E 0), .ref (E 1), .ref (E 2), .ref (E 5), .ref (E 6)]) m1)
      have hD7 := same_new (o := .tup [V.ref (E 0), .ref (E 1), .ref (E 2), .ref (E 5), .ref (E 6)]) m1 _ _ hD6
      generalize upd H6 u1 (.tup [V.ref (E 0), .ref (E 1), .ref (E 2), .ref (E 5), .ref (E 6)]) = H7 at s7 hD7 ⊢
      refine ⟨_, rfl, false, rfl, iteF ?_⟩
      refine ⟨_, rfl, by show 4 ≤ sizeLine; decide, fun u2 m2 => ⟨E d, u2, _, _, false, rfl, upd_same, c4 7 8 10 11, hz, hf, ec, k4 7 8 10 11 (by decide) (by decide) (by decide) (by decide), ?_⟩⟩
      have s8 := s7.trans (same_new (o := .tup [V.ref (E 7), .ref (E 8), .ref (E 10), .ref (E 11)]) m2)
      have hD8 := same_new (o := .tup [V.ref (E 7), .ref (E 8), .ref (E 10), .ref (E 11)]) m2 _ _ hD7
      generalize upd H7 u2 (.tup [V.ref (E 7), .ref (E 8), .ref (E 10), .ref (E 11)]) = H8 at s8 hD8 ⊢
      refine ⟨_, rfl, false, rfl, iteF ?_⟩
      refine ⟨_, rfl, by show 5 ≤ sizeLine; decide, fun u3 m3 => ⟨E d, u3, _, _, false, rfl, upd_same, .cons (.own _) (c4 13 14 15 16), hz, hf, ec, kitAny_cons (no 12 (by decide) (by decide) (by decide) (by decide)) (k4 13 14 15 16 (by decide) (by decide) (by decide) (by decide)), ?_⟩⟩
      have s9 := s8.trans (same_new (o := .tup [V.ref (E 12), .ref (E 13), .ref (E 14), .ref (E 15), .ref (E 16)]) m3)
      have hD9 := same_new (o := .tup [V.ref (E 12), .ref (E 13), .ref (E 14), .ref (E 15), .ref (E 16)]) m3 _ _ hD8
      generalize upd H8 u3 (.tup [V.ref (E 12), .ref (E 13), .ref (E 14), .ref (E 15), .ref (E 16)]) = H9 at s9 hD9 ⊢
      refine ⟨_, rfl, false, rfl, iteF ?_⟩
      refine ⟨_, rfl, E d, _, _, true, rfl, hz, hf, ec, (fun u h => h), R.kitV d (by omega), true, rfl, iteF ?_⟩
      refine ⟨_, rfl, D, _, rfl, .inl (.of hD9), rfl, false, ?_, iteF ?_⟩
      · rfl
      · exact ⟨_, rfl, D, _, _, _, rfl, rfl, .of hD9, rfl, q _ s9⟩
end
end L59
set_option Elab.async false
set_option linter.all false
set_option maxRecDepth 100000
namespace L59
open PySem PySem.Spec PyProof.Rows L2 Lp
/-! ### _law_told -/
def Told (k : Int) (d e : PyData) (r : Str) : Prop :=
  (shapeD d = false ∧ (k = 0 ∨ k = 1 ∨ k = 2 ∨ k = 3) ∧ r = "shape") ∨
  (∃ bs, d = .str (sgS bs) ∧ SgOk bs ∧ upsN bs ≤ 100 ∧ ((k = 0 ∧ r = "none") ∨
    (k = 1 ∧ ((∃ m : Nat, e = .int (m : Int) ∧ m ≤ upsN bs ∧ r = "none") ∨ (numB 0 ((upsN bs : Nat) : Int) e = false ∧ r = "number"))) ∨
    ((k = 2 ∨ k = 3) ∧ ((∃ m : Nat, e = .int (m : Int) ∧ m < waysN bs ∧ r = "none") ∨ (numB 0 (((waysN bs : Nat) : Int) - 1) e = false ∧ r = "number"))))) ∨
  (wt d ≤ 190000 ∧ ((k = 4 ∧ ((HistD d ∧ r = "none") ∨ (¬ HistD d ∧ r = "history"))) ∨
    (k = 5 ∧ ((∃ ns, d = dI ns ∧ Hist ns ∧ stL ns = upL (stL ns).length ∧ r = "none") ∨ ((¬ HistD d ∨ ∃ ns, d = dI ns ∧ Hist ns ∧ stL ns ≠ upL (stL ns).length) ∧ r = "history")))))
/-- _law_said(e) in the suite, whatever the exception's object -/
def tSd (E : Nat → Addr) (a : Addr) (cls : Value) (d : Option Addr) : TE := fun σ H Q => σ[5]? = some (some (.ref a)) ∧ ∃ i, (i = 3 ∨ i = 4 ∨ i = 9) ∧ cls = .ref (E i) ∧ d = none ∧ ∀ H', Same H H' → Q (.str (wdE i)) H'
section
variable {P : Program} {w : World} {K : PySem.W.Frag} {mg : Str → Option Value} {base : Heap} {E : Nat → Addr}
def spTold (K : PySem.W.Frag) : Sp := fun vs H Q _ => ∃ (k : Int) (v u : V) (d e : PyData) (r : Str), vs = [.int k, v, u] ∧ Ox K H v d ∧ Ox K H u e ∧ Bd 4000000 50 d ∧ Bd 4000000 50 e ∧ Told k d e r ∧ ∀ H', Same H H' → Q (.str r) H'
set_option maxHeartbeats 4000000 in
theorem ok_law_told {f : Addr} {fd : FuncData} (F : Fun K "_law_told" "_law_told" s_law_told f fd) (B : NoB mg) (R : Err K mg E)
    (T0 : CalNk P w K mg base 3 "count_in_shape" 0 ["shape"] gApp (SpOr spCount (spBadS K E))) (T1 : CalN P w K mg base 4 "count_survivors" (SpOr spSurv (spBadSN K E fun bs => ((upsN bs : Nat) : Int))))
    (T2 : CalN P w K mg base 5 "nth_in_shape" (SpOr spNth (spBadSN K E fun bs => ((waysN bs : Nat) : Int) - 1))) (T3 : CalNk P w K mg base 5 "nth_in_shape" 0 ["index", "shape"] gRev (SpOr spNth (spBadSN K E fun bs => ((waysN bs : Nat) : Int) - 1)))
    (T4 : CalNk P w K mg base 7 "shape_of" 0 ["history"] gApp (SpOr (spShapeOf K) (spBadH K E))) (T5 : CalN P w K mg base 8 "shape_rank" (SpOr (spRankA K) (spBadR K E))) (T_law_said : CalE2 P w K mg base 1 "_law_said" (spSaidE K E)) :
    FnG P w K mg base CX0 9 f fd ["door", "one", "number"] (spTold K) := by
  refine okG F sc_law_told (fun vs H Q E h => ?_) (fun cdv A outer s H vs Q E_ hG hr h => ?_)
  · obtain ⟨k, v, u, d, e, r, rfl, _⟩ := h
    rfl
  · obtain ⟨k, v, u, d, e, r, rfl, hv, hu, bv, bu, ho, q⟩ := h
    have hu64 := hr.units
    have bdl : Bd 10000000 60 (.list [d, e]) := (Bd.list (.cons bv (.cons bu .nil))).mono (by decide) (by decide)
    have oxl : ∀ {H1 : Hp} {p : Addr}, Same H H1 → H1 p = none → Ox K (upd H1 p (.lst [v, u])) (.ref p) (.list [d, e]) := fun {H1 p} s1 n1 => by
      have s2 := s1.trans (same_new (o := .lst [v, u]) n1)
      exact .lst (.of upd_same) (.cons (ox_same s2 hv) (.cons (ox_same s2 hu) .nil))
    refine ⟨_, (pss_cons (ps_par (i := 3) (j := 4) (by rfl) sc_law_told.nd rfl rfl (by decide) rfl rfl (pa_cons pe_str (pa_cons (pe_callB (call_reprO hG hu64) (by rfl) B.repr (by decide +kernel) (pa_cons (pe_lst (pa_cons (pv 1) (pa_cons (pv 2) pa_nil))) pa_nil)) pa_nil)) (by rfl))
        (pss_cons (L2N.ps_try_as (i := 5) (c := .ref (E 17)) (Wout := fun _ _ _ _ => False) (tb := _) (ts := fun a cls d => tAsg (tSd E a cls d) (gName 3)) rfl rfl sc_law_told.nd rfl rfl ⟨by rfl, by decide, .inl R.c17⟩ (fun u s' x => by obtain ⟨_, _, _, _, _, _, _, _, _, _, _, _, _, _, _, _, z⟩ := x; exact z.elim)
        (fun W pn xe tk _ => (pss_one (ps_if (pt_cmpR op_eq (pv 0) pe_int (nomark _)) (pss_one (ps_expr (pe_cnk0 T0 hr (by decide) tk (by rfl) (pk_cons (pv 1) pk_nil)))) (pss_one (ps_if (pt_cmpR op_eq (pv 0) pe_int (nomark _)) (pss_one (ps_expr (pe_cn T1 hr (by decide) tk (by rfl) (pa_cons (pv 1) (pa_cons (pv 2) pa_nil))))) (pss_one (ps_if (pt_cmpR op_eq (pv 0) pe_int (nomark _)) (pss_one (ps_expr (pe_cn T2 hr (by decide) tk (by rfl) (pa_cons (pv 1) (pa_cons (pv 2) pa_nil))))) (pss_one (ps_if (pt_cmpR op_eq (pv 0) pe_int (nomark _)) (pss_one (ps_expr (pe_cnk0 T3 hr (by decide) tk (by rfl) (pk_cons (pv 2) (pk_cons (pv 1) pk_nil))))) (pss_one (ps_if (pt_cmpR op_eq (pv 0) pe_int (nomark _)) (pss_one (ps_expr (pe_cnk0 T4 hr (by decide) tk (by rfl) (pk_cons (pv 1) pk_nil)))) (pss_one (ps_expr (pe_cn T5 hr (by decide) tk (by rfl) (pa_cons (pv 1) pa_nil)))))))))))))))
        (fun a oe cls d pn hz hf => pss_one (ps_set (i := 3) sc_law_told.nd rfl (Or.inl rfl) ⟨fun pins s σ H Q I q => (pe_ce2 (pr := (a, oe)) T_law_said ⟨(show Room 1 _ from hr.mono (by decide)).dp, (show Room 1 _ from hr.mono (by decide)).un⟩ ⟨rfl, hf.choose, hf.choose_spec, hz.2.2 _ hf.choose_spec⟩ List.mem_cons_self (by rfl) (pa_cons (pv 5) pa_nil)).run pins s σ H Q I (by
          obtain ⟨hs, i, hi, rfl, rfl, q⟩ := q
          exact ⟨_, hs, i, rfl, hi, hz.zc, hf, q⟩)⟩)))
        (pss_one (ps_ret (pe_ifExp (pt_cmpR op_eq (pe_callB (call_reprO hG hu64) (by rfl) B.repr (by decide +kernel) (pa_cons (pe_lst (pa_cons (pv 1) (pa_cons (pv 2) pa_nil))) pa_nil)) (pv 4) (nomark _)) (pv 3) pe_str))))), ?_⟩
    refine ⟨_, rfl, _, rfl, by show 2 ≤ sizeLine; decide, fun p np => ⟨.ref p, .list [d, e], rfl, oxl (.refl _) np, bdl, ?_⟩⟩
    refine ⟨_, _, rfl, ?_⟩
    have s0 := same_new (o := .lst [v, u]) np
    generalize upd H p (.lst [v, u]) = H0 at s0 ⊢
    rcases ho with ⟨hs, hk, rfl⟩ | ⟨bs, rfl, ok, u1, ho⟩ | ⟨hw, ho⟩
    · rcases hk with rfl | rfl | rfl | rfl
      · exact ⟨_, rfl, rfl, true, rfl, iteT ⟨_, rfl, rfl, .inr ⟨v, d, rfl, ox_same s0 hv, hs, ⟨true, R.m 9 (by decide), fun _ b nb => ⟨rfl, 9, .inr (.inr rfl), rfl, rfl, fun H2 s2 => ⟨_, rfl, _, rfl, (by show 2 ≤ sizeLine; decide), fun p2 n2 => ⟨.ref p2, _, rfl, oxl ((s0).trans s2) n2, bdl, _, rfl, rfl, true, dT rfl, _, rfl, q _ (((s0).trans s2).trans (same_new n2))⟩⟩⟩, fun z => nomatch z⟩⟩⟩⟩
      · exact ⟨_, rfl, rfl, false, rfl, iteF ⟨_, rfl, rfl, true, rfl, iteT ⟨_, rfl, _, rfl, .inr ⟨v, u, rfl, .inl ⟨d, ox_same s0 hv, hs, fun H1 s1 => ⟨true, R.m 9 (by decide), fun _ b nb => ⟨rfl, 9, .inr (.inr rfl), rfl, rfl, fun H2 s2 => ⟨_, rfl, _, rfl, (by show 2 ≤ sizeLine; decide), fun p2 n2 => ⟨.ref p2, _, rfl, oxl ((s0.trans s1).trans s2) n2, bdl, _, rfl, rfl, true, dT rfl, _, rfl, q _ (((s0.trans s1).trans s2).trans (same_new n2))⟩⟩⟩, fun z => nomatch z⟩⟩⟩⟩⟩⟩
      · exact ⟨_, rfl, rfl, false, rfl, iteF ⟨_, rfl, rfl, false, rfl, iteF ⟨_, rfl, rfl, true, rfl, iteT ⟨_, rfl, _, rfl, .inr ⟨v, u, rfl, .inl ⟨d, ox_same s0 hv, hs, fun H1 s1 => ⟨true, R.m 9 (by decide), fun _ b nb => ⟨rfl, 9, .inr (.inr rfl), rfl, rfl, fun H2 s2 => ⟨_, rfl, _, rfl, (by show 2 ≤ sizeLine; decide), fun p2 n2 => ⟨.ref p2, _, rfl, oxl ((s0.trans s1).trans s2) n2, bdl, _, rfl, rfl, true, dT rfl, _, rfl, q _ (((s0.trans s1).trans s2).trans (same_new n2))⟩⟩⟩, fun z => nomatch z⟩⟩⟩⟩⟩⟩⟩
      · exact ⟨_, rfl, rfl, false, rfl, iteF ⟨_, rfl, rfl, false, rfl, iteF ⟨_, rfl, rfl, false, rfl, iteF ⟨_, rfl, rfl, true, rfl, iteT ⟨_, rfl, _, rfl, rfl, .inr ⟨v, u, rfl, .inl ⟨d, ox_same s0 hv, hs, fun H1 s1 => ⟨true, R.m 9 (by decide), fun _ b nb => ⟨rfl, 9, .inr (.inr rfl), rfl, rfl, fun H2 s2 => ⟨_, rfl, _, rfl, (by show 2 ≤ sizeLine; decide), fun p2 n2 => ⟨.ref p2, _, rfl, oxl ((s0.trans s1).trans s2) n2, bdl, _, rfl, rfl, true, dT rfl, _, rfl, q _ (((s0.trans s1).trans s2).trans (same_new n2))⟩⟩⟩, fun z => nomatch z⟩⟩⟩⟩⟩⟩⟩⟩
    · cases id hv
      rcases ho with ⟨rfl, rfl⟩ | ⟨rfl, ho⟩ | ⟨hk, ho⟩
      · exact ⟨_, rfl, rfl, true, rfl, iteT ⟨_, rfl, rfl, .inl ⟨bs, rfl, ok, u1, fun H1 s1 => ⟨_, rfl, _, rfl, (by show 2 ≤ sizeLine; decide), fun p2 n2 => ⟨.ref p2, _, rfl, oxl (s0.trans s1) n2, bdl, _, rfl, rfl, true, dT rfl, _, rfl, q _ ((s0.trans s1).trans (same_new n2))⟩⟩⟩⟩⟩
      · rcases ho with ⟨m, rfl, hm, rfl⟩ | ⟨hn, rfl⟩
        · cases id hu
          exact ⟨_, rfl, rfl, false, rfl, iteF ⟨_, rfl, rfl, true, rfl, iteT ⟨_, rfl, _, rfl, .inl ⟨bs, m, rfl, ok, u1, hm, fun H1 s1 => ⟨_, rfl, _, rfl, (by show 2 ≤ sizeLine; decide), fun p2 n2 => ⟨.ref p2, _, rfl, oxl (s0.trans s1) n2, bdl, _, rfl, rfl, true, dT rfl, _, rfl, q _ ((s0.trans s1).trans (same_new n2))⟩⟩⟩⟩⟩⟩
        · exact ⟨_, rfl, rfl, false, rfl, iteF ⟨_, rfl, rfl, true, rfl, iteT ⟨_, rfl, _, rfl, .inr ⟨_, u, rfl, .inr ⟨bs, _, rfl, ok, u1, ox_same s0 hu, hn, fun H1 s1 => ⟨true, R.m 4 (by decide), fun _ b nb => ⟨rfl, 4, .inr (.inl rfl), rfl, rfl, fun H2 s2 => ⟨_, rfl, _, rfl, (by show 2 ≤ sizeLine; decide), fun p2 n2 => ⟨.ref p2, _, rfl, oxl ((s0.trans s1).trans s2) n2, bdl, _, rfl, rfl, true, dT rfl, _, rfl, q _ (((s0.trans s1).trans s2).trans (same_new n2))⟩⟩⟩, fun z => nomatch z⟩⟩⟩⟩⟩⟩
      · rcases hk with rfl | rfl
        · rcases ho with ⟨m, rfl, hm, rfl⟩ | ⟨hn, rfl⟩
          · cases id hu
            exact ⟨_, rfl, rfl, false, rfl, iteF ⟨_, rfl, rfl, false, rfl, iteF ⟨_, rfl, rfl, true, rfl, iteT ⟨_, rfl, _, rfl, .inl ⟨bs, m, rfl, ok, u1, hm, fun H1 q1 s1 _ _ => ⟨_, rfl, _, rfl, (by show 2 ≤ sizeLine; decide), fun p2 n2 => ⟨.ref p2, _, rfl, oxl (s0.trans s1) n2, bdl, _, rfl, rfl, true, dT rfl, _, rfl, q _ ((s0.trans s1).trans (same_new n2))⟩⟩⟩⟩⟩⟩⟩
          · exact ⟨_, rfl, rfl, false, rfl, iteF ⟨_, rfl, rfl, false, rfl, iteF ⟨_, rfl, rfl, true, rfl, iteT ⟨_, rfl, _, rfl, .inr ⟨_, u, rfl, .inr ⟨bs, _, rfl, ok, u1, ox_same s0 hu, hn, fun H1 s1 => ⟨true, R.m 4 (by decide), fun _ b nb => ⟨rfl, 4, .inr (.inl rfl), rfl, rfl, fun H2 s2 => ⟨_, rfl, _, rfl, (by show 2 ≤ sizeLine; decide), fun p2 n2 => ⟨.ref p2, _, rfl, oxl ((s0.trans s1).trans s2) n2, bdl, _, rfl, rfl, true, dT rfl, _, rfl, q _ (((s0.trans s1).trans s2).trans (same_new n2))⟩⟩⟩, fun z => nomatch z⟩⟩⟩⟩⟩⟩⟩
        · rcases ho with ⟨m, rfl, hm, rfl⟩ | ⟨hn, rfl⟩
          · cases id hu
            exact ⟨_, rfl, rfl, false, rfl, iteF ⟨_, rfl, rfl, false, rfl, iteF ⟨_, rfl, rfl, false, rfl, iteF ⟨_, rfl, rfl, true, rfl, iteT ⟨_, rfl, _, rfl, rfl, .inl ⟨bs, m, rfl, ok, u1, hm, fun H1 q1 s1 _ _ => ⟨_, rfl, _, rfl, (by show 2 ≤ sizeLine; decide), fun p2 n2 => ⟨.ref p2, _, rfl, oxl (s0.trans s1) n2, bdl, _, rfl, rfl, true, dT rfl, _, rfl, q _ ((s0.trans s1).trans (same_new n2))⟩⟩⟩⟩⟩⟩⟩⟩
          · exact ⟨_, rfl, rfl, false, rfl, iteF ⟨_, rfl, rfl, false, rfl, iteF ⟨_, rfl, rfl, false, rfl, iteF ⟨_, rfl, rfl, true, rfl, iteT ⟨_, rfl, _, rfl, rfl, .inr ⟨_, u, rfl, .inr ⟨bs, _, rfl, ok, u1, ox_same s0 hu, hn, fun H1 s1 => ⟨true, R.m 4 (by decide), fun _ b nb => ⟨rfl, 4, .inr (.inl rfl), rfl, rfl, fun H2 s2 => ⟨_, rfl, _, rfl, (by show 2 ≤ sizeLine; decide), fun p2 n2 => ⟨.ref p2, _, rfl, oxl ((s0.trans s1).trans s2) n2, bdl, _, rfl, rfl, true, dT rfl, _, rfl, q _ (((s0.trans s1).trans s2).trans (same_new n2))⟩⟩⟩, fun z => nomatch z⟩⟩⟩⟩⟩⟩⟩⟩
    · rcases ho with ⟨rfl, ⟨⟨ns, rfl, hh⟩, rfl⟩ | ⟨nh, rfl⟩⟩ | ⟨rfl, ⟨ns, rfl, hh, hp, rfl⟩ | ⟨nh, rfl⟩⟩
      · obtain ⟨a, rfl, hS⟩ := ox_ints_inv hv
        exact ⟨_, rfl, rfl, false, rfl, iteF ⟨_, rfl, rfl, false, rfl, iteF ⟨_, rfl, rfl, false, rfl, iteF ⟨_, rfl, rfl, false, rfl, iteF ⟨_, rfl, rfl, true, rfl, iteT ⟨_, rfl, rfl, .inl ⟨a, ns, rfl, s0.seq hS, hh, fun H1 s1 => ⟨_, rfl, _, rfl, (by show 2 ≤ sizeLine; decide), fun p2 n2 => ⟨.ref p2, _, rfl, oxl (s0.trans s1) n2, bdl, _, rfl, rfl, true, dT rfl, _, rfl, q _ ((s0.trans s1).trans (same_new n2))⟩⟩⟩⟩⟩⟩⟩⟩⟩
      · exact ⟨_, rfl, rfl, false, rfl, iteF ⟨_, rfl, rfl, false, rfl, iteF ⟨_, rfl, rfl, false, rfl, iteF ⟨_, rfl, rfl, false, rfl, iteF ⟨_, rfl, rfl, true, rfl, iteT ⟨_, rfl, rfl, .inr ⟨v, d, rfl, ox_same s0 hv, hw, nh, fun H1 s1 => ⟨true, R.m 3 (by decide), fun _ b nb => ⟨rfl, 3, .inl rfl, rfl, rfl, fun H2 s2 => ⟨_, rfl, _, rfl, (by show 2 ≤ sizeLine; decide), fun p2 n2 => ⟨.ref p2, _, rfl, oxl ((s0.trans s1).trans s2) n2, bdl, _, rfl, rfl, true, dT rfl, _, rfl, q _ (((s0.trans s1).trans s2).trans (same_new n2))⟩⟩⟩, fun z => nomatch z⟩⟩⟩⟩⟩⟩⟩⟩
      · obtain ⟨a, rfl, hS⟩ := ox_ints_inv hv
        exact ⟨_, rfl, rfl, false, rfl, iteF ⟨_, rfl, rfl, false, rfl, iteF ⟨_, rfl, rfl, false, rfl, iteF ⟨_, rfl, rfl, false, rfl, iteF ⟨_, rfl, rfl, false, rfl, iteF ⟨_, rfl, .inl ⟨a, ns, rfl, s0.seq hS, hh, hp, fun H1 r s1 => ⟨_, rfl, _, rfl, (by show 2 ≤ sizeLine; decide), fun p2 n2 => ⟨.ref p2, _, rfl, oxl (s0.trans s1) n2, bdl, _, rfl, rfl, true, dT rfl, _, rfl, q _ ((s0.trans s1).trans (same_new n2))⟩⟩⟩⟩⟩⟩⟩⟩⟩
      · exact ⟨_, rfl, rfl, false, rfl, iteF ⟨_, rfl, rfl, false, rfl, iteF ⟨_, rfl, rfl, false, rfl, iteF ⟨_, rfl, rfl, false, rfl, iteF ⟨_, rfl, rfl, false, rfl, iteF ⟨_, rfl, .inr ⟨v, d, rfl, ox_same s0 hv, hw, nh, fun H1 s1 => ⟨true, R.m 3 (by decide), fun _ b nb => ⟨rfl, 3, .inl rfl, rfl, rfl, fun H2 s2 => ⟨_, rfl, _, rfl, (by show 2 ≤ sizeLine; decide), fun p2 n2 => ⟨.ref p2, _, rfl, oxl ((s0.trans s1).trans s2) n2, bdl, _, rfl, rfl, true, dT rfl, _, rfl, q _ (((s0.trans s1).trans s2).trans (same_new n2))⟩⟩⟩, fun z => nomatch z⟩⟩⟩⟩⟩⟩⟩⟩
end
end L59
set_option Elab.async false
set_option linter.all false
set_option maxRecDepth 100000
namespace L59
open PySem PySem.Spec PyProof.Rows L2 Lp
/-! ### what a display of values of any kind gives; what is drawn from stands apart -/
abbrev only (a : Addr) : Addr → Bool := fun b => decide (b = a)
def avA (A : Addr → Bool) (H : Hp) : Hp := fun b => if A b = true then none else H b
abbrev av (a : Addr) (H : Hp) : Hp := avA (only a) H
section
variable {A : Addr → Bool} {a b p src : Addr} {H H' H1 : Hp} {o : HO}
theorem avA_ne (n : A b = false) : avA A H b = H b := if_neg (by rw [n]; exact Bool.false_ne_true)
theorem avA_at (n : A b = false) (h : H b = some o) : avA A H b = some o := by rw [avA_ne n]; exact h
theorem avA_some (h : avA A H b = some o) : A b = false ∧ H b = some o := by
  by_cases e : A b = true
  · have : avA A H b = none := if_pos e
    rw [this] at h
    cases h
  · have e := Bool.eq_false_iff.mpr e
    rw [avA_ne e] at h
    exact ⟨e, h⟩
theorem av_ne (n : b ≠ a) : av a H b = H b := avA_ne (decide_eq_false n)
theorem av_at (n : b ≠ a) (h : H b = some o) : av a H b = some o := avA_at (decide_eq_false n) h
theorem av_some (h : av a H b = some o) : b ≠ a ∧ H b = some o := ⟨of_decide_eq_false (avA_some h).1, (avA_some h).2⟩
theorem avA_le : Same (avA A H) H := fun b o h => (avA_some h).2
theorem av_le : Same (av a H) H := avA_le
theorem avA_bt (hA : A src = true) (s : Bt src H H') : Same (avA A H) (avA A H') := fun b o h => by
  obtain ⟨n, e⟩ := avA_some h
  exact avA_at n (s b o (fun z => by rw [z, hA] at n; cases n) e)
theorem av_bt (s : Bt src H H') : Same (av src H) (av src H') := avA_bt (decide_eq_true rfl) s
theorem avA_same (s : Same H H') : Same (avA A H) (avA A H') := fun b o h => by
  obtain ⟨n, e⟩ := avA_some h
  exact avA_at n (s b o e)
theorem av_same (s : Same H H') : Same (av src H) (av src H') := avA_same s
/-- a thing apart from those of A and from a new p -/
theorem avA_new {u : HO} (n : H p = none) : Same (avA A H) (av p (avA A (upd H p u))) := fun b o h => by
  obtain ⟨n1, e⟩ := avA_some h
  have bp : b ≠ p := ne_of_none e n
  exact av_at bp (avA_at n1 (by rw [upd_ne bp]; exact e))
theorem avA_mut {u : HO} : Same (av p (avA A H)) (av p (avA A (upd H p u))) := fun b o h => by
  obtain ⟨bp, h⟩ := av_some h
  obtain ⟨n1, e⟩ := avA_some h
  exact av_at bp (avA_at n1 (by rw [upd_ne bp]; exact e))
/-- those of A stand -/
structure Al (A : Addr → Bool) (src : Addr) (H : Hp) : Prop where
  s : A src = true
  a : ∀ b, A b = true → H b ≠ none
theorem Al.new (h : Al A src H) (np : H p = none) : A p = false := by
  cases e : A p with
  | false => rfl
  | true => exact absurd np (h.a p e)
theorem Al.bt {n : Nat} (h : Al A src H) (b : Bt src H H') (hs : Src H' src n) : Al A src H' := ⟨h.s, fun c hc z => by
  by_cases e : c = src
  · obtain ⟨_, _, _, h1, _⟩ := hs
    rw [e, h1] at z
    cases z
  · cases q : H c with
    | none => exact h.a c hc q
    | some o =>
      rw [b c o e q] at z
      cases z⟩
theorem al_only {n : Nat} (hs : Src H src n) : Al (only src) src H := ⟨decide_eq_true rfl, fun b hb z => by
  have e : b = src := of_decide_eq_true hb
  obtain ⟨_, _, _, h1, _⟩ := hs
  rw [e, h1] at z
  cases z⟩
end
abbrev both (a b : Addr) : Addr → Bool := fun x => decide (x = a) || decide (x = b)
theorem both_ne {a b x : Addr} (h : x ≠ a) (g : x ≠ b) : both a b x = false := by
  show (decide (x = a) || decide (x = b)) = false
  rw [decide_eq_false h, decide_eq_false g]
  rfl
theorem both_of {a b : Addr} {H : Hp} : Same (av b (av a H)) (avA (both a b) H) := fun x o h => by
  obtain ⟨n1, h⟩ := av_some h
  obtain ⟨n2, h⟩ := av_some h
  exact avA_at (both_ne n2 n1) h
theorem both_to {a b : Addr} {H : Hp} : Same (avA (both a b) H) (av b (av a H)) := fun x o h => by
  obtain ⟨n, h⟩ := avA_some h
  have n : (decide (x = a) || decide (x = b)) = false := n
  rw [Bool.or_eq_false_iff] at n
  exact av_at (of_decide_eq_false n.2) (av_at (of_decide_eq_false n.1) h)
theorem al_both {a b : Addr} {H : Hp} {n : Nat} (hs : Src H a n) (hb : H b ≠ none) : Al (both a b) a H := ⟨by show (decide (a = a) || _) = true; rw [decide_eq_true rfl]; rfl, fun x hx z => by
  have hx : (decide (x = a) || decide (x = b)) = true := hx
  rw [Bool.or_eq_true, decide_eq_true_eq, decide_eq_true_eq] at hx
  rcases hx with e | e
  · obtain ⟨_, _, _, h1, _⟩ := hs
    rw [e, h1] at z
    cases z
  · rw [e] at z
    exact hb z⟩
/-- what stood ahead of a new D stands apart from it -/
theorem both_new {a D : Addr} {H H' : Hp} (n : H D = none) (b : Bt a H H') : Same (av a H) (avA (both a D) H') := fun x o h => by
  obtain ⟨n1, e⟩ := av_some h
  exact avA_at (both_ne n1 (ne_of_none e n)) (b x o n1 e)
theorem seq_asg {te : TE} {g : TG} {u : TS} {D : Ends} {σ : L2.St} {H : Hp} (h : te σ H fun x H1 => g x σ H1 (u D)) : tSeq (tAsg te g) u D σ H := h
theorem tOp_run {r : R2} {ta tb : TE} {σ : L2.St} {H : Hp} {Q : VK} (h : ta σ H fun x H1 => tb σ H1 fun y H2 => r x y H2 Q) : tOp r ta tb σ H Q := h
theorem arg1 {te : TE} {σ : L2.St} {H : Hp} {Q : List V → Hp → Prop} (h : te σ H fun x H1 => Q [x] H1) : tCons te tNil σ H Q := h
def Opt (σ : L2.St) (tl : TO) : Prop := ∃ o, ∀ (H : Hp) (Q : Option Int → Hp → Prop), Q o H → tl σ H Q
def Ix (σ : L2.St) (i : Int) (te : TE) : Prop := ∀ (H : Hp) (Q : VK), Q (.int i) H → te σ H Q
section
variable {σ : L2.St} {i j : Int} {ta tb : TE}
theorem Ix.c : Ix σ i (tC (.int i)) := fun H Q h => h
theorem Ix.var {k : Nat} (hs : σ[k]? = some (some (.int i))) : Ix σ i (tVar k) := fun H Q h => ⟨_, hs, h⟩
theorem Ix.neg (h : Ix σ i ta) : Ix σ (-i) (tUn (rU fun i => .int (-i)) ta) := fun H Q q => h H _ ⟨i, rfl, q⟩
theorem Ix.add (h : Ix σ i ta) (g : Ix σ j tb) : Ix σ (i + j) (tOp (rI0 fun i j => .int (i + j)) ta tb) := fun H Q q => h H _ (g H _ ⟨i, j, rfl, rfl, q⟩)
theorem Ix.sub (h : Ix σ i ta) (g : Ix σ j tb) : Ix σ (i - j) (tOp (rI0 fun i j => .int (i - j)) ta tb) := fun H Q q => h H _ (g H _ ⟨i, j, rfl, rfl, q⟩)
theorem Opt.no : Opt σ tNoPart := ⟨none, fun H Q h => h⟩
theorem Opt.ix (h : Ix σ i ta) : Opt σ (tPart ta) := ⟨some i, fun H Q q => h H _ ⟨i, rfl, q⟩⟩
end
structure Vx (K : PySem.W.Frag) (src : Addr) (A : Addr → Bool) (σ : L2.St) (H0 : Hp) (j c k : Nat) (te : TE) : Prop where
  run : ∀ (H : Hp) (Q : VK) (n : Nat), Bt src H0 H → Al A src H → Src H src n → n + j ≤ 900000 → (∀ v d H', Bt src H H' → Src H' src (n + j) → Ox K (avA A H') v d → Bd c k d → Q v H') → te σ H Q
structure Ax (K : PySem.W.Frag) (src : Addr) (A : Addr → Bool) (σ : L2.St) (H0 : Hp) (j c k l : Nat) (ta : TA) : Prop where
  run : ∀ (H : Hp) (Q : List V → Hp → Prop) (n : Nat), Bt src H0 H → Al A src H → Src H src n → n + j ≤ 900000 → (∀ vs ds H', Bt src H H' → Src H' src (n + j) → OxAll K (avA A H') vs ds → (∀ d ∈ ds, Bd c k d) → vs.length = l → Q vs H') → ta σ H Q
structure Lx (K : PySem.W.Frag) (src : Addr) (A : Addr → Bool) (σ : L2.St) (H0 : Hp) (fr : Bool) (j c k L : Nat) (te : TE) : Prop where
  run : ∀ (H : Hp) (Q : VK) (n : Nat), Bt src H0 H → Al A src H → Src H src n → n + j ≤ 900000 → (∀ p vs ds H', Bt src H H' → Src H' src (n + j) → (fr = true → H0 p = none) → A p = false → p ≠ src → H' p = some (.lst vs) → OxAll K (av p (avA A H')) vs ds → (∀ d ∈ ds, Bd c k d) → ds.length ≤ L → Q (.ref p) H') → te σ H Q
theorem bd_all {c k : Nat} : ∀ {ds : List PyData} {L : Nat}, (∀ d ∈ ds, Bd c k d) → ds.length ≤ L → BdAll (L * (c + 2)) k ds
  | [], _, _, _ => BdAll.nil.mono (Nat.zero_le _) (Nat.le_refl _)
  | d :: ds, L, h, hl => by
    have hl : ds.length + 1 ≤ L := hl
    obtain ⟨M, rfl⟩ : ∃ M, L = M + 1 := ⟨L - 1, by omega⟩
    refine (BdAll.cons (h d List.mem_cons_self) (bd_all (L := M) (fun x hx => h x (List.mem_cons_of_mem _ hx)) (by omega))).mono ?_ (Nat.le_refl _)
    rw [Nat.succ_mul]
    omega
theorem bd_wt {m k : Nat} {ds : List PyData} (h : BdAll m k ds) : ∀ d ∈ ds, wt d ≤ m := fun d hd => (h.get hd).w
theorem bd_len {m k : Nat} {ds : List PyData} (h : BdAll m k ds) : 2 * ds.length ≤ m := Nat.le_trans (wt_len ds) h.w
theorem BdAll_rev {m k : Nat} {ds : List PyData} (h : BdAll m k ds) : BdAll m k ds.reverse := by
  induction ds generalizing m with
  | nil => exact h
  | cons d r ih =>
    obtain ⟨h1, h2, h3, h4⟩ := h
    have h3 : (d.showable && PyData.showableAll r) = true := h3
    have h4 : (nod d && nodAll r) = true := h4
    rw [Bool.and_eq_true] at h3 h4
    have h2 : max d.depth (PyData.depthAll r) ≤ k := h2
    have h1 : wt d + 2 + wtAll r ≤ m := h1
    rw [List.reverse_cons]
    refine (BdAll.app (ih (m := wtAll r) ⟨Nat.le_refl _, Nat.le_trans (Nat.le_max_right _ _) h2, h3.2, h4.2⟩) (BdAll.cons (m := wt d) ⟨Nat.le_refl _, Nat.le_trans (Nat.le_max_left _ _) h2, h3.1, h4.1⟩ BdAll.nil)).mono (by omega) (Nat.le_refl _)
theorem oxAll_rev {K : PySem.W.Frag} {H : Hp} : ∀ {vs : List V} {ds : List PyData}, OxAll K H vs ds → OxAll K H vs.reverse ds.reverse
  | _, _, .nil => .nil
  | _, _, .cons h1 h2 => by
    rw [List.reverse_cons, List.reverse_cons]
    exact oxAll_app (oxAll_rev h2) (.cons h1 .nil)
theorem oxAll_cut {K : PySem.W.Frag} {H : Hp} {vs : List V} {ds : List PyData} {lo hi : Option Int} (h : OxAll K H vs ds) : ∃ es, OxAll K H (cutV vs lo hi) es ∧ es.Sublist ds := by
  unfold cutV
  exact ⟨_, oxAll_take _ (oxAll_drop _ h), (List.take_sublist _ _).trans (List.drop_sublist _ _)⟩
theorem oxAll_rep {K : PySem.W.Frag} {H : Hp} {vs : List V} {ds : List PyData} (h : OxAll K H vs ds) : ∀ n : Nat, OxAll K H (List.replicate n vs).flatten (List.replicate n ds).flatten
  | 0 => .nil
  | n + 1 => by
    rw [List.replicate_succ, List.replicate_succ, List.flatten_cons, List.flatten_cons]
    exact oxAll_app h (oxAll_rep h n)
theorem bd_rep {m k : Nat} {ds : List PyData} (h : BdAll m k ds) : ∀ n : Nat, BdAll (n * m) k (List.replicate n ds).flatten
  | 0 => BdAll.nil.mono (Nat.zero_le _) (Nat.le_refl _)
  | n + 1 => by
    rw [List.replicate_succ, List.flatten_cons]
    exact (h.app (bd_rep h n)).mono (by rw [Nat.succ_mul]; omega) (Nat.le_refl _)
theorem mem_rep {ds : List PyData} {d : PyData} : ∀ {n : Nat}, d ∈ (List.replicate n ds).flatten → d ∈ ds := fun {n} h => by
  obtain ⟨l, hl, hd⟩ := List.mem_flatten.mp h
  rw [(List.mem_replicate.mp hl).2] at hd
  exact hd
section
variable {K : PySem.W.Frag} {src : Addr} {A : Addr → Bool} {σ : L2.St} {H0 : Hp} {fr : Bool} {j j1 j2 c c1 k k1 l L L1 L2 : Nat} {te t1 t2 : TE} {ta : TA} {tl th : TO}
theorem big_ok {n L : Nat} (h : n ≤ L) (g : L ≤ 5000000) : n ≤ sizeLine := Nat.le_trans (Nat.le_trans h g) (by decide)
theorem Ax.nil : Ax K src A σ H0 j c k 0 tNil := ⟨fun H Q n b al hs hn q => q [] [] H (.refl _ _) (hs.mono (Nat.le_add_right _ _)) .nil (fun _ h => absurd h List.not_mem_nil) rfl⟩
theorem Ax.cons (h : Vx K src A σ H0 j1 c k te) (g : Ax K src A σ H0 j2 c k l ta) (hj : j1 + j2 ≤ j := by decide) : Ax K src A σ H0 j c k (l + 1) (tCons te ta) :=
  ⟨fun H Q n b al hs hn q => h.run H _ n b al hs (by omega) fun v d H1 b1 hs1 ox bd => g.run H1 _ (n + j1) (b.trans b1) (al.bt b1 hs1) hs1 (by omega) fun vs ds H2 b2 hs2 oxs bds el => by
    refine q _ (d :: ds) H2 (b1.trans b2) (hs2.mono (by omega)) (.cons (ox_same (avA_bt al.s b2) ox) oxs) (fun x hx => ?_) (by rw [List.length_cons, el])
    rcases List.mem_cons.mp hx with rfl | hx
    · exact bd
    · exact bds x hx⟩
theorem Lx.lst (h : Ax K src A σ H0 j c k l ta) (hL : l ≤ L := by decide) (hm : L ≤ 5000000 := by decide) : Lx K src A σ H0 fr j c k L (tLst ta) :=
  ⟨fun H Q n b al hs hn q => h.run H _ n b al hs hn fun vs ds H1 b1 hs1 ox bd el => ⟨by rw [el]; exact big_ok hL hm, fun p np => q p vs ds _ (b1.add np) (hs1.new np) (fun _ => free_of b (hs1.ne np) (free_of b1 (hs1.ne np) np)) ((al.bt b1 hs1).new np) (hs1.ne np) upd_same (oxAll_same (avA_new np) ox) bd (by rw [← oxAll_len ox, el]; exact hL)⟩⟩
theorem Lx.cat (h : Lx K src A σ H0 false j1 c k L1 t1) (g : Lx K src A σ H0 false j2 c k L2 t2) (hL : L1 + L2 ≤ L := by decide) (hj : j1 + j2 ≤ j := by decide) (hm : L ≤ 5000000 := by decide) : Lx K src A σ H0 fr j c k L (tOp rCat t1 t2) :=
  ⟨fun H Q n b al hs hn q => h.run H _ n b al hs (by omega) fun p vs ds H1 b1 hs1 _ pA ps hp ox bd e => g.run H1 _ (n + j1) (b.trans b1) (al.bt b1 hs1) hs1 (by omega) fun p2 vs2 ds2 H2 b2 hs2 _ pA2 ps2 hp2 ox2 bd2 e2 => by
    have l1 := oxAll_len ox
    have l2 := oxAll_len ox2
    refine ⟨p, p2, vs, vs2, rfl, rfl, b2 _ _ ps hp, hp2, big_ok (by omega) hm, fun z nz => ?_⟩
    exact q z _ (ds ++ ds2) _ ((b1.trans b2).add nz) ((hs2.mono (by omega)).new nz) (fun _ => free_of b (hs2.ne nz) (free_of b1 (hs2.ne nz) (free_of b2 (hs2.ne nz) nz))) ((al.bt (b1.trans b2) hs2).new nz) (hs2.ne nz) upd_same (oxAll_same (avA_new nz) (oxAll_app (oxAll_same (avA_bt al.s b2) (oxAll_same avA_le ox)) (oxAll_same avA_le ox2))) (fun x hx => (List.mem_append.mp hx).elim (bd x) (bd2 x)) (by rw [List.length_append]; omega)⟩
theorem Lx.var {i : Nat} {r : Addr} {xs : List V} {ds : List PyData} (hs : σ[i]? = some (some (.ref r))) (rs : r ≠ src) (rA : A r = false) (hr : H0 r = some (.lst xs)) (ox : OxAll K (av r (avA A H0)) xs ds) (bd : ∀ d ∈ ds, Bd c1 k1 d) (hc : c1 ≤ c) (hk : k1 ≤ k) (hL : ds.length ≤ L) : Lx K src A σ H0 false j c k L (tVar i) :=
  ⟨fun H Q n b al hsr hn q => ⟨_, hs, q r xs ds H (.refl _ _) (hsr.mono (Nat.le_add_right _ _)) (fun h => nomatch h) rA rs (b _ _ rs hr) (oxAll_same (avA_same (avA_bt al.s b)) ox) (fun d hd => (bd d hd).mono hc hk) hL⟩⟩
theorem Lx.cut (h : Lx K src A σ H0 false j c k L te) (hl : Opt σ tl) (hh : Opt σ th) : Lx K src A σ H0 fr j c k L (tSl (rSlL K) te tl th) :=
  ⟨fun H Q n b al hs hn q => h.run H _ n b al hs hn fun p vs ds H1 b1 hs1 _ pA ps hp ox bd e => by
    obtain ⟨lo, hlo⟩ := hl
    obtain ⟨hi, hhi⟩ := hh
    refine hlo _ _ (hhi _ _ ⟨p, vs, rfl, .of hp, fun z nz => ?_⟩)
    obtain ⟨es, oe, sub⟩ := oxAll_cut (lo := lo) (hi := hi) (oxAll_same avA_le ox)
    exact q z _ es _ (b1.add nz) (hs1.new nz) (fun _ => free_of b (hs1.ne nz) (free_of b1 (hs1.ne nz) nz)) ((al.bt b1 hs1).new nz) (hs1.ne nz) upd_same (oxAll_same (avA_new nz) oe) (fun x hx => bd x (sub.subset hx)) (Nat.le_trans sub.length_le e)⟩
theorem Lx.rev (h : Lx K src A σ H0 false j c k L te) : Lx K src A σ H0 fr j c k L (tRevL K te) :=
  ⟨fun H Q n b al hs hn q => h.run H _ n b al hs hn fun p vs ds H1 b1 hs1 _ pA ps hp ox bd e => ⟨p, vs, rfl, .of hp, fun z nz => q z _ ds.reverse _ (b1.add nz) (hs1.new nz) (fun _ => free_of b (hs1.ne nz) (free_of b1 (hs1.ne nz) nz)) ((al.bt b1 hs1).new nz) (hs1.ne nz) upd_same (oxAll_same (avA_new nz) (oxAll_rev (oxAll_same avA_le ox))) (fun x hx => bd x (List.mem_reverse.mp hx)) (by rw [List.length_reverse]; exact e)⟩⟩
theorem rep_len {α : Type} (l : List α) : ∀ n : Nat, (List.replicate n l).flatten.length = n * l.length
  | 0 => by simp
  | n + 1 => by rw [List.replicate_succ, List.flatten_cons, List.length_append, rep_len l n, Nat.succ_mul, Nat.add_comm]
theorem Lx.rep {r : Nat} (h : Lx K src A σ H0 false j c k L1 te) (hL : r * L1 ≤ L := by decide) (hm : L ≤ 5000000 := by decide) (hr : r ≤ 1000000 := by decide) : Lx K src A σ H0 fr j c k L (tOp rRep te (tC (.int (r : Int)))) :=
  ⟨fun H Q n b al hs hn q => h.run H _ n b al hs hn fun p vs ds H1 b1 hs1 _ pA ps hp ox bd e => by
    have e1 : ((r : Nat) : Int).toNat = r := Int.toNat_natCast r
    have h2 := oxAll_len ox
    have h3 : r * ds.length ≤ r * L1 := Nat.mul_le_mul_left r e
    refine ⟨p, (r : Int), vs, rfl, rfl, hp, by omega, by omega, ?_, fun z nz => ?_⟩
    · rw [e1, h2, Nat.mul_comm]
      exact big_ok (Nat.le_trans h3 hL) hm
    · rw [e1]
      exact q z _ _ _ (b1.add nz) (hs1.new nz) (fun _ => free_of b (hs1.ne nz) (free_of b1 (hs1.ne nz) nz)) ((al.bt b1 hs1).new nz) (hs1.ne nz) upd_same (oxAll_same (avA_new nz) (oxAll_rep (oxAll_same avA_le ox) r)) (fun x hx => bd x (mem_rep hx)) (by rw [rep_len]; exact Nat.le_trans h3 hL)⟩
theorem ox_of_list {H' : Hp} {p : Addr} {vs : List V} {ds : List PyData} (ps : A p = false) (hp : H' p = some (.lst vs)) (ox : OxAll K (av p (avA A H')) vs ds) : Ox K (avA A H') (.ref p) (.list ds) := .lst (.of (avA_at ps hp)) (oxAll_same avA_le ox)
theorem Vx.ofL (c1 k1 L : Nat) (h : Lx K src A σ H0 false j c1 k1 L te) (hc : 2 + L * (c1 + 2) ≤ c := by decide) (hk : k1 + 1 ≤ k := by decide) : Vx K src A σ H0 j c k te :=
  ⟨fun H Q n b al hs hn q => h.run H Q n b al hs hn fun p vs ds H' b1 hs1 _ pA ps hp ox bd e => q (.ref p) (.list ds) H' b1 hs1 (ox_of_list pA hp ox) ((Bd.list (bd_all bd e)).mono hc hk)⟩
theorem Vx.tup (c1 k1 : Nat) (h : Ax K src A σ H0 j c1 k1 l ta) (hc : 3 + l * (c1 + 2) ≤ c := by decide) (hk : k1 + 1 ≤ k := by decide) (hl : l ≤ 5000000 := by decide) : Vx K src A σ H0 j c k (tTup ta) :=
  ⟨fun H Q n b al hs hn q => h.run H _ n b al hs hn fun vs ds H1 b1 hs1 ox bd el => ⟨by rw [el]; exact big_ok (Nat.le_refl _) hl, fun p np => q (.ref p) (.tuple ds) _ (b1.add np) (hs1.new np) (.tup (.of (avA_at ((al.bt b1 hs1).new np) upd_same)) (oxAll_same avA_le (oxAll_same (avA_new np) ox))) ((Bd.tuple (bd_all (L := l) bd (by rw [← oxAll_len ox, el]; exact Nat.le_refl _))).mono hc hk)⟩⟩
theorem Vx.tupOf (c1 k1 L : Nat) (h : Lx K src A σ H0 false j c1 k1 L te) (hc : 3 + L * (c1 + 2) ≤ c := by decide) (hk : k1 + 1 ≤ k := by decide) : Vx K src A σ H0 j c k (tCB (fun xs H Q => ∃ p ys, xs = [.ref p] ∧ ((SqL K H p ys ∧ ∀ l, H l = none → Q (.ref l) (upd H l (.tup ys))) ∨ (SqT K H p ys ∧ Q (.ref p) H))) (tCons te tNil)) :=
  ⟨fun H Q n b al hs hn q => h.run H _ n b al hs hn fun p vs ds H1 b1 hs1 _ pA ps hp ox bd e => ⟨p, vs, rfl, .inl ⟨.of hp, fun z nz => q (.ref z) (.tuple ds) _ (b1.add nz) (hs1.new nz) (.tup (.of (avA_at ((al.bt b1 hs1).new nz) upd_same)) (oxAll_same avA_le (oxAll_same (avA_new nz) (oxAll_same avA_le ox)))) ((Bd.tuple (bd_all bd e)).mono hc hk)⟩⟩⟩
theorem Vx.non (hc : 4 ≤ c := by decide) : Vx K src A σ H0 j c k (tC .non) := ⟨fun H Q n b al hs hn q => q .non .none H (.refl _ _) (hs.mono (Nat.le_add_right _ _)) .non ⟨hc, Nat.zero_le _, rfl, rfl⟩⟩
theorem Vx.bl {x : Bool} (hc : 5 ≤ c := by decide) : Vx K src A σ H0 j c k (tC (.bl x)) := ⟨fun H Q n b al hs hn q => q (.bl x) (.bool x) H (.refl _ _) (hs.mono (Nat.le_add_right _ _)) (.bl x) ⟨hc, Nat.zero_le _, rfl, rfl⟩⟩
theorem Vx.str {x : Str} (h : (reprText x).length ≤ c) : Vx K src A σ H0 j c k (tC (.str x)) := ⟨fun H Q n b al hs hn q => q (.str x) (.str x) H (.refl _ _) (hs.mono (Nat.le_add_right _ _)) (.str x) ⟨h, Nat.zero_le _, rfl, rfl⟩⟩
theorem Vx.ix {i : Int} (h : Ix σ i te) (hi : i.natAbs < 10 ^ 31) (hc : 40 ≤ c := by decide) : Vx K src A σ H0 j c k te := ⟨fun H Q n b al hs hn q => h H Q (q (.int i) (.int i) H (.refl _ _) (hs.mono (Nat.le_add_right _ _)) (.int i) ((bd_int hi).mono hc (Nat.le_refl _)))⟩
theorem bd_i4 {i : Int} (hi : -999 ≤ i ∧ i ≤ 999) : Bd 4 k (.int i) := by
  have z := bd_int (i := i) (k := k) (Nat.lt_of_le_of_lt (show i.natAbs ≤ 999 by omega) (by decide))
  exact ⟨num_len3 i hi.1 hi.2, z.dp, z.s, z.n⟩
theorem Vx.ix4 {i : Int} (h : Ix σ i te) (hi : -999 ≤ i ∧ i ≤ 999) (hc : 4 ≤ c := by decide) : Vx K src A σ H0 j c k te := ⟨fun H Q n b al hs hn q => h H Q (q (.int i) (.int i) H (.refl _ _) (hs.mono (Nat.le_add_right _ _)) (.int i) ((bd_i4 hi).mono hc (Nat.le_refl _)))⟩
theorem Vx.var {i : Nat} {v : V} {d : PyData} (hs : σ[i]? = some (some v)) (ox : Ox K (avA A H0) v d) (bd : Bd c1 k1 d) (hc : c1 ≤ c := by decide) (hk : k1 ≤ k := by decide) : Vx K src A σ H0 j c k (tVar i) := ⟨fun H Q n b al hsr hn q => ⟨_, hs, q v d H (.refl _ _) (hsr.mono (Nat.le_add_right _ _)) (ox_same (avA_bt al.s b) ox) (bd.mono hc hk)⟩⟩
theorem Vx.dict (hc : 2 ≤ c := by decide) (hk : 1 ≤ k := by decide) : Vx K src A σ H0 j c k tDNewK := ⟨fun H Q n b al hs hn q => fun p np => q (.ref p) (.dict []) _ (.new np) ((hs.mono (Nat.le_add_right _ _)).new np) (.dct (avA_at (al.new np) upd_same)) ⟨hc, hk, rfl, rfl⟩⟩
theorem Vx.draw {i : Nat} {a : Int} {tm : TE} (hs : σ[i]? = some (some (.ref src))) (hm : Ix σ a tm) (h1 : 1 ≤ a) (h2 : a ≤ 1000000) (hc : 40 ≤ c := by decide) (hj : 1 ≤ j := by decide) : Vx K src A σ H0 j c k (tCall spDraw [] E0 (tCons (tVar i) (tCons tm tNil))) :=
  ⟨fun H Q n b al hsr hn q => ⟨_, hs, hm H _ ⟨src, a, n, rfl, hsr, by omega, h1, h2, fun r H' r0 r1 hs' b' => q (.int r) (.int r) H' b' (hs'.mono (by omega)) (.int r) ((bd_int (Nat.lt_of_le_of_lt (show r.natAbs ≤ 1000000 by omega) (by decide))).mono hc (Nat.le_refl _))⟩⟩⟩
theorem Vx.addDraw {i : Nat} {a s : Int} {tm ta : TE} (hs : σ[i]? = some (some (.ref src))) (hm : Ix σ a tm) (h1 : 1 ≤ a) (h2 : a ≤ 1000000) (ha : Ix σ s ta) (hg : -1000 ≤ s ∧ s ≤ 1000) (hc : 40 ≤ c := by decide) (hj : 1 ≤ j := by decide) :
    Vx K src A σ H0 j c k (tOp (rI0 fun i j => .int (i + j)) ta (tCall spDraw [] E0 (tCons (tVar i) (tCons tm tNil)))) :=
  ⟨fun H Q n b al hsr hn q => ha H _ ⟨_, hs, hm H _ ⟨src, a, n, rfl, hsr, by omega, h1, h2, fun r H' r0 r1 hs' b' => ⟨s, r, rfl, rfl, q (.int (s + r)) (.int (s + r)) H' b' (hs'.mono (by omega)) (.int _) ((bd_int (Nat.lt_of_le_of_lt (show (s + r).natAbs ≤ 1001000 by omega) (by decide))).mono hc (Nat.le_refl _))⟩⟩⟩⟩
theorem Vx.subDraw {i : Nat} {a s : Int} {tm ta : TE} (hs : σ[i]? = some (some (.ref src))) (hm : Ix σ a tm) (h1 : 1 ≤ a) (h2 : a ≤ 1000000) (ha : Ix σ s ta) (hg : -1000 ≤ s ∧ s ≤ 1000) (hc : 40 ≤ c := by decide) (hj : 1 ≤ j := by decide) :
    Vx K src A σ H0 j c k (tOp (rI0 fun i j => .int (i - j)) ta (tCall spDraw [] E0 (tCons (tVar i) (tCons tm tNil)))) :=
  ⟨fun H Q n b al hsr hn q => ha H _ ⟨_, hs, hm H _ ⟨src, a, n, rfl, hsr, by omega, h1, h2, fun r H' r0 r1 hs' b' => ⟨s, r, rfl, rfl, q (.int (s - r)) (.int (s - r)) H' b' (hs'.mono (by omega)) (.int _) ((bd_int (Nat.lt_of_le_of_lt (show (s - r).natAbs ≤ 1001000 by omega) (by decide))).mono hc (Nat.le_refl _))⟩⟩⟩⟩
theorem Ax.runL (h : Ax K src A σ H0 j c k l ta) (hl : l ≤ 5000000 := by decide) (H : Hp) (Q : VK) (n : Nat) (b : Bt src H0 H) (al : Al A src H) (hs : Src H src n) (hn : n + j ≤ 900000)
    (q : ∀ p vs ds H', Bt src H H' → Src H' src (n + j) → p ≠ src → H' p = some (.lst vs) → OxAll K (av p (avA A H')) vs ds → (∀ d ∈ ds, Bd c k d) → vs.length = l → Q (.ref p) H') : tLst ta σ H Q :=
  h.run H _ n b al hs hn fun vs ds H1 b1 hs1 ox bd el => ⟨by rw [el]; exact big_ok (Nat.le_refl _) hl, fun p np => q p vs ds _ (b1.add np) (hs1.new np) (hs1.ne np) upd_same (oxAll_same (avA_new np) ox) bd el⟩
/-- a new list is put behind the others -/
theorem ox_put {H H' : Hp} {f y : Addr} {vs xs : List V} {ds es : List PyData} (ox : OxAll K (av f (av src H)) vs ds) (b : Bt src H H') (ys : y ≠ src) (yf : y ≠ f) (hy : H' y = some (.lst xs)) (oy : OxAll K (av f (av src (upd H' f (.lst (vs ++ [.ref y]))))) xs es) :
    OxAll K (av f (av src (upd H' f (.lst (vs ++ [.ref y]))))) (vs ++ [.ref y]) (ds ++ [.list es]) :=
  oxAll_app (oxAll_same (Same.trans (av_same (av_bt b)) avA_mut) ox) (.cons (.lst (.of (av_at yf (av_at ys (by rw [upd_ne yf]; exact hy)))) oy) .nil)
end
/-! ### how long texts are, and their signs -/
def OkN (n : Nat) (z : Str) : Prop := z.cps.size ≤ n ∧ ∀ c ∈ z.cps.toList, c < 1114112
theorem OkN.mono {n m : Nat} {z : Str} (h : OkN n z) (l : n ≤ m) : OkN m z := ⟨Nat.le_trans h.1 l, h.2⟩
theorem okN_sg {bs : List Bool} (h : bs.length ≤ 200) : OkN 200 (sgS bs) := ⟨by rw [sg_size]; exact h, fun c hc => by
  have hc' : c ∈ bs.map sgC := hc
  obtain ⟨b, _, rfl⟩ := List.mem_map.mp hc'
  cases b <;> decide⟩
theorem OkN.cat {a b : Nat} {i j : Str} (h : OkN a i) (k : OkN b j) : OkN (a + b) (i ++ j) := ⟨by
  show (i.cps ++ j.cps).size ≤ _
  rw [Array.size_append]
  exact Nat.add_le_add h.1 k.1, fun c hc => by
  have hc' : c ∈ (i.cps ++ j.cps).toList := hc
  rw [Array.toList_append] at hc'
  exact (List.mem_append.mp hc').elim (h.2 c) (k.2 c)⟩
theorem OkN.cut {n : Nat} {z : Str} (h : OkN n z) (lo hi : Option Int) : OkN n (cutS z lo hi) := ⟨by
  unfold cutS
  show ((List.take _ (List.drop _ z.cps.toList)).toArray).size ≤ n
  rw [List.size_toArray, List.length_take, List.length_drop, Array.length_toList]
  have := h.1
  omega, fun c hc => by
  unfold cutS at hc
  exact h.2 c (List.mem_of_mem_drop (List.mem_of_mem_take hc))⟩
theorem OkN.rev {n : Nat} {z : Str} (h : OkN n z) : OkN n (revS z) := ⟨by
  show (z.cps.toList.reverse.toArray).size ≤ n
  rw [List.size_toArray, List.length_reverse, Array.length_toList]
  exact h.1, fun c hc => by
  have hc' : c ∈ z.cps.toList.reverse := hc
  exact h.2 c (List.mem_reverse.mp hc')⟩
theorem OkN.rep {n : Nat} {z : Str} (h : OkN n z) (m : Nat) : OkN (n * m) ⟨(List.replicate m z.cps.toList).flatten.toArray⟩ := ⟨by
  show ((List.replicate m z.cps.toList).flatten.toArray).size ≤ n * m
  have e : ((List.replicate m z.cps.toList).flatten).length = m * z.cps.size := by simp
  rw [List.size_toArray, e, Nat.mul_comm]
  exact Nat.mul_le_mul_right m h.1, fun c hc => by
  have hc' : c ∈ (List.replicate m z.cps.toList).flatten := hc
  obtain ⟨l, hl, hcl⟩ := List.mem_flatten.mp hc'
  rw [(List.mem_replicate.mp hl).2] at hcl
  exact h.2 c hcl⟩
theorem OkN.sz {n : Nat} {z : Str} (h : OkN n z) (l : n ≤ 100000) : z.length ≤ sizeLine := Lp.zs (Nat.le_trans h.1 l)
theorem OkN.sum {a b : Nat} {i j : Str} (h : OkN a i) (k : OkN b j) (l : a + b ≤ 100000) : i.length + j.length ≤ sizeLine := Lp.zs (Nat.le_trans (Nat.add_le_add h.1 k.1) l)
theorem lit1 : OkN 2 ("+" : Str) := ⟨by decide +kernel, by decide +kernel⟩
theorem lit2 : OkN 2 ("-" : Str) := ⟨by decide +kernel, by decide +kernel⟩
theorem lit3 : OkN 2 ("" : Str) := ⟨by decide +kernel, by decide +kernel⟩
theorem lit4 : OkN 2 (" " : Str) := ⟨by decide +kernel, by decide +kernel⟩
theorem lit5 : OkN 2 ("++" : Str) := ⟨by decide +kernel, by decide +kernel⟩
theorem lit6 : OkN 2 ("--" : Str) := ⟨by decide +kernel, by decide +kernel⟩
theorem lit7 : OkN 2 ("+-" : Str) := ⟨by decide +kernel, by decide +kernel⟩
theorem lit8 : OkN 2 ("0" : Str) := ⟨by decide +kernel, by decide +kernel⟩
theorem lit9 : OkN 2 ("\n" : Str) := ⟨by decide +kernel, by decide +kernel⟩
theorem lit10 : OkN 2 ("=" : Str) := ⟨by decide +kernel, by decide +kernel⟩
theorem lit11 : OkN 2 ("x" : Str) := ⟨by decide +kernel, by decide +kernel⟩
def SOk (n : Nat) (xs : List V) : Prop := ∀ x ∈ xs, ∃ z, x = V.str z ∧ OkN n z
theorem SOk.nil {n : Nat} : SOk n [] := fun _ h => (nomatch h)
theorem SOk.cons {n m : Nat} {z : Str} {xs : List V} (h : OkN m z) (l : m ≤ n) (t : SOk n xs) : SOk n (V.str z :: xs) := fun x hx => by
  rcases List.mem_cons.mp hx with e | e
  · exact ⟨z, e, h.mono l⟩
  · exact t x e
end L59
set_option Elab.async false
set_option linter.all false
set_option maxRecDepth 100000
namespace L59
open PySem PySem.Spec PyProof.Rows L2 Lp
/-! ### texts that are no shapes -/
def badC (l : List Nat) : Bool := l.any (fun c => !(c == 43 || c == 45)) || (decide (101 ≤ l.count 45) || decide (101 ≤ l.count 43))
theorem bad_shape {l : List Nat} (a b : List Nat) (h : badC l = true) : shapeB (a ++ l ++ b) = false := by
  cases e : scanL (a ++ l ++ b) with
  | none => unfold shapeB; rw [e]; rfl
  | some r =>
    have s := scan_some _ r e
    by_cases c1 : (a ++ l ++ b).count 43 ≤ 100
    · exfalso
      have r1 := s.run
      unfold badC at h
      have k : ∀ c, l.count c ≤ (a ++ l ++ b).count c := fun c => by rw [List.count_append, List.count_append]; omega
      rcases Bool.or_eq_true _ _ ▸ h with h | h
      · obtain ⟨c, hc, hb⟩ := List.any_eq_true.mp h
        rcases s.sg c (List.mem_append_left _ (List.mem_append_right _ hc)) with rfl | rfl <;> exact absurd hb (by decide)
      · rcases Bool.or_eq_true _ _ ▸ h with h | h
        · have := k 45
          have := of_decide_eq_true h
          omega
        · have := k 43
          have := of_decide_eq_true h
          omega
    · unfold shapeB
      rw [decide_eq_false c1, Bool.and_false]
theorem bad_first (b : List Nat) : shapeB (45 :: b) = false := by
  have e : scanL ([45] ++ b) = none := scan_pre b (by decide)
  unfold shapeB
  rw [show (45 :: b) = [45] ++ b from rfl, e]
  rfl
theorem cps_app (a b : Str) : (a ++ b).cps.toList = a.cps.toList ++ b.cps.toList := by
  have : (a ++ b).cps = a.cps ++ b.cps := rfl
  rw [this, Array.toList_append]
theorem bd_str {n m k : Nat} {z : Str} (h : OkN n z) (l : 10 * n + 2 ≤ m) : Bd m k (.str z) := by
  have z1 := PySem.StrLaws.reprText_len z (fun c hc => Nat.lt_trans (h.2 c hc) (by decide))
  have z2 : z.length ≤ n := h.1
  exact ⟨by show (reprText z).length ≤ m; omega, Nat.zero_le _, rfl, rfl⟩
def chD (z : Str) : List PyData := z.cps.toList.map fun c => .str ⟨#[c]⟩
theorem ox_ch {K : PySem.W.Frag} {H : Hp} : ∀ l : List Nat, OxAll K H (l.map fun c => V.str ⟨#[c]⟩) (l.map fun c => PyData.str ⟨#[c]⟩)
  | [] => .nil
  | c :: l => .cons (.str _) (ox_ch l)
theorem bd_ch {bs : List Bool} {k : Nat} (h : bs.length ≤ 200) : BdAll 3000 k (chD (sgS bs)) := by
  refine (bd_all (c := 12) (L := 200) (fun d hd => ?_) ?_).mono (by decide) (Nat.le_refl _)
  · obtain ⟨c, hc, rfl⟩ := List.mem_map.mp hd
    have hc' : c ∈ bs.map sgC := hc
    obtain ⟨b, _, rfl⟩ := List.mem_map.mp hc'
    refine bd_str (n := 1) ⟨Nat.le_refl _, fun c hc => ?_⟩ (by decide)
    have e : c = sgC b := by simpa using (show c ∈ [sgC b] from hc)
    rw [e]
    cases b <;> decide
  · unfold chD
    rw [List.length_map]
    show ((bs.map sgC).toArray.toList).length ≤ 200
    rw [List.length_map]
    exact h
section
variable {P : Program} {w : World} {K : PySem.W.Frag} {mg : Str → Option Value} {base : Heap}
def spWrongS (K : PySem.W.Frag) : Sp := fun vs H Q _ => ∃ (src : Addr) (bs : List Bool) (n : Nat), vs = [.ref src, .str (sgS bs)] ∧ Src H src n ∧ n ≤ 900000 ∧ 1 ≤ bs.length ∧ bs.length ≤ 200 ∧ ∀ H' v d, Src H' src (n + 4) → Bt src H H' → Ox K (av src H') v d → Bd 30000 3 d → shapeD d = false → Q v H'
set_option maxHeartbeats 4000000 in
theorem ok_law_wrong_signs {f : Addr} {fd : FuncData} (F : Fun K "_law_wrong_signs" "_law_wrong_signs" s_law_wrong_signs f fd) (B : NoB mg) (T_law_draw : Gc P w K mg base 1 "_law_draw" spDraw) : FnG P w K mg base CX0 2 f fd ["pool", "signs"] (spWrongS K) := by
  refine okG F sc_law_wrong_signs (fun vs H Q E h => ?_) (fun cdv A outer s H vs Q E hG hr h => ?_)
  · obtain ⟨src, bs, n, rfl, _⟩ := h
    rfl
  · obtain ⟨src, bs, n, rfl, hs, hn, pos, l200, q⟩ := h
    have hu64 := hr.units
    have og := okN_sg l200
    have gl : (sgS bs).length ≤ 200 := og.1
    have gz : (sgS bs).length ≤ sizeLine := og.sz (by decide)
    have gne : (sgS bs).length = bs.length := sgS_len bs
    have c1 : ∀ lo hi, OkN 200 (cutS (sgS bs) lo hi) := fun lo hi => og.cut lo hi
    refine ⟨_, (pss_cons (ps_par (i := 2) (j := 3) (by rfl) sc_law_wrong_signs.nd rfl rfl (by decide) rfl rfl (pa_cons (pe_g T_law_draw hG hr (by decide) (by rfl) (pa_cons (pv 0) (pa_cons (pe_callB call_len_str (by rfl) B.len PySem.boot_len (pa_cons (pv 1) pa_nil)) pa_nil))) (pa_cons (pe_ix ix_list (pe_lst (pa_cons pe_str (pa_cons pe_str (pa_cons pe_str (pa_cons pe_str (pa_cons pe_str (pa_cons (pe_op op_repS pe_str pe_int) (pa_cons (pe_op op_repS pe_str pe_int) pa_nil)))))))) (pe_g T_law_draw hG hr (by decide) (by rfl) (pa_cons (pv 0) (pa_cons pe_int pa_nil))) (fun _ _ => rfl)) pa_nil)) (by rfl))
        (pss_cons (ps_set (i := 4) sc_law_wrong_signs.nd rfl (Or.inl rfl) (pe_lst (pa_cons (pe_op op_add_str (pe_op op_add_str (pe_slice sl_str (pv 1) po_none (po_some (pv 2))) (pv 3)) (pe_slice sl_str (pv 1) (po_some (pe_op op_add (pv 2) pe_int)) po_none)) (pa_cons (pe_op op_add_str pe_str (pv 1)) (pa_cons (pe_op op_repS pe_str pe_int) (pa_cons (pe_op op_repS pe_str pe_int) (pa_cons pe_non (pa_cons pe_int (pa_cons (pe_callTy (cr_listStr rfl) (by rfl) B.list (by decide +kernel) (pa_cons (pv 1) pa_nil)) pa_nil)))))))))
        (pss_one (ps_ret (pe_ix ix_list (pe_op op_cat (pv 4) (pe_lst (pa_cons (pe_callTy (cr_tupStr rfl) (by rfl) B.tuple (by decide +kernel) (pa_cons (pv 1) pa_nil)) (pa_cons pe_dnewK (pa_cons pe_bl (pa_cons (pe_lst (pa_cons pe_str pa_nil)) pa_nil)))))) (pe_ix ix_list (pe_lst (pa_cons pe_int (pa_cons pe_int (pa_cons pe_int (pa_cons (pe_g T_law_draw hG hr (by decide) (by rfl) (pa_cons (pv 0) (pa_cons pe_int pa_nil))) pa_nil))))) (pe_g T_law_draw hG hr (by decide) (by rfl) (pa_cons (pv 0) (pa_cons pe_int pa_nil))) (fun _ _ => rfl)) (fun _ _ => rfl)))))), ?_⟩
    refine ⟨_, rfl, _, rfl, sgS bs, rfl, gz, src, _, n, rfl, hs, by omega, by omega, by omega, fun at1 H1 a0 a1 hs1 b1 => ?_⟩
    refine ⟨_, 101, rfl, rfl, by decide, by decide, by decide, _, 101, rfl, rfl, by decide, by decide, by decide, by show 7 ≤ sizeLine; decide, fun od nod => ?_⟩
    generalize eodd : ([V.str ("0" : Str), .str (" " : Str), .str ("=" : Str), .str ("\n" : Str), .str ("x" : Str), .str ⟨(List.replicate 101 ("--" : Str).cps.toList).flatten.toArray⟩, .str ⟨(List.replicate 101 ("++" : Str).cps.toList).flatten.toArray⟩] : List V) = odd
    have okd : ∀ x ∈ odd, ∃ z, x = V.str z ∧ OkN 204 z ∧ badC z.cps.toList = true := fun x hx => by
      subst eodd
      simp only [List.mem_cons, List.not_mem_nil, or_false] at hx
      rcases hx with rfl | rfl | rfl | rfl | rfl | rfl | rfl
      · exact ⟨_, rfl, lit8.mono (by decide), by decide +kernel⟩
      · exact ⟨_, rfl, lit4.mono (by decide), by decide +kernel⟩
      · exact ⟨_, rfl, lit10.mono (by decide), by decide +kernel⟩
      · exact ⟨_, rfl, lit9.mono (by decide), by decide +kernel⟩
      · exact ⟨_, rfl, lit11.mono (by decide), by decide +kernel⟩
      · exact ⟨_, rfl, (lit6.rep 101).mono (by decide), by decide +kernel⟩
      · exact ⟨_, rfl, (lit5.rep 101).mono (by decide), by decide +kernel⟩
    have lodd : odd.length = 7 := by rw [← eodd]; rfl
    have nods := hs1.ne nod
    have b2 := b1.add (o := .lst odd) nod
    have hs2 := hs1.new (o := .lst odd) nod
    have hod2 : (upd H1 od (.lst odd)) od = some (.lst odd) := upd_same
    generalize upd H1 od (.lst odd) = H2 at b2 hs2 hod2 ⊢
    refine ⟨_, rfl, src, 7, n + 1, rfl, hs2, by omega, by decide, by decide, fun r H3 r0 r1 hs3 b3 => ?_⟩
    obtain ⟨k, rfl⟩ := nat_of r0
    have hk : k < odd.length := by omega
    obtain ⟨z, ez, okz, bz⟩ := okd _ (List.getElem_mem hk)
    have ek : odd[k]? = some (.str z) := by rw [List.getElem?_eq_getElem hk, ez]
    have hod3 := b3 _ _ nods hod2
    have b13 := b2.trans b3
    refine ⟨od, odd, (k : Int), .str z, rfl, rfl, .of hod3, atI_nat ek, _, _, rfl, ?_⟩
    -- some
    refine ⟨_, rfl, _, rfl, _, rfl, sgS bs, rfl, gz, _, rfl, _, _, rfl, rfl, (c1 _ _).sum okz (by decide), _, rfl, _, rfl, _, _, rfl, rfl, _, rfl, sgS bs, rfl, gz, _, _, rfl, rfl, ((c1 _ _).cat okz).sum (c1 _ _) (by decide), ?_⟩
    refine ⟨_, rfl, _, _, rfl, rfl, lit2.sum og (by decide), _, 101, rfl, rfl, by decide, by decide, by decide, _, 101, rfl, rfl, by decide, by decide, by decide, _, rfl, sgS bs, rfl, Nat.le_trans og.1 (by decide), fun e2 n2 => ⟨by show 7 ≤ sizeLine; decide, fun so nso => ?_⟩⟩
    have t0 : OkN 604 (cutS (sgS bs) none (some at1) ++ z ++ cutS (sgS bs) (some (at1 + 1)) none) := (((c1 _ _).cat okz).cat (c1 _ _))
    have x0 : shapeB (cutS (sgS bs) none (some at1) ++ z ++ cutS (sgS bs) (some (at1 + 1)) none).cps.toList = false := by rw [cps_app, cps_app]; exact bad_shape _ _ bz
    generalize cutS (sgS bs) none (some at1) ++ z ++ cutS (sgS bs) (some (at1 + 1)) none = w0 at t0 x0 ⊢
    have t1 : OkN 202 (("-" : Str) ++ sgS bs) := lit2.cat og
    have x1 : shapeB (("-" : Str) ++ sgS bs).cps.toList = false := by rw [cps_app]; exact bad_first _
    generalize ("-" : Str) ++ sgS bs = w1 at t1 x1 ⊢
    have t2 := (lit7.rep 101)
    have x2 : shapeB (⟨(List.replicate 101 ("+-" : Str).cps.toList).flatten.toArray⟩ : Str).cps.toList = false := by decide +kernel
    generalize (⟨(List.replicate 101 ("+-" : Str).cps.toList).flatten.toArray⟩ : Str) = w2 at t2 x2 ⊢
    have t3 := (lit1.rep 101)
    have x3 : shapeB (⟨(List.replicate 101 ("+" : Str).cps.toList).flatten.toArray⟩ : Str).cps.toList = false := by decide +kernel
    generalize (⟨(List.replicate 101 ("+" : Str).cps.toList).flatten.toArray⟩ : Str) = w3 at t3 x3 ⊢
    refine ⟨_, rfl, _, rfl, sgS bs, rfl, Nat.le_trans og.1 (by decide), fun e3 n3 e4 n4 => ⟨by show 1 ≤ sizeLine; decide, fun e5 n5 => ⟨by show 4 ≤ sizeLine; decide, fun L nL => ?_⟩⟩⟩
    have u2 := same_new (o := HO.lst (chL (sgS bs))) n2
    have m2 := hs3.ne n2
    have g2 := hs3.new (o := HO.lst (chL (sgS bs))) n2
    have f2 : (upd H3 e2 (HO.lst (chL (sgS bs)))) e2 = some (.lst (chL (sgS bs))) := upd_same
    generalize upd H3 e2 (HO.lst (chL (sgS bs))) = H4 at u2 g2 f2 nso n3 n4 n5 nL ⊢
    have u5 := same_new (o := HO.lst [V.str w0, .str w1, .str w2, .str w3, .non, .int 0, .ref e2]) nso
    have g5 := g2.new (o := HO.lst [V.str w0, .str w1, .str w2, .str w3, .non, .int 0, .ref e2]) nso
    have hso : (upd H4 so (HO.lst [V.str w0, .str w1, .str w2, .str w3, .non, .int 0, .ref e2])) so = some (.lst [V.str w0, .str w1, .str w2, .str w3, .non, .int 0, .ref e2]) := upd_same
    have f2a := u5 _ _ f2
    generalize upd H4 so (HO.lst [V.str w0, .str w1, .str w2, .str w3, .non, .int 0, .ref e2]) = H5 at u5 g5 hso f2a n3 n4 n5 nL ⊢
    have u6 := same_new (o := HO.tup (chL (sgS bs))) n3
    have m3 := g5.ne n3
    have g6 := g5.new (o := HO.tup (chL (sgS bs))) n3
    have f3 : (upd H5 e3 (HO.tup (chL (sgS bs)))) e3 = some (.tup (chL (sgS bs))) := upd_same
    have f2b := u6 _ _ f2a
    have hsob := u6 _ _ hso
    generalize upd H5 e3 (HO.tup (chL (sgS bs))) = H6 at u6 g6 f3 f2b hsob n4 n5 nL ⊢
    have u7 := same_new (o := HO.dK []) n4
    have m4 := g6.ne n4
    have g7 := g6.new (o := HO.dK []) n4
    have f4 : (upd H6 e4 (HO.dK [])) e4 = some (.dK []) := upd_same
    have f2c := u7 _ _ f2b
    have f3c := u7 _ _ f3
    have hsoc := u7 _ _ hsob
    generalize upd H6 e4 (HO.dK []) = H7 at u7 g7 f4 f2c f3c hsoc n5 nL ⊢
    have u8 := same_new (o := HO.lst [V.str ("+" : Str)]) n5
    have m5 := g7.ne n5
    have g8 := g7.new (o := HO.lst [V.str ("+" : Str)]) n5
    have f5 : (upd H7 e5 (HO.lst [V.str ("+" : Str)])) e5 = some (.lst [V.str ("+" : Str)]) := upd_same
    have f2d := u8 _ _ f2c
    have f3d := u8 _ _ f3c
    have f4d := u8 _ _ f4
    have hsod := u8 _ _ hsoc
    generalize upd H7 e5 (HO.lst [V.str ("+" : Str)]) = H8 at u8 g8 f5 f2d f3d f4d hsod nL ⊢
    have u9 := same_new (o := HO.lst [V.ref e3, .ref e4, .bl true, .ref e5]) nL
    refine ⟨so, L, _, _, rfl, rfl, u9 _ _ hsod, upd_same, by show 7 + 4 ≤ sizeLine; decide, fun s3 ns3 => ?_⟩
    have g9 := g8.new (o := HO.lst [V.ref e3, .ref e4, .bl true, .ref e5]) nL
    have m9 := g9.ne ns3
    have u10 := u9.trans (same_new (o := HO.lst ([V.str w0, .str w1, .str w2, .str w3, .non, .int 0, .ref e2] ++ [V.ref e3, .ref e4, .bl true, .ref e5])) ns3)
    have g10 := g9.new (o := HO.lst ([V.str w0, .str w1, .str w2, .str w3, .non, .int 0, .ref e2] ++ [V.ref e3, .ref e4, .bl true, .ref e5])) ns3
    have hs3' : (upd (upd H8 L (HO.lst [V.ref e3, .ref e4, .bl true, .ref e5])) s3 (HO.lst ([V.str w0, .str w1, .str w2, .str w3, .non, .int 0, .ref e2] ++ [V.ref e3, .ref e4, .bl true, .ref e5]))) s3 = some (.lst [V.str w0, .str w1, .str w2, .str w3, .non, .int 0, .ref e2, .ref e3, .ref e4, .bl true, .ref e5]) := upd_same
    have f2e := u10 _ _ f2d
    have f3e := u10 _ _ f3d
    have f4e := u10 _ _ f4d
    have f5e := u10 _ _ f5
    have uA := ((((u2.trans u5).trans u6).trans u7).trans u8).trans u10
    generalize upd (upd H8 L (HO.lst [V.ref e3, .ref e4, .bl true, .ref e5])) s3 (HO.lst ([V.str w0, .str w1, .str w2, .str w3, .non, .int 0, .ref e2] ++ [V.ref e3, .ref e4, .bl true, .ref e5])) = HA at uA g10 hs3' f2e f3e f4e f5e ⊢
    refine ⟨_, rfl, src, 11, n + 2, rfl, g10, by omega, by decide, by decide, fun j1 HB j0 j2 hsB bB => ⟨by show 4 ≤ sizeLine; decide, fun ix nix => ?_⟩⟩
    refine ⟨_, rfl, src, 4, n + 3, rfl, hsB.new nix, by omega, by decide, by decide, fun k1 HC k0 k2 hsC bC => ?_⟩
    have nixs := hsB.ne nix
    have hix : HC ix = some (.lst [V.int 0, .int 0, .int 1, .int j1]) := bC _ _ nixs upd_same
    have bAC : Bt src HA HC := (bB.add nix).trans bC
    have hsc : HC s3 = some (.lst [V.str w0, .str w1, .str w2, .str w3, .non, .int 0, .ref e2, .ref e3, .ref e4, .bl true, .ref e5]) := bAC _ _ m9 hs3'
    obtain ⟨k4, rfl⟩ := nat_of k0
    obtain ⟨j4, rfl⟩ := nat_of j0
    have pick : ∃ m : Nat, m < 11 ∧ ([V.int 0, .int 0, .int 1, .int (j4 : Int)] : List V)[k4]? = some (.int (m : Int)) := by
      have : k4 < 4 := by omega
      match k4, this with
      | 0, _ => exact ⟨0, by decide, rfl⟩
      | 1, _ => exact ⟨0, by decide, rfl⟩
      | 2, _ => exact ⟨1, by decide, rfl⟩
      | 3, _ => exact ⟨j4, by omega, rfl⟩
    obtain ⟨m, hm, em⟩ := pick
    suffices hh : ∃ v d, ([V.str w0, .str w1, .str w2, .str w3, .non, .int 0, .ref e2, .ref e3, .ref e4, .bl true, .ref e5] : List V)[m]? = some v ∧ Ox K (av src HA) v d ∧ Bd 30000 3 d ∧ shapeD d = false by
      obtain ⟨v, d, e, ox, bd, sh⟩ := hh
      exact ⟨ix, _, (k4 : Int), .int (m : Int), rfl, rfl, .of hix, atI_nat em, s3, _, (m : Int), v, rfl, rfl, .of hsc, atI_nat e, q _ v d hsC ((b13.trans (.of uA)).trans bAC) (ox_same (av_bt bAC) ox) bd sh⟩
    match m, hm with
    | 0, _ => exact ⟨_, _, rfl, (.str _), (bd_str t0 (by decide)), x0⟩
    | 1, _ => exact ⟨_, _, rfl, (.str _), (bd_str t1 (by decide)), x1⟩
    | 2, _ => exact ⟨_, _, rfl, (.str _), (bd_str t2 (by decide)), x2⟩
    | 3, _ => exact ⟨_, _, rfl, (.str _), (bd_str t3 (by decide)), x3⟩
    | 4, _ => exact ⟨_, _, rfl, .non, ⟨by decide, Nat.zero_le _, rfl, rfl⟩, rfl⟩
    | 5, _ => exact ⟨_, _, rfl, (.int 0), ((bd_int (by decide)).mono (by decide) (Nat.le_refl _)), rfl⟩
    | 6, _ => exact ⟨_, (.list (chD (sgS bs))), rfl, (.lst (.of (av_at m2 f2e)) (ox_ch _)), ((Bd.list (bd_ch (k := 0) l200)).mono (by decide) (by decide)), rfl⟩
    | 7, _ => exact ⟨_, (.tuple (chD (sgS bs))), rfl, (.tup (.of (av_at m3 f3e)) (ox_ch _)), ((Bd.tuple (bd_ch (k := 0) l200)).mono (by decide) (by decide)), rfl⟩
    | 8, _ => exact ⟨_, (.dict []), rfl, (.dct (av_at m4 f4e)), ⟨by decide, by decide, rfl, rfl⟩, rfl⟩
    | 9, _ => exact ⟨_, _, rfl, (.bl true), ⟨by decide, Nat.zero_le _, rfl, rfl⟩, rfl⟩
    | 10, _ => exact ⟨_, (.list [.str ("+" : Str)]), rfl, (.lst (.of (av_at m5 f5e)) (.cons (.str _) .nil)), ((Bd.list (k := 0) (.cons (bd_str lit1 (Nat.le_refl _)) .nil)).mono (by decide) (by decide)), rfl⟩
end
end L59
set_option Elab.async false
set_option linter.all false
set_option maxRecDepth 100000
namespace L59
open PySem PySem.Spec PyProof.Rows L2 Lp
theorem nth_dn' {bs : List Bool} {idx r : Nat} (h : r < runN bs) : nthS (bs ++ [false]) (idx * runN bs + r) = ((nthS bs idx).1 ++ [-((nthS bs idx).2.getD ((nthS bs idx).2.length - 1 - r) 0)], (nthS bs idx).2.eraseIdx ((nthS bs idx).2.length - 1 - r)) := by
  have e1 : (idx * runN bs + r) / runN bs = idx := by
    rw [Nat.mul_comm, Nat.mul_add_div (by omega), Nat.div_eq_of_lt h, Nat.add_zero]
  have e2 : (idx * runN bs + r) % runN bs = r := by
    rw [Nat.mul_comm, Nat.mul_add_mod, Nat.mod_eq_of_lt h]
  have e := nth_dn bs (idx * runN bs + r)
  rw [e1, e2] at e
  exact e
theorem idx_lt {bs : List Bool} {idx r : Nat} (h : r < runN bs) (hi : idx < waysN bs) : idx * runN bs + r < waysN (bs ++ [false]) := by
  rw [ways_dn]
  have : (idx + 1) * runN bs ≤ waysN bs * runN bs := Nat.mul_le_mul_right _ hi
  rw [Nat.add_mul, Nat.one_mul] at this
  omega
section
variable {P : Program} {w : World} {K : PySem.W.Frag} {mg : Str → Option Value} {base : Heap}
/-! ### _law_row -/
def spRow : Sp := fun vs H Q _ => ∃ (src : Addr) (bs : List Bool) (n : Nat), vs = [.ref src, .str (sgS bs)] ∧ Src H src n ∧ n ≤ 900000 ∧ SgOk bs ∧ upsN bs ≤ 100 ∧
  ∀ (H' : Hp) (p : Addr) (idx : Nat), idx < waysN bs → Bt src H H' → Src H' src (n + 200) → H p = none → H' p = some (.lst ((nthL bs idx).map V.int)) → Q (.ref p) H'
set_option maxHeartbeats 1000000 in
theorem ok_law_row {f : Addr} {fd : FuncData} (F : Fun K "_law_row" "_law_row" s_law_row f fd) (B : NoB mg) (T_law_draw : Gc P w K mg base 1 "_law_draw" spDraw) : FnG P w K mg base CX0 2 f fd ["pool", "signs"] spRow := by
  refine okG F sc_law_row (fun vs H Q E h => ?_) (fun cdv A outer s H vs Q E hG hr h => ?_)
  · obtain ⟨src, bs, n, rfl, _⟩ := h
    rfl
  · obtain ⟨src, bs, n, rfl, hs, hn, ok, u1, q⟩ := h
    have slen := sg_len ok u1
    refine ⟨_, (pss_cons (ps_par3 (i := 2) (j := 3) (l := 4) (by rfl) sc_law_row.nd rfl rfl rfl (by decide) (by decide) (by decide) rfl rfl rfl (pa_cons (pe_lst pa_nil) (pa_cons (pe_lst pa_nil) (pa_cons pe_int pa_nil))) (by rfl))
        (pss_cons (ps_for PassesOwn.never rfl (pi_str (pv 1)) (pg_name (i := 5) sc_law_row.nd rfl (Or.inl rfl))
          (pss_one (ps_if (pt_cmpR op_eq (pv 5) pe_str (nomark _)) (pss_cons (ps_set (i := 4) sc_law_row.nd rfl (Or.inl rfl) (pe_op op_add (pv 4) pe_int))
            (pss_cons (ps_expr (pe_bm PySem.F.plainAttrs_list PySem.F.slot_list_append PySem.F.type_list_append mt_append (pv 3) (pa_cons (pv 4) pa_nil)))
            (pss_one (ps_expr (pe_bm PySem.F.plainAttrs_list PySem.F.slot_list_append PySem.F.type_list_append mt_append (pv 2) (pa_cons (pv 4) pa_nil)))))) (pss_one (ps_expr (pe_bm PySem.F.plainAttrs_list PySem.F.slot_list_append PySem.F.type_list_append mt_append (pv 2) (pa_cons (pe_op op_sub pe_int (pe_bm PySem.F.plainAttrs_list PySem.F.slot_list_pop PySem.F.type_list_pop mt_popAt (pv 3) (pa_cons (pe_g T_law_draw hG hr (by decide) (by rfl) (pa_cons (pv 0) (pa_cons (pe_callB call_len_seq (by rfl) B.len PySem.boot_len (pa_cons (pv 3) pa_nil)) pa_nil))) pa_nil))) pa_nil)))))))
        (pss_one (ps_ret (pv 2))))), ?_⟩
    refine ⟨Nat.zero_le _, fun fp nfp => ⟨Nat.zero_le _, fun rp nrp => ⟨_, _, _, rfl, ?_⟩⟩⟩
    have nfr : fp ≠ rp := ne_of_none upd_same nrp
    have rp0 : H rp = none := (same_new (o := .lst []) nfp).free nrp
    have nfs := hs.ne nfp
    have nrs := hs.ne rp0
    refine ⟨_, rfl, _, rfl, for_it (walk_str (z := sgS bs)) (fun i σ H' => ∃ (y : Option V) (st : Int) (idx : Nat), σ = [some (.ref src), some (.str (sgS bs)), some (.ref fp), some (.ref rp), some (.int st), y] ∧ st = ((upsN (bs.take i) : Nat) : Int) ∧ idx < waysN (bs.take i) ∧
      H' fp = some (.lst ((nthS (bs.take i) idx).1.map V.int)) ∧ H' rp = some (.lst ((nthS (bs.take i) idx).2.map V.int)) ∧ Src H' src (n + i) ∧ Bt src H H') ⟨_, _, 0, rfl, rfl, by rw [List.take_zero]; decide, ?_, upd_same, (hs.new nfp).new nrp, ((Bt.refl src H).add nfp).add nrp⟩ (fun i σ H' _ h => trivial) (fun i x σ H' H2 hi2 h hy => ?_) (fun σ H' h => ?_)⟩
    · rw [upd_ne nfr, upd_same]
      rfl
    · obtain ⟨e1, cc, hc, rfl⟩ := hy
      subst e1
      obtain ⟨b, hb, rfl⟩ := sg_get hc
      obtain ⟨y, st, idx, rfl, rfl, hidx, hf, hr2, hsi, bi⟩ := h
      have hlt := lt_get hb
      have r1 := run_eq (ok.take i)
      have ui := ups_take u1 i
      have es := take_snoc hb
      have N := nth_ok (ok.take i) ui idx hidx
      have nl := N.len
      rw [List.length_take] at nl
      have nr := N.run
      cases b with
      | true =>
        have pu := nth_up (bs.take i) idx
        refine ⟨_, rfl, rfl, true, blP true, ?_⟩
        refine ⟨_, rfl, _, _, rfl, rfl, ?_⟩
        refine ⟨_, rfl, .inl ⟨rfl, _, .of hr2⟩, _, rfl, rp, _, _, rfl, rfl, hr2, by rw [List.length_map]; exact zl (by omega), ?_⟩
        have hf2 : (upd H2 rp (.lst ((nthS (bs.take i) idx).2.map V.int ++ [.int (((upsN (bs.take i) : Nat) : Int) + 1)]))) fp = some (.lst ((nthS (bs.take i) idx).1.map V.int)) := by rw [upd_ne nfr]; exact hf
        refine ⟨_, rfl, .inl ⟨rfl, _, .of hf2⟩, _, rfl, fp, _, _, rfl, rfl, hf2, by rw [List.length_map]; exact zl (by omega), _, _, idx, rfl, ?_, ?_, ?_, ?_, ?_, ?_⟩
        · rw [es, ups_up]; omega
        · rw [es, ways_up]; exact hidx
        · rw [upd_same, es, pu, List.map_append]
          rfl
        · rw [upd_ne nfr.symm, upd_same, es, pu, List.map_append]
          rfl
        · exact ((hsi.upd nrs).upd nfs).mono (by omega)
        · exact (bi.mut rp0).mut nfp
      | false =>
        have pos := ok i hb
        refine ⟨_, rfl, rfl, false, blP false, ?_⟩
        refine ⟨_, rfl, .inl ⟨rfl, _, .of hf⟩, ?_⟩
        refine ⟨_, rfl, .inl ⟨rfl, _, .of hr2⟩, _, rfl, _, rfl, rp, _, rfl, .inl (.of hr2), src, _, n + i, rfl, hsi, by omega, by rw [List.length_map]; omega, by rw [List.length_map]; omega, fun r H9 r0 r1' hs9 b9 => ?_⟩
        obtain ⟨j, rfl⟩ := nat_of r0
        rw [List.length_map] at r1'
        have hj : j < (nthS (bs.take i) idx).2.length := by omega
        have hr9 := b9 _ _ nrs hr2
        have hf9 := b9 _ _ nfs hf
        have hf10 : (upd H9 rp (.lst (((nthS (bs.take i) idx).2.map V.int).eraseIdx j))) fp = some (.lst ((nthS (bs.take i) idx).1.map V.int)) := by rw [upd_ne nfr]; exact hf9
        have hk : runN (bs.take i) - 1 - j < runN (bs.take i) := by omega
        have pd := nth_dn' (bs := bs.take i) (idx := idx) hk
        have ej : (nthS (bs.take i) idx).2.length - 1 - (runN (bs.take i) - 1 - j) = j := by omega
        rw [ej] at pd
        have eg : (nthS (bs.take i) idx).2.getD j 0 = (nthS (bs.take i) idx).2[j] := by rw [List.getD_eq_getElem?_getD, List.getElem?_eq_getElem hj]; rfl
        rw [eg] at pd
        refine ⟨rp, _, _, j, _, rfl, rfl, hr9, (nm (by omega)).1, (nm (by omega)).2, by rw [List.length_map]; exact ix_at hj, get_at hj, _, _, rfl, rfl, fp, _, _, rfl, rfl, hf10, by rw [List.length_map]; exact zl (by omega), _, _, idx * runN (bs.take i) + (runN (bs.take i) - 1 - j), rfl, ?_, ?_, ?_, ?_, ?_, ?_⟩
        · rw [es, ups_dn]
        · rw [es]
          exact idx_lt hk hidx
        · rw [upd_same, es, pd, List.map_append, ← Int.zero_sub]
          rfl
        · rw [upd_ne nfr.symm, upd_same, es, pd, erase_map]
        · exact ((hs9.upd nrs).upd nfs).mono (by omega)
        · exact ((bi.trans b9).mut rp0).mut nfp
    · obtain ⟨y, st, idx, rfl, rfl, hidx, hf, hr2, hsi, bi⟩ := h
      rw [sg_size, List.take_length] at hidx hf
      rw [sg_size] at hsi
      exact ⟨_, rfl, q _ fp idx hidx bi (hsi.mono (by omega)) nfp hf⟩
end
end L59
set_option Elab.async false
set_option linter.all false
set_option maxRecDepth 100000
namespace L59
open PySem PySem.Spec PyProof.Rows L2 Lp
/-! ### values that are no histories -/
def notEv (d : PyData) : Prop := ∀ i : Int, d = .int i → i = 0 ∨ i < -100 ∨ 100 < i
theorem nh_ev {as bs : List PyData} {d : PyData} (h : notEv d) : ¬ HistD (.list (as ++ [d] ++ bs)) := fun ⟨ns, e, hh⟩ => by
  have e : as ++ [d] ++ bs = ns.map PyData.int := PyData.list.inj e
  have m : d ∈ ns.map PyData.int := by rw [← e]; exact List.mem_append_left _ (List.mem_append_right _ List.mem_cons_self)
  obtain ⟨n, hn, rfl⟩ := List.mem_map.mp m
  have r := hh.rng n hn
  rcases h n rfl with z | z | z <;> omega
theorem nh_of {ms : List Int} (h : ¬ Hist ms) : ¬ HistD (dI ms) := fun ⟨ns, e, hh⟩ => h (by rw [dI_inj e]; exact hh)
theorem nh_dup {ns : List Int} {e : Int} (h : e ∈ ns) : ¬ Hist (ns ++ [e]) := fun hh => (List.nodup_append.mp hh.nd).2.2 e h e List.mem_cons_self rfl
theorem nh_first : ¬ Hist [-1, 1] := fun hh => by
  have := hh.ord 0 (-1) rfl (by decide)
  exact absurd this List.not_mem_nil
theorem nh_stop {ns : List Int} {f : Int} (h0 : 0 < f) (h : f ∉ ns) (r : List Int) : ¬ Hist (ns ++ [0 - f] ++ r) := fun hh => by
  have g : (ns ++ [0 - f] ++ r)[ns.length]? = some (0 - f) := by
    rw [List.append_assoc, List.getElem?_append_right (Nat.le_refl _), Nat.sub_self]
    rfl
  have o := hh.ord ns.length (0 - f) g (by omega)
  rw [List.append_assoc, List.take_append_of_le_length (Nat.le_refl _), List.take_length] at o
  have e : -(0 - f) = f := by omega
  rw [e] at o
  exact h o
theorem nh_zero {ns : List Int} : ¬ Hist (ns ++ [0]) := fun hh => (hh.rng 0 (List.mem_append_right _ List.mem_cons_self)).1 rfl
theorem nh_tup {ds : List PyData} : ¬ HistD (.tuple ds) := fun ⟨_, e, _⟩ => nomatch e
theorem filt_snoc {l : List Int} {f : Int → Bool} {e : Int} : (l ++ [e]).filter f = l.filter f ++ if f e = true then [e] else [] := by
  rw [List.filter_append, List.filter_cons]
  split <;> rfl
def frL (ns : List Int) : List Int := (upL 100).filter fun k => decide (k ∉ ns)
theorem frL_mem {ns : List Int} {k : Int} (h : k ∈ frL ns) : 0 < k ∧ k ≤ 100 ∧ k ∉ ns := by
  obtain ⟨h1, h2⟩ := List.mem_filter.mp h
  have := upL_mem h1
  exact ⟨by omega, by omega, of_decide_eq_true h2⟩
theorem frL_len (ns : List Int) : (frL ns).length ≤ 100 := by
  have := List.length_filter_le (fun k => decide (k ∉ ns)) (upL 100)
  rw [upL_len] at this
  exact this
theorem cutV_take1 (xs : List V) : cutV xs none (some 1) = xs.take 1 := by
  unfold cutV
  rw [HT.sIx_none]
  have e : HT.sIx xs.length xs.length (some 1) = min 1 xs.length := by
    show (if (1 : Int) < 0 then ((1 : Int) + (xs.length : Int)).toNat else min (1 : Int).toNat xs.length) = _
    rw [if_neg (by decide)]
    rfl
  rw [e, List.drop_zero, Nat.sub_zero]
  cases xs with
  | nil => rfl
  | cons x r => rfl
theorem nodI {ns : List Int} (hh : Hist ns) : Bd 1300 1 (dI ns) := (Bd.list (bd_small (k := 0) (fun e he => (hh.rng e he).2) hh.len)).mono (by decide) (by decide)
theorem oxAll_cutI {K : PySem.W.Frag} {ns : List Int} (lo hi : Option Int) : ∃ es, (∀ H : Hp, OxAll K H (cutV (ns.map V.int) lo hi) es) ∧ es.Sublist (ns.map PyData.int) := by
  unfold cutV
  exact ⟨_, fun H => oxAll_take _ (oxAll_drop _ (oxAll_ints ns)), (List.take_sublist _ _).trans (List.drop_sublist _ _)⟩
section
variable {P : Program} {w : World} {K : PySem.W.Frag} {mg : Str → Option Value} {base : Heap}
def spWrongR (K : PySem.W.Frag) : Sp := fun vs H Q _ => ∃ (src a : Addr) (ns : List Int) (n : Nat), vs = [.ref src, .ref a] ∧ Src H src n ∧ n ≤ 900000 ∧ a ≠ src ∧ H a = some (.lst (ns.map V.int)) ∧ Hist ns ∧ 1 ≤ ns.length ∧ ∀ H' v d, Src H' src (n + 4) → Bt src H H' → Ox K (av src H') v d → Bd 30000 3 d → ¬ HistD d → Q v H'
set_option maxHeartbeats 8000000 in
theorem ok_law_wrong_row {f : Addr} {fd : FuncData} (F : Fun K "_law_wrong_row" "_law_wrong_row" s_law_wrong_row f fd) (B : NoB mg) (T_law_draw : Gc P w K mg base 1 "_law_draw" spDraw) : FnG P w K mg base CX0 2 f fd ["pool", "row"] (spWrongR K) := by
  refine okG F sc_law_wrong_row (fun vs H Q E h => ?_) (fun cdv A outer s H vs Q E hG hr h => ?_)
  · obtain ⟨src, a, ns, n, rfl, _⟩ := h
    rfl
  · obtain ⟨src, a, ns, n, rfl, hs, hn, m_a, f_a, hh, pos, q⟩ := h
    have hu64 := hr.units
    have hl := hh.len
    have lV : (ns.map V.int).length = ns.length := List.length_map _
    have fl := frL_len ns
    have lF : ((frL ns).map V.int).length = (frL ns).length := List.length_map _
    have oxI : ∀ {H : Hp} (ms : List Int), OxAll K H (ms.map V.int) (ms.map PyData.int) := fun ms => oxAll_ints ms
    have PA : ∀ d ∈ ns.map PyData.int, Bd 4 0 d := fun d hd => by
      obtain ⟨e, he, rfl⟩ := List.mem_map.mp hd
      have := hh.rng e he
      have z := bd_i4 (i := e) (k := 0) ⟨by omega, by omega⟩
      exact z
    have big : CPowW 10 30 := powW_ok (n := 4) (by decide) (by decide) (by decide)
    refine ⟨_, (pss_cons (ps_set (i := 2) sc_law_wrong_row.nd rfl (Or.inl rfl) (pe_g T_law_draw hG hr (by decide) (by rfl) (pa_cons (pv 0) (pa_cons (pe_callB call_len_seq (by rfl) B.len PySem.boot_len (pa_cons (pv 1) pa_nil)) pa_nil))))
        (pss_cons (ps_set (i := 3) sc_law_wrong_row.nd rfl (Or.inl rfl) (pe_lst (pa_cons pe_int (pa_cons pe_int (pa_cons (pe_un un_neg pe_int) (pa_cons pe_bl (pa_cons pe_bl (pa_cons pe_non (pa_cons pe_str (pa_cons (pe_lst (pa_cons pe_int pa_nil)) (pa_cons (pe_tup (pa_cons pe_int pa_nil)) (pa_cons pe_dnewK (pa_cons (pe_op op_powW pe_int pe_int) (pa_cons (pe_op op_sub pe_int (pe_op op_powW pe_int pe_int)) (pa_cons pe_int pa_nil)))))))))))))))
        (pss_cons (ps_set (i := 4) sc_law_wrong_row.nd rfl (Or.inl rfl) (pe_op op_cat (pe_op op_cat (pe_slice sl_list (pv 1) po_none (po_some (pv 2))) (pe_lst (pa_cons (pe_ix ix_list (pv 3) (pe_g T_law_draw hG hr (by decide) (by rfl) (pa_cons (pv 0) (pa_cons pe_int pa_nil))) (fun _ _ => rfl)) pa_nil))) (pe_slice sl_list (pv 1) (po_some (pe_op op_add (pv 2) pe_int)) po_none)))
        (pss_cons (ps_setLc (i := 5) (own := [("one", 7)]) (g := gName 7) (tt := _) rfl sc_law_wrong_row.nd rfl rfl (sw_true rfl rfl rfl (by decide +kernel)) (pi_range2 rfl B.range (pa_cons pe_int (pa_cons pe_int pa_nil))) (blkOk_by (own := [("one", 7)]) (N := N_law_wrong_row) (sc := defScope s_law_wrong_row) (by decide +kernel)) (fun _ _ _ _ _ => (pg_name (i := 7) sc_law_wrong_row.nd rfl (Or.inl rfl))) (fun _ _ _ _ _ => (pts_one (pt_cmpR (k_notin (K := K) rfl) (pv 7) (pv 1) (by rfl)))) (fun _ _ _ _ _ => (pv 7)))
        (pss_cons (ps_set (i := 6) sc_law_wrong_row.nd rfl (Or.inl rfl) (pe_lst (pa_cons (pv 4) (pa_cons (pe_op op_cat (pv 1) (pe_lst (pa_cons (pe_ix ix_list (pv 1) (pv 2) (fun _ _ => rfl)) pa_nil))) (pa_cons (pe_lst (pa_cons (pe_un un_neg pe_int) (pa_cons pe_int pa_nil))) (pa_cons (pe_op op_cat (pe_op op_cat (pv 1) (pe_lc (own := [("one", 7)]) (g := gName 7) (tt := tYes) rfl sc_law_wrong_row.nd (pi_list (pe_slice sl_list (pv 5) po_none (po_some pe_int))) (blkOk_by (own := [("one", 7)]) (N := N_law_wrong_row) (sc := defScope s_law_wrong_row) (by decide +kernel)) (fun _ _ _ _ _ => (pg_name (i := 7) sc_law_wrong_row.nd rfl (Or.inl rfl))) (fun _ _ _ _ _ => pts_nil) (fun _ _ _ _ _ => (pe_op op_sub pe_int (pv 7))))) (pe_op op_rep (pe_lst (pa_cons pe_int pa_nil)) (pe_callTy call_int1 (by rfl) B.int (by decide +kernel) (pa_cons (pe_cmpR (op_eqD hu64) (pv 5) (pe_lst pa_nil) (nomark _)) pa_nil)))) (pa_cons (pe_callTy call_tuple_of (by rfl) B.tuple (by decide +kernel) (pa_cons (pv 1) pa_nil)) pa_nil)))))))
        (pss_one (ps_ret (pe_ix ix_list (pe_op op_cat (pv 6) (pe_lst (pa_cons pe_non (pa_cons pe_int (pa_cons pe_str (pa_cons pe_dnewK (pa_cons (pe_lst (pa_cons (pv 1) pa_nil)) (pa_cons (pe_op op_rep (pe_lst (pa_cons pe_int pa_nil)) pe_int) pa_nil)))))))) (pe_ix ix_list (pe_lst (pa_cons pe_int (pa_cons pe_int (pa_cons pe_int (pa_cons (pe_g T_law_draw hG hr (by decide) (by rfl) (pa_cons (pv 0) (pa_cons pe_int pa_nil))) pa_nil))))) (pe_g T_law_draw hG hr (by decide) (by rfl) (pa_cons (pv 0) (pa_cons pe_int pa_nil))) (fun _ _ => rfl)) (fun _ _ => rfl))))))))), ?_⟩
    have g := hs
    have b := Bt.refl src H
    refine ⟨_, rfl, _, rfl, a, _, rfl, .inl (.of f_a), src, _, n, rfl, g, by omega, by rw [lV]; omega, by rw [lV]; omega, fun at1 G1 at10 at11 g bb => ?_⟩
    have f_a := bb _ _ m_a f_a
    have b := b.trans bb
    obtain ⟨i1, rfl⟩ := nat_of at10
    rw [lV] at at11
    refine ⟨_, rfl, by show 1 ≤ sizeLine; decide, fun l1 n_l1 => ?_⟩
    have u := same_new (o := .lst [V.int 1]) n_l1
    have m_l1 := g.ne n_l1
    have g := g.new (o := .lst [V.int 1]) n_l1
    have b := b.add (o := .lst [V.int 1]) n_l1
    have f_a := u _ _ f_a
    have f_l1 : (upd G1 l1 (.lst [V.int 1])) l1 = some (.lst [V.int 1]) := upd_same
    generalize upd G1 l1 (.lst [V.int 1]) = G2 at g b f_a f_l1 ⊢
    refine ⟨by show 1 ≤ sizeLine; decide, fun t1 n_t1 => ?_⟩
    have u := same_new (o := .tup [V.int 1]) n_t1
    have m_t1 := g.ne n_t1
    have g := g.new (o := .tup [V.int 1]) n_t1
    have b := b.add (o := .tup [V.int 1]) n_t1
    have f_a := u _ _ f_a
    have f_l1 := u _ _ f_l1
    have f_t1 : (upd G2 t1 (.tup [V.int 1])) t1 = some (.tup [V.int 1]) := upd_same
    generalize upd G2 t1 (.tup [V.int 1]) = G3 at g b f_a f_l1 f_t1 ⊢
    refine fun d1 n_d1 => ?_
    have u := same_new (o := .dK []) n_d1
    have m_d1 := g.ne n_d1
    have g := g.new (o := .dK []) n_d1
    have b := b.add (o := .dK []) n_d1
    have f_a := u _ _ f_a
    have f_l1 := u _ _ f_l1
    have f_t1 := u _ _ f_t1
    have f_d1 : (upd G3 d1 (.dK [])) d1 = some (.dK []) := upd_same
    generalize upd G3 d1 (.dK []) = G4 at g b f_a f_l1 f_t1 f_d1 ⊢
    refine ⟨_, _, rfl, rfl, big, _, _, rfl, rfl, big, _, _, rfl, rfl, by show 13 ≤ sizeLine; decide, fun od n_od => ?_⟩
    have u := same_new (o := .lst [V.int 0, .int 101, .int (-101), .bl true, .bl false, .non, .str ("1" : Str), .ref l1, .ref t1, .ref d1, .int ((10 : Int) ^ (30 : Int).toNat), .int (0 - (10 : Int) ^ (30 : Int).toNat), .int 200]) n_od
    have m_od := g.ne n_od
    have g := g.new (o := .lst [V.int 0, .int 101, .int (-101), .bl true, .bl false, .non, .str ("1" : Str), .ref l1, .ref t1, .ref d1, .int ((10 : Int) ^ (30 : Int).toNat), .int (0 - (10 : Int) ^ (30 : Int).toNat), .int 200]) n_od
    have b := b.add (o := .lst [V.int 0, .int 101, .int (-101), .bl true, .bl false, .non, .str ("1" : Str), .ref l1, .ref t1, .ref d1, .int ((10 : Int) ^ (30 : Int).toNat), .int (0 - (10 : Int) ^ (30 : Int).toNat), .int 200]) n_od
    have f_a := u _ _ f_a
    have f_l1 := u _ _ f_l1
    have f_t1 := u _ _ f_t1
    have f_d1 := u _ _ f_d1
    have f_od : (upd G4 od (.lst [V.int 0, .int 101, .int (-101), .bl true, .bl false, .non, .str ("1" : Str), .ref l1, .ref t1, .ref d1, .int ((10 : Int) ^ (30 : Int).toNat), .int (0 - (10 : Int) ^ (30 : Int).toNat), .int 200])) od = some (.lst [V.int 0, .int 101, .int (-101), .bl true, .bl false, .non, .str ("1" : Str), .ref l1, .ref t1, .ref d1, .int ((10 : Int) ^ (30 : Int).toNat), .int (0 - (10 : Int) ^ (30 : Int).toNat), .int 200]) := upd_same
    generalize upd G4 od (.lst [V.int 0, .int 101, .int (-101), .bl true, .bl false, .non, .str ("1" : Str), .ref l1, .ref t1, .ref d1, .int ((10 : Int) ^ (30 : Int).toNat), .int (0 - (10 : Int) ^ (30 : Int).toNat), .int 200]) = G5 at g b f_a f_l1 f_t1 f_d1 f_od ⊢
    refine ⟨_, rfl, _, rfl, _, rfl, a, _, rfl, .of f_a, fun z1 n_z1 => ?_⟩
    have u := same_new (o := .lst (cutV (ns.map V.int) none (some (i1 : Int)))) n_z1
    have m_z1 := g.ne n_z1
    have g := g.new (o := .lst (cutV (ns.map V.int) none (some (i1 : Int)))) n_z1
    have b := b.add (o := .lst (cutV (ns.map V.int) none (some (i1 : Int)))) n_z1
    have f_a := u _ _ f_a
    have f_l1 := u _ _ f_l1
    have f_t1 := u _ _ f_t1
    have f_d1 := u _ _ f_d1
    have f_od := u _ _ f_od
    have f_z1 : (upd G5 z1 (.lst (cutV (ns.map V.int) none (some (i1 : Int))))) z1 = some (.lst (cutV (ns.map V.int) none (some (i1 : Int)))) := upd_same
    generalize upd G5 z1 (.lst (cutV (ns.map V.int) none (some (i1 : Int)))) = G6 at g b f_a f_l1 f_t1 f_d1 f_od f_z1 ⊢
    refine ⟨_, rfl, _, rfl, src, 13, n + 1, rfl, g, by omega, by decide, by decide, fun r G7 r0 r1 g bb => ?_⟩
    have f_a := bb _ _ m_a f_a
    have f_l1 := bb _ _ m_l1 f_l1
    have f_t1 := bb _ _ m_t1 f_t1
    have f_d1 := bb _ _ m_d1 f_d1
    have f_od := bb _ _ m_od f_od
    have f_z1 := bb _ _ m_z1 f_z1
    have b := b.trans bb
    obtain ⟨k, rfl⟩ := nat_of r0
    have pick : ∃ x d, ([V.int 0, .int 101, .int (-101), .bl true, .bl false, .non, .str ("1" : Str), .ref l1, .ref t1, .ref d1, .int ((10 : Int) ^ (30 : Int).toNat), .int (0 - (10 : Int) ^ (30 : Int).toNat), .int 200] : List V)[k]? = some x ∧ Ox K (av src G7) x d ∧ Bd 40 1 d ∧ notEv d := by
      have : k < 13 := by omega
      match k, this with
      | 0, _ => exact ⟨_, _, rfl, .int _, (bd_int (by decide +kernel)).mono (by decide) (Nat.le_refl _), fun i e => by cases e; decide +kernel⟩
      | 1, _ => exact ⟨_, _, rfl, .int _, (bd_int (by decide +kernel)).mono (by decide) (Nat.le_refl _), fun i e => by cases e; decide +kernel⟩
      | 2, _ => exact ⟨_, _, rfl, .int _, (bd_int (by decide +kernel)).mono (by decide) (Nat.le_refl _), fun i e => by cases e; decide +kernel⟩
      | 3, _ => exact ⟨_, _, rfl, .bl _, ⟨by decide, Nat.zero_le _, rfl, rfl⟩, fun i e => nomatch e⟩
      | 4, _ => exact ⟨_, _, rfl, .bl _, ⟨by decide, Nat.zero_le _, rfl, rfl⟩, fun i e => nomatch e⟩
      | 5, _ => exact ⟨_, _, rfl, .non, ⟨by decide, Nat.zero_le _, rfl, rfl⟩, fun i e => nomatch e⟩
      | 6, _ => exact ⟨_, _, rfl, .str _, ⟨by show (reprText _).length ≤ 40; decide +kernel, Nat.zero_le _, rfl, rfl⟩, fun i e => nomatch e⟩
      | 7, _ => exact ⟨_, .list [.int 1], rfl, .lst (.of (av_at m_l1 f_l1)) (.cons (.int 1) .nil), (Bd.list (k := 0) (.cons (bd_i4 (by decide)) .nil)).mono (by decide) (by decide), fun i e => nomatch e⟩
      | 8, _ => exact ⟨_, .tuple [.int 1], rfl, .tup (.of (av_at m_t1 f_t1)) (.cons (.int 1) .nil), (Bd.tuple (k := 0) (.cons (bd_i4 (by decide)) .nil)).mono (by decide) (by decide), fun i e => nomatch e⟩
      | 9, _ => exact ⟨_, .dict [], rfl, .dct (av_at m_d1 f_d1), ⟨by decide, by decide, rfl, rfl⟩, fun i e => nomatch e⟩
      | 10, _ => exact ⟨_, _, rfl, .int _, (bd_int (by decide +kernel)).mono (by decide) (Nat.le_refl _), fun i e => by cases e; decide +kernel⟩
      | 11, _ => exact ⟨_, _, rfl, .int _, (bd_int (by decide +kernel)).mono (by decide) (Nat.le_refl _), fun i e => by cases e; decide +kernel⟩
      | 12, _ => exact ⟨_, _, rfl, .int _, (bd_int (by decide +kernel)).mono (by decide) (Nat.le_refl _), fun i e => by cases e; decide +kernel⟩
    obtain ⟨x, dx, ex, oxx, bdx, nx⟩ := pick
    have bX := Bt.refl src G7
    refine ⟨od, _, (k : Int), x, rfl, rfl, .of f_od, atI_nat ex, by show 1 ≤ sizeLine; decide, fun q1 n_q1 => ?_⟩
    have u := same_new (o := .lst [x]) n_q1
    have m_q1 := g.ne n_q1
    have g := g.new (o := .lst [x]) n_q1
    have b := b.add (o := .lst [x]) n_q1
    have bX := bX.add (o := .lst [x]) n_q1
    have f_a := u _ _ f_a
    have f_l1 := u _ _ f_l1
    have f_t1 := u _ _ f_t1
    have f_d1 := u _ _ f_d1
    have f_od := u _ _ f_od
    have f_z1 := u _ _ f_z1
    have f_q1 : (upd G7 q1 (.lst [x])) q1 = some (.lst [x]) := upd_same
    generalize upd G7 q1 (.lst [x]) = G8 at g b bX f_a f_l1 f_t1 f_d1 f_od f_z1 f_q1 ⊢
    obtain ⟨e1, ox1, sub1⟩ := oxAll_cutI (K := K) (ns := ns) none (some (i1 : Int))
    obtain ⟨e2, ox2, sub2⟩ := oxAll_cutI (K := K) (ns := ns) (some ((i1 : Int) + 1)) none
    have le1 := sub1.length_le
    have le2 := sub2.length_le
    rw [List.length_map] at le1 le2
    have lv1 := oxAll_len (ox1 H)
    have lv2 := oxAll_len (ox2 H)
    generalize hw1 : cutV (ns.map V.int) none (some (i1 : Int)) = w1 at f_z1 ox1 lv1 ⊢
    refine ⟨z1, q1, _, _, rfl, rfl, f_z1, f_q1, Lp.zs (by rw [lv1]; show e1.length + 1 ≤ _; omega), fun c1 n_c1 => ?_⟩
    have u := same_new (o := .lst (w1 ++ [x])) n_c1
    have m_c1 := g.ne n_c1
    have g := g.new (o := .lst (w1 ++ [x])) n_c1
    have b := b.add (o := .lst (w1 ++ [x])) n_c1
    have bX := bX.add (o := .lst (w1 ++ [x])) n_c1
    have f_a := u _ _ f_a
    have f_z1 := u _ _ f_z1
    have f_q1 := u _ _ f_q1
    have f_c1 : (upd G8 c1 (.lst (w1 ++ [x]))) c1 = some (.lst (w1 ++ [x])) := upd_same
    generalize upd G8 c1 (.lst (w1 ++ [x])) = G9 at g b bX f_a f_z1 f_q1 f_c1 ⊢
    refine ⟨_, rfl, _, rfl, _, _, rfl, rfl, _, rfl, a, _, rfl, .of f_a, fun z2 n_z2 => ?_⟩
    have u := same_new (o := .lst (cutV (ns.map V.int) (some ((i1 : Int) + 1)) none)) n_z2
    have m_z2 := g.ne n_z2
    have g := g.new (o := .lst (cutV (ns.map V.int) (some ((i1 : Int) + 1)) none)) n_z2
    have b := b.add (o := .lst (cutV (ns.map V.int) (some ((i1 : Int) + 1)) none)) n_z2
    have bX := bX.add (o := .lst (cutV (ns.map V.int) (some ((i1 : Int) + 1)) none)) n_z2
    have f_a := u _ _ f_a
    have f_z1 := u _ _ f_z1
    have f_q1 := u _ _ f_q1
    have f_c1 := u _ _ f_c1
    have f_z2 : (upd G9 z2 (.lst (cutV (ns.map V.int) (some ((i1 : Int) + 1)) none))) z2 = some (.lst (cutV (ns.map V.int) (some ((i1 : Int) + 1)) none)) := upd_same
    generalize upd G9 z2 (.lst (cutV (ns.map V.int) (some ((i1 : Int) + 1)) none)) = G10 at g b bX f_a f_z1 f_q1 f_c1 f_z2 ⊢
    generalize hw2 : cutV (ns.map V.int) (some ((i1 : Int) + 1)) none = w2 at f_z2 ox2 lv2 ⊢
    refine ⟨c1, z2, _, _, rfl, rfl, f_c1, f_z2, Lp.zs (by rw [List.length_append, lv1, lv2]; show e1.length + 1 + e2.length ≤ _; omega), fun be n_be => ?_⟩
    have u := same_new (o := .lst (w1 ++ [x] ++ w2)) n_be
    have m_be := g.ne n_be
    have g := g.new (o := .lst (w1 ++ [x] ++ w2)) n_be
    have b := b.add (o := .lst (w1 ++ [x] ++ w2)) n_be
    have bX := bX.add (o := .lst (w1 ++ [x] ++ w2)) n_be
    have f_a := u _ _ f_a
    have f_z1 := u _ _ f_z1
    have f_q1 := u _ _ f_q1
    have f_c1 := u _ _ f_c1
    have f_z2 := u _ _ f_z2
    have f_be : (upd G10 be (.lst (w1 ++ [x] ++ w2))) be = some (.lst (w1 ++ [x] ++ w2)) := upd_same
    generalize upd G10 be (.lst (w1 ++ [x] ++ w2)) = G11 at g b bX f_a f_z1 f_q1 f_c1 f_z2 f_be ⊢
    refine ⟨_, _, rfl, by decide, fun fr n_fr => ?_⟩
    refine lc_range (lo := 1) (n := 100) (LcP G11 fr fun i => ((upL i).filter fun k => decide (k ∉ ns)).map V.int) (.init n_fr rfl) (fun i H' hi p => ?_) (fun HF pF => ?_)
    · have fs := filt_snoc (l := upL i) (f := fun k => decide (k ∉ ns)) (e := 1 + (i : Int))
      have fl := List.length_filter_le (fun k => decide (k ∉ ns)) (upL i)
      rw [upL_len] at fl
      rw [← upL_succ] at fs
      refine ⟨rfl, ?_⟩
      by_cases c1 : 1 + (i : Int) ∈ ns
      · refine ⟨_, rfl, _, rfl, a, _, rfl, .inl (.of (p.2.1 _ _ f_a)), rfl, flatI _, false, notInF c1, ?_⟩
        refine p.skip (Same.refl _) ?_
        rw [fs, if_neg (by simp [c1]), List.append_nil]
      · refine ⟨_, rfl, _, rfl, a, _, rfl, .inl (.of (p.2.1 _ _ f_a)), rfl, flatI _, true, notInT c1, ?_⟩
        refine ⟨_, rfl, p.put (Same.refl _) ?_ (by rw [List.length_map]; omega)⟩
        rw [fs, if_pos (by simp [c1]), List.map_append]
        rfl
    have m_fr := g.ne n_fr
    have sF := pF.2.1
    have f_fr : HF fr = some (.lst ((frL ns).map V.int)) := pF.2.2
    have g := g.same sF
    have b := b.trans (.of sF)
    have bX := bX.trans (.of sF)
    have f_a := sF _ _ f_a
    have f_be := sF _ _ f_be
    have em : ∃ e, ns[i1]? = some e ∧ e ∈ ns := ⟨_, List.getElem?_eq_getElem (show i1 < ns.length by omega), List.getElem_mem _⟩
    obtain ⟨ev, hev, mev⟩ := em
    have hevV : (ns.map V.int)[i1]? = some (.int ev) := by rw [List.getElem?_map, hev]; rfl
    refine ⟨_, rfl, _, rfl, _, rfl, _, rfl, a, _, (i1 : Int), .int ev, rfl, rfl, .of f_a, atI_nat hevV, by show 1 ≤ sizeLine; decide, fun q2 n_q2 => ?_⟩
    have u := same_new (o := .lst [V.int ev]) n_q2
    have m_q2 := g.ne n_q2
    have g := g.new (o := .lst [V.int ev]) n_q2
    have b := b.add (o := .lst [V.int ev]) n_q2
    have bX := bX.add (o := .lst [V.int ev]) n_q2
    have f_a := u _ _ f_a
    have f_be := u _ _ f_be
    have f_fr := u _ _ f_fr
    have f_q2 : (upd HF q2 (.lst [V.int ev])) q2 = some (.lst [V.int ev]) := upd_same
    generalize upd HF q2 (.lst [V.int ev]) = G12 at g b bX f_a f_be f_fr f_q2 ⊢
    refine ⟨a, q2, _, _, rfl, rfl, f_a, f_q2, Lp.zs (by rw [lV]; show ns.length + 1 ≤ _; omega), fun c2 n_c2 => ?_⟩
    have u := same_new (o := .lst (ns.map V.int ++ [.int ev])) n_c2
    have m_c2 := g.ne n_c2
    have g := g.new (o := .lst (ns.map V.int ++ [.int ev])) n_c2
    have b := b.add (o := .lst (ns.map V.int ++ [.int ev])) n_c2
    have bX := bX.add (o := .lst (ns.map V.int ++ [.int ev])) n_c2
    have f_a := u _ _ f_a
    have f_be := u _ _ f_be
    have f_fr := u _ _ f_fr
    have f_q2 := u _ _ f_q2
    have f_c2 : (upd G12 c2 (.lst (ns.map V.int ++ [.int ev]))) c2 = some (.lst (ns.map V.int ++ [.int ev])) := upd_same
    generalize upd G12 c2 (.lst (ns.map V.int ++ [.int ev])) = G13 at g b bX f_a f_be f_fr f_q2 f_c2 ⊢
    refine ⟨_, rfl, by show 2 ≤ sizeLine; decide, fun e3 n_e3 => ?_⟩
    have u := same_new (o := .lst [V.int (-1), .int 1]) n_e3
    have m_e3 := g.ne n_e3
    have g := g.new (o := .lst [V.int (-1), .int 1]) n_e3
    have b := b.add (o := .lst [V.int (-1), .int 1]) n_e3
    have bX := bX.add (o := .lst [V.int (-1), .int 1]) n_e3
    have f_a := u _ _ f_a
    have f_be := u _ _ f_be
    have f_fr := u _ _ f_fr
    have f_c2 := u _ _ f_c2
    have f_e3 : (upd G13 e3 (.lst [V.int (-1), .int 1])) e3 = some (.lst [V.int (-1), .int 1]) := upd_same
    generalize upd G13 e3 (.lst [V.int (-1), .int 1]) = G14 at g b bX f_a f_be f_fr f_c2 f_e3 ⊢
    refine ⟨_, rfl, _, rfl, _, rfl, fr, _, rfl, .of f_fr, fun z3 n_z3 => ?_⟩
    have u := same_new (o := .lst (cutV ((frL ns).map V.int) none (some 1))) n_z3
    have m_z3 := g.ne n_z3
    have g := g.new (o := .lst (cutV ((frL ns).map V.int) none (some 1))) n_z3
    have b := b.add (o := .lst (cutV ((frL ns).map V.int) none (some 1))) n_z3
    have bX := bX.add (o := .lst (cutV ((frL ns).map V.int) none (some 1))) n_z3
    have f_a := u _ _ f_a
    have f_be := u _ _ f_be
    have f_fr := u _ _ f_fr
    have f_c2 := u _ _ f_c2
    have f_e3 := u _ _ f_e3
    have f_z3 : (upd G14 z3 (.lst (cutV ((frL ns).map V.int) none (some 1)))) z3 = some (.lst (cutV ((frL ns).map V.int) none (some 1))) := upd_same
    generalize upd G14 z3 (.lst (cutV ((frL ns).map V.int) none (some 1))) = G15 at g b bX f_a f_be f_fr f_c2 f_e3 f_z3 ⊢
    rw [cutV_take1] at f_z3
    refine ⟨z3, rfl, ⟨_, .of f_z3⟩, fun D n_D => lc_list (xs := ((frL ns).map V.int).take 1) (LcP G15 D fun i => (((frL ns).take 1).take i).map fun k => V.int (0 - k)) (.init n_D rfl) (fun i H' _ p => .of (p.2.1 _ _ f_z3)) (fun i x H' hx p => ?_) (fun HN pN => ?_)⟩
    · rw [← List.map_take] at hx
      obtain ⟨e, rfl, he⟩ := get_int hx
      have li := lt_get he
      rw [List.length_take] at li
      refine ⟨rfl, _, rfl, _, _, rfl, rfl, p.put (Same.refl _) ?_ (by rw [List.length_map, List.length_take, List.length_take]; omega)⟩
      rw [take_get he, List.map_append]
      rfl
    have m_D := g.ne n_D
    have sN := pN.2.1
    have f_D : HN D = some (.lst (((frL ns).take 1).map fun k => V.int (0 - k))) := by
      have z := pN.2.2
      rw [List.length_take, List.length_map] at z
      rw [z]
      show some (HO.lst ((((frL ns).take 1).take (min 1 (frL ns).length)).map fun k => V.int (0 - k))) = _
      rw [List.take_of_length_le (by rw [List.length_take]; exact Nat.le_refl _)]
    have g := g.same sN
    have b := b.trans (.of sN)
    have bX := bX.trans (.of sN)
    have f_a := sN _ _ f_a
    have f_be := sN _ _ f_be
    have f_fr := sN _ _ f_fr
    have f_c2 := sN _ _ f_c2
    have f_e3 := sN _ _ f_e3
    have f_z3 := sN _ _ f_z3
    refine ⟨a, D, _, _, rfl, rfl, f_a, f_D, Lp.zs (by rw [lV, List.length_map, List.length_take]; omega), fun c3 n_c3 => ?_⟩
    have u := same_new (o := .lst (ns.map V.int ++ ((frL ns).take 1).map fun k => V.int (0 - k))) n_c3
    have m_c3 := g.ne n_c3
    have g := g.new (o := .lst (ns.map V.int ++ ((frL ns).take 1).map fun k => V.int (0 - k))) n_c3
    have b := b.add (o := .lst (ns.map V.int ++ ((frL ns).take 1).map fun k => V.int (0 - k))) n_c3
    have bX := bX.add (o := .lst (ns.map V.int ++ ((frL ns).take 1).map fun k => V.int (0 - k))) n_c3
    have f_a := u _ _ f_a
    have f_be := u _ _ f_be
    have f_fr := u _ _ f_fr
    have f_c2 := u _ _ f_c2
    have f_e3 := u _ _ f_e3
    have f_D := u _ _ f_D
    have f_c3 : (upd HN c3 (.lst (ns.map V.int ++ ((frL ns).take 1).map fun k => V.int (0 - k)))) c3 = some (.lst (ns.map V.int ++ ((frL ns).take 1).map fun k => V.int (0 - k))) := upd_same
    generalize upd HN c3 (.lst (ns.map V.int ++ ((frL ns).take 1).map fun k => V.int (0 - k))) = G16 at g b bX f_a f_be f_fr f_c2 f_e3 f_D f_c3 ⊢
    refine ⟨by show 1 ≤ sizeLine; decide, fun y1 n_y1 => ?_⟩
    have u := same_new (o := .lst [V.int 0]) n_y1
    have m_y1 := g.ne n_y1
    have g := g.new (o := .lst [V.int 0]) n_y1
    have b := b.add (o := .lst [V.int 0]) n_y1
    have bX := bX.add (o := .lst [V.int 0]) n_y1
    have f_a := u _ _ f_a
    have f_be := u _ _ f_be
    have f_fr := u _ _ f_fr
    have f_c2 := u _ _ f_c2
    have f_e3 := u _ _ f_e3
    have f_c3 := u _ _ f_c3
    have f_y1 : (upd G16 y1 (.lst [V.int 0])) y1 = some (.lst [V.int 0]) := upd_same
    generalize upd G16 y1 (.lst [V.int 0]) = G17 at g b bX f_a f_be f_fr f_c2 f_e3 f_c3 f_y1 ⊢
    refine ⟨_, rfl, Nat.zero_le _, fun y2 n_y2 => ?_⟩
    have u := same_new (o := .lst []) n_y2
    have m_y2 := g.ne n_y2
    have g := g.new (o := .lst []) n_y2
    have b := b.add (o := .lst []) n_y2
    have bX := bX.add (o := .lst []) n_y2
    have f_a := u _ _ f_a
    have f_be := u _ _ f_be
    have f_fr := u _ _ f_fr
    have f_c2 := u _ _ f_c2
    have f_e3 := u _ _ f_e3
    have f_c3 := u _ _ f_c3
    have f_y1 := u _ _ f_y1
    have f_y2 : (upd G17 y2 (.lst [])) y2 = some (.lst []) := upd_same
    generalize upd G17 y2 (.lst []) = G18 at g b bX f_a f_be f_fr f_c2 f_e3 f_c3 f_y1 f_y2 ⊢
    obtain ⟨bf, hbf⟩ : ∃ bf : Bool, PyData.eqv (dI (frL ns)) (dI []) = bf := ⟨_, rfl⟩
    refine ⟨dI (frL ns), dI [], dp_ints (.of f_fr), dp_ints (ns := []) (.of f_y2), shaped_ints _, shaped_ints _, .inr ⟨bf, congrArg (fun z => [V.bl z]) hbf, y1, (if bf = true then 1 else 0), [.int 0], rfl, rfl, f_y1, by split <;> decide, by split <;> decide, by cases bf <;> (show 1 * _ ≤ sizeLine; decide), fun y3 n_y3 => ?_⟩⟩
    have u := same_new (o := .lst (List.replicate (if bf = true then 1 else 0 : Int).toNat [V.int 0]).flatten) n_y3
    have m_y3 := g.ne n_y3
    have g := g.new (o := .lst (List.replicate (if bf = true then 1 else 0 : Int).toNat [V.int 0]).flatten) n_y3
    have b := b.add (o := .lst (List.replicate (if bf = true then 1 else 0 : Int).toNat [V.int 0]).flatten) n_y3
    have bX := bX.add (o := .lst (List.replicate (if bf = true then 1 else 0 : Int).toNat [V.int 0]).flatten) n_y3
    have f_a := u _ _ f_a
    have f_be := u _ _ f_be
    have f_fr := u _ _ f_fr
    have f_c2 := u _ _ f_c2
    have f_e3 := u _ _ f_e3
    have f_c3 := u _ _ f_c3
    have f_y1 := u _ _ f_y1
    have f_y2 := u _ _ f_y2
    have f_y3 : (upd G18 y3 (.lst (List.replicate (if bf = true then 1 else 0 : Int).toNat [V.int 0]).flatten)) y3 = some (.lst (List.replicate (if bf = true then 1 else 0 : Int).toNat [V.int 0]).flatten) := upd_same
    generalize upd G18 y3 (.lst (List.replicate (if bf = true then 1 else 0 : Int).toNat [V.int 0]).flatten) = G19 at g b bX f_a f_be f_fr f_c2 f_e3 f_c3 f_y1 f_y2 f_y3 ⊢
    have ey : (List.replicate (if bf = true then 1 else 0 : Int).toNat [V.int 0]).flatten = (if bf = true then [0] else [] : List Int).map V.int := by cases bf <;> rfl
    rw [ey] at f_y3
    refine ⟨c3, y3, _, _, rfl, rfl, f_c3, f_y3, Lp.zs (by rw [List.length_append, lV, List.length_map, List.length_map, List.length_take]; cases bf <;> (first | (show _ + 0 ≤ _; omega) | (show _ + 1 ≤ _; omega))), fun w3 n_w3 => ?_⟩
    have u := same_new (o := .lst (ns.map V.int ++ (((frL ns).take 1).map fun k => V.int (0 - k)) ++ (if bf = true then [0] else [] : List Int).map V.int)) n_w3
    have m_w3 := g.ne n_w3
    have g := g.new (o := .lst (ns.map V.int ++ (((frL ns).take 1).map fun k => V.int (0 - k)) ++ (if bf = true then [0] else [] : List Int).map V.int)) n_w3
    have b := b.add (o := .lst (ns.map V.int ++ (((frL ns).take 1).map fun k => V.int (0 - k)) ++ (if bf = true then [0] else [] : List Int).map V.int)) n_w3
    have bX := bX.add (o := .lst (ns.map V.int ++ (((frL ns).take 1).map fun k => V.int (0 - k)) ++ (if bf = true then [0] else [] : List Int).map V.int)) n_w3
    have f_a := u _ _ f_a
    have f_be := u _ _ f_be
    have f_fr := u _ _ f_fr
    have f_c2 := u _ _ f_c2
    have f_e3 := u _ _ f_e3
    have f_c3 := u _ _ f_c3
    have f_y1 := u _ _ f_y1
    have f_y2 := u _ _ f_y2
    have f_y3 := u _ _ f_y3
    have f_w3 : (upd G19 w3 (.lst (ns.map V.int ++ (((frL ns).take 1).map fun k => V.int (0 - k)) ++ (if bf = true then [0] else [] : List Int).map V.int))) w3 = some (.lst (ns.map V.int ++ (((frL ns).take 1).map fun k => V.int (0 - k)) ++ (if bf = true then [0] else [] : List Int).map V.int)) := upd_same
    generalize upd G19 w3 (.lst (ns.map V.int ++ (((frL ns).take 1).map fun k => V.int (0 - k)) ++ (if bf = true then [0] else [] : List Int).map V.int)) = G20 at g b bX f_a f_be f_fr f_c2 f_e3 f_c3 f_y1 f_y2 f_y3 f_w3 ⊢
    refine ⟨_, rfl, a, _, rfl, .inl ⟨.of f_a, fun tp n_tp => ?_⟩⟩
    have u := same_new (o := .tup (ns.map V.int)) n_tp
    have m_tp := g.ne n_tp
    have g := g.new (o := .tup (ns.map V.int)) n_tp
    have b := b.add (o := .tup (ns.map V.int)) n_tp
    have bX := bX.add (o := .tup (ns.map V.int)) n_tp
    have f_a := u _ _ f_a
    have f_be := u _ _ f_be
    have f_c2 := u _ _ f_c2
    have f_e3 := u _ _ f_e3
    have f_w3 := u _ _ f_w3
    have f_tp : (upd G20 tp (.tup (ns.map V.int))) tp = some (.tup (ns.map V.int)) := upd_same
    generalize upd G20 tp (.tup (ns.map V.int)) = G21 at g b bX f_a f_be f_c2 f_e3 f_w3 f_tp ⊢
    refine ⟨by show 5 ≤ sizeLine; decide, fun so n_so => ?_⟩
    have u := same_new (o := .lst [V.ref be, .ref c2, .ref e3, .ref w3, .ref tp]) n_so
    have m_so := g.ne n_so
    have g := g.new (o := .lst [V.ref be, .ref c2, .ref e3, .ref w3, .ref tp]) n_so
    have b := b.add (o := .lst [V.ref be, .ref c2, .ref e3, .ref w3, .ref tp]) n_so
    have bX := bX.add (o := .lst [V.ref be, .ref c2, .ref e3, .ref w3, .ref tp]) n_so
    have f_a := u _ _ f_a
    have f_be := u _ _ f_be
    have f_c2 := u _ _ f_c2
    have f_e3 := u _ _ f_e3
    have f_w3 := u _ _ f_w3
    have f_tp := u _ _ f_tp
    have f_so : (upd G21 so (.lst [V.ref be, .ref c2, .ref e3, .ref w3, .ref tp])) so = some (.lst [V.ref be, .ref c2, .ref e3, .ref w3, .ref tp]) := upd_same
    generalize upd G21 so (.lst [V.ref be, .ref c2, .ref e3, .ref w3, .ref tp]) = G22 at g b bX f_a f_be f_c2 f_e3 f_w3 f_tp f_so ⊢
    refine ⟨_, rfl, fun dd n_dd => ?_⟩
    have u := same_new (o := .dK []) n_dd
    have m_dd := g.ne n_dd
    have g := g.new (o := .dK []) n_dd
    have b := b.add (o := .dK []) n_dd
    have bX := bX.add (o := .dK []) n_dd
    have f_a := u _ _ f_a
    have f_be := u _ _ f_be
    have f_c2 := u _ _ f_c2
    have f_e3 := u _ _ f_e3
    have f_w3 := u _ _ f_w3
    have f_tp := u _ _ f_tp
    have f_so := u _ _ f_so
    have f_dd : (upd G22 dd (.dK [])) dd = some (.dK []) := upd_same
    generalize upd G22 dd (.dK []) = G23 at g b bX f_a f_be f_c2 f_e3 f_w3 f_tp f_so f_dd ⊢
    refine ⟨_, rfl, by show 1 ≤ sizeLine; decide, fun rr n_rr => ?_⟩
    have u := same_new (o := .lst [V.ref a]) n_rr
    have m_rr := g.ne n_rr
    have g := g.new (o := .lst [V.ref a]) n_rr
    have b := b.add (o := .lst [V.ref a]) n_rr
    have bX := bX.add (o := .lst [V.ref a]) n_rr
    have f_a := u _ _ f_a
    have f_be := u _ _ f_be
    have f_c2 := u _ _ f_c2
    have f_e3 := u _ _ f_e3
    have f_w3 := u _ _ f_w3
    have f_tp := u _ _ f_tp
    have f_so := u _ _ f_so
    have f_dd := u _ _ f_dd
    have f_rr : (upd G23 rr (.lst [V.ref a])) rr = some (.lst [V.ref a]) := upd_same
    generalize upd G23 rr (.lst [V.ref a]) = G24 at g b bX f_a f_be f_c2 f_e3 f_w3 f_tp f_so f_dd f_rr ⊢
    refine ⟨by show 1 ≤ sizeLine; decide, fun o1 n_o1 => ?_⟩
    have u := same_new (o := .lst [V.int 1]) n_o1
    have m_o1 := g.ne n_o1
    have g := g.new (o := .lst [V.int 1]) n_o1
    have b := b.add (o := .lst [V.int 1]) n_o1
    have bX := bX.add (o := .lst [V.int 1]) n_o1
    have f_a := u _ _ f_a
    have f_be := u _ _ f_be
    have f_c2 := u _ _ f_c2
    have f_e3 := u _ _ f_e3
    have f_w3 := u _ _ f_w3
    have f_tp := u _ _ f_tp
    have f_so := u _ _ f_so
    have f_dd := u _ _ f_dd
    have f_rr := u _ _ f_rr
    have f_o1 : (upd G24 o1 (.lst [V.int 1])) o1 = some (.lst [V.int 1]) := upd_same
    generalize upd G24 o1 (.lst [V.int 1]) = G25 at g b bX f_a f_be f_c2 f_e3 f_w3 f_tp f_so f_dd f_rr f_o1 ⊢
    refine ⟨o1, 400, _, rfl, rfl, f_o1, by decide, by decide, by show 1 * 400 ≤ sizeLine; decide, fun o4 n_o4 => ?_⟩
    have u := same_new (o := .lst (List.replicate (400 : Int).toNat [V.int 1]).flatten) n_o4
    have m_o4 := g.ne n_o4
    have g := g.new (o := .lst (List.replicate (400 : Int).toNat [V.int 1]).flatten) n_o4
    have b := b.add (o := .lst (List.replicate (400 : Int).toNat [V.int 1]).flatten) n_o4
    have bX := bX.add (o := .lst (List.replicate (400 : Int).toNat [V.int 1]).flatten) n_o4
    have f_a := u _ _ f_a
    have f_be := u _ _ f_be
    have f_c2 := u _ _ f_c2
    have f_e3 := u _ _ f_e3
    have f_w3 := u _ _ f_w3
    have f_tp := u _ _ f_tp
    have f_so := u _ _ f_so
    have f_dd := u _ _ f_dd
    have f_rr := u _ _ f_rr
    have f_o1 := u _ _ f_o1
    have f_o4 : (upd G25 o4 (.lst (List.replicate (400 : Int).toNat [V.int 1]).flatten)) o4 = some (.lst (List.replicate (400 : Int).toNat [V.int 1]).flatten) := upd_same
    generalize upd G25 o4 (.lst (List.replicate (400 : Int).toNat [V.int 1]).flatten) = G26 at g b bX f_a f_be f_c2 f_e3 f_w3 f_tp f_so f_dd f_rr f_o1 f_o4 ⊢
    refine ⟨by show 6 ≤ sizeLine; decide, fun L n_L => ?_⟩
    have u := same_new (o := .lst [V.non, .int 0, .str ("+1" : Str), .ref dd, .ref rr, .ref o4]) n_L
    have m_L := g.ne n_L
    have g := g.new (o := .lst [V.non, .int 0, .str ("+1" : Str), .ref dd, .ref rr, .ref o4]) n_L
    have b := b.add (o := .lst [V.non, .int 0, .str ("+1" : Str), .ref dd, .ref rr, .ref o4]) n_L
    have bX := bX.add (o := .lst [V.non, .int 0, .str ("+1" : Str), .ref dd, .ref rr, .ref o4]) n_L
    have f_a := u _ _ f_a
    have f_be := u _ _ f_be
    have f_c2 := u _ _ f_c2
    have f_e3 := u _ _ f_e3
    have f_w3 := u _ _ f_w3
    have f_tp := u _ _ f_tp
    have f_so := u _ _ f_so
    have f_dd := u _ _ f_dd
    have f_rr := u _ _ f_rr
    have f_o1 := u _ _ f_o1
    have f_o4 := u _ _ f_o4
    have f_L : (upd G26 L (.lst [V.non, .int 0, .str ("+1" : Str), .ref dd, .ref rr, .ref o4])) L = some (.lst [V.non, .int 0, .str ("+1" : Str), .ref dd, .ref rr, .ref o4]) := upd_same
    generalize upd G26 L (.lst [V.non, .int 0, .str ("+1" : Str), .ref dd, .ref rr, .ref o4]) = G27 at g b bX f_a f_be f_c2 f_e3 f_w3 f_tp f_so f_dd f_rr f_o1 f_o4 f_L ⊢
    refine ⟨so, L, _, _, rfl, rfl, f_so, f_L, by show 5 + 6 ≤ sizeLine; decide, fun s3 n_s3 => ?_⟩
    have u := same_new (o := .lst ([V.ref be, .ref c2, .ref e3, .ref w3, .ref tp] ++ [V.non, .int 0, .str ("+1" : Str), .ref dd, .ref rr, .ref o4])) n_s3
    have m_s3 := g.ne n_s3
    have g := g.new (o := .lst ([V.ref be, .ref c2, .ref e3, .ref w3, .ref tp] ++ [V.non, .int 0, .str ("+1" : Str), .ref dd, .ref rr, .ref o4])) n_s3
    have b := b.add (o := .lst ([V.ref be, .ref c2, .ref e3, .ref w3, .ref tp] ++ [V.non, .int 0, .str ("+1" : Str), .ref dd, .ref rr, .ref o4])) n_s3
    have bX := bX.add (o := .lst ([V.ref be, .ref c2, .ref e3, .ref w3, .ref tp] ++ [V.non, .int 0, .str ("+1" : Str), .ref dd, .ref rr, .ref o4])) n_s3
    have f_a := u _ _ f_a
    have f_be := u _ _ f_be
    have f_c2 := u _ _ f_c2
    have f_e3 := u _ _ f_e3
    have f_w3 := u _ _ f_w3
    have f_tp := u _ _ f_tp
    have f_so := u _ _ f_so
    have f_dd := u _ _ f_dd
    have f_rr := u _ _ f_rr
    have f_o1 := u _ _ f_o1
    have f_o4 := u _ _ f_o4
    have f_L := u _ _ f_L
    have f_s3 : (upd G27 s3 (.lst ([V.ref be, .ref c2, .ref e3, .ref w3, .ref tp] ++ [V.non, .int 0, .str ("+1" : Str), .ref dd, .ref rr, .ref o4]))) s3 = some (.lst ([V.ref be, .ref c2, .ref e3, .ref w3, .ref tp] ++ [V.non, .int 0, .str ("+1" : Str), .ref dd, .ref rr, .ref o4])) := upd_same
    generalize upd G27 s3 (.lst ([V.ref be, .ref c2, .ref e3, .ref w3, .ref tp] ++ [V.non, .int 0, .str ("+1" : Str), .ref dd, .ref rr, .ref o4])) = G28 at g b bX f_a f_be f_c2 f_e3 f_w3 f_tp f_so f_dd f_rr f_o1 f_o4 f_L f_s3 ⊢
    refine ⟨_, rfl, src, 11, n + 2, rfl, g, by omega, by decide, by decide, fun j G29 j0 j1 g bb => ⟨by show 4 ≤ sizeLine; decide, fun ix n_ix => ?_⟩⟩
    have f_a := bb _ _ m_a f_a
    have f_be := bb _ _ m_be f_be
    have f_c2 := bb _ _ m_c2 f_c2
    have f_e3 := bb _ _ m_e3 f_e3
    have f_w3 := bb _ _ m_w3 f_w3
    have f_tp := bb _ _ m_tp f_tp
    have f_dd := bb _ _ m_dd f_dd
    have f_rr := bb _ _ m_rr f_rr
    have f_o4 := bb _ _ m_o4 f_o4
    have f_s3 := bb _ _ m_s3 f_s3
    have b := b.trans bb
    have bX := bX.trans bb
    have u := same_new (o := .lst [V.int 0, .int 0, .int 1, .int j]) n_ix
    have m_ix := g.ne n_ix
    have g := g.new (o := .lst [V.int 0, .int 0, .int 1, .int j]) n_ix
    have b := b.add (o := .lst [V.int 0, .int 0, .int 1, .int j]) n_ix
    have bX := bX.add (o := .lst [V.int 0, .int 0, .int 1, .int j]) n_ix
    have f_a := u _ _ f_a
    have f_be := u _ _ f_be
    have f_c2 := u _ _ f_c2
    have f_e3 := u _ _ f_e3
    have f_w3 := u _ _ f_w3
    have f_tp := u _ _ f_tp
    have f_dd := u _ _ f_dd
    have f_rr := u _ _ f_rr
    have f_o4 := u _ _ f_o4
    have f_s3 := u _ _ f_s3
    have f_ix : (upd G29 ix (.lst [V.int 0, .int 0, .int 1, .int j])) ix = some (.lst [V.int 0, .int 0, .int 1, .int j]) := upd_same
    generalize upd G29 ix (.lst [V.int 0, .int 0, .int 1, .int j]) = G30 at g b bX f_a f_be f_c2 f_e3 f_w3 f_tp f_dd f_rr f_o4 f_s3 f_ix ⊢
    refine ⟨_, rfl, src, 4, n + 3, rfl, g, by omega, by decide, by decide, fun kk G31 kk0 kk1 g bb => ?_⟩
    have f_a := bb _ _ m_a f_a
    have f_be := bb _ _ m_be f_be
    have f_c2 := bb _ _ m_c2 f_c2
    have f_e3 := bb _ _ m_e3 f_e3
    have f_w3 := bb _ _ m_w3 f_w3
    have f_tp := bb _ _ m_tp f_tp
    have f_dd := bb _ _ m_dd f_dd
    have f_rr := bb _ _ m_rr f_rr
    have f_o4 := bb _ _ m_o4 f_o4
    have f_s3 := bb _ _ m_s3 f_s3
    have f_ix := bb _ _ m_ix f_ix
    have b := b.trans bb
    have bX := bX.trans bb
    obtain ⟨k4, rfl⟩ := nat_of kk0
    obtain ⟨j4, rfl⟩ := nat_of j0
    have pick : ∃ m : Nat, m < 11 ∧ ([V.int 0, .int 0, .int 1, .int (j4 : Int)] : List V)[k4]? = some (.int (m : Int)) := by
      have : k4 < 4 := by omega
      match k4, this with
      | 0, _ => exact ⟨0, by decide, rfl⟩
      | 1, _ => exact ⟨0, by decide, rfl⟩
      | 2, _ => exact ⟨1, by decide, rfl⟩
      | 3, _ => exact ⟨j4, by omega, rfl⟩
    obtain ⟨m, hm, em⟩ := pick
    suffices hh : ∃ v d, (([V.ref be, .ref c2, .ref e3, .ref w3, .ref tp] ++ [V.non, .int 0, .str ("+1" : Str), .ref dd, .ref rr, .ref o4]) : List V)[m]? = some v ∧ Ox K (av src G31) v d ∧ Bd 30000 3 d ∧ ¬ HistD d by
      obtain ⟨v, d, e, ox, bd, sh⟩ := hh
      exact ⟨ix, _, (k4 : Int), .int (m : Int), rfl, rfl, .of f_ix, atI_nat em, s3, _, (m : Int), v, rfl, rfl, .of f_s3, atI_nat e, q _ v d g b ox bd sh⟩
    have bdI : ∀ (ms : List Int), (∀ e ∈ ms, -100 ≤ e ∧ e ≤ 100) → ms.length ≤ 400 → Bd 2500 1 (dI ms) := fun ms h1 h2 => (Bd.list (bd_small (k := 0) h1 h2)).mono (by decide) (by decide)
    have rg : ∀ e ∈ ns, -100 ≤ e ∧ e ≤ 100 := fun e he => (hh.rng e he).2
    match m, hm with
    | 0, _ =>
      exact ⟨_, .list (e1 ++ [dx] ++ e2), rfl, .lst (.of (av_at m_be f_be)) (oxAll_app (oxAll_app (ox1 _) (.cons (ox_same (av_bt bX) oxx) .nil)) (ox2 _)), (Bd.list (k := 1) (BdAll.app (BdAll.app (m := 1200) (n := 42) (bd_all (c := 4) (L := 200) (fun d hd => (PA d (sub1.subset hd)).mono (Nat.le_refl _) (by decide)) (by omega)) (.cons (m := 40) (n := 0) bdx .nil)) (n := 1200) (bd_all (c := 4) (L := 200) (fun d hd => (PA d (sub2.subset hd)).mono (Nat.le_refl _) (by decide)) (by omega)))).mono (by decide) (by decide), nh_ev nx⟩
    | 1, _ =>
      have e : ns.map V.int ++ [.int ev] = (ns ++ [ev]).map V.int := by rw [List.map_append]; rfl
      rw [e] at f_c2
      exact ⟨_, _, rfl, ox_ints (.of (av_at m_c2 f_c2)), (bdI _ (fun x hx => (List.mem_append.mp hx).elim (rg x) (fun h => by rw [List.mem_singleton] at h; subst h; exact rg _ mev)) (by rw [List.length_append]; show _ + 1 ≤ _; omega)).mono (by decide) (by decide), nh_of (nh_dup mev)⟩
    | 2, _ =>
      exact ⟨_, dI [-1, 1], rfl, ox_ints (ns := [-1, 1]) (.of (av_at m_e3 f_e3)), (bdI [-1, 1] (by decide) (by decide)).mono (by decide) (by decide), nh_of nh_first⟩
    | 3, _ =>
      have hq : ∃ ms : List Int, ns.map V.int ++ (((frL ns).take 1).map fun k => V.int (0 - k)) ++ (if bf = true then [0] else [] : List Int).map V.int = ms.map V.int ∧ (∀ e ∈ ms, -100 ≤ e ∧ e ≤ 100) ∧ ms.length ≤ 400 ∧ ¬ Hist ms := by
        cases ef : frL ns with
        | nil =>
          rw [ef] at hbf
          have : bf = true := hbf.symm
          subst this
          refine ⟨ns ++ [0], by rw [List.map_append]; simp, fun x hx => (List.mem_append.mp hx).elim (rg x) (fun h => by rw [List.mem_singleton] at h; subst h; decide), by rw [List.length_append]; show _ + 1 ≤ _; omega, nh_zero⟩
        | cons f r =>
          have hf := frL_mem (ns := ns) (k := f) (by rw [ef]; exact List.mem_cons_self)
          rw [ef] at hbf
          have : bf = false := hbf.symm
          subst this
          refine ⟨ns ++ [0 - f] ++ [], by simp, fun x hx => ?_, by rw [List.length_append, List.length_append]; show _ + 1 + 0 ≤ _; omega, nh_stop hf.1 hf.2.2 []⟩
          rw [List.append_nil] at hx
          rcases List.mem_append.mp hx with h | h
          · exact rg x h
          · rw [List.mem_singleton] at h
            subst h
            omega
      obtain ⟨ms, em, r1, r2, nh⟩ := hq
      rw [em] at f_w3
      exact ⟨_, _, rfl, ox_ints (.of (av_at m_w3 f_w3)), (bdI ms r1 r2).mono (by decide) (by decide), nh_of nh⟩
    | 4, _ =>
      exact ⟨_, .tuple (ns.map PyData.int), rfl, .tup (.of (av_at m_tp f_tp)) (oxI ns), (Bd.tuple (bd_small (k := 0) rg hl)).mono (by decide) (by decide), nh_tup⟩
    | 5, _ =>
      exact ⟨_, _, rfl, .non, ⟨by decide, Nat.zero_le _, rfl, rfl⟩, fun ⟨_, e, _⟩ => nomatch e⟩
    | 6, _ =>
      exact ⟨_, _, rfl, .int 0, (bd_int (by decide)).mono (by decide) (Nat.le_refl _), fun ⟨_, e, _⟩ => nomatch e⟩
    | 7, _ =>
      exact ⟨_, _, rfl, .str _, ⟨by show (reprText _).length ≤ 30000; decide +kernel, Nat.zero_le _, rfl, rfl⟩, fun ⟨_, e, _⟩ => nomatch e⟩
    | 8, _ =>
      exact ⟨_, .dict [], rfl, .dct (av_at m_dd f_dd), ⟨by decide, by decide, rfl, rfl⟩, fun ⟨_, e, _⟩ => nomatch e⟩
    | 9, _ =>
      exact ⟨_, .list [dI ns], rfl, .lst (.of (av_at m_rr f_rr)) (.cons (ox_ints (.of (av_at m_a f_a))) .nil), (Bd.list (k := 1) (.cons (nodI hh) .nil)).mono (by decide) (by decide), fun ⟨ms, e, _⟩ => by
        cases ms with
        | nil => cases e
        | cons y r =>
          have := (List.cons.inj (PyData.list.inj e)).1
          cases this⟩
    | 10, _ =>
      have e : (List.replicate (400 : Int).toNat [V.int 1]).flatten = (List.replicate 400 (1 : Int)).map V.int := by decide +kernel
      rw [e] at f_o4
      exact ⟨_, _, rfl, ox_ints (.of (av_at m_o4 f_o4)), (bdI _ (fun x hx => by rw [(List.mem_replicate.mp hx).2]; decide) (by rw [List.length_replicate]; decide)).mono (by decide) (by decide), nh_of (fun hh => by
        have := hh.len
        rw [List.length_replicate] at this
        omega)⟩
end
end L59
set_option Elab.async false
set_option linter.all false
set_option maxRecDepth 100000
namespace L59
open PySem PySem.Spec PyProof.Rows L2 Lp
/-! ### the same history with other numbers: the numbers -/
theorem filt_at {ns : List Int} {f : Int → Bool} {m : Nat} {e : Int} (h : ns[m]? = some e) (hf : f e = true) : (ns.filter f)[((ns.take m).filter f).length]? = some e := by
  have hm := lt_get h
  have e1 : ns[m] = e := Option.some.inj ((List.getElem?_eq_getElem hm).symm.trans h)
  have e2 : ns.filter f = (ns.take m).filter f ++ e :: (ns.drop (m + 1)).filter f := by
    conv => lhs; rw [← List.take_append_drop m ns, List.filter_append, List.drop_eq_getElem_cons hm, e1, List.filter_cons, if_pos hf]
  rw [e2, List.getElem?_append_right (Nat.le_refl _), Nat.sub_self]
  rfl
theorem hist_filt {ns : List Int} (hh : Hist ns) (p : Int → Bool) : Hist (ns.filter fun e => p (if e < 0 then -e else e)) := by
  have nd := hh.nd.sublist (List.filter_sublist (p := fun e => p (if e < 0 then -e else e)))
  refine ⟨fun e he => hh.rng e ((List.mem_filter.mp he).1), nd, fun i e he h0 => ?_, Nat.le_trans (List.length_filter_le _ _) hh.len⟩
  obtain ⟨m1, m2⟩ := List.mem_filter.mp (mem_get he)
  obtain ⟨m, hm, em⟩ := List.mem_iff_getElem.mp m1
  have hme : ns[m]? = some e := by rw [List.getElem?_eq_getElem hm, em]
  have ei := nd_ix nd he (filt_at hme m2)
  have pre := hh.ord m e hme h0
  have e2 : ns.filter (fun e => p (if e < 0 then -e else e)) = (ns.take m).filter (fun e => p (if e < 0 then -e else e)) ++ (ns.drop m).filter (fun e => p (if e < 0 then -e else e)) := by
    conv => lhs; rw [← List.take_append_drop m ns, List.filter_append]
  rw [e2, ei, List.take_append_of_le_length (Nat.le_refl _), List.take_length]
  refine List.mem_filter.mpr ⟨pre, ?_⟩
  rw [if_pos h0] at m2
  rw [if_neg (show ¬ -e < 0 by omega)]
  exact m2
/-- what a dict holds at a number -/
def svK (kvs : List (Key × V)) (k : Int) : Int := match valV kvs (Sum.inl k) with | some (.int v) => v | _ => 0
def HasK (kvs : List (Key × V)) (S : List Int) : Prop := ∀ k ∈ S, valV kvs (Sum.inl k) = some (.int (svK kvs k))
theorem svK_put (kvs : List (Key × V)) (e v k : Int) : svK (putK kvs (Sum.inl e) (.int v)) k = if k = e then v else svK kvs k := by
  unfold svK
  rw [valV_put]
  by_cases h : k = e
  · rw [if_pos (congrArg Sum.inl h), if_pos h]
  · rw [if_neg (fun q => h (Sum.inl.inj q)), if_neg h]
theorem HasK.put {kvs : List (Key × V)} {S T : List Int} {e v : Int} (h : HasK kvs S) (hT : ∀ k ∈ T, k = e ∨ k ∈ S) : HasK (putK kvs (Sum.inl e) (.int v)) T := fun k hk => by
  rw [svK_put, valV_put]
  by_cases z : k = e
  · rw [if_pos (congrArg Sum.inl z), if_pos z]
  · rw [if_neg (fun q => z (Sum.inl.inj q)), if_neg z]
    exact h k ((hT k hk).resolve_left z)
theorem HasK.get {kvs : List (Key × V)} {S : List Int} {H : Hp} {d : Addr} {k : Int} (h : HasK kvs S) (hd : H d = some (.dK kvs)) (hk : k ∈ S) : DGet H d (.int k) (some (.int (svK kvs k))) := by
  have z := DGet.k (k := Sum.inl k) hd
  rw [h k hk] at z
  exact z
theorem putK_le {kvs : List (Key × V)} {k : Key} {v : V} {n : Nat} (h : kvs.length ≤ n) : (putK kvs k v).length ≤ n + 1 := by
  unfold putK
  split
  · rw [List.length_map]; omega
  · simp; omega
/-- the numbers that a dict gives to the starts are different ones of 1 to 100 -/
theorem any_hist {ns lf : List Int} {kvs : List (Key × V)} (hh : Hist ns) (pm : ((stL ns).map (svK kvs) ++ lf).Perm (upL 100)) : Hist (ns.map (gE (svK kvs))) := by
  have nd : ((stL ns).map (svK kvs) ++ lf).Nodup := pm.nodup_iff.mpr (upL_nd 100)
  refine (hist_map hh (List.nodup_append.mp nd).1 fun e he h0 => ?_).1
  have m : svK kvs e ∈ upL 100 := pm.mem_iff.mp (List.mem_append_left _ (List.mem_map.mpr ⟨e, mem_stL he h0, rfl⟩))
  have := upL_mem m
  exact ⟨by omega, by omega⟩
theorem sv_hist {ns : List Int} {sv : Int → Int} (hh : Hist ns) (inj : ∀ x ∈ stL ns, ∀ y ∈ stL ns, sv x = sv y → x = y) (rg : ∀ x ∈ stL ns, 1 ≤ sv x ∧ sv x ≤ 100) : Hist (ns.map (gE sv)) :=
  (hist_map hh (map_on inj (stL_nd hh)) fun e he h0 => rg e (mem_stL he h0)).1
theorem st_rg {ns : List Int} (hh : Hist ns) {x : Int} (h : x ∈ stL ns) : 1 ≤ x ∧ x ≤ 100 := by
  obtain ⟨h1, h2⟩ := List.mem_filter.mp h
  have := hh.rng x h1
  have h2 : 0 < x := of_decide_eq_true h2
  exact ⟨by omega, by omega⟩
theorem swap_hist {ns : List Int} {a b : Int} {sv : Int → Int} (hh : Hist ns) (ha : a ∈ stL ns) (hb : b ∈ stL ns) (e : ∀ k ∈ stL ns, sv k = if k = b then a else if k = a then b else k) : Hist (ns.map (gE sv)) := by
  refine sv_hist hh (fun x hx y hy z => ?_) fun x hx => ?_
  · rw [e x hx, e y hy] at z
    split at z <;> split at z <;> (try split at z) <;> (try split at z) <;> omega
  · have r1 := st_rg hh ha
    have r2 := st_rg hh hb
    have r3 := st_rg hh hx
    rw [e x hx]
    split
    · exact r1
    · split
      · exact r2
      · exact r3
theorem free_hist {ns : List Int} {a b f : Int} {sv : Int → Int} (hh : Hist ns) (ha : a ∈ stL ns) (hb : b ∈ stL ns) (hf : f ∉ stL ns) (f1 : 1 ≤ f ∧ f ≤ 100) (e : ∀ k ∈ stL ns, sv k = if k = b then f else if k = a then b else k) : Hist (ns.map (gE sv)) := by
  have ne : ∀ k ∈ stL ns, k ≠ f := fun k hk z => hf (z ▸ hk)
  refine sv_hist hh (fun x hx y hy z => ?_) fun x hx => ?_
  · rw [e x hx, e y hy] at z
    have n1 := ne x hx
    have n2 := ne y hy
    have n3 := ne b hb
    split at z <;> split at z <;> (try split at z) <;> (try split at z) <;> omega
  · have r2 := st_rg hh hb
    have r3 := st_rg hh hx
    rw [e x hx]
    split
    · exact f1
    · split
      · exact r2
      · exact r3
def far1 (ns : List Int) : List Int := (ns.filter fun e => decide ((if e < 0 then -e else e) < 100)).map (gE (· + 1))
theorem far1_hist {ns : List Int} (hh : Hist ns) : Hist (far1 ns) := by
  have h1 := hist_filt hh fun x => decide (x < 100)
  refine sv_hist h1 (fun x _ y _ z => by omega) fun x hx => ?_
  have r := st_rg h1 hx
  obtain ⟨m1, m2⟩ := List.mem_filter.mp (List.mem_filter.mp hx).1
  have m2 : (if x < 0 then -x else x) < 100 := of_decide_eq_true m2
  rw [if_neg (by omega)] at m2
  exact ⟨by omega, by omega⟩
end L59
set_option Elab.async false
set_option linter.all false
set_option maxRecDepth 100000
namespace L59
open PySem PySem.Spec PyProof.Rows L2 Lp
section
variable {P : Program} {w : World} {K : PySem.W.Frag} {mg : Str → Option Value} {base : Heap}
/-! ### _law_others -/
def GoodR (H : Hp) (src r : Addr) : Prop := r ≠ src ∧ ∃ ms : List Int, H r = some (.lst (ms.map V.int)) ∧ Hist ms
def spOthers (K : PySem.W.Frag) : Sp := fun vs H Q _ => ∃ (src a : Addr) (ns : List Int) (n : Nat), vs = [.ref src, .ref a] ∧ Src H src n ∧ n ≤ 800000 ∧ a ≠ src ∧ H a = some (.lst (ns.map V.int)) ∧ Hist ns ∧ 1 ≤ (stL ns).length ∧
  ∀ (H' : Hp) (p : Addr) (ps : List Addr), H' p = some (.lst (ps.map V.ref)) → (∀ r ∈ ps, GoodR H' src r) → ps.length ≤ 10 → p ≠ src → Src H' src (n + 210) → Bt src H H' → Q (.ref p) H'
theorem ne_T {i j : Int} (h : i ≠ j) : V.bl (!decide (V.int i = V.int j)) = V.bl true := by rw [decide_eq_false (vne h)]; rfl
theorem ne_F {i j : Int} (h : i = j) : V.bl (!decide (V.int i = V.int j)) = V.bl false := by rw [decide_eq_true (congrArg V.int h)]; rfl
theorem eN_T {xs ys : List Int} (h : ¬ xs = ys) : V.bl (!PyData.eqv (dI xs) (dI ys)) = V.bl true := by rw [eqv_ints, decide_eq_false h]; rfl
theorem eN_F {xs ys : List Int} (h : xs = ys) : V.bl (!PyData.eqv (dI xs) (dI ys)) = V.bl false := by rw [eqv_ints, decide_eq_true h]; rfl
theorem map_take_len {ns : List Int} (f : Int → V) {m : Nat} (h : ns.length = m) : (ns.take m).map f = ns.map f := by rw [← h, List.take_length]
theorem neg_mem0 {ns : List Int} (hh : Hist ns) {e : Int} (he : e ∈ ns) (h : ¬ 0 < e) : 0 - e ∈ stL ns := by
  obtain ⟨m, p⟩ := neg_mem hh he h
  exact mem_stL m p
set_option maxHeartbeats 8000000 in
theorem ok_law_others {f : Addr} {fd : FuncData} (F : Fun K "_law_others" "_law_others" s_law_others f fd) (B : NoB mg) (T_law_draw : Gc P w K mg base 1 "_law_draw" spDraw) : FnG P w K mg base CX0 2 f fd ["pool", "row"] (spOthers K) := by
  refine okG F sc_law_others (fun vs H Q E h => ?_) (fun cdv A outer s H vs Q E hG hr h => ?_)
  · obtain ⟨src, a, ns, n, rfl, _⟩ := h
    rfl
  · obtain ⟨src, a, ns, n, rfl, hs, hn, m_a, f_a, hh, pos, q⟩ := h
    have hu64 := hr.units
    have hu := hu_of hr
    have hl := hh.len
    have sl := stL_len ns
    have snd := stL_nd hh
    have sln : (stL ns).length ≤ 100 := by
      have z := upsF_len hh ns.length
      rwa [List.take_length] at z
    have lS : ((stL ns).map V.int).length = (stL ns).length := List.length_map _
    have fl := List.length_filter_le (fun k => decide (k ∉ stL ns)) (upL 100)
    rw [upL_len] at fl
    have h_a := f_a
    refine ⟨_, (pss_cons (ps_set (i := 2) sc_law_others.nd rfl (Or.inr rfl) (pe_lc (own := [("one", 9)]) (g := gName 9) (tt := _) rfl sc_law_others.nd (pi_list (pv 1)) (blkOk_by (own := [("one", 9)]) (N := N_law_others) (sc := defScope s_law_others) (by decide +kernel)) (fun _ _ _ _ _ => (pg_name (i := 9) sc_law_others.nd rfl (Or.inl rfl))) (fun _ _ _ _ _ => (pts_one (pt_cmpR op_gt (pv 9) pe_int (nomark _)))) (fun _ _ _ _ _ => (pv 9))))
        (pss_cons (ps_asg (pe_tup (pa_cons (pe_ix ix_list (pv 2) (pe_g T_law_draw hG hr (by decide) (by rfl) (pa_cons (pv 0) (pa_cons (pe_callB call_len_seq (by rfl) B.len PySem.boot_len (pa_cons (pv 2) pa_nil)) pa_nil))) (fun _ _ => rfl)) (pa_cons (pe_ix ix_list (pv 2) (pe_g T_law_draw hG hr (by decide) (by rfl) (pa_cons (pv 0) (pa_cons (pe_callB call_len_seq (by rfl) B.len PySem.boot_len (pa_cons (pv 2) pa_nil)) pa_nil))) (fun _ _ => rfl)) pa_nil))) (pg_tup rfl (pgs_cons (pg_name (i := 3) sc_law_others.nd rfl (Or.inr rfl)) (pgs_cons (pg_name (i := 4) sc_law_others.nd rfl (Or.inr rfl)) pgs_nil))))
        (pss_cons (ps_par (i := 5) (j := 6) (by rfl) sc_law_others.nd rfl rfl (by decide) rfl rfl (pa_cons (pe_listRg rfl (by rfl) B.list (prg_2 (by rfl) B.range pe_int pe_int)) (pa_cons (pe_lc (own := [("one", 9)]) (g := gName 9) (tt := _) rfl sc_law_others.nd (pi_range2 rfl B.range (pa_cons pe_int (pa_cons pe_int pa_nil))) (blkOk_by (own := [("one", 9)]) (N := N_law_others) (sc := defScope s_law_others) (by decide +kernel)) (fun _ _ _ _ _ => (pg_name (i := 9) sc_law_others.nd rfl (Or.inl rfl))) (fun _ _ _ _ _ => (pts_one (pt_cmpR (k_notin (K := K) rfl) (pv 9) (pv 2) (by rfl)))) (fun _ _ _ _ _ => (pv 9))) pa_nil)) (by rfl))
        (pss_cons (ps_asg (pe_tup (pa_cons pe_dnewK (pa_cons pe_dnewK pa_nil))) (pg_tup rfl (pgs_cons (pg_name (i := 7) sc_law_others.nd rfl (Or.inr rfl)) (pgs_cons (pg_name (i := 8) sc_law_others.nd rfl (Or.inr rfl)) pgs_nil))))
        (pss_cons (ps_for PassesOwn.never rfl (pi_list (pv 2)) (pg_name (i := 9) sc_law_others.nd rfl (Or.inl rfl))
          (pss_cons (ps_dput hu (pv 7) (pv 9) (pv 9) rfl)
          (pss_one (ps_dput hu (pv 8) (pv 9) (pe_bm PySem.F.plainAttrs_list PySem.F.slot_list_pop PySem.F.type_list_pop mt_popAt (pv 5) (pa_cons (pe_g T_law_draw hG hr (by decide) (by rfl) (pa_cons (pv 0) (pa_cons (pe_callB call_len_seq (by rfl) B.len PySem.boot_len (pa_cons (pv 5) pa_nil)) pa_nil))) pa_nil)) rfl))))
        (pss_cons (ps_dput hu (pv 7) (pv 3) (pv 4) rfl)
        (pss_cons (ps_dput hu (pv 7) (pv 4) (pv 3) rfl)
        (pss_cons (ps_set (i := 10) sc_law_others.nd rfl (Or.inl rfl) (pe_lst (pa_cons (pe_lc (own := [("one", 9)]) (g := gName 9) (tt := _) rfl sc_law_others.nd (pi_list (pv 1)) (blkOk_by (own := [("one", 9)]) (N := N_law_others) (sc := defScope s_law_others) (by decide +kernel)) (fun _ _ _ _ _ => (pg_name (i := 9) sc_law_others.nd rfl (Or.inl rfl))) (fun _ _ _ _ _ => (pts_one (pt_cmpR op_ne (pe_callB call_abs (by rfl) B.abs (by decide +kernel) (pa_cons (pv 9) pa_nil)) (pv 3) (nomark _)))) (fun _ _ _ _ _ => (pv 9))) (pa_cons (pe_lc (own := [("one", 9)]) (g := gName 9) (tt := _) rfl sc_law_others.nd (pi_list (pv 1)) (blkOk_by (own := [("one", 9)]) (N := N_law_others) (sc := defScope s_law_others) (by decide +kernel)) (fun _ _ _ _ _ => (pg_name (i := 9) sc_law_others.nd rfl (Or.inl rfl))) (fun _ _ _ _ _ => (pts_one (pt_cmpR (k_notin (K := K) rfl) (pe_callB call_abs (by rfl) B.abs (by decide +kernel) (pa_cons (pv 9) pa_nil)) (pe_tup (pa_cons (pv 3) (pa_cons (pv 4) pa_nil))) (by rfl)))) (fun _ _ _ _ _ => (pv 9))) pa_nil))))
        (pss_cons (ps_expr (pe_bm PySem.F.plainAttrs_list PySem.F.slot_list_append PySem.F.type_list_append mt_append (pv 10) (pa_cons (pe_lc (own := [("one", 9)]) (g := gName 9) (tt := tYes) rfl sc_law_others.nd (pi_list (pv 1)) (blkOk_by (own := [("one", 9)]) (N := N_law_others) (sc := defScope s_law_others) (by decide +kernel)) (fun _ _ _ _ _ => (pg_name (i := 9) sc_law_others.nd rfl (Or.inl rfl))) (fun _ _ _ _ _ => pts_nil) (fun _ _ _ _ _ => (pe_ifExp (pt_cmpR op_gt (pv 9) pe_int (nomark _)) (pe_dget hu (pv 8) (pv 9) (fun _ _ => rfl)) (pe_op op_sub pe_int (pe_dget hu (pv 8) (pe_op op_sub pe_int (pv 9)) (fun _ _ => rfl)))))) pa_nil)))
        (pss_cons (ps_expr (pe_bm PySem.F.plainAttrs_list PySem.F.slot_list_append PySem.F.type_list_append mt_append (pv 10) (pa_cons (pe_lc (own := [("one", 9)]) (g := gName 9) (tt := tYes) rfl sc_law_others.nd (pi_list (pv 1)) (blkOk_by (own := [("one", 9)]) (N := N_law_others) (sc := defScope s_law_others) (by decide +kernel)) (fun _ _ _ _ _ => (pg_name (i := 9) sc_law_others.nd rfl (Or.inl rfl))) (fun _ _ _ _ _ => pts_nil) (fun _ _ _ _ _ => (pe_ifExp (pt_cmpR op_gt (pv 9) pe_int (nomark _)) (pe_dget hu (pv 7) (pv 9) (fun _ _ => rfl)) (pe_op op_sub pe_int (pe_dget hu (pv 7) (pe_op op_sub pe_int (pv 9)) (fun _ _ => rfl)))))) pa_nil)))
        (Evl.pss_cut (ps_if (pt_cmpR (op_neD hu64) (pv 6) (pe_lst pa_nil) (nomark _)) (pss_cons (ps_dput hu (pv 7) (pv 4) (pe_ix ix_list (pv 6) (pe_g T_law_draw hG hr (by decide) (by rfl) (pa_cons (pv 0) (pa_cons (pe_callB call_len_seq (by rfl) B.len PySem.boot_len (pa_cons (pv 6) pa_nil)) pa_nil))) (fun _ _ => rfl)) rfl)
          (pss_one (ps_expr (pe_bm PySem.F.plainAttrs_list PySem.F.slot_list_append PySem.F.type_list_append mt_append (pv 10) (pa_cons (pe_lc (own := [("one", 9)]) (g := gName 9) (tt := tYes) rfl sc_law_others.nd (pi_list (pv 1)) (blkOk_by (own := [("one", 9)]) (N := N_law_others) (sc := defScope s_law_others) (by decide +kernel)) (fun _ _ _ _ _ => (pg_name (i := 9) sc_law_others.nd rfl (Or.inl rfl))) (fun _ _ _ _ _ => pts_nil) (fun _ _ _ _ _ => (pe_ifExp (pt_cmpR op_gt (pv 9) pe_int (nomark _)) (pe_dget hu (pv 7) (pv 9) (fun _ _ => rfl)) (pe_op op_sub pe_int (pe_dget hu (pv 7) (pe_op op_sub pe_int (pv 9)) (fun _ _ => rfl)))))) pa_nil))))) pss_nil)
        (pss_one (ps_ret (pe_op op_cat (pv 10) (pe_lst (pa_cons (pe_lc (own := [("one", 9)]) (g := gName 9) (tt := _) rfl sc_law_others.nd (pi_list (pv 1)) (blkOk_by (own := [("one", 9)]) (N := N_law_others) (sc := defScope s_law_others) (by decide +kernel)) (fun _ _ _ _ _ => (pg_name (i := 9) sc_law_others.nd rfl (Or.inl rfl))) (fun _ _ _ _ _ => (pts_one (pt_cmpR op_lt (pe_callB call_abs (by rfl) B.abs (by decide +kernel) (pa_cons (pv 9) pa_nil)) pe_int (nomark _)))) (fun _ _ _ _ _ => (pe_op op_add (pv 9) (pe_ix (k_ix (K := K) rfl) (pe_lst (pa_cons pe_int (pa_cons (pe_un un_neg pe_int) pa_nil))) (pe_callTy call_int1 (by rfl) B.int (by decide +kernel) (pa_cons (pe_cmpR op_lt (pv 9) pe_int (nomark _)) pa_nil)) (fun _ _ => rfl))))) pa_nil)))))))))))))))), ?_⟩
    have g := hs
    have b := Bt.refl src H
    refine ⟨_, rfl, a, rfl, ⟨_, .of f_a⟩, fun D1 n_D1 => lc_list (xs := ns.map V.int) (LcP H D1 fun i => ((ns.take i).filter fun e => decide (0 < e)).map V.int) (.init n_D1 rfl) (fun i H' _ p => .of (p.2.1 _ _ f_a)) (fun i x H' hx p => ?_) (fun H1 p1 => ?_)⟩
    · obtain ⟨e, rfl, he⟩ := get_int hx
      have fs := filt_succ (f := fun e => decide (0 < e)) he
      have fl := filt_len (ns := ns) (f := fun e => decide (0 < e)) i
      have li := lt_get he
      refine ⟨rfl, ?_⟩
      by_cases h0 : 0 < e
      · refine ⟨_, rfl, _, _, rfl, rfl, true, dT h0, ?_⟩
        refine ⟨_, rfl, p.put (Same.refl _) ?_ (by rw [List.length_map]; omega)⟩
        show ((ns.take (i + 1)).filter _).map V.int = _
        rw [fs, if_pos (by simp [h0]), List.map_append]
        rfl
      · refine ⟨_, rfl, _, _, rfl, rfl, false, dF h0, ?_⟩
        refine p.skip (Same.refl _) ?_
        show ((ns.take (i + 1)).filter _).map V.int = _
        rw [fs, if_neg (by simp [h0]), List.append_nil]
    have f_D1 : H1 D1 = some (.lst ((stL ns).map V.int)) := by
      have hp := p1.2.2
      rw [List.length_map] at hp
      have hp : H1 D1 = some (.lst (((ns.take ns.length).filter fun e => decide (0 < e)).map V.int)) := hp
      rw [List.take_length] at hp
      exact hp
    have m_D1 := g.ne n_D1
    have z_D1 := free_of b m_D1 n_D1
    have s1 := p1.2.1
    have g := g.same s1
    have b := b.trans (.of s1)
    have f_a := s1 _ _ f_a
    refine ⟨_, rfl, _, rfl, _, rfl, D1, _, rfl, .inl (.of f_D1), src, _, n, rfl, g, by omega, by rw [lS]; omega, by rw [lS]; omega, fun r_av G1 r_av0 r_av1 g bb => ?_⟩
    have f_a := bb _ _ m_a f_a
    have f_D1 := bb _ _ m_D1 f_D1
    have b := b.trans bb
    obtain ⟨i_av, rfl⟩ := nat_of r_av0
    rw [lS] at r_av1
    obtain ⟨av, e_av, in_av⟩ : ∃ e, (stL ns)[i_av]? = some e ∧ e ∈ stL ns := ⟨_, List.getElem?_eq_getElem (show i_av < (stL ns).length by omega), List.getElem_mem _⟩
    have eV_av : ((stL ns).map V.int)[i_av]? = some (.int av) := by rw [List.getElem?_map, e_av]; rfl
    refine ⟨D1, _, (i_av : Int), .int av, rfl, rfl, .of f_D1, atI_nat eV_av, ?_⟩
    refine ⟨_, rfl, _, rfl, _, rfl, D1, _, rfl, .inl (.of f_D1), src, _, n + 1, rfl, g, by omega, by rw [lS]; omega, by rw [lS]; omega, fun r_bv G2 r_bv0 r_bv1 g bb => ?_⟩
    have f_a := bb _ _ m_a f_a
    have f_D1 := bb _ _ m_D1 f_D1
    have b := b.trans bb
    obtain ⟨i_bv, rfl⟩ := nat_of r_bv0
    rw [lS] at r_bv1
    obtain ⟨bv, e_bv, in_bv⟩ : ∃ e, (stL ns)[i_bv]? = some e ∧ e ∈ stL ns := ⟨_, List.getElem?_eq_getElem (show i_bv < (stL ns).length by omega), List.getElem_mem _⟩
    have eV_bv : ((stL ns).map V.int)[i_bv]? = some (.int bv) := by rw [List.getElem?_map, e_bv]; rfl
    refine ⟨D1, _, (i_bv : Int), .int bv, rfl, rfl, .of f_D1, atI_nat eV_bv, by show 2 ≤ sizeLine; decide, fun T n_T => ?_⟩
    have u := same_new (o := .tup [V.int av, .int bv]) n_T
    have m_T := g.ne n_T
    have g := g.new (o := .tup [V.int av, .int bv]) n_T
    have b := b.add (o := .tup [V.int av, .int bv]) n_T
    have f_a := u _ _ f_a
    have f_D1 := u _ _ f_D1
    have f_T : (upd G2 T (.tup [V.int av, .int bv])) T = some (.tup [V.int av, .int bv]) := upd_same
    generalize upd G2 T (.tup [V.int av, .int bv]) = G3 at g b f_a f_D1 f_T ⊢
    refine ⟨T, _, rfl, .of f_T, rfl, _, _, rfl, _, _, rfl, rfl, ?_⟩
    refine ⟨_, _, rfl, rfl, RgOk.of_le (by decide) (by decide) (by decide) (by decide), fun lp n_lp => ?_⟩
    have u := same_new (o := .lst (rgV 1 101)) n_lp
    have m_lp := g.ne n_lp
    have z_lp := free_of b m_lp n_lp
    have k_D1_lp := ne_of_none f_D1 n_lp
    have g := g.new (o := .lst (rgV 1 101)) n_lp
    have b := b.add (o := .lst (rgV 1 101)) n_lp
    have f_a := u _ _ f_a
    have f_D1 := u _ _ f_D1
    have f_lp : (upd G3 lp (.lst (rgV 1 101))) lp = some (.lst (rgV 1 101)) := upd_same
    generalize upd G3 lp (.lst (rgV 1 101)) = G4 at g b f_a f_D1 f_lp ⊢
    have e_up : rgV 1 101 = (upL 100).map V.int := rgV_up 101
    rw [e_up] at f_lp
    refine ⟨_, _, rfl, by decide, fun fr n_fr => ?_⟩
    refine lc_range (lo := 1) (n := 100) (LcP G4 fr fun i => ((upL i).filter fun k => decide (k ∉ stL ns)).map V.int) (.init n_fr rfl) (fun i H' hi p => ?_) (fun HF pF => ?_)
    · have fs := filt_snoc (l := upL i) (f := fun k => decide (k ∉ stL ns)) (e := 1 + (i : Int))
      have fl := List.length_filter_le (fun k => decide (k ∉ stL ns)) (upL i)
      rw [upL_len] at fl
      rw [← upL_succ] at fs
      refine ⟨rfl, ?_⟩
      by_cases c1 : 1 + (i : Int) ∈ stL ns
      · refine ⟨_, rfl, _, rfl, D1, _, rfl, .inl (.of (p.2.1 _ _ f_D1)), rfl, flatI _, false, notInF c1, ?_⟩
        refine p.skip (Same.refl _) ?_
        rw [fs, if_neg (by simp [c1]), List.append_nil]
      · refine ⟨_, rfl, _, rfl, D1, _, rfl, .inl (.of (p.2.1 _ _ f_D1)), rfl, flatI _, true, notInT c1, ?_⟩
        refine ⟨_, rfl, p.put (Same.refl _) ?_ (by rw [List.length_map]; omega)⟩
        rw [fs, if_pos (by simp [c1]), List.map_append]
        rfl
    have f_fr : HF fr = some (.lst (((upL 100).filter fun k => decide (k ∉ stL ns)).map V.int)) := pF.2.2
    have m_fr := g.ne n_fr
    have z_fr := free_of b m_fr n_fr
    have k_D1_fr := ne_of_none f_D1 n_fr
    have k_lp_fr := ne_of_none f_lp n_fr
    have sF := pF.2.1
    have g := g.same sF
    have b := b.trans (.of sF)
    have f_a := sF _ _ f_a
    have f_D1 := sF _ _ f_D1
    have f_lp := sF _ _ f_lp
    refine ⟨_, _, rfl, ?_⟩
    refine fun d1 n_d1 => ?_
    have u := same_new (o := .dK []) n_d1
    have m_d1 := g.ne n_d1
    have z_d1 := free_of b m_d1 n_d1
    have k_D1_d1 := ne_of_none f_D1 n_d1
    have k_lp_d1 := ne_of_none f_lp n_d1
    have k_fr_d1 := ne_of_none f_fr n_d1
    have g := g.new (o := .dK []) n_d1
    have b := b.add (o := .dK []) n_d1
    have f_a := u _ _ f_a
    have f_D1 := u _ _ f_D1
    have f_lp := u _ _ f_lp
    have f_fr := u _ _ f_fr
    have f_d1 : (upd HF d1 (.dK [])) d1 = some (.dK []) := upd_same
    generalize upd HF d1 (.dK []) = G5 at g b f_a f_D1 f_lp f_fr f_d1 ⊢
    refine fun d2 n_d2 => ?_
    have u := same_new (o := .dK []) n_d2
    have m_d2 := g.ne n_d2
    have z_d2 := free_of b m_d2 n_d2
    have k_D1_d2 := ne_of_none f_D1 n_d2
    have k_lp_d2 := ne_of_none f_lp n_d2
    have k_fr_d2 := ne_of_none f_fr n_d2
    have k_d1_d2 := ne_of_none f_d1 n_d2
    have g := g.new (o := .dK []) n_d2
    have b := b.add (o := .dK []) n_d2
    have f_a := u _ _ f_a
    have f_D1 := u _ _ f_D1
    have f_lp := u _ _ f_lp
    have f_fr := u _ _ f_fr
    have f_d1 := u _ _ f_d1
    have f_d2 : (upd G5 d2 (.dK [])) d2 = some (.dK []) := upd_same
    generalize upd G5 d2 (.dK []) = G6 at g b f_a f_D1 f_lp f_fr f_d1 f_d2 ⊢
    refine ⟨by show 2 ≤ sizeLine; decide, fun T2 n_T2 => ?_⟩
    have u := same_new (o := .tup [V.ref d1, .ref d2]) n_T2
    have m_T2 := g.ne n_T2
    have g := g.new (o := .tup [V.ref d1, .ref d2]) n_T2
    have b := b.add (o := .tup [V.ref d1, .ref d2]) n_T2
    have f_a := u _ _ f_a
    have f_D1 := u _ _ f_D1
    have f_lp := u _ _ f_lp
    have f_fr := u _ _ f_fr
    have f_d1 := u _ _ f_d1
    have f_d2 := u _ _ f_d2
    have f_T2 : (upd G6 T2 (.tup [V.ref d1, .ref d2])) T2 = some (.tup [V.ref d1, .ref d2]) := upd_same
    generalize upd G6 T2 (.tup [V.ref d1, .ref d2]) = G7 at g b f_a f_D1 f_lp f_fr f_d1 f_d2 f_T2 ⊢
    refine ⟨T2, _, rfl, .of f_T2, rfl, _, _, rfl, _, _, rfl, rfl, ?_⟩
    refine ⟨_, rfl, D1, rfl, ⟨_, .of f_D1⟩, for_list (xs := (stL ns).map V.int) (fun i σ H' => ∃ (y9 y10 : Option V) (lf : List Int) (kF kA : List (Key × V)), σ = [some (.ref src), some (.ref a), some (.ref D1), some (.int av), some (.int bv), some (.ref lp), some (.ref fr), some (.ref d1), some (.ref d2), y9, y10] ∧ Src H' src (n + 2 + i) ∧ Bt src H H' ∧ H' D1 = some (.lst ((stL ns).map V.int)) ∧ H' fr = some (.lst (((upL 100).filter fun k => decide (k ∉ stL ns)).map V.int)) ∧ H' lp = some (.lst (lf.map V.int)) ∧ H' d1 = some (.dK kF) ∧ H' d2 = some (.dK kA) ∧ kF.length ≤ i ∧ kA.length ≤ i ∧ HasK kF ((stL ns).take i) ∧ HasK kA ((stL ns).take i) ∧ (∀ k ∈ (stL ns).take i, svK kF k = k) ∧ (((stL ns).take i).map (svK kA) ++ lf).Perm (upL 100)) ⟨none, none, upL 100, [], [], rfl, g, b, f_D1, f_fr, f_lp, f_d1, f_d2, Nat.le_refl _, Nat.le_refl _, fun k hk => by simp at hk, fun k hk => by simp at hk, fun k hk => by simp at hk, List.Perm.refl _⟩ (fun i σ H' _ h => by obtain ⟨_, _, _, _, _, _, _, _, h, _⟩ := h; exact .of h) (fun i x σ H' hx h => ?_) (fun σ HL h => ?_)⟩
    · obtain ⟨y9, y10, lf, kF, kA, rfl, hs', bt', f_D1, f_fr, f_lp, f_d1, f_d2, hkF, hkA, hF, hA, hI, pm⟩ := h
      have g := hs'
      have b := bt'
      have f_a' := bt' _ _ m_a h_a
      obtain ⟨e, rfl, he⟩ := get_int hx
      have li := lt_get he
      have nt := not_mem_take snd he
      have mt : ∀ k, k ∈ (stL ns).take (i + 1) ↔ k ∈ (stL ns).take i ∨ k = e := fun k => by rw [mem_take_succ he]
      have ll := pm.length_eq
      rw [List.length_append, List.length_map, List.length_take, upL_len, Nat.min_eq_left (by omega)] at ll
      refine ⟨_, rfl, _, rfl, _, rfl, d1, _, rfl, DPut.k (k := Sum.inl e) f_d1 (zl (by omega)), ?_⟩
      have g := g.upd (o := .dK (putK kF (Sum.inl e) (.int e))) m_d1
      have b := b.mut (o := .dK (putK kF (Sum.inl e) (.int e))) z_d1
      have f_D1 := (upd_ne (o := .dK (putK kF (Sum.inl e) (.int e))) k_D1_d1).trans f_D1
      have f_fr := (upd_ne (o := .dK (putK kF (Sum.inl e) (.int e))) k_fr_d1).trans f_fr
      have f_lp := (upd_ne (o := .dK (putK kF (Sum.inl e) (.int e))) k_lp_d1).trans f_lp
      have f_d2 := (upd_ne (o := .dK (putK kF (Sum.inl e) (.int e))) (Ne.symm k_d1_d2)).trans f_d2
      have f_d1 : (upd H' d1 (.dK (putK kF (Sum.inl e) (.int e)))) d1 = some (.dK (putK kF (Sum.inl e) (.int e))) := upd_same
      generalize upd H' d1 (.dK (putK kF (Sum.inl e) (.int e))) = G1 at g b f_D1 f_fr f_lp f_d1 f_d2 ⊢
      refine ⟨_, rfl, .inl ⟨rfl, _, .of f_lp⟩, _, rfl, _, rfl, lp, _, rfl, .inl (.of f_lp), src, _, (n + 2 + i), rfl, g, by omega, by rw [List.length_map]; omega, by rw [List.length_map]; omega, fun r G2 r0 r1 g bb => ?_⟩
      have f_D1 := bb _ _ m_D1 f_D1
      have f_fr := bb _ _ m_fr f_fr
      have f_lp := bb _ _ m_lp f_lp
      have f_d1 := bb _ _ m_d1 f_d1
      have f_d2 := bb _ _ m_d2 f_d2
      have b := b.trans bb
      obtain ⟨j, rfl⟩ := nat_of r0
      rw [List.length_map] at r1
      have hj : j < lf.length := by omega
      refine ⟨lp, _, _, j, _, rfl, rfl, f_lp, (nm (by omega)).1, (nm (by omega)).2, by rw [List.length_map]; exact ix_at hj, get_at hj, ?_⟩
      have g := g.upd (o := .lst ((lf.map V.int).eraseIdx j)) m_lp
      have b := b.mut (o := .lst ((lf.map V.int).eraseIdx j)) z_lp
      have f_D1 := (upd_ne (o := .lst ((lf.map V.int).eraseIdx j)) k_D1_lp).trans f_D1
      have f_fr := (upd_ne (o := .lst ((lf.map V.int).eraseIdx j)) (Ne.symm k_lp_fr)).trans f_fr
      have f_d1 := (upd_ne (o := .lst ((lf.map V.int).eraseIdx j)) (Ne.symm k_lp_d1)).trans f_d1
      have f_d2 := (upd_ne (o := .lst ((lf.map V.int).eraseIdx j)) (Ne.symm k_lp_d2)).trans f_d2
      have f_lp : (upd G2 lp (.lst ((lf.map V.int).eraseIdx j))) lp = some (.lst ((lf.map V.int).eraseIdx j)) := upd_same
      generalize upd G2 lp (.lst ((lf.map V.int).eraseIdx j)) = G3 at g b f_D1 f_fr f_lp f_d1 f_d2 ⊢
      rw [erase_map] at f_lp
      refine ⟨_, rfl, _, rfl, d2, _, rfl, DPut.k (k := Sum.inl e) f_d2 (zl (by omega)), ?_⟩
      have g := g.upd (o := .dK (putK kA (Sum.inl e) (.int lf[j]))) m_d2
      have b := b.mut (o := .dK (putK kA (Sum.inl e) (.int lf[j]))) z_d2
      have f_D1 := (upd_ne (o := .dK (putK kA (Sum.inl e) (.int lf[j]))) k_D1_d2).trans f_D1
      have f_fr := (upd_ne (o := .dK (putK kA (Sum.inl e) (.int lf[j]))) k_fr_d2).trans f_fr
      have f_lp := (upd_ne (o := .dK (putK kA (Sum.inl e) (.int lf[j]))) k_lp_d2).trans f_lp
      have f_d1 := (upd_ne (o := .dK (putK kA (Sum.inl e) (.int lf[j]))) k_d1_d2).trans f_d1
      have f_d2 : (upd G3 d2 (.dK (putK kA (Sum.inl e) (.int lf[j])))) d2 = some (.dK (putK kA (Sum.inl e) (.int lf[j]))) := upd_same
      generalize upd G3 d2 (.dK (putK kA (Sum.inl e) (.int lf[j]))) = G4 at g b f_D1 f_fr f_lp f_d1 f_d2 ⊢
      have same1 : ∀ k ∈ (stL ns).take i, svK (putK kA (Sum.inl e) (.int lf[j])) k = svK kA k := fun k hk => by
        rw [svK_put, if_neg (fun z => nt (by rw [← z]; exact hk))]
      refine ⟨_, _, lf.eraseIdx j, _, _, rfl, g.mono (by omega), b, f_D1, f_fr, f_lp, f_d1, f_d2, putK_le hkF, putK_le hkA, hF.put (fun k hk => ((mt k).mp hk).symm), hA.put (fun k hk => ((mt k).mp hk).symm), fun k hk => ?_, ?_⟩
      · rw [svK_put]
        split
        · rename_i z; exact z.symm
        · rename_i z; exact hI k (((mt k).mp hk).resolve_right z)
      · have et : (stL ns).take (i + 1) = (stL ns).take i ++ [e] := take_get he
        rw [et, List.map_append, List.append_assoc, List.map_congr_left same1]
        refine List.Perm.trans (List.Perm.append_left _ ?_) pm
        show ([svK (putK kA (Sum.inl e) (.int lf[j])) e] ++ lf.eraseIdx j).Perm lf
        rw [svK_put, if_pos rfl]
        exact erase_perm lf j hj
    · obtain ⟨y9, y10, lf, kF, kA, rfl, g, b, f_D1, f_fr, f_lp, f_d1, f_d2, hkF, hkA, hF, hA, hI, pm⟩ := h
      rw [lS] at g hkF hkA hF hA hI pm
      rw [List.take_length] at hF hA hI pm
      have f_a := b _ _ m_a h_a
      have z_a : ∀ {p : Addr}, H p = none → a ≠ p := fun h => ne_of_none h_a h
      refine ⟨_, rfl, _, rfl, _, rfl, d1, _, rfl, DPut.k (k := Sum.inl av) f_d1 (zl (by omega)), ?_⟩
      have g := g.upd (o := .dK (putK kF (Sum.inl av) (.int bv))) m_d1
      have b := b.mut (o := .dK (putK kF (Sum.inl av) (.int bv))) z_d1
      have f_a := (upd_ne (o := .dK (putK kF (Sum.inl av) (.int bv))) (z_a z_d1)).trans f_a
      have f_fr := (upd_ne (o := .dK (putK kF (Sum.inl av) (.int bv))) k_fr_d1).trans f_fr
      have f_d2 := (upd_ne (o := .dK (putK kF (Sum.inl av) (.int bv))) (Ne.symm k_d1_d2)).trans f_d2
      have f_d1 : (upd HL d1 (.dK (putK kF (Sum.inl av) (.int bv)))) d1 = some (.dK (putK kF (Sum.inl av) (.int bv))) := upd_same
      generalize upd HL d1 (.dK (putK kF (Sum.inl av) (.int bv))) = G1 at g b f_a f_fr f_d1 f_d2 ⊢
      refine ⟨_, rfl, _, rfl, _, rfl, d1, _, rfl, DPut.k (k := Sum.inl bv) f_d1 (zl (Nat.lt_of_le_of_lt (putK_le hkF) (by omega))), ?_⟩
      have g := g.upd (o := .dK (putK (putK kF (Sum.inl av) (.int bv)) (Sum.inl bv) (.int av))) m_d1
      have b := b.mut (o := .dK (putK (putK kF (Sum.inl av) (.int bv)) (Sum.inl bv) (.int av))) z_d1
      have f_a := (upd_ne (o := .dK (putK (putK kF (Sum.inl av) (.int bv)) (Sum.inl bv) (.int av))) (z_a z_d1)).trans f_a
      have f_fr := (upd_ne (o := .dK (putK (putK kF (Sum.inl av) (.int bv)) (Sum.inl bv) (.int av))) k_fr_d1).trans f_fr
      have f_d2 := (upd_ne (o := .dK (putK (putK kF (Sum.inl av) (.int bv)) (Sum.inl bv) (.int av))) (Ne.symm k_d1_d2)).trans f_d2
      have f_d1 : (upd G1 d1 (.dK (putK (putK kF (Sum.inl av) (.int bv)) (Sum.inl bv) (.int av)))) d1 = some (.dK (putK (putK kF (Sum.inl av) (.int bv)) (Sum.inl bv) (.int av))) := upd_same
      generalize upd G1 d1 (.dK (putK (putK kF (Sum.inl av) (.int bv)) (Sum.inl bv) (.int av))) = G2 at g b f_a f_fr f_d1 f_d2 ⊢
      have kl2 : (putK (putK kF (Sum.inl av) (.int bv)) (Sum.inl bv) (.int av)).length ≤ (stL ns).length + 2 := putK_le (putK_le hkF)
      have hF2 : HasK (putK (putK kF (Sum.inl av) (.int bv)) (Sum.inl bv) (.int av)) (stL ns) := (hF.put (T := stL ns) fun k hk => .inr hk).put fun k hk => .inr hk
      have hI2 : ∀ k ∈ stL ns, svK (putK (putK kF (Sum.inl av) (.int bv)) (Sum.inl bv) (.int av)) k = if k = bv then av else if k = av then bv else k := fun k hk => by
        rw [svK_put, svK_put, hI k hk]
      generalize putK (putK kF (Sum.inl av) (.int bv)) (Sum.inl bv) (.int av) = kG at f_d1 kl2 hF2 hI2 ⊢
      refine ⟨_, rfl, a, rfl, ⟨_, .of f_a⟩, fun c1 n_c1 => lc_list (xs := ns.map V.int) (LcP G2 c1 fun i => ((ns.take i).filter fun e => decide ((if e < 0 then -e else e) ≠ av)).map V.int) (.init n_c1 rfl) (fun i H' _ p => .of (p.2.1 _ _ f_a)) (fun i x H' hx p => ?_) (fun HC1 pN => ?_)⟩
      · obtain ⟨e, rfl, he⟩ := get_int hx
        have fs := filt_succ (f := fun e => decide ((if e < 0 then -e else e) ≠ av)) he
        have fl := filt_len (ns := ns) (f := fun e => decide ((if e < 0 then -e else e) ≠ av)) i
        have li := lt_get he
        refine ⟨rfl, ?_⟩
        by_cases h0 : ((if e < 0 then -e else e) ≠ av)
        · refine ⟨_, rfl, _, rfl, _, rfl, rfl, true, ne_T h0, ?_⟩
          refine ⟨_, rfl, p.put (Same.refl _) ?_ (by rw [List.length_map]; omega)⟩
          show ((ns.take (i + 1)).filter _).map V.int = _
          rw [fs, if_pos (decide_eq_true h0), List.map_append]
          rfl
        · refine ⟨_, rfl, _, rfl, _, rfl, rfl, false, ne_F (Decidable.not_not.mp h0), ?_⟩
          refine p.skip (Same.refl _) ?_
          show ((ns.take (i + 1)).filter _).map V.int = _
          rw [fs, if_neg (by rw [decide_eq_false h0]; exact Bool.false_ne_true), List.append_nil]
      have f_c1 : HC1 c1 = some (.lst ((ns.filter fun e => decide ((if e < 0 then -e else e) ≠ av)).map V.int)) := by
        have hp := pN.2.2
        rw [List.length_map] at hp
        have hp : HC1 c1 = some (.lst (((ns.take ns.length).filter fun e => decide ((if e < 0 then -e else e) ≠ av)).map V.int)) := hp
        rw [List.take_length] at hp
        exact hp
      have m_c1 := g.ne n_c1
      have z_c1 := free_of b m_c1 n_c1
      have k_a_c1 := ne_of_none f_a n_c1
      have k_fr_c1 := ne_of_none f_fr n_c1
      have k_d1_c1 := ne_of_none f_d1 n_c1
      have k_d2_c1 := ne_of_none f_d2 n_c1
      have sN := pN.2.1
      have g := g.same sN
      have b := b.trans (.of sN)
      have f_a := sN _ _ f_a
      have f_fr := sN _ _ f_fr
      have f_d1 := sN _ _ f_d1
      have f_d2 := sN _ _ f_d2
      refine ⟨_, rfl, a, rfl, ⟨_, .of f_a⟩, fun c2 n_c2 => lc_list (xs := ns.map V.int) (LcP HC1 c2 fun i => ((ns.take i).filter fun e => decide ((if e < 0 then -e else e) ∉ [av, bv])).map V.int) (.init n_c2 rfl) (fun i H' _ p => .of (p.2.1 _ _ f_a)) (fun i x H' hx p => ?_) (fun HC2 pN => ?_)⟩
      · obtain ⟨e, rfl, he⟩ := get_int hx
        have fs := filt_succ (f := fun e => decide ((if e < 0 then -e else e) ∉ [av, bv])) he
        have fl := filt_len (ns := ns) (f := fun e => decide ((if e < 0 then -e else e) ∉ [av, bv])) i
        have li := lt_get he
        refine ⟨rfl, ?_⟩
        by_cases h0 : ((if e < 0 then -e else e) ∉ [av, bv])
        · refine ⟨_, rfl, _, rfl, _, rfl, _, rfl, by show 2 ≤ sizeLine; decide, fun T nT => ⟨T, _, rfl, .inr (.of upd_same), rfl, flatI [av, bv], true, notInT (ns := [av, bv]) h0, ?_⟩⟩
          refine ⟨_, rfl, p.put (same_new nT) ?_ (by rw [List.length_map]; omega)⟩
          show ((ns.take (i + 1)).filter _).map V.int = _
          rw [fs, if_pos (decide_eq_true h0), List.map_append]
          rfl
        · refine ⟨_, rfl, _, rfl, _, rfl, _, rfl, by show 2 ≤ sizeLine; decide, fun T nT => ⟨T, _, rfl, .inr (.of upd_same), rfl, flatI [av, bv], false, notInF (ns := [av, bv]) (Decidable.not_not.mp h0), ?_⟩⟩
          refine p.skip (same_new nT) ?_
          show ((ns.take (i + 1)).filter _).map V.int = _
          rw [fs, if_neg (by rw [decide_eq_false h0]; exact Bool.false_ne_true), List.append_nil]
      have f_c2 : HC2 c2 = some (.lst ((ns.filter fun e => decide ((if e < 0 then -e else e) ∉ [av, bv])).map V.int)) := by
        have hp := pN.2.2
        rw [List.length_map] at hp
        have hp : HC2 c2 = some (.lst (((ns.take ns.length).filter fun e => decide ((if e < 0 then -e else e) ∉ [av, bv])).map V.int)) := hp
        rw [List.take_length] at hp
        exact hp
      have m_c2 := g.ne n_c2
      have z_c2 := free_of b m_c2 n_c2
      have k_a_c2 := ne_of_none f_a n_c2
      have k_fr_c2 := ne_of_none f_fr n_c2
      have k_d1_c2 := ne_of_none f_d1 n_c2
      have k_d2_c2 := ne_of_none f_d2 n_c2
      have sN := pN.2.1
      have g := g.same sN
      have b := b.trans (.of sN)
      have f_a := sN _ _ f_a
      have f_fr := sN _ _ f_fr
      have f_d1 := sN _ _ f_d1
      have f_d2 := sN _ _ f_d2
      have f_c1 := sN _ _ f_c1
      refine ⟨by show 2 ≤ sizeLine; decide, fun fd n_fd => ?_⟩
      have u := same_new (o := .lst [V.ref c1, .ref c2]) n_fd
      have m_fd := g.ne n_fd
      have z_fd := free_of b m_fd n_fd
      have k_a_fd := ne_of_none f_a n_fd
      have k_fr_fd := ne_of_none f_fr n_fd
      have k_d1_fd := ne_of_none f_d1 n_fd
      have k_d2_fd := ne_of_none f_d2 n_fd
      have k_c1_fd := ne_of_none f_c1 n_fd
      have k_c2_fd := ne_of_none f_c2 n_fd
      have g := g.new (o := .lst [V.ref c1, .ref c2]) n_fd
      have b := b.add (o := .lst [V.ref c1, .ref c2]) n_fd
      have f_a := u _ _ f_a
      have f_fr := u _ _ f_fr
      have f_d1 := u _ _ f_d1
      have f_d2 := u _ _ f_d2
      have f_c1 := u _ _ f_c1
      have f_c2 := u _ _ f_c2
      have f_fd : (upd HC2 fd (.lst [V.ref c1, .ref c2])) fd = some (.lst [V.ref c1, .ref c2]) := upd_same
      generalize upd HC2 fd (.lst [V.ref c1, .ref c2]) = G3 at g b f_a f_fr f_d1 f_d2 f_c1 f_c2 f_fd ⊢
      refine ⟨_, rfl, .inl ⟨rfl, _, .of f_fd⟩, _, rfl, a, rfl, ⟨_, .of f_a⟩, fun c3 n_c3 => lc_list (xs := ns.map V.int) (LcP G3 c3 fun i => ((ns.take i).map (gE (svK kA))).map V.int) (.init n_c3 rfl) (fun i H' _ p => .of (p.2.1 _ _ f_a)) (fun i x H' hx p => ?_) (fun HC3 pN => ?_)⟩
      · obtain ⟨e, rfl, he⟩ := get_int hx
        have li := lt_get he
        have hd := p.2.1 _ _ f_d2
        refine ⟨rfl, ?_⟩
        have fin : ((ns.take (i + 1)).map (gE (svK kA))).map V.int = ((ns.take i).map (gE (svK kA))).map V.int ++ [.int (gE (svK kA) e)] := by rw [take_get he, List.map_append, List.map_append]; rfl
        by_cases h0 : 0 < e
        · refine ⟨_, rfl, _, _, rfl, rfl, true, dT h0, ?_⟩
          refine ⟨_, rfl, _, rfl, d2, _, rfl, hA.get hd (mem_stL (mem_get he) h0), p.put (Same.refl _) ?_ (by rw [List.length_map, List.length_map, List.length_take]; omega)⟩
          rw [fin]
          unfold gE
          rw [if_pos h0]
        · refine ⟨_, rfl, _, _, rfl, rfl, false, dF h0, ?_⟩
          refine ⟨_, rfl, _, rfl, _, _, rfl, rfl, d2, _, rfl, hA.get hd (neg_mem0 hh (mem_get he) h0), _, _, rfl, rfl, p.put (Same.refl _) ?_ (by rw [List.length_map, List.length_map, List.length_take]; omega)⟩
          rw [fin]
          unfold gE
          rw [if_neg h0]
      have f_c3 : HC3 c3 = some (.lst ((ns.map (gE (svK kA))).map V.int)) := by
        have hp := pN.2.2
        rw [List.length_map] at hp
        have hp : HC3 c3 = some (.lst (((ns.take ns.length).map (gE (svK kA))).map V.int)) := hp
        rw [List.take_length] at hp
        exact hp
      have m_c3 := g.ne n_c3
      have z_c3 := free_of b m_c3 n_c3
      have k_fd_c3 := ne_of_none f_fd n_c3
      have k_d1_c3 := ne_of_none f_d1 n_c3
      have sN := pN.2.1
      have g := g.same sN
      have b := b.trans (.of sN)
      have f_a := sN _ _ f_a
      have f_fr := sN _ _ f_fr
      have f_d1 := sN _ _ f_d1
      have f_d2 := sN _ _ f_d2
      have f_c1 := sN _ _ f_c1
      have f_c2 := sN _ _ f_c2
      have f_fd := sN _ _ f_fd
      refine ⟨fd, _, _, rfl, rfl, f_fd, zl (by show 2 < 100000; decide), ?_⟩
      have g := g.upd (o := .lst ([V.ref c1, V.ref c2] ++ [V.ref c3])) m_fd
      have b := b.mut (o := .lst ([V.ref c1, V.ref c2] ++ [V.ref c3])) z_fd
      have f_a := (upd_ne (o := .lst ([V.ref c1, V.ref c2] ++ [V.ref c3])) k_a_fd).trans f_a
      have f_fr := (upd_ne (o := .lst ([V.ref c1, V.ref c2] ++ [V.ref c3])) k_fr_fd).trans f_fr
      have f_d1 := (upd_ne (o := .lst ([V.ref c1, V.ref c2] ++ [V.ref c3])) k_d1_fd).trans f_d1
      have f_d2 := (upd_ne (o := .lst ([V.ref c1, V.ref c2] ++ [V.ref c3])) k_d2_fd).trans f_d2
      have f_c1 := (upd_ne (o := .lst ([V.ref c1, V.ref c2] ++ [V.ref c3])) k_c1_fd).trans f_c1
      have f_c2 := (upd_ne (o := .lst ([V.ref c1, V.ref c2] ++ [V.ref c3])) k_c2_fd).trans f_c2
      have f_c3 := (upd_ne (o := .lst ([V.ref c1, V.ref c2] ++ [V.ref c3])) (Ne.symm k_fd_c3)).trans f_c3
      have f_fd : (upd HC3 fd (.lst ([V.ref c1, V.ref c2] ++ [V.ref c3]))) fd = some (.lst ([V.ref c1, V.ref c2] ++ [V.ref c3])) := upd_same
      generalize upd HC3 fd (.lst ([V.ref c1, V.ref c2] ++ [V.ref c3])) = G4 at g b f_a f_fr f_d1 f_d2 f_c1 f_c2 f_fd f_c3 ⊢
      refine ⟨_, rfl, .inl ⟨rfl, _, .of f_fd⟩, _, rfl, a, rfl, ⟨_, .of f_a⟩, fun c4 n_c4 => lc_list (xs := ns.map V.int) (LcP G4 c4 fun i => ((ns.take i).map (gE (svK kG))).map V.int) (.init n_c4 rfl) (fun i H' _ p => .of (p.2.1 _ _ f_a)) (fun i x H' hx p => ?_) (fun HC4 pN => ?_)⟩
      · obtain ⟨e, rfl, he⟩ := get_int hx
        have li := lt_get he
        have hd := p.2.1 _ _ f_d1
        refine ⟨rfl, ?_⟩
        have fin : ((ns.take (i + 1)).map (gE (svK kG))).map V.int = ((ns.take i).map (gE (svK kG))).map V.int ++ [.int (gE (svK kG) e)] := by rw [take_get he, List.map_append, List.map_append]; rfl
        by_cases h0 : 0 < e
        · refine ⟨_, rfl, _, _, rfl, rfl, true, dT h0, ?_⟩
          refine ⟨_, rfl, _, rfl, d1, _, rfl, hF2.get hd (mem_stL (mem_get he) h0), p.put (Same.refl _) ?_ (by rw [List.length_map, List.length_map, List.length_take]; omega)⟩
          rw [fin]
          unfold gE
          rw [if_pos h0]
        · refine ⟨_, rfl, _, _, rfl, rfl, false, dF h0, ?_⟩
          refine ⟨_, rfl, _, rfl, _, _, rfl, rfl, d1, _, rfl, hF2.get hd (neg_mem0 hh (mem_get he) h0), _, _, rfl, rfl, p.put (Same.refl _) ?_ (by rw [List.length_map, List.length_map, List.length_take]; omega)⟩
          rw [fin]
          unfold gE
          rw [if_neg h0]
      have f_c4 : HC4 c4 = some (.lst ((ns.map (gE (svK kG))).map V.int)) := by
        have hp := pN.2.2
        rw [List.length_map] at hp
        have hp : HC4 c4 = some (.lst (((ns.take ns.length).map (gE (svK kG))).map V.int)) := hp
        rw [List.take_length] at hp
        exact hp
      have m_c4 := g.ne n_c4
      have z_c4 := free_of b m_c4 n_c4
      have k_fd_c4 := ne_of_none f_fd n_c4
      have k_d1_c4 := ne_of_none f_d1 n_c4
      have sN := pN.2.1
      have g := g.same sN
      have b := b.trans (.of sN)
      have f_a := sN _ _ f_a
      have f_fr := sN _ _ f_fr
      have f_d1 := sN _ _ f_d1
      have f_d2 := sN _ _ f_d2
      have f_c1 := sN _ _ f_c1
      have f_c2 := sN _ _ f_c2
      have f_fd := sN _ _ f_fd
      have f_c3 := sN _ _ f_c3
      refine ⟨fd, _, _, rfl, rfl, f_fd, zl (by show 3 < 100000; decide), ?_⟩
      have g := g.upd (o := .lst (([V.ref c1, V.ref c2] ++ [V.ref c3]) ++ [V.ref c4])) m_fd
      have b := b.mut (o := .lst (([V.ref c1, V.ref c2] ++ [V.ref c3]) ++ [V.ref c4])) z_fd
      have f_a := (upd_ne (o := .lst (([V.ref c1, V.ref c2] ++ [V.ref c3]) ++ [V.ref c4])) k_a_fd).trans f_a
      have f_fr := (upd_ne (o := .lst (([V.ref c1, V.ref c2] ++ [V.ref c3]) ++ [V.ref c4])) k_fr_fd).trans f_fr
      have f_d1 := (upd_ne (o := .lst (([V.ref c1, V.ref c2] ++ [V.ref c3]) ++ [V.ref c4])) k_d1_fd).trans f_d1
      have f_d2 := (upd_ne (o := .lst (([V.ref c1, V.ref c2] ++ [V.ref c3]) ++ [V.ref c4])) k_d2_fd).trans f_d2
      have f_c1 := (upd_ne (o := .lst (([V.ref c1, V.ref c2] ++ [V.ref c3]) ++ [V.ref c4])) k_c1_fd).trans f_c1
      have f_c2 := (upd_ne (o := .lst (([V.ref c1, V.ref c2] ++ [V.ref c3]) ++ [V.ref c4])) k_c2_fd).trans f_c2
      have f_c3 := (upd_ne (o := .lst (([V.ref c1, V.ref c2] ++ [V.ref c3]) ++ [V.ref c4])) (Ne.symm k_fd_c3)).trans f_c3
      have f_c4 := (upd_ne (o := .lst (([V.ref c1, V.ref c2] ++ [V.ref c3]) ++ [V.ref c4])) (Ne.symm k_fd_c4)).trans f_c4
      have f_fd : (upd HC4 fd (.lst (([V.ref c1, V.ref c2] ++ [V.ref c3]) ++ [V.ref c4]))) fd = some (.lst (([V.ref c1, V.ref c2] ++ [V.ref c3]) ++ [V.ref c4])) := upd_same
      generalize upd HC4 fd (.lst (([V.ref c1, V.ref c2] ++ [V.ref c3]) ++ [V.ref c4])) = G5 at g b f_a f_fr f_d1 f_d2 f_c1 f_c2 f_fd f_c3 f_c4 ⊢
      have hc1 : Hist (ns.filter fun e => decide ((if e < 0 then -e else e) ≠ av)) := hist_filt hh fun x => decide (x ≠ av)
      have hc2 : Hist (ns.filter fun e => decide ((if e < 0 then -e else e) ∉ [av, bv])) := hist_filt hh fun x => decide (x ∉ [av, bv])
      have hc3 := any_hist hh pm
      have hc4 := swap_hist hh in_av in_bv hI2
      have G4 : ∀ r ∈ [c1, c2, c3, c4], GoodR G5 src r := fun r hr => by
        simp only [List.mem_cons, List.not_mem_nil, or_false] at hr
        rcases hr with rfl | rfl | rfl | rfl
        · exact ⟨m_c1, _, f_c1, hc1⟩
        · exact ⟨m_c2, _, f_c2, hc2⟩
        · exact ⟨m_c3, _, f_c3, hc3⟩
        · exact ⟨m_c4, _, f_c4, hc4⟩
      refine ⟨fun σ'' H'' => ∃ (y9 : Option V) (ps : List Addr), σ'' = [some (.ref src), some (.ref a), some (.ref D1), some (.int av), some (.int bv), some (.ref lp), some (.ref fr), some (.ref d1), some (.ref d2), y9, some (.ref fd)] ∧ Src H'' src (n + 205) ∧ Bt src H H'' ∧ H'' fd = some (.lst (ps.map V.ref)) ∧ (∀ r ∈ ps, GoodR H'' src r) ∧ ps.length ≤ 5, ?_, fun σ'' HM hm => ?_⟩
      · refine ⟨_, rfl, Nat.zero_le _, fun em n_em => ?_⟩
        have u := same_new (o := .lst []) n_em
        have m_em := g.ne n_em
        have g := g.new (o := .lst []) n_em
        have b := b.add (o := .lst []) n_em
        have f_a := u _ _ f_a
        have f_fr := u _ _ f_fr
        have f_d1 := u _ _ f_d1
        have f_d2 := u _ _ f_d2
        have f_c1 := u _ _ f_c1
        have f_c2 := u _ _ f_c2
        have f_fd := u _ _ f_fd
        have f_c3 := u _ _ f_c3
        have f_c4 := u _ _ f_c4
        have f_em : (upd G5 em (.lst [])) em = some (.lst []) := upd_same
        generalize upd G5 em (.lst []) = G26 at g b f_a f_fr f_d1 f_d2 f_c1 f_c2 f_fd f_c3 f_c4 f_em ⊢
        by_cases hfr : ((upL 100).filter fun k => decide (k ∉ stL ns)) = []
        · refine ⟨dI _, dI [], dp_ints (.of f_fr), dp_ints (ns := []) (.of f_em), shaped_ints _, shaped_ints _, false, eN_F hfr, ?_⟩
          exact ⟨_, [c1, c2, c3, c4], rfl, g.mono (by omega), b, f_fd, fun r hr => by
            simp only [List.mem_cons, List.not_mem_nil, or_false] at hr
            rcases hr with rfl | rfl | rfl | rfl
            · exact ⟨m_c1, _, f_c1, hc1⟩
            · exact ⟨m_c2, _, f_c2, hc2⟩
            · exact ⟨m_c3, _, f_c3, hc3⟩
            · exact ⟨m_c4, _, f_c4, hc4⟩, by show 4 ≤ 5; decide⟩
        · refine ⟨dI _, dI [], dp_ints (.of f_fr), dp_ints (ns := []) (.of f_em), shaped_ints _, shaped_ints _, true, eN_T hfr, ?_⟩
          have lF : (((upL 100).filter fun k => decide (k ∉ stL ns)).map V.int).length = ((upL 100).filter fun k => decide (k ∉ stL ns)).length := List.length_map _
          have pF : 0 < ((upL 100).filter fun k => decide (k ∉ stL ns)).length := List.length_pos_iff.mpr hfr
          refine ⟨_, rfl, _, rfl, _, rfl, fr, _, rfl, .inl (.of f_fr), src, _, (n + 2 + (stL ns).length), rfl, g, by omega, by rw [lF]; omega, by rw [lF]; omega, fun rf G27 rf0 rf1 g bb => ?_⟩
          have f_a := bb _ _ m_a f_a
          have f_fr := bb _ _ m_fr f_fr
          have f_d1 := bb _ _ m_d1 f_d1
          have f_d2 := bb _ _ m_d2 f_d2
          have f_c1 := bb _ _ m_c1 f_c1
          have f_c2 := bb _ _ m_c2 f_c2
          have f_fd := bb _ _ m_fd f_fd
          have f_c3 := bb _ _ m_c3 f_c3
          have f_c4 := bb _ _ m_c4 f_c4
          have b := b.trans bb
          obtain ⟨jf, rfl⟩ := nat_of rf0
          rw [lF] at rf1
          obtain ⟨fv, e_fv, in_fv⟩ : ∃ e, ((upL 100).filter fun k => decide (k ∉ stL ns))[jf]? = some e ∧ e ∈ ((upL 100).filter fun k => decide (k ∉ stL ns)) := ⟨_, List.getElem?_eq_getElem (by omega), List.getElem_mem _⟩
          have eV_fv : (((upL 100).filter fun k => decide (k ∉ stL ns)).map V.int)[jf]? = some (.int fv) := by rw [List.getElem?_map, e_fv]; rfl
          refine ⟨fr, _, (jf : Int), .int fv, rfl, rfl, .of f_fr, atI_nat eV_fv, _, rfl, _, rfl, d1, _, rfl, DPut.k (k := Sum.inl bv) f_d1 (zl (by omega)), ?_⟩
          have g := g.upd (o := .dK (putK kG (Sum.inl bv) (.int fv))) m_d1
          have b := b.mut (o := .dK (putK kG (Sum.inl bv) (.int fv))) z_d1
          have f_a := (upd_ne (o := .dK (putK kG (Sum.inl bv) (.int fv))) (z_a z_d1)).trans f_a
          have f_fr := (upd_ne (o := .dK (putK kG (Sum.inl bv) (.int fv))) k_fr_d1).trans f_fr
          have f_d2 := (upd_ne (o := .dK (putK kG (Sum.inl bv) (.int fv))) (Ne.symm k_d1_d2)).trans f_d2
          have f_c1 := (upd_ne (o := .dK (putK kG (Sum.inl bv) (.int fv))) (Ne.symm k_d1_c1)).trans f_c1
          have f_c2 := (upd_ne (o := .dK (putK kG (Sum.inl bv) (.int fv))) (Ne.symm k_d1_c2)).trans f_c2
          have f_fd := (upd_ne (o := .dK (putK kG (Sum.inl bv) (.int fv))) (Ne.symm k_d1_fd)).trans f_fd
          have f_c3 := (upd_ne (o := .dK (putK kG (Sum.inl bv) (.int fv))) (Ne.symm k_d1_c3)).trans f_c3
          have f_c4 := (upd_ne (o := .dK (putK kG (Sum.inl bv) (.int fv))) (Ne.symm k_d1_c4)).trans f_c4
          have f_d1 : (upd G27 d1 (.dK (putK kG (Sum.inl bv) (.int fv)))) d1 = some (.dK (putK kG (Sum.inl bv) (.int fv))) := upd_same
          generalize upd G27 d1 (.dK (putK kG (Sum.inl bv) (.int fv))) = G28 at g b f_a f_fr f_d1 f_d2 f_c1 f_c2 f_fd f_c3 f_c4 ⊢
          have hF3 : HasK (putK kG (Sum.inl bv) (.int fv)) (stL ns) := hF2.put fun k hk => .inr hk
          have hI3 : ∀ k ∈ stL ns, svK (putK kG (Sum.inl bv) (.int fv)) k = if k = bv then fv else if k = av then bv else k := fun k hk => by
            rw [svK_put]
            split
            · rfl
            · rename_i z
              rw [hI2 k hk, if_neg z]
          obtain ⟨fm1, fm2⟩ := List.mem_filter.mp in_fv
          have fm1 := upL_mem fm1
          have hc5 := free_hist hh in_av in_bv (of_decide_eq_true fm2) ⟨by omega, by omega⟩ hI3
          generalize putK kG (Sum.inl bv) (.int fv) = kX at f_d1 hF3 hI3 hc5 ⊢
          refine ⟨_, rfl, .inl ⟨rfl, _, .of f_fd⟩, _, rfl, a, rfl, ⟨_, .of f_a⟩, fun c5 n_c5 => lc_list (xs := ns.map V.int) (LcP G28 c5 fun i => ((ns.take i).map (gE (svK kX))).map V.int) (.init n_c5 rfl) (fun i H' _ p => .of (p.2.1 _ _ f_a)) (fun i x H' hx p => ?_) (fun HC5 pN => ?_)⟩
          · obtain ⟨e, rfl, he⟩ := get_int hx
            have li := lt_get he
            have hd := p.2.1 _ _ f_d1
            refine ⟨rfl, ?_⟩
            have fin : ((ns.take (i + 1)).map (gE (svK kX))).map V.int = ((ns.take i).map (gE (svK kX))).map V.int ++ [.int (gE (svK kX) e)] := by rw [take_get he, List.map_append, List.map_append]; rfl
            by_cases h0 : 0 < e
            · refine ⟨_, rfl, _, _, rfl, rfl, true, dT h0, ?_⟩
              refine ⟨_, rfl, _, rfl, d1, _, rfl, hF3.get hd (mem_stL (mem_get he) h0), p.put (Same.refl _) ?_ (by rw [List.length_map, List.length_map, List.length_take]; omega)⟩
              rw [fin]
              unfold gE
              rw [if_pos h0]
            · refine ⟨_, rfl, _, _, rfl, rfl, false, dF h0, ?_⟩
              refine ⟨_, rfl, _, rfl, _, _, rfl, rfl, d1, _, rfl, hF3.get hd (neg_mem0 hh (mem_get he) h0), _, _, rfl, rfl, p.put (Same.refl _) ?_ (by rw [List.length_map, List.length_map, List.length_take]; omega)⟩
              rw [fin]
              unfold gE
              rw [if_neg h0]
          have f_c5 : HC5 c5 = some (.lst ((ns.map (gE (svK kX))).map V.int)) := by
            have hp := pN.2.2
            rw [List.length_map] at hp
            have hp : HC5 c5 = some (.lst (((ns.take ns.length).map (gE (svK kX))).map V.int)) := hp
            rw [List.take_length] at hp
            exact hp
          have m_c5 := g.ne n_c5
          have z_c5 := free_of b m_c5 n_c5
          have k_fd_c5 := ne_of_none f_fd n_c5
          have sN := pN.2.1
          have g := g.same sN
          have b := b.trans (.of sN)
          have f_a := sN _ _ f_a
          have f_fr := sN _ _ f_fr
          have f_d1 := sN _ _ f_d1
          have f_d2 := sN _ _ f_d2
          have f_c1 := sN _ _ f_c1
          have f_c2 := sN _ _ f_c2
          have f_fd := sN _ _ f_fd
          have f_c3 := sN _ _ f_c3
          have f_c4 := sN _ _ f_c4
          refine ⟨fd, _, _, rfl, rfl, f_fd, zl (by show 4 < 100000; decide), ?_⟩
          have g := g.upd (o := .lst (([V.ref c1, V.ref c2] ++ [V.ref c3] ++ [V.ref c4]) ++ [V.ref c5])) m_fd
          have b := b.mut (o := .lst (([V.ref c1, V.ref c2] ++ [V.ref c3] ++ [V.ref c4]) ++ [V.ref c5])) z_fd
          have f_a := (upd_ne (o := .lst (([V.ref c1, V.ref c2] ++ [V.ref c3] ++ [V.ref c4]) ++ [V.ref c5])) k_a_fd).trans f_a
          have f_fr := (upd_ne (o := .lst (([V.ref c1, V.ref c2] ++ [V.ref c3] ++ [V.ref c4]) ++ [V.ref c5])) k_fr_fd).trans f_fr
          have f_d1 := (upd_ne (o := .lst (([V.ref c1, V.ref c2] ++ [V.ref c3] ++ [V.ref c4]) ++ [V.ref c5])) k_d1_fd).trans f_d1
          have f_d2 := (upd_ne (o := .lst (([V.ref c1, V.ref c2] ++ [V.ref c3] ++ [V.ref c4]) ++ [V.ref c5])) k_d2_fd).trans f_d2
          have f_c1 := (upd_ne (o := .lst (([V.ref c1, V.ref c2] ++ [V.ref c3] ++ [V.ref c4]) ++ [V.ref c5])) k_c1_fd).trans f_c1
          have f_c2 := (upd_ne (o := .lst (([V.ref c1, V.ref c2] ++ [V.ref c3] ++ [V.ref c4]) ++ [V.ref c5])) k_c2_fd).trans f_c2
          have f_c3 := (upd_ne (o := .lst (([V.ref c1, V.ref c2] ++ [V.ref c3] ++ [V.ref c4]) ++ [V.ref c5])) (Ne.symm k_fd_c3)).trans f_c3
          have f_c4 := (upd_ne (o := .lst (([V.ref c1, V.ref c2] ++ [V.ref c3] ++ [V.ref c4]) ++ [V.ref c5])) (Ne.symm k_fd_c4)).trans f_c4
          have f_c5 := (upd_ne (o := .lst (([V.ref c1, V.ref c2] ++ [V.ref c3] ++ [V.ref c4]) ++ [V.ref c5])) (Ne.symm k_fd_c5)).trans f_c5
          have f_fd : (upd HC5 fd (.lst (([V.ref c1, V.ref c2] ++ [V.ref c3] ++ [V.ref c4]) ++ [V.ref c5]))) fd = some (.lst (([V.ref c1, V.ref c2] ++ [V.ref c3] ++ [V.ref c4]) ++ [V.ref c5])) := upd_same
          generalize upd HC5 fd (.lst (([V.ref c1, V.ref c2] ++ [V.ref c3] ++ [V.ref c4]) ++ [V.ref c5])) = G29 at g b f_a f_fr f_d1 f_d2 f_c1 f_c2 f_fd f_c3 f_c4 f_c5 ⊢
          exact ⟨_, [c1, c2, c3, c4, c5], rfl, g.mono (by omega), b, f_fd, fun r hr => by
            simp only [List.mem_cons, List.not_mem_nil, or_false] at hr
            rcases hr with rfl | rfl | rfl | rfl | rfl
            · exact ⟨m_c1, _, f_c1, hc1⟩
            · exact ⟨m_c2, _, f_c2, hc2⟩
            · exact ⟨m_c3, _, f_c3, hc3⟩
            · exact ⟨m_c4, _, f_c4, hc4⟩
            · exact ⟨m_c5, _, f_c5, hc5⟩, by show 5 ≤ 5; decide⟩
      · clear g b f_fd
        obtain ⟨y9, ps, rfl, g, b, f_fd, gd, pl⟩ := hm
        have f_a := b _ _ m_a h_a
        refine ⟨_, rfl, _, rfl, a, rfl, ⟨_, .of f_a⟩, fun c6 n_c6 => lc_list (xs := ns.map V.int) (LcP HM c6 fun i => (((ns.take i).filter fun e => decide ((if e < 0 then -e else e) < 100)).map (gE (· + 1))).map V.int) (.init n_c6 rfl) (fun i H' _ p => .of (p.2.1 _ _ f_a)) (fun i x H' hx p => ?_) (fun HN pN => ?_)⟩
        · obtain ⟨e, rfl, he⟩ := get_int hx
          have fs := filt_succ (f := fun e => decide ((if e < 0 then -e else e) < 100)) he
          have fl := filt_len (ns := ns) (f := fun e => decide ((if e < 0 then -e else e) < 100)) i
          have li := lt_get he
          have e0 := (hh.rng e (mem_get he)).1
          refine ⟨rfl, ?_⟩
          by_cases h0 : (if e < 0 then -e else e) < 100
          · refine ⟨_, rfl, _, rfl, _, _, rfl, rfl, true, dT h0, ?_⟩
            refine ⟨_, rfl, _, rfl, by show 2 ≤ sizeLine; decide, fun T nT => ?_⟩
            have put : ∀ {H4 : Hp}, Same H' H4 → _ := fun {H4} s4 => p.put (y := .int (gE (· + 1) e)) s4 (show (((ns.take (i + 1)).filter _).map (gE (· + 1))).map V.int = _ by rw [fs, if_pos (decide_eq_true h0), List.map_append, List.map_append]; rfl) (by rw [List.length_map, List.length_map]; omega)
            by_cases h1 : e < 0
            · refine ⟨_, rfl, _, _, rfl, rfl, .inr ⟨true, congrArg (fun z => [V.bl z]) (decide_eq_true h1), T, _, _, .int (-1), rfl, rfl, .of upd_same, at1, _, _, rfl, rfl, ?_⟩⟩
              have ge : gE (· + 1) e = e + -1 := by unfold gE; rw [if_neg (by omega)]; show 0 - ((0 - e) + 1) = e + -1; omega
              have z := put (same_new (o := .lst [V.int 1, .int (-1)]) nT)
              rw [ge] at z
              exact z
            · refine ⟨_, rfl, _, _, rfl, rfl, .inr ⟨false, congrArg (fun z => [V.bl z]) (decide_eq_false h1), T, _, _, .int 1, rfl, rfl, .of upd_same, at0, _, _, rfl, rfl, ?_⟩⟩
              have ge : gE (· + 1) e = e + 1 := by unfold gE; rw [if_pos (by omega)]
              have z := put (same_new (o := .lst [V.int 1, .int (-1)]) nT)
              rw [ge] at z
              exact z
          · refine ⟨_, rfl, _, rfl, _, _, rfl, rfl, false, dF h0, ?_⟩
            refine p.skip (Same.refl _) ?_
            show (((ns.take (i + 1)).filter _).map (gE (· + 1))).map V.int = _
            rw [fs, if_neg (by rw [decide_eq_false h0]; exact Bool.false_ne_true), List.append_nil]
        have f_c6 : HN c6 = some (.lst ((far1 ns).map V.int)) := by
          have hp := pN.2.2
          rw [List.length_map] at hp
          have hp : HN c6 = some (.lst ((((ns.take ns.length).filter fun e => decide ((if e < 0 then -e else e) < 100)).map (gE (· + 1))).map V.int)) := hp
          rw [List.take_length] at hp
          exact hp
        have m_c6 := g.ne n_c6
        have sN := pN.2.1
        refine ⟨by show 1 ≤ sizeLine; decide, fun q1 n_q1 => ?_⟩
        have s2 := sN.trans (same_new (o := .lst [V.ref c6]) n_q1)
        refine ⟨fd, q1, _, _, rfl, rfl, s2 _ _ f_fd, upd_same, Lp.zs (by rw [List.length_map]; show _ + 1 ≤ _; omega), fun z n_z => ?_⟩
        have s3 := s2.trans (same_new (o := .lst (ps.map V.ref ++ [V.ref c6])) n_z)
        have g2 := g.same s2
        refine q _ z (ps ++ [c6]) (by rw [upd_same, List.map_append]; rfl) (fun r hr => ?_) (by rw [List.length_append]; show _ + 1 ≤ _; omega) (g2.ne n_z) ((g.same s3).mono (by omega)) (b.trans (.of s3))
        rcases List.mem_append.mp hr with h | h
        · obtain ⟨h1, ms, h2, h3⟩ := gd r h
          exact ⟨h1, ms, s3 _ _ h2, h3⟩
        · rw [List.mem_singleton] at h
          subst h
          exact ⟨m_c6, _, (Same.trans (same_new n_q1) (same_new n_z)) _ _ f_c6, far1_hist hh⟩
end
end L59
set_option Elab.async false
set_option linter.all false
set_option maxRecDepth 100000
namespace L59
open PySem PySem.Spec PyProof.Rows L2 Lp
/-! ### how many histories a shape has, at most -/
theorem ways_le {bs : List Bool} : SgOk bs → upsN bs ≤ 100 → waysN bs ≤ 100 ^ dnsN bs := by
  refine snoc_ind (P := fun bs => SgOk bs → upsN bs ≤ 100 → waysN bs ≤ 100 ^ dnsN bs) (fun _ _ => by decide) (fun l a ih h hu => ?_) bs
  cases a with
  | true =>
    rw [ups_up] at hu
    rw [ways_up, dns_up]
    exact ih h.pre (by omega)
  | false =>
    rw [ups_dn] at hu
    have r := run_eq h.pre
    rw [ways_dn, dns_dn, Nat.pow_succ]
    exact Nat.mul_le_mul (ih h.pre hu) (by omega)
theorem ways_200 {bs : List Bool} (ok : SgOk bs) (u : upsN bs ≤ 100) : waysN bs ≤ 10 ^ 200 := by
  have z := ways_le ok u
  have r := run_eq ok
  have e : (100 : Nat) ^ 100 = 10 ^ 200 := by decide +kernel
  rw [← e]
  exact Nat.le_trans z (Nat.pow_le_pow_right (by decide) (by omega))
theorem numB_int {hi i : Int} (h : i < 0 ∨ hi < i) : numB 0 hi (.int i) = false := by
  show (decide (0 ≤ i) && decide (i ≤ hi)) = false
  rcases h with h | h
  · rw [decide_eq_false (by omega), Bool.false_and]
  · rw [decide_eq_false (show ¬ i ≤ hi by omega), Bool.and_false]
theorem neS (x : Str) : V.bl (!decide (V.str x = V.str x)) = V.bl false := by rw [decide_eq_true rfl]; rfl
abbrev farI : Int := (10 : Int) ^ (64 : Int).toNat * (10 : Int) ^ (64 : Int).toNat * (10 : Int) ^ (64 : Int).toNat * (10 : Int) ^ (64 : Int).toNat * (10 : Int) ^ (64 : Int).toNat * (10 : Int) ^ (64 : Int).toNat
theorem farI_eq : farI = 10 ^ 384 := by decide +kernel
section
variable {P : Program} {w : World} {K : PySem.W.Frag} {mg : Str → Option Value} {base : Heap}
/-! ### _law_is_plain -/
def spIsPl (K : PySem.W.Frag) : Sp := fun vs H Q _ => ∃ (a : Addr) (ns : List Int), vs = [.ref a] ∧ SqL K H a (ns.map V.int) ∧ ns.length ≤ 1000 ∧ ∀ H', Same H H' → Q (.bl (decide (stL ns = upL (stL ns).length))) H'
theorem ok_law_is_plain {f : Addr} {fd : FuncData} (F : Fun K "_law_is_plain" "_law_is_plain" s_law_is_plain f fd) (B : NoB mg) : FnG P w K mg base CX0 1 f fd ["row"] (spIsPl K) := by
  refine okG F sc_law_is_plain (fun vs H Q E h => ?_) (fun cdv A outer s H vs Q E hG hr h => ?_)
  · obtain ⟨a, ns, rfl, _⟩ := h
    rfl
  · obtain ⟨a, ns, rfl, hS, hl, q⟩ := h
    have hu64 := hr.units
    have sl := stL_len ns
    refine ⟨_, (pss_cons (ps_setLc (i := 1) (own := [("one", 2)]) (g := gName 2) (tt := _) rfl sc_law_is_plain.nd rfl rfl (sw_true rfl rfl rfl (by decide +kernel)) (pi_list (pv 0)) (blkOk_by (own := [("one", 2)]) (N := N_law_is_plain) (sc := defScope s_law_is_plain) (by decide +kernel)) (fun _ _ _ _ _ => (pg_name (i := 2) sc_law_is_plain.nd rfl (Or.inl rfl))) (fun _ _ _ _ _ => (pts_one (pt_cmpR op_gt (pv 2) pe_int (nomark _)))) (fun _ _ _ _ _ => (pv 2)))
        (pss_one (ps_ret (pe_cmpR (op_eqD hu64) (pv 1) (pe_listRg rfl (by rfl) B.list (prg_2 (by rfl) B.range pe_int (pe_op op_add (pe_callB call_len_seq (by rfl) B.len PySem.boot_len (pa_cons (pv 1) pa_nil)) pe_int))) (nomark _))))), ?_⟩
    refine ⟨_, rfl, a, rfl, ⟨_, hS⟩, fun D hD => lc_list (xs := ns.map V.int) (LcP H D fun i => ((ns.take i).filter fun e => decide (0 < e)).map V.int) (.init hD rfl) (fun i H' _ p => p.2.1.seq hS) (fun i x H' hx p => ?_) (fun H1 p => ?_)⟩
    · obtain ⟨e, rfl, he⟩ := get_int hx
      have fs := filt_succ (f := fun e => decide (0 < e)) he
      have fl := filt_len (ns := ns) (f := fun e => decide (0 < e)) i
      have li := lt_get he
      refine ⟨rfl, ?_⟩
      by_cases h0 : 0 < e
      · refine ⟨_, rfl, _, _, rfl, rfl, true, dT h0, ?_⟩
        refine ⟨_, rfl, p.put (Same.refl _) ?_ (by rw [List.length_map]; omega)⟩
        show ((ns.take (i + 1)).filter _).map V.int = _
        rw [fs, if_pos (by simp [h0]), List.map_append]
        rfl
      · refine ⟨_, rfl, _, _, rfl, rfl, false, dF h0, ?_⟩
        refine p.skip (Same.refl _) ?_
        show ((ns.take (i + 1)).filter _).map V.int = _
        rw [fs, if_neg (by simp [h0]), List.append_nil]
    · have hp := p.2.2
      rw [List.length_map] at hp
      have hp : H1 D = some (.lst (((ns.take ns.length).filter fun e => decide (0 < e)).map V.int)) := hp
      rw [List.take_length] at hp
      have hst : H1 D = some (.lst ((stL ns).map V.int)) := hp
      refine ⟨_, rfl, _, rfl, D, _, rfl, .inl (.of hst), _, _, rfl, rfl, ?_⟩
      refine ⟨_, _, rfl, rfl, RgOk.of_le (by decide) (by rw [List.length_map]; omega) (by decide) (by omega), fun r nr => ?_⟩
      have hst2 := same_new (o := .lst (rgV 1 ((((stL ns).map V.int).length : Nat) + 1))) nr _ _ hst
      refine ⟨dI (stL ns), dI (upL (stL ns).length), dp_ints (.of hst2), dp_ints (.of ?_), shaped_ints _, shaped_ints _, ?_⟩
      · rw [upd_same, rgV_up, List.length_map]
        have e : ((((stL ns).length : Nat) : Int) + 1 - 1).toNat = (stL ns).length := by omega
        rw [e]
      · rw [eqv_ints]
        exact q _ (p.2.1.trans (same_new nr))
/-! ### _law_right -/
def spRight (K : PySem.W.Frag) : Sp := fun vs H Q _ => ∃ (src : Addr) (bs : List Bool) (n : Nat), vs = [.ref src, .str (sgS bs)] ∧ Src H src n ∧ n ≤ 700000 ∧ SgOk bs ∧ upsN bs ≤ 100 ∧ 1 ≤ bs.length ∧ bs.length ≤ 200 ∧ ∀ H', Bt src H H' → Src H' src (n + 300) → Q (.bl true) H'
set_option maxHeartbeats 8000000 in
theorem ok_law_right {f : Addr} {fd : FuncData} (F : Fun K "_law_right" "_law_right" s_law_right f fd) (B : NoB mg) (T_law_draw : Gc P w K mg base 1 "_law_draw" spDraw) (T_law_wrong_signs : Gc P w K mg base 2 "_law_wrong_signs" (spWrongS K)) (T_law_row : Gc P w K mg base 2 "_law_row" spRow) (T_law_ways : Gc P w K mg base 1 "_law_ways" spWays) (T_law_told : Gc P w K mg base 9 "_law_told" (spTold K)) :
    FnG P w K mg base CX0 10 f fd ["pool", "signs"] (spRight K) := by
  refine okG F sc_law_right (fun vs H Q E h => ?_) (fun cdv A outer s H vs Q E hG hr h => ?_)
  · obtain ⟨src, bs, n, rfl, _⟩ := h
    rfl
  · obtain ⟨src, bs, n, rfl, hs, hn, ok, u1, pos, l200, q⟩ := h
    have hu64 := hr.units
    have slen := sg_len ok u1
    have wp := ways_pos ok
    have w2 := ways_200 ok u1
    have og := okN_sg l200
    have bdS : Bd 4000000 50 (.str (sgS bs)) := (bd_str (m := 3000) (k := 0) og (by decide)).mono (by decide) (by decide)
    have big : CPowW 10 30 := powW_ok (n := 4) (by decide) (by decide) (by decide)
    have p64 : CPowW 10 64 := powW_ok (n := 4) (by decide) (by decide) (by decide)
    have bdB : ∀ {i : Int}, i.natAbs < 10 ^ 450 → Bd 4000000 50 (.int i) := fun h => (bd_big (k := 0) h).mono (by decide) (by decide)
    have p450 : (10 : Nat) ^ 200 + 10 < 10 ^ 450 := by decide +kernel
    have p384 : (10 : Nat) ^ 200 < 10 ^ 384 := by decide +kernel
    refine ⟨_, (pss_cons (ps_asg (pe_tup (pa_cons (pe_g T_law_wrong_signs hG hr (by decide) (by rfl) (pa_cons (pv 0) (pa_cons (pv 1) pa_nil))) (pa_cons (pe_g T_law_row hG hr (by decide) (by rfl) (pa_cons (pv 0) (pa_cons (pv 1) pa_nil))) (pa_cons (pe_g T_law_ways hG hr (by decide) (by rfl) (pa_cons (pv 1) pa_nil)) pa_nil)))) (pg_tup rfl (pgs_cons (pg_name (i := 2) sc_law_right.nd rfl (Or.inr rfl)) (pgs_cons (pg_name (i := 3) sc_law_right.nd rfl (Or.inr rfl)) (pgs_cons (pg_name (i := 4) sc_law_right.nd rfl (Or.inl rfl)) pgs_nil)))))
        (pss_cons (ps_set (i := 5) sc_law_right.nd rfl (Or.inl rfl) (pe_lst (pa_cons (pe_un un_neg pe_int) (pa_cons (pe_un un_neg pe_int) (pa_cons pe_non (pa_cons pe_bl (pa_cons pe_bl (pa_cons pe_str (pa_cons (pe_lst (pa_cons pe_int pa_nil)) (pa_cons (pe_tup (pa_cons pe_int pa_nil)) (pa_cons pe_dnewK (pa_cons (pe_op op_sub pe_int (pe_op op_powW pe_int pe_int)) pa_nil))))))))))))
        (pss_cons (ps_asg (pe_tup (pa_cons (pe_ix ix_list (pv 5) (pe_g T_law_draw hG hr (by decide) (by rfl) (pa_cons (pv 0) (pa_cons pe_int pa_nil))) (fun _ _ => rfl)) (pa_cons (pe_bm PySem.F.plainAttrs_str PySem.F.slot_str_count PySem.F.type_str_count mt_count (pv 1) (pa_cons pe_str pa_nil)) pa_nil))) (pg_tup rfl (pgs_cons (pg_name (i := 6) sc_law_right.nd rfl (Or.inr rfl)) (pgs_cons (pg_name (i := 7) sc_law_right.nd rfl (Or.inl rfl)) pgs_nil))))
        (pss_cons (ps_if (pt_cmpR (op_neStrs hu64) (pe_lc (own := [("door", 11)]) (g := gName 11) (tt := tYes) rfl sc_law_right.nd (pi_range1 rfl B.range (pa_cons pe_int pa_nil)) (blkOk_by (own := [("door", 11)]) (N := N_law_right) (sc := defScope s_law_right) (by decide +kernel)) (fun _ _ _ _ _ => (pg_name (i := 11) sc_law_right.nd rfl (Or.inl rfl))) (fun _ _ _ _ _ => pts_nil) (fun _ _ _ _ _ => (pe_g T_law_told hG hr (by decide) (by rfl) (pa_cons (pv 11) (pa_cons (pv 2) (pa_cons pe_int pa_nil)))))) (pe_op op_rep (pe_lst (pa_cons pe_str pa_nil)) pe_int) (nomark _)) (pss_one (ps_ret pe_bl)) pss_nil)
        (pss_cons (ps_if (pt_cmpR (op_neStrs hu64) (pe_lc (own := [("door", 11)]) (g := gName 11) (tt := tYes) rfl sc_law_right.nd (pi_range2 rfl B.range (pa_cons pe_int (pa_cons pe_int pa_nil))) (blkOk_by (own := [("door", 11)]) (N := N_law_right) (sc := defScope s_law_right) (by decide +kernel)) (fun _ _ _ _ _ => (pg_name (i := 11) sc_law_right.nd rfl (Or.inl rfl))) (fun _ _ _ _ _ => pts_nil) (fun _ _ _ _ _ => (pe_g T_law_told hG hr (by decide) (by rfl) (pa_cons (pv 11) (pa_cons (pv 2) (pa_cons (pv 6) pa_nil)))))) (pe_op op_rep (pe_lst (pa_cons pe_str pa_nil)) pe_int) (nomark _)) (pss_one (ps_ret pe_bl)) pss_nil)
        (pss_cons (ps_for PassesOwn.never rfl (pi_list (pe_lst (pa_cons (pv 6) (pa_cons (pe_op op_add (pv 7) pe_int) (pa_cons (pe_op op_sub (pe_op op_sub pe_int (pv 7)) pe_int) (pa_cons (pe_op op_powW pe_int pe_int) pa_nil)))))) (pg_name (i := 8) sc_law_right.nd rfl (Or.inr rfl))
          (pss_one (ps_if (pt_cmpR op_ne (pe_g T_law_told hG hr (by decide) (by rfl) (pa_cons pe_int (pa_cons (pv 1) (pa_cons (pv 8) pa_nil)))) pe_str (nomark _)) (pss_one (ps_ret pe_bl)) pss_nil)))
        (pss_cons (ps_set (i := 9) sc_law_right.nd rfl (Or.inl rfl) (pe_op op_mulW (pe_op op_mulW (pe_op op_mulW (pe_op op_mulW (pe_op op_mulW (pe_op op_powW pe_int pe_int) (pe_op op_powW pe_int pe_int)) (pe_op op_powW pe_int pe_int)) (pe_op op_powW pe_int pe_int)) (pe_op op_powW pe_int pe_int)) (pe_op op_powW pe_int pe_int)))
        (pss_cons (ps_for PassesOwn.never rfl (pi_list (pe_lst (pa_cons (pv 6) (pa_cons (pv 4) (pa_cons (pe_op op_add (pv 4) pe_int) (pa_cons (pe_op op_sub pe_int (pv 4)) (pa_cons (pe_op op_sub (pe_un un_neg pe_int) (pv 4)) (pa_cons (pv 9) pa_nil)))))))) (pg_name (i := 8) sc_law_right.nd rfl (Or.inr rfl))
          (pss_one (ps_if (pt_cmpR (op_neStrs hu64) (pe_lc (own := [("door", 11)]) (g := gName 11) (tt := tYes) rfl sc_law_right.nd (pi_tup (pe_tup (pa_cons pe_int (pa_cons pe_int pa_nil)))) (blkOk_by (own := [("door", 11)]) (N := N_law_right) (sc := defScope s_law_right) (by decide +kernel)) (fun _ _ _ _ _ => (pg_name (i := 11) sc_law_right.nd rfl (Or.inl rfl))) (fun _ _ _ _ _ => pts_nil) (fun _ _ _ _ _ => (pe_g T_law_told hG hr (by decide) (by rfl) (pa_cons (pv 11) (pa_cons (pv 1) (pa_cons (pv 8) pa_nil)))))) (pe_op op_rep (pe_lst (pa_cons pe_str pa_nil)) pe_int) (nomark _)) (pss_one (ps_ret pe_bl)) pss_nil)))
        (pss_cons (ps_set (i := 10) sc_law_right.nd rfl (Or.inl rfl) (pe_lst (pa_cons (pe_g T_law_told hG hr (by decide) (by rfl) (pa_cons pe_int (pa_cons (pv 1) (pa_cons pe_int pa_nil)))) (pa_cons (pe_g T_law_told hG hr (by decide) (by rfl) (pa_cons pe_int (pa_cons (pv 1) (pa_cons (pv 7) pa_nil)))) (pa_cons (pe_g T_law_told hG hr (by decide) (by rfl) (pa_cons pe_int (pa_cons (pv 1) (pa_cons (pe_op op_sub (pv 4) pe_int) pa_nil)))) pa_nil)))))
        (pss_one (ps_ret (pe_cmpR (op_eqStrs hu64) (pe_op op_cat (pv 10) (pe_lc (own := [("door", 11)]) (g := gName 11) (tt := tYes) rfl sc_law_right.nd (pi_range2 rfl B.range (pa_cons pe_int (pa_cons pe_int pa_nil))) (blkOk_by (own := [("door", 11)]) (N := N_law_right) (sc := defScope s_law_right) (by decide +kernel)) (fun _ _ _ _ _ => (pg_name (i := 11) sc_law_right.nd rfl (Or.inl rfl))) (fun _ _ _ _ _ => pts_nil) (fun _ _ _ _ _ => (pe_g T_law_told hG hr (by decide) (by rfl) (pa_cons (pv 11) (pa_cons (pv 3) (pa_cons pe_int pa_nil))))))) (pe_op op_cat (pe_op op_cat (pe_op op_rep (pe_lst (pa_cons pe_str pa_nil)) pe_int) (pe_lst (pa_cons pe_str pa_nil))) (pe_op op_rep (pe_lst (pa_cons pe_str pa_nil)) pe_int)) (nomark _))))))))))))), ?_⟩
    refine ⟨_, rfl, _, rfl, src, bs, n, rfl, hs, by omega, pos, l200, fun H1 v d hs1 b1 ox1 bd1 sh => ?_⟩
    refine ⟨_, rfl, _, rfl, src, bs, n + 4, rfl, hs1, by omega, ok, u1, fun H2 row idx hidx b2 hs2 n_row f_row => ?_⟩
    have m_row := hs1.ne n_row
    have N := nth_ok ok u1 idx hidx
    have hh : Hist (nthL bs idx) := N.hist slen
    have epl : stL (nthL bs idx) = upL (stL (nthL bs idx)).length := by
      have e : stL (nthL bs idx) = upL (upsN bs) := N.pl
      rw [e, upL_len]
    generalize nthL bs idx = ns at f_row hh epl
    have bdR : Bd 4000000 50 (dI ns) := (nodI hh).mono (show 1300 ≤ 4000000 by decide) (show 1 ≤ 50 by decide)
    have hwR : wt (dI ns) ≤ 190000 := Nat.le_trans (nodI hh).w (show 1300 ≤ 190000 by decide)
    refine ⟨_, rfl, bs, rfl, ok, u1, fun H3 s3 => ?_⟩
    have ox3 := ox_same (av_bt (b2.trans (.of s3))) ox1
    have f_row := s3 _ _ f_row
    have bdV : Bd 4000000 50 d := bd1.mono (by decide) (by decide)
    have g := hs2.same s3
    have b := (b1.trans b2).trans (.of s3)
    have b3 := Bt.refl src H3
    refine ⟨by show 3 ≤ sizeLine; decide, fun T n_T => ?_⟩
    have u := same_new (o := .tup [v, .ref row, .int ((waysN bs : Nat) : Int)]) n_T
    have m_T := g.ne n_T
    have g := g.new (o := .tup [v, .ref row, .int ((waysN bs : Nat) : Int)]) n_T
    have b := b.add (o := .tup [v, .ref row, .int ((waysN bs : Nat) : Int)]) n_T
    have b3 := b3.add (o := .tup [v, .ref row, .int ((waysN bs : Nat) : Int)]) n_T
    have f_row := u _ _ f_row
    have f_T : (upd H3 T (.tup [v, .ref row, .int ((waysN bs : Nat) : Int)])) T = some (.tup [v, .ref row, .int ((waysN bs : Nat) : Int)]) := upd_same
    generalize upd H3 T (.tup [v, .ref row, .int ((waysN bs : Nat) : Int)]) = G1 at g b b3 f_row f_T ⊢
    refine ⟨T, _, rfl, .of f_T, rfl, _, _, rfl, _, _, rfl, _, _, rfl, rfl, ?_⟩
    refine ⟨_, rfl, _, rfl, by show 1 ≤ sizeLine; decide, fun l1 n_l1 => ?_⟩
    have u := same_new (o := .lst [V.int 0]) n_l1
    have m_l1 := g.ne n_l1
    have g := g.new (o := .lst [V.int 0]) n_l1
    have b := b.add (o := .lst [V.int 0]) n_l1
    have b3 := b3.add (o := .lst [V.int 0]) n_l1
    have f_row := u _ _ f_row
    have f_l1 : (upd G1 l1 (.lst [V.int 0])) l1 = some (.lst [V.int 0]) := upd_same
    generalize upd G1 l1 (.lst [V.int 0]) = G2 at g b b3 f_row f_l1 ⊢
    refine ⟨by show 1 ≤ sizeLine; decide, fun t1 n_t1 => ?_⟩
    have u := same_new (o := .tup [V.int 0]) n_t1
    have m_t1 := g.ne n_t1
    have g := g.new (o := .tup [V.int 0]) n_t1
    have b := b.add (o := .tup [V.int 0]) n_t1
    have b3 := b3.add (o := .tup [V.int 0]) n_t1
    have f_row := u _ _ f_row
    have f_l1 := u _ _ f_l1
    have f_t1 : (upd G2 t1 (.tup [V.int 0])) t1 = some (.tup [V.int 0]) := upd_same
    generalize upd G2 t1 (.tup [V.int 0]) = G3 at g b b3 f_row f_l1 f_t1 ⊢
    refine fun d1 n_d1 => ?_
    have u := same_new (o := .dK []) n_d1
    have m_d1 := g.ne n_d1
    have g := g.new (o := .dK []) n_d1
    have b := b.add (o := .dK []) n_d1
    have b3 := b3.add (o := .dK []) n_d1
    have f_row := u _ _ f_row
    have f_l1 := u _ _ f_l1
    have f_t1 := u _ _ f_t1
    have f_d1 : (upd G3 d1 (.dK [])) d1 = some (.dK []) := upd_same
    generalize upd G3 d1 (.dK []) = G4 at g b b3 f_row f_l1 f_t1 f_d1 ⊢
    refine ⟨_, _, rfl, rfl, big, _, _, rfl, rfl, by show 10 ≤ sizeLine; decide, fun nu n_nu => ?_⟩
    have u := same_new (o := .lst [V.int (-1), .int (-2), .non, .bl true, .bl false, .str ("0" : Str), .ref l1, .ref t1, .ref d1, .int (0 - (10 : Int) ^ (30 : Int).toNat)]) n_nu
    have m_nu := g.ne n_nu
    have g := g.new (o := .lst [V.int (-1), .int (-2), .non, .bl true, .bl false, .str ("0" : Str), .ref l1, .ref t1, .ref d1, .int (0 - (10 : Int) ^ (30 : Int).toNat)]) n_nu
    have b := b.add (o := .lst [V.int (-1), .int (-2), .non, .bl true, .bl false, .str ("0" : Str), .ref l1, .ref t1, .ref d1, .int (0 - (10 : Int) ^ (30 : Int).toNat)]) n_nu
    have b3 := b3.add (o := .lst [V.int (-1), .int (-2), .non, .bl true, .bl false, .str ("0" : Str), .ref l1, .ref t1, .ref d1, .int (0 - (10 : Int) ^ (30 : Int).toNat)]) n_nu
    have f_row := u _ _ f_row
    have f_l1 := u _ _ f_l1
    have f_t1 := u _ _ f_t1
    have f_d1 := u _ _ f_d1
    have f_nu : (upd G4 nu (.lst [V.int (-1), .int (-2), .non, .bl true, .bl false, .str ("0" : Str), .ref l1, .ref t1, .ref d1, .int (0 - (10 : Int) ^ (30 : Int).toNat)])) nu = some (.lst [V.int (-1), .int (-2), .non, .bl true, .bl false, .str ("0" : Str), .ref l1, .ref t1, .ref d1, .int (0 - (10 : Int) ^ (30 : Int).toNat)]) := upd_same
    generalize upd G4 nu (.lst [V.int (-1), .int (-2), .non, .bl true, .bl false, .str ("0" : Str), .ref l1, .ref t1, .ref d1, .int (0 - (10 : Int) ^ (30 : Int).toNat)]) = G5 at g b b3 f_row f_l1 f_t1 f_d1 f_nu ⊢
    refine ⟨_, rfl, _, rfl, src, 10, n + 204, rfl, g, by omega, by decide, by decide, fun r G6 r0 r1 g bb => ?_⟩
    have f_row := bb _ _ m_row f_row
    have f_l1 := bb _ _ m_l1 f_l1
    have f_t1 := bb _ _ m_t1 f_t1
    have f_d1 := bb _ _ m_d1 f_d1
    have f_nu := bb _ _ m_nu f_nu
    have b := b.trans bb
    have b3 := b3.trans bb
    obtain ⟨k, rfl⟩ := nat_of r0
    have pick : ∃ x dx, ([V.int (-1), .int (-2), .non, .bl true, .bl false, .str ("0" : Str), .ref l1, .ref t1, .ref d1, .int (0 - (10 : Int) ^ (30 : Int).toNat)] : List V)[k]? = some x ∧ Ox K (av src G6) x dx ∧ Bd 4000000 50 dx ∧ ∀ hi, numB 0 hi dx = false := by
      have : k < 10 := by omega
      match k, this with
      | 0, _ => exact ⟨_, _, rfl, .int _, ((bd_int (k := 0) (by decide +kernel)).mono (by decide) (by decide)), fun hi => numB_int (.inl (by decide +kernel))⟩
      | 1, _ => exact ⟨_, _, rfl, .int _, ((bd_int (k := 0) (by decide +kernel)).mono (by decide) (by decide)), fun hi => numB_int (.inl (by decide +kernel))⟩
      | 2, _ => exact ⟨_, _, rfl, .non, ⟨by decide, Nat.zero_le _, rfl, rfl⟩, fun _ => rfl⟩
      | 3, _ => exact ⟨_, _, rfl, .bl _, ⟨by decide, Nat.zero_le _, rfl, rfl⟩, fun _ => rfl⟩
      | 4, _ => exact ⟨_, _, rfl, .bl _, ⟨by decide, Nat.zero_le _, rfl, rfl⟩, fun _ => rfl⟩
      | 5, _ => exact ⟨_, _, rfl, .str _, ((bd_str (m := 50) (k := 0) lit8 (by decide)).mono (by decide) (by decide)), fun _ => rfl⟩
      | 6, _ => exact ⟨_, .list [.int 0], rfl, .lst (.of (av_at m_l1 f_l1)) (.cons (.int 0) .nil), (Bd.list (k := 0) (.cons (bd_i4 (by decide)) .nil)).mono (by decide) (by decide), fun _ => rfl⟩
      | 7, _ => exact ⟨_, .tuple [.int 0], rfl, .tup (.of (av_at m_t1 f_t1)) (.cons (.int 0) .nil), (Bd.tuple (k := 0) (.cons (bd_i4 (by decide)) .nil)).mono (by decide) (by decide), fun _ => rfl⟩
      | 8, _ => exact ⟨_, .dict [], rfl, .dct (av_at m_d1 f_d1), ⟨by decide, by decide, rfl, rfl⟩, fun _ => rfl⟩
      | 9, _ => exact ⟨_, _, rfl, .int _, ((bd_int (k := 0) (by decide +kernel)).mono (by decide) (by decide)), fun hi => numB_int (.inl (by decide +kernel))⟩
    obtain ⟨x, dx, ex, oxx, bdX, nx⟩ := pick
    refine ⟨nu, _, (k : Int), x, rfl, rfl, .of f_nu, atI_nat ex, _, rfl, rfl, _, _, rfl, rfl, ?_⟩
    rw [count_P]
    refine ⟨by show 2 ≤ sizeLine; decide, fun T n_T => ?_⟩
    have oxX := ox_same (av_same (same_new (o := .tup [x, .int ((upsN bs : Nat) : Int)]) n_T)) oxx
    have u9 := same_new (o := .tup [x, .int ((upsN bs : Nat) : Int)]) n_T
    have u := same_new (o := .tup [x, .int ((upsN bs : Nat) : Int)]) n_T
    have m_T := g.ne n_T
    have g := g.new (o := .tup [x, .int ((upsN bs : Nat) : Int)]) n_T
    have b := b.add (o := .tup [x, .int ((upsN bs : Nat) : Int)]) n_T
    have b3 := b3.add (o := .tup [x, .int ((upsN bs : Nat) : Int)]) n_T
    have f_row := u _ _ f_row
    have f_T : (upd G6 T (.tup [x, .int ((upsN bs : Nat) : Int)])) T = some (.tup [x, .int ((upsN bs : Nat) : Int)]) := upd_same
    generalize upd G6 T (.tup [x, .int ((upsN bs : Nat) : Int)]) = G7 at g b b3 f_row f_T oxX ⊢
    refine ⟨T, _, rfl, .of f_T, rfl, _, _, rfl, _, _, rfl, rfl, ?_⟩
    have oxV := ox_same av_le (ox_same (av_bt b3) ox3)
    have oxX := ox_same av_le oxX
    clear f_T
    have oxR : ∀ {H' : Hp}, Same G7 H' → Ox K H' (.ref row) (dI ns) := fun s => ox_ints (.of (s _ _ f_row))
    generalize G7 = HB at g b oxV oxX oxR f_row ⊢
    refine ⟨4, rfl, by decide, by decide, fun D n_D => lc_range (lo := 0) (n := 4) (LcP HB D fun i => (List.replicate i ("shape" : Str)).map V.str) (.init n_D rfl) (fun i H' hi p => ?_) (fun HD pD => ?_)⟩
    · refine ⟨rfl, _, rfl, _, rfl, _, v, .int 0, d, .int 0, "shape", rfl, ox_same p.2.1 oxV, .int 0, bdV, bdB (by decide +kernel), (.inl ⟨sh, by omega, rfl⟩), fun H4 s4 => ?_⟩
      refine p.put s4 ?_ (by rw [List.length_map, List.length_replicate]; omega)
      rw [List.replicate_succ', List.map_append]
      rfl
    have f_D : HD D = some (.lst ((List.replicate 4 ("shape" : Str)).map V.str)) := pD.2.2
    refine ⟨by show 1 ≤ sizeLine; decide, fun y1 n_y1 => ⟨y1, 4, _, rfl, rfl, upd_same, by decide, by decide, by show 1 * 4 ≤ sizeLine; decide, fun y2 n_y2 => ?_⟩⟩
    have sD := (same_new (o := .lst [V.str "shape"]) n_y1).trans (same_new (o := .lst (List.replicate (4 : Int).toNat [V.str "shape"]).flatten) n_y2)
    refine ⟨D, y2, List.replicate 4 "shape", rfl, rfl, .of (sD _ _ f_D), .of upd_same, false, rfl, iteF ?_⟩
    have S1 := pD.2.1.trans sD
    generalize upd (upd HD y1 (.lst [V.str "shape"])) y2 (.lst (List.replicate (4 : Int).toNat [V.str "shape"]).flatten) = HC at S1 ⊢
    refine ⟨_, _, rfl, by decide, fun D n_D => lc_range (lo := 1) (n := 3) (LcP HC D fun i => (List.replicate i ("shape" : Str)).map V.str) (.init n_D rfl) (fun i H' hi p => ?_) (fun HD pD => ?_)⟩
    · refine ⟨rfl, _, rfl, _, rfl, _, rfl, _, v, x, d, dx, "shape", rfl, ox_same (S1.trans p.2.1) oxV, ox_same (S1.trans p.2.1) oxX, bdV, bdX, (.inl ⟨sh, by omega, rfl⟩), fun H4 s4 => ?_⟩
      refine p.put s4 ?_ (by rw [List.length_map, List.length_replicate]; omega)
      rw [List.replicate_succ', List.map_append]
      rfl
    have f_D : HD D = some (.lst ((List.replicate 3 ("shape" : Str)).map V.str)) := pD.2.2
    refine ⟨by show 1 ≤ sizeLine; decide, fun y1 n_y1 => ⟨y1, 3, _, rfl, rfl, upd_same, by decide, by decide, by show 1 * 3 ≤ sizeLine; decide, fun y2 n_y2 => ?_⟩⟩
    have sD := (same_new (o := .lst [V.str "shape"]) n_y1).trans (same_new (o := .lst (List.replicate (3 : Int).toNat [V.str "shape"]).flatten) n_y2)
    refine ⟨D, y2, List.replicate 3 "shape", rfl, rfl, .of (sD _ _ f_D), .of upd_same, false, rfl, iteF ?_⟩
    have S2 := S1.trans (pD.2.1.trans sD)
    generalize upd (upd HD y1 (.lst [V.str "shape"])) y2 (.lst (List.replicate (3 : Int).toNat [V.str "shape"]).flatten) = HE at S2 ⊢
    refine ⟨_, rfl, _, rfl, _, _, rfl, rfl, _, rfl, _, _, rfl, rfl, _, _, rfl, rfl, _, _, rfl, rfl, big, by show 4 ≤ sizeLine; decide, fun L n_L => ?_⟩
    have S3 := S2.trans (same_new (o := .lst [x, .int (((upsN bs : Nat) : Int) + 1), .int (0 - ((upsN bs : Nat) : Int) - 1), .int ((10 : Int) ^ (30 : Int).toNat)]) n_L)
    have f_L : (upd HE L (.lst [x, .int (((upsN bs : Nat) : Int) + 1), .int (0 - ((upsN bs : Nat) : Int) - 1), .int ((10 : Int) ^ (30 : Int).toNat)])) L = some (.lst [x, .int (((upsN bs : Nat) : Int) + 1), .int (0 - ((upsN bs : Nat) : Int) - 1), .int ((10 : Int) ^ (30 : Int).toNat)]) := upd_same
    generalize upd HE L (.lst [x, .int (((upsN bs : Nat) : Int) + 1), .int (0 - ((upsN bs : Nat) : Int) - 1), .int ((10 : Int) ^ (30 : Int).toNat)]) = HL at S3 f_L ⊢
    have items : ∀ y ∈ ([x, .int (((upsN bs : Nat) : Int) + 1), .int (0 - ((upsN bs : Nat) : Int) - 1), .int ((10 : Int) ^ (30 : Int).toNat)] : List V), ∃ e, (∀ {H' : Hp}, Same HL H' → Ox K H' y e) ∧ Bd 4000000 50 e ∧ numB 0 ((upsN bs : Nat) : Int) e = false := fun y hy => by
      simp only [List.mem_cons, List.not_mem_nil, or_false] at hy
      rcases hy with rfl | rfl | rfl | rfl
      · exact ⟨dx, fun s => ox_same (S3.trans s) oxX, bdX, nx _⟩
      · exact ⟨_, fun _ => .int _, bdB (by omega), numB_int (.inr (by omega))⟩
      · exact ⟨_, fun _ => .int _, bdB (by omega), numB_int (.inl (by omega))⟩
      · exact ⟨_, fun _ => .int _, bdB (by decide +kernel), numB_int (.inr (Int.lt_of_le_of_lt (show ((upsN bs : Nat) : Int) ≤ 100 by omega) (by decide +kernel)))⟩
    refine ⟨L, rfl, ⟨_, .of f_L⟩, for_list (xs := [x, .int (((upsN bs : Nat) : Int) + 1), .int (0 - ((upsN bs : Nat) : Int) - 1), .int ((10 : Int) ^ (30 : Int).toNat)]) (fun i σ H' => (∃ y8, σ = [some (.ref src), some (.str (sgS bs)), some v, some (.ref row), some (.int ((waysN bs : Nat) : Int)), some (.ref nu), some x, some (.int ((upsN bs : Nat) : Int)), y8, none, none, none]) ∧ Same HL H') ⟨⟨_, rfl⟩, Same.refl _⟩ (fun i σ H' _ h => .of (h.2 _ _ f_L)) (fun i y σ H' hy h => ?_) (fun σ HM h => ?_)⟩
    · obtain ⟨⟨y8, rfl⟩, sm⟩ := h
      obtain ⟨e, oe, be, ne⟩ := items y (mem_get hy)
      exact ⟨_, rfl, _, rfl, 1, .str (sgS bs), y, .str (sgS bs), e, "number", rfl, .str _, oe sm, bdS, be, .inr (.inl ⟨bs, rfl, ok, u1, .inr (.inl ⟨rfl, .inr ⟨ne, rfl⟩⟩)⟩), fun H4 s4 => ⟨rfl, false, neS _, iteF ⟨⟨_, rfl⟩, sm.trans s4⟩⟩⟩
    obtain ⟨⟨y8, rfl⟩, sm⟩ := h
    have S4 := S3.trans sm
    refine ⟨_, _, rfl, rfl, p64, _, _, rfl, rfl, p64, _, _, rfl, rfl, by unfold CMulW; decide +kernel, _, _, rfl, rfl, p64, _, _, rfl, rfl, by unfold CMulW; decide +kernel, _, _, rfl, rfl, p64, _, _, rfl, rfl, by unfold CMulW; decide +kernel, _, _, rfl, rfl, p64, _, _, rfl, rfl, by unfold CMulW; decide +kernel, _, _, rfl, rfl, p64, _, _, rfl, rfl, by unfold CMulW; decide +kernel, ?_⟩
    refine ⟨_, rfl, _, rfl, _, rfl, _, _, rfl, rfl, _, rfl, _, _, rfl, rfl, _, rfl, _, rfl, _, _, rfl, rfl, _, rfl, by show 6 ≤ sizeLine; decide, fun L n_L => ?_⟩
    have S5 := S4.trans (same_new (o := .lst [x, .int ((waysN bs : Nat) : Int), .int (((waysN bs : Nat) : Int) + 1), .int (0 - ((waysN bs : Nat) : Int)), .int (-1 - ((waysN bs : Nat) : Int)), .int farI]) n_L)
    have f_L : (upd HM L (.lst [x, .int ((waysN bs : Nat) : Int), .int (((waysN bs : Nat) : Int) + 1), .int (0 - ((waysN bs : Nat) : Int)), .int (-1 - ((waysN bs : Nat) : Int)), .int farI])) L = some (.lst [x, .int ((waysN bs : Nat) : Int), .int (((waysN bs : Nat) : Int) + 1), .int (0 - ((waysN bs : Nat) : Int)), .int (-1 - ((waysN bs : Nat) : Int)), .int farI]) := upd_same
    generalize upd HM L (.lst [x, .int ((waysN bs : Nat) : Int), .int (((waysN bs : Nat) : Int) + 1), .int (0 - ((waysN bs : Nat) : Int)), .int (-1 - ((waysN bs : Nat) : Int)), .int farI]) = HL2 at S5 f_L ⊢
    have items : ∀ y ∈ ([x, .int ((waysN bs : Nat) : Int), .int (((waysN bs : Nat) : Int) + 1), .int (0 - ((waysN bs : Nat) : Int)), .int (-1 - ((waysN bs : Nat) : Int)), .int farI] : List V), ∃ e, (∀ {H' : Hp}, Same HL2 H' → Ox K H' y e) ∧ Bd 4000000 50 e ∧ numB 0 (((waysN bs : Nat) : Int) - 1) e = false := fun y hy => by
      simp only [List.mem_cons, List.not_mem_nil, or_false] at hy
      rcases hy with rfl | rfl | rfl | rfl | rfl | rfl
      · exact ⟨dx, fun s => ox_same (S5.trans s) oxX, bdX, nx _⟩
      · exact ⟨_, fun _ => .int _, bdB (by omega), numB_int (.inr (by omega))⟩
      · exact ⟨_, fun _ => .int _, bdB (by omega), numB_int (.inr (by omega))⟩
      · exact ⟨_, fun _ => .int _, bdB (by omega), numB_int (.inl (by omega))⟩
      · exact ⟨_, fun _ => .int _, bdB (by omega), numB_int (.inl (by omega))⟩
      · exact ⟨_, fun _ => .int _, bdB (by decide +kernel), numB_int (.inr (by
          rw [farI_eq]
          have z := Int.ofNat_lt.mpr (Nat.lt_of_le_of_lt w2 p384)
          have c : (((10 : Nat) ^ 384 : Nat) : Int) = (10 : Int) ^ 384 := by decide +kernel
          rw [c] at z
          omega))⟩
    refine ⟨L, rfl, ⟨_, .of f_L⟩, for_list (xs := [x, .int ((waysN bs : Nat) : Int), .int (((waysN bs : Nat) : Int) + 1), .int (0 - ((waysN bs : Nat) : Int)), .int (-1 - ((waysN bs : Nat) : Int)), .int farI]) (fun i σ H' => (∃ y8, σ = [some (.ref src), some (.str (sgS bs)), some v, some (.ref row), some (.int ((waysN bs : Nat) : Int)), some (.ref nu), some x, some (.int ((upsN bs : Nat) : Int)), y8, some (.int farI), none, none]) ∧ Same HL2 H') ⟨⟨_, rfl⟩, Same.refl _⟩ (fun i σ H' _ h => .of (h.2 _ _ f_L)) (fun i y σ H' hy h => ?_) (fun σ HM h => ?_)⟩
    · obtain ⟨⟨y8, rfl⟩, sm⟩ := h
      obtain ⟨e, oe, be, ne⟩ := items y (mem_get hy)
      refine ⟨by show 2 ≤ sizeLine; decide, fun T nT => ?_⟩
      have sT := same_new (o := .tup [V.int 2, .int 3]) nT
      have f_T : (upd H' T (.tup [V.int 2, .int 3])) T = some (.tup [V.int 2, .int 3]) := upd_same
      generalize upd H' T (.tup [V.int 2, .int 3]) = HT at sT f_T ⊢
      refine ⟨T, rfl, ⟨_, .of f_T⟩, fun D n_D => lc_tup (xs := [V.int 2, .int 3]) (LcP HT D fun i => (List.replicate i ("number" : Str)).map V.str) (.init n_D rfl) (fun i H' _ p => .of (p.2.1 _ _ f_T)) (fun i z H' hz p => ?_) (fun HD pD => ?_)⟩
      · have hk : ∃ k : Int, z = .int k ∧ (k = 2 ∨ k = 3) := by
          match i, hz with
          | 0, hz => cases hz; exact ⟨2, rfl, .inl rfl⟩
          | 1, hz => cases hz; exact ⟨3, rfl, .inr rfl⟩
          | i + 2, hz => cases hz
        obtain ⟨k, rfl, hk⟩ := hk
        have hi2 := lt_get hz
        have hi2 : i < 2 := hi2
        refine ⟨rfl, _, rfl, _, rfl, _, rfl, k, .str (sgS bs), y, .str (sgS bs), e, "number", rfl, .str _, oe ((sm.trans sT).trans p.2.1), bdS, be, .inr (.inl ⟨bs, rfl, ok, u1, .inr (.inr ⟨hk, .inr ⟨ne, rfl⟩⟩)⟩), fun H4 s4 => ?_⟩
        refine p.put s4 ?_ (by rw [List.length_map, List.length_replicate]; omega)
        rw [List.replicate_succ', List.map_append]
        rfl
      have f_D : HD D = some (.lst ((List.replicate 2 ("number" : Str)).map V.str)) := pD.2.2
      refine ⟨by show 1 ≤ sizeLine; decide, fun y1 n_y1 => ⟨y1, 2, _, rfl, rfl, upd_same, by decide, by decide, by show 1 * 2 ≤ sizeLine; decide, fun y2 n_y2 => ?_⟩⟩
      have sD := (same_new (o := .lst [V.str "number"]) n_y1).trans (same_new (o := .lst (List.replicate (2 : Int).toNat [V.str "number"]).flatten) n_y2)
      exact ⟨D, y2, List.replicate 2 "number", rfl, rfl, .of (sD _ _ f_D), .of upd_same, false, rfl, iteF ⟨⟨_, rfl⟩, ((sm.trans sT).trans pD.2.1).trans sD⟩⟩
    obtain ⟨⟨y8, rfl⟩, sm⟩ := h
    have S6 := S5.trans sm
    refine ⟨_, rfl, 0, .str (sgS bs), .int 0, .str (sgS bs), .int 0, "none", rfl, .str _, .int 0, bdS, bdB (by decide +kernel), .inr (.inl ⟨bs, rfl, ok, u1, .inl ⟨rfl, rfl⟩⟩), fun Ha sa => ?_⟩
    refine ⟨_, rfl, _, rfl, 1, .str (sgS bs), .int ((upsN bs : Nat) : Int), .str (sgS bs), .int ((upsN bs : Nat) : Int), "none", rfl, .str _, .int _, bdS, bdB (by omega), .inr (.inl ⟨bs, rfl, ok, u1, .inr (.inl ⟨rfl, .inl ⟨upsN bs, rfl, Nat.le_refl _, rfl⟩⟩)⟩), fun Hb sb => ?_⟩
    have ew : ((waysN bs : Nat) : Int) - 1 = ((waysN bs - 1 : Nat) : Int) := by omega
    refine ⟨_, rfl, _, rfl, _, _, rfl, rfl, 2, .str (sgS bs), .int (((waysN bs : Nat) : Int) - 1), .str (sgS bs), .int (((waysN bs : Nat) : Int) - 1), "none", rfl, .str _, .int _, bdS, bdB (by omega), .inr (.inl ⟨bs, rfl, ok, u1, .inr (.inr ⟨.inl rfl, .inl ⟨waysN bs - 1, congrArg PyData.int ew, by omega, rfl⟩⟩)⟩), fun Hc sc => ?_⟩
    refine ⟨by show 3 ≤ sizeLine; decide, fun gd n_gd => ?_⟩
    have S7 := (((S6.trans sa).trans sb).trans sc).trans (same_new (o := .lst [V.str "none", .str "none", .str "none"]) n_gd)
    have f_gd : (upd Hc gd (.lst [V.str "none", .str "none", .str "none"])) gd = some (.lst [V.str "none", .str "none", .str "none"]) := upd_same
    generalize upd Hc gd (.lst [V.str "none", .str "none", .str "none"]) = HG at S7 f_gd ⊢
    refine ⟨_, rfl, _, _, rfl, by decide, fun D n_D => lc_range (lo := 3) (n := 3) (LcP HG D fun i => ((["shape", "none", "none"] : List Str).take i).map V.str) (.init n_D rfl) (fun i H' hi p => ?_) (fun HD pD => ?_)⟩
    · have told : ∃ r : Str, (["shape", "none", "none"] : List Str)[i]? = some r ∧ Told (3 + (i : Int)) (dI ns) (.int 0) r := by
        match i, hi with
        | 0, _ => exact ⟨"shape", rfl, .inl ⟨rfl, .inr (.inr (.inr rfl)), rfl⟩⟩
        | 1, _ => exact ⟨"none", rfl, .inr (.inr ⟨hwR, .inl ⟨rfl, .inl ⟨⟨ns, rfl, hh⟩, rfl⟩⟩⟩)⟩
        | 2, _ => exact ⟨"none", rfl, .inr (.inr ⟨hwR, .inr ⟨rfl, .inl ⟨ns, rfl, hh, epl, rfl⟩⟩⟩)⟩
      obtain ⟨r, hr2, told⟩ := told
      refine ⟨rfl, _, rfl, _, rfl, _, .ref row, .int 0, dI ns, .int 0, r, rfl, oxR (S7.trans p.2.1), .int 0, bdR, bdB (by decide +kernel), told, fun H4 s4 => ?_⟩
      refine p.put s4 ?_ (by rw [List.length_map, List.length_take]; omega)
      rw [take_get hr2, List.map_append]
      rfl
    have f_D : HD D = some (.lst ([V.str "shape", .str "none", .str "none"])) := pD.2.2
    refine ⟨gd, D, _, _, rfl, rfl, pD.2.1 _ _ f_gd, f_D, by show 3 + 3 ≤ sizeLine; decide, fun z1 n_z1 => ?_⟩
    have S8 := (S7.trans pD.2.1).trans (same_new (o := .lst ([V.str "none", .str "none", .str "none"] ++ [V.str "shape", .str "none", .str "none"])) n_z1)
    have f_z1 : (upd HD z1 (.lst ([V.str "none", .str "none", .str "none"] ++ [V.str "shape", .str "none", .str "none"]))) z1 = some (.lst ((["none", "none", "none", "shape", "none", "none"] : List Str).map V.str)) := upd_same
    generalize upd HD z1 (.lst ([V.str "none", .str "none", .str "none"] ++ [V.str "shape", .str "none", .str "none"])) = HZ at S8 f_z1 ⊢
    refine ⟨by show 1 ≤ sizeLine; decide, fun y1 n_y1 => ⟨y1, 3, _, rfl, rfl, upd_same, by decide, by decide, by show 1 * 3 ≤ sizeLine; decide, fun y2 n_y2 => ⟨by show 1 ≤ sizeLine; decide, fun y3 n_y3 => ⟨y2, y3, _, _, rfl, rfl, same_new n_y3 _ _ upd_same, upd_same, by show 3 + 1 ≤ sizeLine; decide, fun y4 n_y4 => ⟨by show 1 ≤ sizeLine; decide, fun y5 n_y5 => ⟨y5, 2, _, rfl, rfl, upd_same, by decide, by decide, by show 1 * 2 ≤ sizeLine; decide, fun y6 n_y6 => ⟨y4, y6, _, _, rfl, rfl, same_new n_y6 _ _ (same_new n_y5 _ _ upd_same), upd_same, by show 4 + 2 ≤ sizeLine; decide, fun y7 n_y7 => ?_⟩⟩⟩⟩⟩⟩⟩
    have sZ := (((((same_new (o := .lst [V.str "none"]) n_y1).trans (same_new (o := .lst (List.replicate (3 : Int).toNat [V.str "none"]).flatten) n_y2)).trans (same_new (o := .lst [V.str "shape"]) n_y3)).trans (same_new (o := .lst ((List.replicate (3 : Int).toNat [V.str "none"]).flatten ++ [V.str "shape"])) n_y4)).trans (same_new (o := .lst [V.str "none"]) n_y5)).trans (same_new (o := .lst (List.replicate (2 : Int).toNat [V.str "none"]).flatten) n_y6)
    have sY := sZ.trans (same_new (o := .lst ((List.replicate (3 : Int).toNat [V.str "none"]).flatten ++ [V.str "shape"] ++ (List.replicate (2 : Int).toNat [V.str "none"]).flatten)) n_y7)
    have S9 := S8.trans sY
    exact ⟨z1, y7, ["none", "none", "none", "shape", "none", "none"], rfl, rfl, .of (sY _ _ f_z1), .of upd_same, q _ (b.trans (.of S9)) ((g.same S9).mono (by omega))⟩
end
end L59
set_option Elab.async false
set_option linter.all false
set_option maxRecDepth 100000
namespace L59
open PySem PySem.Spec PyProof.Rows L2 Lp
section
variable {P : Program} {w : World} {K : PySem.W.Frag} {mg : Str → Option Value} {base : Heap}
/-! ### _law_rows_right -/
def spRowsR (K : PySem.W.Frag) : Sp := fun vs H Q _ => ∃ (src : Addr) (bs : List Bool) (n : Nat), vs = [.ref src, .str (sgS bs)] ∧ Src H src n ∧ n ≤ 700000 ∧ SgOk bs ∧ upsN bs ≤ 100 ∧ 1 ≤ bs.length ∧ ∀ H', Bt src H H' → Src H' src (n + 500) → Q (.bl true) H'
set_option maxHeartbeats 8000000 in
theorem ok_law_rows_right {f : Addr} {fd : FuncData} (F : Fun K "_law_rows_right" "_law_rows_right" s_law_rows_right f fd) (B : NoB mg) (T_law_row : Gc P w K mg base 2 "_law_row" spRow) (T_law_wrong_row : Gc P w K mg base 2 "_law_wrong_row" (spWrongR K)) (T_law_others : Gc P w K mg base 2 "_law_others" (spOthers K)) (T_law_is_plain : Gc P w K mg base 1 "_law_is_plain" (spIsPl K)) (T_law_told : Gc P w K mg base 9 "_law_told" (spTold K)) :
    FnG P w K mg base CX0 10 f fd ["pool", "signs"] (spRowsR K) := by
  refine okG F sc_law_rows_right (fun vs H Q E h => ?_) (fun cdv A outer s H vs Q E hG hr h => ?_)
  · obtain ⟨src, bs, n, rfl, _⟩ := h
    rfl
  · obtain ⟨src, bs, n, rfl, hs, hn, ok, u1, pos, q⟩ := h
    have hu64 := hr.units
    have slen := sg_len ok u1
    have bdZ : Bd 4000000 50 (.int 0) := (bd_int (k := 0) (by decide)).mono (by decide) (by decide)
    refine ⟨_, (pss_cons (ps_set (i := 2) sc_law_rows_right.nd rfl (Or.inl rfl) (pe_g T_law_row hG hr (by decide) (by rfl) (pa_cons (pv 0) (pa_cons (pv 1) pa_nil))))
        (pss_cons (ps_set (i := 3) sc_law_rows_right.nd rfl (Or.inr rfl) (pe_g T_law_wrong_row hG hr (by decide) (by rfl) (pa_cons (pv 0) (pa_cons (pv 2) pa_nil))))
        (pss_cons (ps_if (pt_cmpR (op_neStrs hu64) (pe_lc (own := [("door", 6)]) (g := gName 6) (tt := tYes) rfl sc_law_rows_right.nd (pi_tup (pe_tup (pa_cons pe_int (pa_cons pe_int pa_nil)))) (blkOk_by (own := [("door", 6)]) (N := N_law_rows_right) (sc := defScope s_law_rows_right) (by decide +kernel)) (fun _ _ _ _ _ => (pg_name (i := 6) sc_law_rows_right.nd rfl (Or.inl rfl))) (fun _ _ _ _ _ => pts_nil) (fun _ _ _ _ _ => (pe_g T_law_told hG hr (by decide) (by rfl) (pa_cons (pv 6) (pa_cons (pv 3) (pa_cons pe_int pa_nil)))))) (pe_op op_rep (pe_lst (pa_cons pe_str pa_nil)) pe_int) (nomark _)) (pss_one (ps_ret pe_bl)) pss_nil)
        (pss_cons (ps_for PassesOwn.never rfl (pi_list (pe_g T_law_others hG hr (by decide) (by rfl) (pa_cons (pv 0) (pa_cons (pv 2) pa_nil)))) (pg_name (i := 4) sc_law_rows_right.nd rfl (Or.inr rfl))
          (pss_cons (ps_set (i := 5) sc_law_rows_right.nd rfl (Or.inl rfl) (pe_lst (pa_cons pe_str (pa_cons (pe_ifExp (pt_val (pe_g T_law_is_plain hG hr (by decide) (by rfl) (pa_cons (pv 4) pa_nil))) pe_str pe_str) pa_nil))))
          (pss_one (ps_if (pt_cmpR (op_neStrs hu64) (pe_lc (own := [("door", 6)]) (g := gName 6) (tt := tYes) rfl sc_law_rows_right.nd (pi_tup (pe_tup (pa_cons pe_int (pa_cons pe_int pa_nil)))) (blkOk_by (own := [("door", 6)]) (N := N_law_rows_right) (sc := defScope s_law_rows_right) (by decide +kernel)) (fun _ _ _ _ _ => (pg_name (i := 6) sc_law_rows_right.nd rfl (Or.inl rfl))) (fun _ _ _ _ _ => pts_nil) (fun _ _ _ _ _ => (pe_g T_law_told hG hr (by decide) (by rfl) (pa_cons (pv 6) (pa_cons (pv 4) (pa_cons pe_int pa_nil)))))) (pv 5) (nomark _)) (pss_one (ps_ret pe_bl)) pss_nil))))
        (pss_one (ps_ret pe_bl)))))), ?_⟩
    refine ⟨_, rfl, _, rfl, src, bs, n, rfl, hs, by omega, ok, u1, fun H1 row idx hidx b1 hs1 n_row f_row => ?_⟩
    have m_row := hs.ne n_row
    have N := nth_ok ok u1 idx hidx
    have hh : Hist (nthL bs idx) := N.hist slen
    have nl : (nthL bs idx).length = bs.length := N.len
    have spl : stL (nthL bs idx) = upL (upsN bs) := N.pl
    generalize nthL bs idx = ns at f_row hh nl spl
    have up1 : 1 ≤ upsN bs := by
      have r := run_eq ok
      have z := ups_dns bs
      omega
    refine ⟨_, rfl, _, rfl, src, row, ns, n + 200, rfl, hs1, by omega, m_row, f_row, hh, by omega, fun H2 v d hs2 b2 ox2 bd2 nh => ?_⟩
    have f_row := b2 _ _ m_row f_row
    have bdV : Bd 4000000 50 d := bd2.mono (by decide) (by decide)
    have hw : wt d ≤ 190000 := Nat.le_trans bd2.w (by decide)
    have oxv := ox_same av_le ox2
    refine ⟨by show 2 ≤ sizeLine; decide, fun T nT => ?_⟩
    have sT := same_new (o := .tup [V.int 4, .int 5]) nT
    have f_T : (upd H2 T (.tup [V.int 4, .int 5])) T = some (.tup [V.int 4, .int 5]) := upd_same
    generalize upd H2 T (.tup [V.int 4, .int 5]) = HT at sT f_T ⊢
    refine ⟨T, rfl, ⟨_, .of f_T⟩, fun D n_D => lc_tup (xs := [V.int 4, .int 5]) (LcP HT D fun i => ((["history", "history"] : List Str).take i).map V.str) (.init n_D rfl) (fun i H' _ p => .of (p.2.1 _ _ f_T)) (fun i z H' hz p => ?_) (fun HD pD => ?_)⟩
    · have hk : ∃ (k : Int) (rr : Str), z = .int k ∧ (["history", "history"] : List Str)[i]? = some rr ∧ Told k d (.int 0) rr := by
        match i, hz with
        | 0, hz => cases hz; exact ⟨4, _, rfl, rfl, .inr (.inr ⟨hw, .inl ⟨rfl, .inr ⟨nh, rfl⟩⟩⟩)⟩
        | 1, hz => cases hz; exact ⟨5, _, rfl, rfl, .inr (.inr ⟨hw, .inr ⟨rfl, .inr ⟨.inl nh, rfl⟩⟩⟩)⟩
        | i + 2, hz => cases hz
      obtain ⟨k, rr, rfl, hk, told⟩ := hk
      have hi2 := lt_get hz
      have hi2 : i < 2 := hi2
      refine ⟨rfl, _, rfl, _, rfl, k, v, .int 0, d, .int 0, rr, rfl, ox_same (sT.trans p.2.1) oxv, .int 0, bdV, bdZ, told, fun H4 s4 => ?_⟩
      refine p.put s4 ?_ (by rw [List.length_map, List.length_take]; omega)
      rw [take_get hk, List.map_append]
      rfl
    have f_D : HD D = some (.lst ((List.replicate 2 ("history" : Str)).map V.str)) := pD.2.2
    refine ⟨by show 1 ≤ sizeLine; decide, fun y1 n_y1 => ⟨y1, 2, _, rfl, rfl, upd_same, by decide, by decide, by show 1 * 2 ≤ sizeLine; decide, fun y2 n_y2 => ?_⟩⟩
    have sD := (same_new (o := .lst [V.str "history"]) n_y1).trans (same_new (o := .lst (List.replicate (2 : Int).toNat [V.str "history"]).flatten) n_y2)
    refine ⟨D, y2, List.replicate 2 "history", rfl, rfl, .of (sD _ _ f_D), .of upd_same, false, rfl, iteF ?_⟩
    have S3 := (sT.trans pD.2.1).trans sD
    generalize upd (upd HD y1 (.lst [V.str "history"])) y2 (.lst (List.replicate (2 : Int).toNat [V.str "history"]).flatten) = H3 at S3 ⊢
    refine ⟨_, rfl, _, rfl, src, row, ns, n + 204, rfl, hs2.same S3, by omega, m_row, S3 _ _ f_row, hh, by rw [spl, upL_len]; exact up1, fun H4 p ps hp gd pl mp hs4 b4 => ?_⟩
    have b04 := ((b1.trans b2).trans (.of S3)).trans b4
    refine ⟨p, rfl, ⟨_, .of hp⟩, for_list (xs := ps.map V.ref) (fun i σ H' => (∃ y4 y5 y6, σ = [some (.ref src), some (.str (sgS bs)), some (.ref row), some v, y4, y5, y6]) ∧ Same H4 H') ⟨⟨_, _, _, rfl⟩, Same.refl _⟩ (fun i σ H' _ h => .of (h.2 _ _ hp)) (fun i x σ H' hx h => ?_) (fun σ H' h => ?_)⟩
    · obtain ⟨⟨y4, y5, y6, rfl⟩, sm⟩ := h
      have hx2 : ∃ r, x = .ref r ∧ r ∈ ps := by
        rw [List.getElem?_map] at hx
        cases e : ps[i]? with
        | none => rw [e] at hx; cases hx
        | some r => rw [e] at hx; cases hx; exact ⟨r, rfl, mem_get e⟩
      obtain ⟨r, rfl, hr2⟩ := hx2
      obtain ⟨mr, ms, hms, hmh⟩ := gd r hr2
      have bdM : Bd 4000000 50 (dI ms) := (nodI hmh).mono (show 1300 ≤ 4000000 by decide) (show 1 ≤ 50 by decide)
      have hwM : wt (dI ms) ≤ 190000 := Nat.le_trans (nodI hmh).w (show 1300 ≤ 190000 by decide)
      have hml := hmh.len
      refine ⟨_, rfl, r, ms, rfl, .of (sm _ _ hms), by omega, fun H5 s5 => ⟨_, rfl, ?_⟩⟩
      have f_r := s5 _ _ (sm _ _ hms)
      have fin : ∀ {H6 : Hp}, Same H5 H6 → Same H4 H6 := fun s => (sm.trans s5).trans s
      by_cases hpl : stL ms = upL (stL ms).length
      · rw [decide_eq_true hpl]
        refine iteT ⟨by show 2 ≤ sizeLine; decide, fun du n_du => ?_⟩
        have s6 := same_new (o := .lst [V.str "none", .str "none"]) n_du
        have f_du : (upd H5 du (.lst [V.str "none", .str "none"])) du = some (.lst ((["none", "none"] : List Str).map V.str)) := upd_same
        generalize upd H5 du (.lst [V.str "none", .str "none"]) = H6 at s6 f_du ⊢
        refine ⟨by show 2 ≤ sizeLine; decide, fun T nT => ?_⟩
        have sT := same_new (o := .tup [V.int 4, .int 5]) nT
        have f_T : (upd H6 T (.tup [V.int 4, .int 5])) T = some (.tup [V.int 4, .int 5]) := upd_same
        generalize upd H6 T (.tup [V.int 4, .int 5]) = HT at sT f_T ⊢
        refine ⟨T, rfl, ⟨_, .of f_T⟩, fun D n_D => lc_tup (xs := [V.int 4, .int 5]) (LcP HT D fun i => ((["none", "none"] : List Str).take i).map V.str) (.init n_D rfl) (fun i H' _ p => .of (p.2.1 _ _ f_T)) (fun i z H' hz p => ?_) (fun HD pD => ?_)⟩
        · have hk : ∃ (k : Int) (rr : Str), z = .int k ∧ (["none", "none"] : List Str)[i]? = some rr ∧ Told k (dI ms) (.int 0) rr := by
            match i, hz with
            | 0, hz => cases hz; exact ⟨4, _, rfl, rfl, .inr (.inr ⟨hwM, .inl ⟨rfl, .inl ⟨⟨ms, rfl, hmh⟩, rfl⟩⟩⟩)⟩
            | 1, hz => cases hz; exact ⟨5, _, rfl, rfl, .inr (.inr ⟨hwM, .inr ⟨rfl, .inl ⟨ms, rfl, hmh, hpl, rfl⟩⟩⟩)⟩
            | i + 2, hz => cases hz
          obtain ⟨k, rr, rfl, hk, told⟩ := hk
          have hi2 := lt_get hz
          have hi2 : i < 2 := hi2
          refine ⟨rfl, _, rfl, _, rfl, k, .ref r, .int 0, (dI ms), .int 0, rr, rfl, ox_ints (.of (((s6.trans sT).trans p.2.1) _ _ f_r)), .int 0, bdM, bdZ, told, fun H4 s4 => ?_⟩
          refine p.put s4 ?_ (by rw [List.length_map, List.length_take]; omega)
          rw [take_get hk, List.map_append]
          rfl
        have f_D : HD D = some (.lst ((["none", "none"] : List Str).map V.str)) := pD.2.2
        exact ⟨_, rfl, D, du, ["none", "none"], rfl, rfl, .of f_D, .of ((sT.trans pD.2.1) _ _ f_du), false, rfl, iteF ⟨⟨_, _, _, rfl⟩, fin ((s6.trans sT).trans pD.2.1)⟩⟩
      · rw [decide_eq_false hpl]
        refine iteF ⟨by show 2 ≤ sizeLine; decide, fun du n_du => ?_⟩
        have s6 := same_new (o := .lst [V.str "none", .str "history"]) n_du
        have f_du : (upd H5 du (.lst [V.str "none", .str "history"])) du = some (.lst ((["none", "history"] : List Str).map V.str)) := upd_same
        generalize upd H5 du (.lst [V.str "none", .str "history"]) = H6 at s6 f_du ⊢
        refine ⟨by show 2 ≤ sizeLine; decide, fun T nT => ?_⟩
        have sT := same_new (o := .tup [V.int 4, .int 5]) nT
        have f_T : (upd H6 T (.tup [V.int 4, .int 5])) T = some (.tup [V.int 4, .int 5]) := upd_same
        generalize upd H6 T (.tup [V.int 4, .int 5]) = HT at sT f_T ⊢
        refine ⟨T, rfl, ⟨_, .of f_T⟩, fun D n_D => lc_tup (xs := [V.int 4, .int 5]) (LcP HT D fun i => ((["none", "history"] : List Str).take i).map V.str) (.init n_D rfl) (fun i H' _ p => .of (p.2.1 _ _ f_T)) (fun i z H' hz p => ?_) (fun HD pD => ?_)⟩
        · have hk : ∃ (k : Int) (rr : Str), z = .int k ∧ (["none", "history"] : List Str)[i]? = some rr ∧ Told k (dI ms) (.int 0) rr := by
            match i, hz with
            | 0, hz => cases hz; exact ⟨4, _, rfl, rfl, .inr (.inr ⟨hwM, .inl ⟨rfl, .inl ⟨⟨ms, rfl, hmh⟩, rfl⟩⟩⟩)⟩
            | 1, hz => cases hz; exact ⟨5, _, rfl, rfl, .inr (.inr ⟨hwM, .inr ⟨rfl, .inr ⟨.inr ⟨ms, rfl, hmh, hpl⟩, rfl⟩⟩⟩)⟩
            | i + 2, hz => cases hz
          obtain ⟨k, rr, rfl, hk, told⟩ := hk
          have hi2 := lt_get hz
          have hi2 : i < 2 := hi2
          refine ⟨rfl, _, rfl, _, rfl, k, .ref r, .int 0, (dI ms), .int 0, rr, rfl, ox_ints (.of (((s6.trans sT).trans p.2.1) _ _ f_r)), .int 0, bdM, bdZ, told, fun H4 s4 => ?_⟩
          refine p.put s4 ?_ (by rw [List.length_map, List.length_take]; omega)
          rw [take_get hk, List.map_append]
          rfl
        have f_D : HD D = some (.lst ((["none", "history"] : List Str).map V.str)) := pD.2.2
        exact ⟨_, rfl, D, du, ["none", "history"], rfl, rfl, .of f_D, .of ((sT.trans pD.2.1) _ _ f_du), false, rfl, iteF ⟨⟨_, _, _, rfl⟩, fin ((s6.trans sT).trans pD.2.1)⟩⟩
    · obtain ⟨⟨y4, y5, y6, rfl⟩, sm⟩ := h
      exact q _ (b04.trans (.of sm)) ((hs4.same sm).mono (by omega))
/-! ### law -/
def spLaw (K : PySem.W.Frag) : Sp := fun vs H Q _ => ∃ (a : Addr) (ns : List Int), vs = [.ref a] ∧ SqL K H a (ns.map V.int) ∧ ns.length ≤ 63 ∧ ∀ H', Q (.bl true) H'
set_option maxHeartbeats 4000000 in
theorem ok_law {f : Addr} {fd : FuncData} (F : Fun K "law" "law" s_law f fd) (B : NoB mg) (T_law_pool : Gc P w K mg base 1 "_law_pool" (spPool K)) (T_law_signs : Gc P w K mg base 2 "_law_signs" (spSigns K)) (T_law_right : Gc P w K mg base 10 "_law_right" (spRight K)) (T_law_rows_right : Gc P w K mg base 10 "_law_rows_right" (spRowsR K)) : FnG P w K mg base CX0 11 f fd ["script"] (spLaw K) := by
  refine okG F sc_law (fun vs H Q E h => ?_) (fun cdv A outer s H vs Q E hG hr h => ?_)
  · obtain ⟨a, ns, rfl, _⟩ := h
    rfl
  · obtain ⟨sc, ns, rfl, hS, hl, q⟩ := h
    have hu64 := hr.units
    refine ⟨_, (pss_cons (ps_for PassesOwn.never rfl (pi_range1 rfl B.range (pa_cons (pe_callB (call_max2 rfl) (by rfl) B.max (by decide +kernel) (pa_cons pe_int (pa_cons (pe_callB (call_min2 rfl) (by rfl) B.min (by decide +kernel) (pa_cons pe_int (pa_cons (pe_callB call_len_seq (by rfl) B.len PySem.boot_len (pa_cons (pv 0) pa_nil)) pa_nil))) pa_nil))) pa_nil)) (pg_name (i := 1) sc_law.nd rfl (Or.inl rfl))
          (pss_cons (ps_set (i := 2) sc_law.nd rfl (Or.inl rfl) (pe_g T_law_pool hG hr (by decide) (by rfl) (pa_cons (pv 0) (pa_cons (pv 1) pa_nil))))
          (pss_one (ps_for PassesOwn.never rfl (pi_range1 rfl B.range (pa_cons (pe_ifExp (pt_cmpR (op_eqD hu64) (pv 0) (pe_lst pa_nil) (nomark _)) pe_int pe_int) pa_nil)) (pg_name (i := 3) sc_law.nd rfl (Or.inl rfl))
            (pss_cons (ps_set (i := 4) sc_law.nd rfl (Or.inl rfl) (pe_g T_law_signs hG hr (by decide) (by rfl) (pa_cons (pv 2) (pa_cons (pv 0) pa_nil))))
            (pss_one (ps_if (PW.pt (pw_or (pt_not (pt_val (pe_g T_law_right hG hr (by decide) (by rfl) (pa_cons (pv 2) (pa_cons (pv 4) pa_nil))))) (pw_or1 (pt_not (pt_val (pe_g T_law_rows_right hG hr (by decide) (by rfl) (pa_cons (pv 2) (pa_cons (pv 4) pa_nil)))))))) (pss_one (ps_ret pe_bl)) pss_nil)))))))
        (pss_one (ps_ret pe_bl))), ?_⟩
    refine ⟨_, rfl, sc, _, rfl, .inl hS, _, _, rfl, _, _, rfl, ?_⟩
    generalize ec : (if (if (((ns.map V.int).length : Nat) : Int) < 6 then (((ns.map V.int).length : Nat) : Int) else (6 : Int)) > 1 then (if (((ns.map V.int).length : Nat) : Int) < 6 then (((ns.map V.int).length : Nat) : Int) else (6 : Int)) else 1) = c
    have c0 : 1 ≤ c ∧ c ≤ 6 := by
      rw [← ec]
      split <;> split <;> omega
    refine ⟨c, rfl, by omega, by omega, for_range (lo := 0) (n := c.toNat) (fun i σ H' => (∃ y1 y2 y3 y4, σ = [some (.ref sc), y1, y2, y3, y4]) ∧ Same H H') ⟨⟨_, _, _, _, rfl⟩, Same.refl _⟩ (fun i σ H' hi h => ?_) (fun σ H' h => ?_)⟩
    · obtain ⟨⟨y1, y2, y3, y4, rfl⟩, sm⟩ := h
      refine ⟨_, rfl, _, rfl, sc, ns, i, congrArg (fun z => [V.ref sc, V.int z]) (Int.zero_add _), sm.seq hS, by omega, fun H2 src s2 nsrc hs2 => ?_⟩
      refine ⟨_, rfl, Nat.zero_le _, fun em n_em => ?_⟩
      have b2 : Bt src H' (upd H2 em (.lst [])) := .of (s2.trans (same_new n_em))
      have g2 := hs2.new (o := .lst []) n_em
      have f_em : (upd H2 em (.lst [])) em = some (.lst []) := upd_same
      have hSe : SqL K (upd H2 em (.lst [])) sc (ns.map V.int) := ((sm.trans s2).trans (same_new n_em)).seq hS
      generalize upd H2 em (.lst []) = H3 at b2 g2 f_em hSe ⊢
      by_cases hb : ns = []
      · refine ⟨dI ns, dI [], dp_ints hSe, dp_ints (ns := []) (.of f_em), shaped_ints _, shaped_ints _, true, eqvT hb, 1, rfl, by decide, by decide, for_range (lo := 0) (n := 1) (fun j σ H5 => (∃ y3 y4, σ = [some (.ref sc), some (.int (0 + (i : Int))), some (.ref src), y3, y4]) ∧ Src H5 src (2000 * j) ∧ Bt src H' H5) ⟨⟨_, _, rfl⟩, g2, b2⟩ (fun j σ H5 hj h => ?_) (fun σ H5 h => ?_)⟩
        · obtain ⟨⟨y3, y4, rfl⟩, g5, b5⟩ := h
          refine ⟨_, rfl, _, rfl, src, sc, ns, 2000 * j, H', rfl, g5, by omega, sm.seq hS, nsrc, b5, fun H6 bs ok u1 pos l200 b6 g6 => ?_⟩
          refine ⟨_, rfl, _, rfl, src, bs, 2000 * j + 500, rfl, g6, by omega, ok, u1, pos, l200, fun H7 b7 g7 => ⟨true, rfl, iteF ?_⟩⟩
          exact ⟨_, rfl, _, rfl, src, bs, 2000 * j + 800, rfl, g7, by omega, ok, u1, pos, fun H8 b8 g8 => ⟨true, rfl, iteF ⟨⟨_, _, rfl⟩, g8.mono (by omega), ((b5.trans b6).trans b7).trans b8⟩⟩⟩
        · obtain ⟨⟨y3, y4, rfl⟩, g5, b5⟩ := h
          exact ⟨⟨_, _, _, _, rfl⟩, fun b o e => b5 b o (ne_of_none (sm _ _ e) nsrc) (sm _ _ e)⟩
      · refine ⟨dI ns, dI [], dp_ints hSe, dp_ints (ns := []) (.of f_em), shaped_ints _, shaped_ints _, false, eqvF hb, 3, rfl, by decide, by decide, for_range (lo := 0) (n := 3) (fun j σ H5 => (∃ y3 y4, σ = [some (.ref sc), some (.int (0 + (i : Int))), some (.ref src), y3, y4]) ∧ Src H5 src (2000 * j) ∧ Bt src H' H5) ⟨⟨_, _, rfl⟩, g2, b2⟩ (fun j σ H5 hj h => ?_) (fun σ H5 h => ?_)⟩
        · obtain ⟨⟨y3, y4, rfl⟩, g5, b5⟩ := h
          refine ⟨_, rfl, _, rfl, src, sc, ns, 2000 * j, H', rfl, g5, by omega, sm.seq hS, nsrc, b5, fun H6 bs ok u1 pos l200 b6 g6 => ?_⟩
          refine ⟨_, rfl, _, rfl, src, bs, 2000 * j + 500, rfl, g6, by omega, ok, u1, pos, l200, fun H7 b7 g7 => ⟨true, rfl, iteF ?_⟩⟩
          exact ⟨_, rfl, _, rfl, src, bs, 2000 * j + 800, rfl, g7, by omega, ok, u1, pos, fun H8 b8 g8 => ⟨true, rfl, iteF ⟨⟨_, _, rfl⟩, g8.mono (by omega), ((b5.trans b6).trans b7).trans b8⟩⟩⟩
        · obtain ⟨⟨y3, y4, rfl⟩, g5, b5⟩ := h
          exact ⟨⟨_, _, _, _, rfl⟩, fun b o e => b5 b o (ne_of_none (sm _ _ e) nsrc) (sm _ _ e)⟩
    · exact q _
end
theorem within_good {K : PySem.W.Frag} : ∀ vs H Q E, spWithin vs H Q E → spWithinO K vs H Q E := by
  rintro vs H Q E ⟨i, lo, hi, rfl, h1, h2, q⟩
  refine ⟨.int i, .int i, lo, hi, rfl, .int i, ?_⟩
  have e : numB lo hi (.int i) = true := numB_iff.mpr ⟨i, rfl, h1, h2⟩
  rw [e]
  exact q
end L59
set_option Elab.async false
set_option linter.all false
set_option maxRecDepth 100000
namespace L59
open PySem PySem.Spec PyProof.Rows L2 Lp
set_option maxHeartbeats 0 in
theorem all_mk {l : PySem.W.OpenLaw} {w : World} {K : PySem.W.Frag} {h : Heap} {mg : Str → Option Value} {fa : Addr} (X : K.In h) (G : h.Ns mainGlobals mg) (hfa : mg "law" = some (.ref fa))
    {f0 : Addr} {oc0 kV0 dc0 pm0 cd0 ct0 : Value} {od0 an0 : Option Addr} {sl0 : Array (Option Value)}
    (a0 : PySem.W.nsIn K mainGlobals "is_integer" = some (some (.ref f0))) (l0 : K.lookup f0 = some ⟨oc0, od0, .func (PySem.W.fnOf "is_integer" "is_integer" (defArgs s_is_integer) (defBody s_is_integer) (defScope s_is_integer) .none kV0 dc0 pm0 an0 cd0 ct0), sl0⟩) (c0 : PySem.W.codeIn K cd0 "is_integer" = true) (k0 : PySem.W.keepIn K (.ref f0) = true)
    {f1 : Addr} {oc1 kV1 dc1 pm1 cd1 ct1 : Value} {od1 an1 : Option Addr} {sl1 : Array (Option Value)}
    (a1 : PySem.W.nsIn K mainGlobals "is_integer_within" = some (some (.ref f1))) (l1 : K.lookup f1 = some ⟨oc1, od1, .func (PySem.W.fnOf "is_integer_within" "is_integer_within" (defArgs s_is_integer_within) (defBody s_is_integer_within) (defScope s_is_integer_within) .none kV1 dc1 pm1 an1 cd1 ct1), sl1⟩) (c1 : PySem.W.codeIn K cd1 "is_integer_within" = true) (k1 : PySem.W.keepIn K (.ref f1) = true)
    {f2 : Addr} {oc2 kV2 dc2 pm2 cd2 ct2 : Value} {od2 an2 : Option Addr} {sl2 : Array (Option Value)}
    (a2 : PySem.W.nsIn K mainGlobals "are_integers" = some (some (.ref f2))) (l2 : K.lookup f2 = some ⟨oc2, od2, .func (PySem.W.fnOf "are_integers" "are_integers" (defArgs s_are_integers) (defBody s_are_integers) (defScope s_are_integers) .none kV2 dc2 pm2 an2 cd2 ct2), sl2⟩) (c2 : PySem.W.codeIn K cd2 "are_integers" = true) (k2 : PySem.W.keepIn K (.ref f2) = true)
    {f3 : Addr} {oc3 kV3 dc3 pm3 cd3 ct3 : Value} {od3 an3 : Option Addr} {sl3 : Array (Option Value)}
    (a3 : PySem.W.nsIn K mainGlobals "check_number" = some (some (.ref f3))) (l3 : K.lookup f3 = some ⟨oc3, od3, .func (PySem.W.fnOf "check_number" "check_number" (defArgs s_check_number) (defBody s_check_number) (defScope s_check_number) .none kV3 dc3 pm3 an3 cd3 ct3), sl3⟩) (c3 : PySem.W.codeIn K cd3 "check_number" = true) (k3 : PySem.W.keepIn K (.ref f3) = true)
    {f4 : Addr} {oc4 kV4 dc4 pm4 cd4 ct4 : Value} {od4 an4 : Option Addr} {sl4 : Array (Option Value)}
    (a4 : PySem.W.nsIn K mainGlobals "check_index" = some (some (.ref f4))) (l4 : K.lookup f4 = some ⟨oc4, od4, .func (PySem.W.fnOf "check_index" "check_index" (defArgs s_check_index) (defBody s_check_index) (defScope s_check_index) .none kV4 dc4 pm4 an4 cd4 ct4), sl4⟩) (c4 : PySem.W.codeIn K cd4 "check_index" = true) (k4 : PySem.W.keepIn K (.ref f4) = true)
    {f5 : Addr} {oc5 kV5 dc5 pm5 cd5 ct5 : Value} {od5 an5 : Option Addr} {sl5 : Array (Option Value)}
    (a5 : PySem.W.nsIn K mainGlobals "are_events" = some (some (.ref f5))) (l5 : K.lookup f5 = some ⟨oc5, od5, .func (PySem.W.fnOf "are_events" "are_events" (defArgs s_are_events) (defBody s_are_events) (defScope s_are_events) .none kV5 dc5 pm5 an5 cd5 ct5), sl5⟩) (c5 : PySem.W.codeIn K cd5 "are_events" = true) (k5 : PySem.W.keepIn K (.ref f5) = true)
    {f6 : Addr} {oc6 kV6 dc6 pm6 cd6 ct6 : Value} {od6 an6 : Option Addr} {sl6 : Array (Option Value)}
    (a6 : PySem.W.nsIn K mainGlobals "is_history" = some (some (.ref f6))) (l6 : K.lookup f6 = some ⟨oc6, od6, .func (PySem.W.fnOf "is_history" "is_history" (defArgs s_is_history) (defBody s_is_history) (defScope s_is_history) .none kV6 dc6 pm6 an6 cd6 ct6), sl6⟩) (c6 : PySem.W.codeIn K cd6 "is_history" = true) (k6 : PySem.W.keepIn K (.ref f6) = true)
    {f7 : Addr} {oc7 kV7 dc7 pm7 cd7 ct7 : Value} {od7 an7 : Option Addr} {sl7 : Array (Option Value)}
    (a7 : PySem.W.nsIn K mainGlobals "check_history" = some (some (.ref f7))) (l7 : K.lookup f7 = some ⟨oc7, od7, .func (PySem.W.fnOf "check_history" "check_history" (defArgs s_check_history) (defBody s_check_history) (defScope s_check_history) .none kV7 dc7 pm7 an7 cd7 ct7), sl7⟩) (c7 : PySem.W.codeIn K cd7 "check_history" = true) (k7 : PySem.W.keepIn K (.ref f7) = true)
    {f8 : Addr} {oc8 kV8 dc8 pm8 cd8 ct8 : Value} {od8 an8 : Option Addr} {sl8 : Array (Option Value)}
    (a8 : PySem.W.nsIn K mainGlobals "starts_of" = some (some (.ref f8))) (l8 : K.lookup f8 = some ⟨oc8, od8, .func (PySem.W.fnOf "starts_of" "starts_of" (defArgs s_starts_of) (defBody s_starts_of) (defScope s_starts_of) .none kV8 dc8 pm8 an8 cd8 ct8), sl8⟩) (c8 : PySem.W.codeIn K cd8 "starts_of" = true) (k8 : PySem.W.keepIn K (.ref f8) = true)
    {f9 : Addr} {oc9 kV9 dc9 pm9 cd9 ct9 : Value} {od9 an9 : Option Addr} {sl9 : Array (Option Value)}
    (a9 : PySem.W.nsIn K mainGlobals "is_plain" = some (some (.ref f9))) (l9 : K.lookup f9 = some ⟨oc9, od9, .func (PySem.W.fnOf "is_plain" "is_plain" (defArgs s_is_plain) (defBody s_is_plain) (defScope s_is_plain) .none kV9 dc9 pm9 an9 cd9 ct9), sl9⟩) (c9 : PySem.W.codeIn K cd9 "is_plain" = true) (k9 : PySem.W.keepIn K (.ref f9) = true)
    {f10 : Addr} {oc10 kV10 dc10 pm10 cd10 ct10 : Value} {od10 an10 : Option Addr} {sl10 : Array (Option Value)}
    (a10 : PySem.W.nsIn K mainGlobals "is_shape" = some (some (.ref f10))) (l10 : K.lookup f10 = some ⟨oc10, od10, .func (PySem.W.fnOf "is_shape" "is_shape" (defArgs s_is_shape) (defBody s_is_shape) (defScope s_is_shape) .none kV10 dc10 pm10 an10 cd10 ct10), sl10⟩) (c10 : PySem.W.codeIn K cd10 "is_shape" = true) (k10 : PySem.W.keepIn K (.ref f10) = true)
    {f11 : Addr} {oc11 kV11 dc11 pm11 cd11 ct11 : Value} {od11 an11 : Option Addr} {sl11 : Array (Option Value)}
    (a11 : PySem.W.nsIn K mainGlobals "_check_shape" = some (some (.ref f11))) (l11 : K.lookup f11 = some ⟨oc11, od11, .func (PySem.W.fnOf "_check_shape" "_check_shape" (defArgs s_check_shape) (defBody s_check_shape) (defScope s_check_shape) .none kV11 dc11 pm11 an11 cd11 ct11), sl11⟩) (c11 : PySem.W.codeIn K cd11 "_check_shape" = true) (k11 : PySem.W.keepIn K (.ref f11) = true)
    {f12 : Addr} {oc12 kV12 dc12 pm12 cd12 ct12 : Value} {od12 an12 : Option Addr} {sl12 : Array (Option Value)}
    (a12 : PySem.W.nsIn K mainGlobals "shape_of" = some (some (.ref f12))) (l12 : K.lookup f12 = some ⟨oc12, od12, .func (PySem.W.fnOf "shape_of" "shape_of" (defArgs s_shape_of) (defBody s_shape_of) (defScope s_shape_of) .none kV12 dc12 pm12 an12 cd12 ct12), sl12⟩) (c12 : PySem.W.codeIn K cd12 "shape_of" = true) (k12 : PySem.W.keepIn K (.ref f12) = true)
    {f13 : Addr} {oc13 kV13 dc13 pm13 cd13 ct13 : Value} {od13 an13 : Option Addr} {sl13 : Array (Option Value)}
    (a13 : PySem.W.nsIn K mainGlobals "count_in_shape" = some (some (.ref f13))) (l13 : K.lookup f13 = some ⟨oc13, od13, .func (PySem.W.fnOf "count_in_shape" "count_in_shape" (defArgs s_count_in_shape) (defBody s_count_in_shape) (defScope s_count_in_shape) .none kV13 dc13 pm13 an13 cd13 ct13), sl13⟩) (c13 : PySem.W.codeIn K cd13 "count_in_shape" = true) (k13 : PySem.W.keepIn K (.ref f13) = true)
    {f14 : Addr} {oc14 kV14 dc14 pm14 cd14 ct14 : Value} {od14 an14 : Option Addr} {sl14 : Array (Option Value)}
    (a14 : PySem.W.nsIn K mainGlobals "count_survivors" = some (some (.ref f14))) (l14 : K.lookup f14 = some ⟨oc14, od14, .func (PySem.W.fnOf "count_survivors" "count_survivors" (defArgs s_count_survivors) (defBody s_count_survivors) (defScope s_count_survivors) .none kV14 dc14 pm14 an14 cd14 ct14), sl14⟩) (c14 : PySem.W.codeIn K cd14 "count_survivors" = true) (k14 : PySem.W.keepIn K (.ref f14) = true)
    {f15 : Addr} {oc15 kV15 dc15 pm15 cd15 ct15 : Value} {od15 an15 : Option Addr} {sl15 : Array (Option Value)}
    (a15 : PySem.W.nsIn K mainGlobals "nth_in_shape" = some (some (.ref f15))) (l15 : K.lookup f15 = some ⟨oc15, od15, .func (PySem.W.fnOf "nth_in_shape" "nth_in_shape" (defArgs s_nth_in_shape) (defBody s_nth_in_shape) (defScope s_nth_in_shape) .none kV15 dc15 pm15 an15 cd15 ct15), sl15⟩) (c15 : PySem.W.codeIn K cd15 "nth_in_shape" = true) (k15 : PySem.W.keepIn K (.ref f15) = true)
    {f16 : Addr} {oc16 kV16 dc16 pm16 cd16 ct16 : Value} {od16 an16 : Option Addr} {sl16 : Array (Option Value)}
    (a16 : PySem.W.nsIn K mainGlobals "shape_rank" = some (some (.ref f16))) (l16 : K.lookup f16 = some ⟨oc16, od16, .func (PySem.W.fnOf "shape_rank" "shape_rank" (defArgs s_shape_rank) (defBody s_shape_rank) (defScope s_shape_rank) .none kV16 dc16 pm16 an16 cd16 ct16), sl16⟩) (c16 : PySem.W.codeIn K cd16 "shape_rank" = true) (k16 : PySem.W.keepIn K (.ref f16) = true)
    {f17 : Addr} {oc17 kV17 dc17 pm17 cd17 ct17 : Value} {od17 an17 : Option Addr} {sl17 : Array (Option Value)}
    (a17 : PySem.W.nsIn K mainGlobals "_law_pool" = some (some (.ref f17))) (l17 : K.lookup f17 = some ⟨oc17, od17, .func (PySem.W.fnOf "_law_pool" "_law_pool" (defArgs s_law_pool) (defBody s_law_pool) (defScope s_law_pool) .none kV17 dc17 pm17 an17 cd17 ct17), sl17⟩) (c17 : PySem.W.codeIn K cd17 "_law_pool" = true) (k17 : PySem.W.keepIn K (.ref f17) = true)
    {f18 : Addr} {oc18 kV18 dc18 pm18 cd18 ct18 : Value} {od18 an18 : Option Addr} {sl18 : Array (Option Value)}
    (a18 : PySem.W.nsIn K mainGlobals "_law_draw" = some (some (.ref f18))) (l18 : K.lookup f18 = some ⟨oc18, od18, .func (PySem.W.fnOf "_law_draw" "_law_draw" (defArgs s_law_draw) (defBody s_law_draw) (defScope s_law_draw) .none kV18 dc18 pm18 an18 cd18 ct18), sl18⟩) (c18 : PySem.W.codeIn K cd18 "_law_draw" = true) (k18 : PySem.W.keepIn K (.ref f18) = true)
    {f19 : Addr} {oc19 kV19 dc19 pm19 cd19 ct19 : Value} {od19 an19 : Option Addr} {sl19 : Array (Option Value)}
    (a19 : PySem.W.nsIn K mainGlobals "_law_signs" = some (some (.ref f19))) (l19 : K.lookup f19 = some ⟨oc19, od19, .func (PySem.W.fnOf "_law_signs" "_law_signs" (defArgs s_law_signs) (defBody s_law_signs) (defScope s_law_signs) .none kV19 dc19 pm19 an19 cd19 ct19), sl19⟩) (c19 : PySem.W.codeIn K cd19 "_law_signs" = true) (k19 : PySem.W.keepIn K (.ref f19) = true)
    {f20 : Addr} {oc20 kV20 dc20 pm20 cd20 ct20 : Value} {od20 an20 : Option Addr} {sl20 : Array (Option Value)}
    (a20 : PySem.W.nsIn K mainGlobals "_law_ways" = some (some (.ref f20))) (l20 : K.lookup f20 = some ⟨oc20, od20, .func (PySem.W.fnOf "_law_ways" "_law_ways" (defArgs s_law_ways) (defBody s_law_ways) (defScope s_law_ways) .none kV20 dc20 pm20 an20 cd20 ct20), sl20⟩) (c20 : PySem.W.codeIn K cd20 "_law_ways" = true) (k20 : PySem.W.keepIn K (.ref f20) = true)
    {f21 : Addr} {oc21 kV21 dc21 pm21 cd21 ct21 : Value} {od21 an21 : Option Addr} {sl21 : Array (Option Value)}
    (a21 : PySem.W.nsIn K mainGlobals "_law_row" = some (some (.ref f21))) (l21 : K.lookup f21 = some ⟨oc21, od21, .func (PySem.W.fnOf "_law_row" "_law_row" (defArgs s_law_row) (defBody s_law_row) (defScope s_law_row) .none kV21 dc21 pm21 an21 cd21 ct21), sl21⟩) (c21 : PySem.W.codeIn K cd21 "_law_row" = true) (k21 : PySem.W.keepIn K (.ref f21) = true)
    {f22 : Addr} {oc22 kV22 dc22 pm22 cd22 ct22 : Value} {od22 an22 : Option Addr} {sl22 : Array (Option Value)}
    (a22 : PySem.W.nsIn K mainGlobals "_law_said" = some (some (.ref f22))) (l22 : K.lookup f22 = some ⟨oc22, od22, .func (PySem.W.fnOf "_law_said" "_law_said" (defArgs s_law_said) (defBody s_law_said) (defScope s_law_said) .none kV22 dc22 pm22 an22 cd22 ct22), sl22⟩) (c22 : PySem.W.codeIn K cd22 "_law_said" = true) (k22 : PySem.W.keepIn K (.ref f22) = true)
    {f23 : Addr} {oc23 kV23 dc23 pm23 cd23 ct23 : Value} {od23 an23 : Option Addr} {sl23 : Array (Option Value)}
    (a23 : PySem.W.nsIn K mainGlobals "_law_wrong_row" = some (some (.ref f23))) (l23 : K.lookup f23 = some ⟨oc23, od23, .func (PySem.W.fnOf "_law_wrong_row" "_law_wrong_row" (defArgs s_law_wrong_row) (defBody s_law_wrong_row) (defScope s_law_wrong_row) .none kV23 dc23 pm23 an23 cd23 ct23), sl23⟩) (c23 : PySem.W.codeIn K cd23 "_law_wrong_row" = true) (k23 : PySem.W.keepIn K (.ref f23) = true)
    {f24 : Addr} {oc24 kV24 dc24 pm24 cd24 ct24 : Value} {od24 an24 : Option Addr} {sl24 : Array (Option Value)}
    (a24 : PySem.W.nsIn K mainGlobals "_law_told" = some (some (.ref f24))) (l24 : K.lookup f24 = some ⟨oc24, od24, .func (PySem.W.fnOf "_law_told" "_law_told" (defArgs s_law_told) (defBody s_law_told) (defScope s_law_told) .none kV24 dc24 pm24 an24 cd24 ct24), sl24⟩) (c24 : PySem.W.codeIn K cd24 "_law_told" = true) (k24 : PySem.W.keepIn K (.ref f24) = true)
    {f25 : Addr} {oc25 kV25 dc25 pm25 cd25 ct25 : Value} {od25 an25 : Option Addr} {sl25 : Array (Option Value)}
    (a25 : PySem.W.nsIn K mainGlobals "_law_wrong_signs" = some (some (.ref f25))) (l25 : K.lookup f25 = some ⟨oc25, od25, .func (PySem.W.fnOf "_law_wrong_signs" "_law_wrong_signs" (defArgs s_law_wrong_signs) (defBody s_law_wrong_signs) (defScope s_law_wrong_signs) .none kV25 dc25 pm25 an25 cd25 ct25), sl25⟩) (c25 : PySem.W.codeIn K cd25 "_law_wrong_signs" = true) (k25 : PySem.W.keepIn K (.ref f25) = true)
    {f26 : Addr} {oc26 kV26 dc26 pm26 cd26 ct26 : Value} {od26 an26 : Option Addr} {sl26 : Array (Option Value)}
    (a26 : PySem.W.nsIn K mainGlobals "_law_right" = some (some (.ref f26))) (l26 : K.lookup f26 = some ⟨oc26, od26, .func (PySem.W.fnOf "_law_right" "_law_right" (defArgs s_law_right) (defBody s_law_right) (defScope s_law_right) .none kV26 dc26 pm26 an26 cd26 ct26), sl26⟩) (c26 : PySem.W.codeIn K cd26 "_law_right" = true) (k26 : PySem.W.keepIn K (.ref f26) = true)
    {f27 : Addr} {oc27 kV27 dc27 pm27 cd27 ct27 : Value} {od27 an27 : Option Addr} {sl27 : Array (Option Value)}
    (a27 : PySem.W.nsIn K mainGlobals "_law_others" = some (some (.ref f27))) (l27 : K.lookup f27 = some ⟨oc27, od27, .func (PySem.W.fnOf "_law_others" "_law_others" (defArgs s_law_others) (defBody s_law_others) (defScope s_law_others) .none kV27 dc27 pm27 an27 cd27 ct27), sl27⟩) (c27 : PySem.W.codeIn K cd27 "_law_others" = true) (k27 : PySem.W.keepIn K (.ref f27) = true)
    {f28 : Addr} {oc28 kV28 dc28 pm28 cd28 ct28 : Value} {od28 an28 : Option Addr} {sl28 : Array (Option Value)}
    (a28 : PySem.W.nsIn K mainGlobals "_law_is_plain" = some (some (.ref f28))) (l28 : K.lookup f28 = some ⟨oc28, od28, .func (PySem.W.fnOf "_law_is_plain" "_law_is_plain" (defArgs s_law_is_plain) (defBody s_law_is_plain) (defScope s_law_is_plain) .none kV28 dc28 pm28 an28 cd28 ct28), sl28⟩) (c28 : PySem.W.codeIn K cd28 "_law_is_plain" = true) (k28 : PySem.W.keepIn K (.ref f28) = true)
    {f29 : Addr} {oc29 kV29 dc29 pm29 cd29 ct29 : Value} {od29 an29 : Option Addr} {sl29 : Array (Option Value)}
    (a29 : PySem.W.nsIn K mainGlobals "_law_rows_right" = some (some (.ref f29))) (l29 : K.lookup f29 = some ⟨oc29, od29, .func (PySem.W.fnOf "_law_rows_right" "_law_rows_right" (defArgs s_law_rows_right) (defBody s_law_rows_right) (defScope s_law_rows_right) .none kV29 dc29 pm29 an29 cd29 ct29), sl29⟩) (c29 : PySem.W.codeIn K cd29 "_law_rows_right" = true) (k29 : PySem.W.keepIn K (.ref f29) = true)
    {f30 : Addr} {oc30 kV30 dc30 pm30 cd30 ct30 : Value} {od30 an30 : Option Addr} {sl30 : Array (Option Value)}
    (a30 : PySem.W.nsIn K mainGlobals "law" = some (some (.ref f30))) (l30 : K.lookup f30 = some ⟨oc30, od30, .func (PySem.W.fnOf "law" "law" (defArgs s_law) (defBody s_law) (defScope s_law) .none kV30 dc30 pm30 an30 cd30 ct30), sl30⟩) (c30 : PySem.W.codeIn K cd30 "law" = true) (k30 : PySem.W.keepIn K (.ref f30) = true)
    {t_LAST_PATCH : Tok} (g_LAST_PATCH : PySem.W.nsIn K mainGlobals "LAST_PATCH" = some (some (.int 100 t_LAST_PATCH)))
    {t_MOST_EVENTS : Tok} (g_MOST_EVENTS : PySem.W.nsIn K mainGlobals "MOST_EVENTS" = some (some (.int 200 t_MOST_EVENTS)))
    (z_len : PySem.W.nsIn K mainGlobals "len" = some none)
    (z_list : PySem.W.nsIn K mainGlobals "list" = some none)
    (z_int : PySem.W.nsIn K mainGlobals "int" = some none)
    (z_bool : PySem.W.nsIn K mainGlobals "bool" = some none)
    (z_str : PySem.W.nsIn K mainGlobals "str" = some none)
    (z_tuple : PySem.W.nsIn K mainGlobals "tuple" = some none)
    (z_max : PySem.W.nsIn K mainGlobals "max" = some none)
    (z_min : PySem.W.nsIn K mainGlobals "min" = some none)
    (z_range : PySem.W.nsIn K mainGlobals "range" = some none)
    (z_repr : PySem.W.nsIn K mainGlobals "repr" = some none)
    (z_isinstance : PySem.W.nsIn K mainGlobals "isinstance" = some none)
    (z_type : PySem.W.nsIn K mainGlobals "type" = some none)
    (z_all : PySem.W.nsIn K mainGlobals "all" = some none)
    (z_set : PySem.W.nsIn K mainGlobals "set" = some none)
    (z_zip : PySem.W.nsIn K mainGlobals "zip" = some none)
    (z_enumerate : PySem.W.nsIn K mainGlobals "enumerate" = some none)
    (z_sorted : PySem.W.nsIn K mainGlobals "sorted" = some none)
    (z_abs : PySem.W.nsIn K mainGlobals "abs" = some none)
    (z_ValueError : PySem.W.nsIn K mainGlobals "ValueError" = some none)
    (z_divmod : PySem.W.nsIn K mainGlobals "divmod" = some none)
    {C0 : Addr} (gC0 : PySem.W.nsIn K mainGlobals "EmptyHistoryError" = some (some (.ref C0)))
    (xC0 : PySem.W.excIn K C0 [.type "ValueError", .type "Exception", .type "BaseException", .type "object"] "ValueError.__new__" = true)
    (kC0 : PySem.W.keepIn K (.ref C0) = true)
    {C1 : Addr} (gC1 : PySem.W.nsIn K mainGlobals "FullError" = some (some (.ref C1)))
    (xC1 : PySem.W.excIn K C1 [.type "ValueError", .type "Exception", .type "BaseException", .type "object"] "ValueError.__new__" = true)
    (kC1 : PySem.W.keepIn K (.ref C1) = true)
    {C2 : Addr} (gC2 : PySem.W.nsIn K mainGlobals "InvalidFormatError" = some (some (.ref C2)))
    (xC2 : PySem.W.excIn K C2 [.type "ValueError", .type "Exception", .type "BaseException", .type "object"] "ValueError.__new__" = true)
    (kC2 : PySem.W.keepIn K (.ref C2) = true)
    {C3 : Addr} (gC3 : PySem.W.nsIn K mainGlobals "InvalidHistoryError" = some (some (.ref C3)))
    (xC3 : PySem.W.excIn K C3 [.type "ValueError", .type "Exception", .type "BaseException", .type "object"] "ValueError.__new__" = true)
    (kC3 : PySem.W.keepIn K (.ref C3) = true)
    {C4 : Addr} (gC4 : PySem.W.nsIn K mainGlobals "InvalidNumberError" = some (some (.ref C4)))
    (xC4 : PySem.W.excIn K C4 [.type "ValueError", .type "Exception", .type "BaseException", .type "object"] "ValueError.__new__" = true)
    (kC4 : PySem.W.keepIn K (.ref C4) = true)
    {C5 : Addr} (gC5 : PySem.W.nsIn K mainGlobals "InvalidOrderError" = some (some (.ref C5)))
    (xC5 : PySem.W.excIn K C5 [.type "ValueError", .type "Exception", .type "BaseException", .type "object"] "ValueError.__new__" = true)
    (kC5 : PySem.W.keepIn K (.ref C5) = true)
    {C6 : Addr} (gC6 : PySem.W.nsIn K mainGlobals "InvalidPatchError" = some (some (.ref C6)))
    (xC6 : PySem.W.excIn K C6 [.type "ValueError", .type "Exception", .type "BaseException", .type "object"] "ValueError.__new__" = true)
    (kC6 : PySem.W.keepIn K (.ref C6) = true)
    {C7 : Addr} (gC7 : PySem.W.nsIn K mainGlobals "InvalidPieceError" = some (some (.ref C7)))
    (xC7 : PySem.W.excIn K C7 [.type "ValueError", .type "Exception", .type "BaseException", .type "object"] "ValueError.__new__" = true)
    (kC7 : PySem.W.keepIn K (.ref C7) = true)
    {C8 : Addr} (gC8 : PySem.W.nsIn K mainGlobals "InvalidPresentsError" = some (some (.ref C8)))
    (xC8 : PySem.W.excIn K C8 [.type "ValueError", .type "Exception", .type "BaseException", .type "object"] "ValueError.__new__" = true)
    (kC8 : PySem.W.keepIn K (.ref C8) = true)
    {C9 : Addr} (gC9 : PySem.W.nsIn K mainGlobals "InvalidShapeError" = some (some (.ref C9)))
    (xC9 : PySem.W.excIn K C9 [.type "ValueError", .type "Exception", .type "BaseException", .type "object"] "ValueError.__new__" = true)
    (kC9 : PySem.W.keepIn K (.ref C9) = true)
    {C10 : Addr} (gC10 : PySem.W.nsIn K mainGlobals "InvalidStateError" = some (some (.ref C10)))
    (xC10 : PySem.W.excIn K C10 [.type "ValueError", .type "Exception", .type "BaseException", .type "object"] "ValueError.__new__" = true)
    (kC10 : PySem.W.keepIn K (.ref C10) = true)
    {C11 : Addr} (gC11 : PySem.W.nsIn K mainGlobals "InvalidTouchesError" = some (some (.ref C11)))
    (xC11 : PySem.W.excIn K C11 [.type "ValueError", .type "Exception", .type "BaseException", .type "object"] "ValueError.__new__" = true)
    (kC11 : PySem.W.keepIn K (.ref C11) = true)
    {C12 : Addr} (gC12 : PySem.W.nsIn K mainGlobals "InvalidValueError" = some (some (.ref C12)))
    (xC12 : PySem.W.excIn K C12 [.type "ValueError", .type "Exception", .type "BaseException", .type "object"] "ValueError.__new__" = true)
    (kC12 : PySem.W.keepIn K (.ref C12) = true)
    {C13 : Addr} (gC13 : PySem.W.nsIn K mainGlobals "MismatchError" = some (some (.ref C13)))
    (xC13 : PySem.W.excIn K C13 [.type "ValueError", .type "Exception", .type "BaseException", .type "object"] "ValueError.__new__" = true)
    (kC13 : PySem.W.keepIn K (.ref C13) = true)
    {C14 : Addr} (gC14 : PySem.W.nsIn K mainGlobals "NotRunningError" = some (some (.ref C14)))
    (xC14 : PySem.W.excIn K C14 [.type "ValueError", .type "Exception", .type "BaseException", .type "object"] "ValueError.__new__" = true)
    (kC14 : PySem.W.keepIn K (.ref C14) = true)
    {C15 : Addr} (gC15 : PySem.W.nsIn K mainGlobals "OutOfOrderError" = some (some (.ref C15)))
    (xC15 : PySem.W.excIn K C15 [.type "ValueError", .type "Exception", .type "BaseException", .type "object"] "ValueError.__new__" = true)
    (kC15 : PySem.W.keepIn K (.ref C15) = true)
    {C16 : Addr} (gC16 : PySem.W.nsIn K mainGlobals "StartedError" = some (some (.ref C16)))
    (xC16 : PySem.W.excIn K C16 [.type "ValueError", .type "Exception", .type "BaseException", .type "object"] "ValueError.__new__" = true)
    (kC16 : PySem.W.keepIn K (.ref C16) = true)
    {C17 : Addr} (gC17 : PySem.W.nsIn K mainGlobals "LatepatchError" = some (some (.ref C17)))
    (xC17 : PySem.W.excIn K C17 [.type "ValueError", .type "Exception", .type "BaseException", .type "object"] "ValueError.__new__" = true)
    (kC17 : PySem.W.keepIn K (.ref C17) = true)
    (hEc : ((List.range 18).all fun d => ecB K ((Ex [C0, C1, C2, C3, C4, C5, C6, C7, C8, C9, C10, C11, C12, C13, C14, C15, C16, C17]) d)) = true)
    (hTy : ((List.range 18).all fun d => tyB K ((Ex [C0, C1, C2, C3, C4, C5, C6, C7, C8, C9, C10, C11, C12, C13, C14, C15, C16, C17]) d)) = true)
    (hSu : ((List.range 18).all fun d => (List.range 17).all fun j => decide (PySem.W.subIn K (.ref ((Ex [C0, C1, C2, C3, C4, C5, C6, C7, C8, C9, C10, C11, C12, C13, C14, C15, C16, C17]) d)) (.ref ((Ex [C0, C1, C2, C3, C4, C5, C6, C7, C8, C9, C10, C11, C12, C13, C14, C15, C16, C17]) j)) = some (decide (j = d)))) = true)
    (hLp : ((List.range 18).all fun d => decide (PySem.W.subIn K (.ref ((Ex [C0, C1, C2, C3, C4, C5, C6, C7, C8, C9, C10, C11, C12, C13, C14, C15, C16, C17]) d)) (.ref ((Ex [C0, C1, C2, C3, C4, C5, C6, C7, C8, C9, C10, C11, C12, C13, C14, C15, C16, C17]) 17)) = some true)) = true)
    (hN : PySem.W.specialIn K (.builtin "object.__class__") "__get__" = some (some (.builtin "getset_descriptor.__get__")))
    (hTk : PySem.W.takesIn K (.builtin "object.__class__") = some true) :
    ∃ fd : FuncData, (∀ (s : Shared) (v : Value), BindsTo s fd ⟨[v], []⟩ [("script", v)]) ∧ ∀ base : Heap, K.In base → base.Ns mainGlobals mg → FnG l.prog w K mg base CX0 11 fa fd ["script"] (spLaw K) := by
  have e := hfa.symm.trans (PySem.W.mg_of X G a30)
  cases e
  have B : NoB mg := ⟨PySem.W.mg_none_of X G z_len, PySem.W.mg_none_of X G z_list, PySem.W.mg_none_of X G z_int, PySem.W.mg_none_of X G z_bool, PySem.W.mg_none_of X G z_str, PySem.W.mg_none_of X G z_tuple, PySem.W.mg_none_of X G z_max, PySem.W.mg_none_of X G z_min, PySem.W.mg_none_of X G z_range, PySem.W.mg_none_of X G z_repr, PySem.W.mg_none_of X G z_isinstance, PySem.W.mg_none_of X G z_type, PySem.W.mg_none_of X G z_all, PySem.W.mg_none_of X G z_set, PySem.W.mg_none_of X G z_zip, PySem.W.mg_none_of X G z_enumerate, PySem.W.mg_none_of X G z_sorted, PySem.W.mg_none_of X G z_abs⟩
  have R : Err K mg (Ex [C0, C1, C2, C3, C4, C5, C6, C7, C8, C9, C10, C11, C12, C13, C14, C15, C16, C17]) := { c0 := PySem.W.mg_of X G gC0, x0 := xC0, k0 := kC0, c1 := PySem.W.mg_of X G gC1, x1 := xC1, k1 := kC1, c2 := PySem.W.mg_of X G gC2, x2 := xC2, k2 := kC2, c3 := PySem.W.mg_of X G gC3, x3 := xC3, k3 := kC3, c4 := PySem.W.mg_of X G gC4, x4 := xC4, k4 := kC4, c5 := PySem.W.mg_of X G gC5, x5 := xC5, k5 := kC5, c6 := PySem.W.mg_of X G gC6, x6 := xC6, k6 := kC6, c7 := PySem.W.mg_of X G gC7, x7 := xC7, k7 := kC7, c8 := PySem.W.mg_of X G gC8, x8 := xC8, k8 := kC8, c9 := PySem.W.mg_of X G gC9, x9 := xC9, k9 := kC9, c10 := PySem.W.mg_of X G gC10, x10 := xC10, k10 := kC10, c11 := PySem.W.mg_of X G gC11, x11 := xC11, k11 := kC11, c12 := PySem.W.mg_of X G gC12, x12 := xC12, k12 := kC12, c13 := PySem.W.mg_of X G gC13, x13 := xC13, k13 := kC13, c14 := PySem.W.mg_of X G gC14, x14 := xC14, k14 := kC14, c15 := PySem.W.mg_of X G gC15, x15 := xC15, k15 := kC15, c16 := PySem.W.mg_of X G gC16, x16 := xC16, k16 := kC16, c17 := PySem.W.mg_of X G gC17, x17 := xC17, k17 := kC17, ec := ec_of hEc hN hTk, kit := kit_of hSu hTy, kitL := kitL_of hLp hTy, kitV := kitV_of hTy, b := fun d h => (ty_of hTy d (by omega)).2.2.2, t := fun d h => (ty_of hTy d (by omega)).2.1, m := fun d h => exm_of hLp hTy d (by omega) }
  have F0 := fun_mk (st := s_is_integer) l0 c0 k0
  have b0 := F0.binds (ps := ["value"]) fun _ _ _ _ _ _ us hl => match us, hl with | [_], _ => rfl
  have F1 := fun_mk (st := s_is_integer_within) l1 c1 k1
  have b1 := F1.binds (ps := ["value", "least", "greatest"]) fun _ _ _ _ _ _ us hl => match us, hl with | [_, _, _], _ => rfl
  have F2 := fun_mk (st := s_are_integers) l2 c2 k2
  have b2 := F2.binds (ps := ["value", "least", "greatest", "most"]) fun _ _ _ _ _ _ us hl => match us, hl with | [_, _, _, _], _ => rfl
  have F3 := fun_mk (st := s_check_number) l3 c3 k3
  have b3 := F3.binds (ps := ["value", "least", "greatest"]) fun _ _ _ _ _ _ us hl => match us, hl with | [_, _, _], _ => rfl
  have F4 := fun_mk (st := s_check_index) l4 c4 k4
  have b4 := F4.binds (ps := ["index", "count"]) fun _ _ _ _ _ _ us hl => match us, hl with | [_, _], _ => rfl
  have F5 := fun_mk (st := s_are_events) l5 c5 k5
  have b5 := F5.binds (ps := ["value"]) fun _ _ _ _ _ _ us hl => match us, hl with | [_], _ => rfl
  have F6 := fun_mk (st := s_is_history) l6 c6 k6
  have b6 := F6.binds (ps := ["value"]) fun _ _ _ _ _ _ us hl => match us, hl with | [_], _ => rfl
  have F7 := fun_mk (st := s_check_history) l7 c7 k7
  have b7 := F7.binds (ps := ["history"]) fun _ _ _ _ _ _ us hl => match us, hl with | [_], _ => rfl
  have F8 := fun_mk (st := s_starts_of) l8 c8 k8
  have b8 := F8.binds (ps := ["history"]) fun _ _ _ _ _ _ us hl => match us, hl with | [_], _ => rfl
  have F9 := fun_mk (st := s_is_plain) l9 c9 k9
  have b9 := F9.binds (ps := ["history"]) fun _ _ _ _ _ _ us hl => match us, hl with | [_], _ => rfl
  have F10 := fun_mk (st := s_is_shape) l10 c10 k10
  have b10 := F10.binds (ps := ["value"]) fun _ _ _ _ _ _ us hl => match us, hl with | [_], _ => rfl
  have F11 := fun_mk (st := s_check_shape) l11 c11 k11
  have b11 := F11.binds (ps := ["shape"]) fun _ _ _ _ _ _ us hl => match us, hl with | [_], _ => rfl
  have F12 := fun_mk (st := s_shape_of) l12 c12 k12
  have b12 := F12.binds (ps := ["history"]) fun _ _ _ _ _ _ us hl => match us, hl with | [_], _ => rfl
  have F13 := fun_mk (st := s_count_in_shape) l13 c13 k13
  have b13 := F13.binds (ps := ["shape"]) fun _ _ _ _ _ _ us hl => match us, hl with | [_], _ => rfl
  have F14 := fun_mk (st := s_count_survivors) l14 c14 k14
  have b14 := F14.binds (ps := ["shape", "survivor"]) fun _ _ _ _ _ _ us hl => match us, hl with | [_, _], _ => rfl
  have F15 := fun_mk (st := s_nth_in_shape) l15 c15 k15
  have b15 := F15.binds (ps := ["shape", "index"]) fun _ _ _ _ _ _ us hl => match us, hl with | [_, _], _ => rfl
  have F16 := fun_mk (st := s_shape_rank) l16 c16 k16
  have b16 := F16.binds (ps := ["history"]) fun _ _ _ _ _ _ us hl => match us, hl with | [_], _ => rfl
  have F17 := fun_mk (st := s_law_pool) l17 c17 k17
  have b17 := F17.binds (ps := ["script", "k"]) fun _ _ _ _ _ _ us hl => match us, hl with | [_, _], _ => rfl
  have F18 := fun_mk (st := s_law_draw) l18 c18 k18
  have b18 := F18.binds (ps := ["pool", "many"]) fun _ _ _ _ _ _ us hl => match us, hl with | [_, _], _ => rfl
  have F19 := fun_mk (st := s_law_signs) l19 c19 k19
  have b19 := F19.binds (ps := ["pool", "script"]) fun _ _ _ _ _ _ us hl => match us, hl with | [_, _], _ => rfl
  have F20 := fun_mk (st := s_law_ways) l20 c20 k20
  have b20 := F20.binds (ps := ["signs"]) fun _ _ _ _ _ _ us hl => match us, hl with | [_], _ => rfl
  have F21 := fun_mk (st := s_law_row) l21 c21 k21
  have b21 := F21.binds (ps := ["pool", "signs"]) fun _ _ _ _ _ _ us hl => match us, hl with | [_, _], _ => rfl
  have F22 := fun_mk (st := s_law_said) l22 c22 k22
  have b22 := F22.binds (ps := ["e"]) fun _ _ _ _ _ _ us hl => match us, hl with | [_], _ => rfl
  have F23 := fun_mk (st := s_law_wrong_row) l23 c23 k23
  have b23 := F23.binds (ps := ["pool", "row"]) fun _ _ _ _ _ _ us hl => match us, hl with | [_, _], _ => rfl
  have F24 := fun_mk (st := s_law_told) l24 c24 k24
  have b24 := F24.binds (ps := ["door", "one", "number"]) fun _ _ _ _ _ _ us hl => match us, hl with | [_, _, _], _ => rfl
  have F25 := fun_mk (st := s_law_wrong_signs) l25 c25 k25
  have b25 := F25.binds (ps := ["pool", "signs"]) fun _ _ _ _ _ _ us hl => match us, hl with | [_, _], _ => rfl
  have F26 := fun_mk (st := s_law_right) l26 c26 k26
  have b26 := F26.binds (ps := ["pool", "signs"]) fun _ _ _ _ _ _ us hl => match us, hl with | [_, _], _ => rfl
  have F27 := fun_mk (st := s_law_others) l27 c27 k27
  have b27 := F27.binds (ps := ["pool", "row"]) fun _ _ _ _ _ _ us hl => match us, hl with | [_, _], _ => rfl
  have F28 := fun_mk (st := s_law_is_plain) l28 c28 k28
  have b28 := F28.binds (ps := ["row"]) fun _ _ _ _ _ _ us hl => match us, hl with | [_], _ => rfl
  have F29 := fun_mk (st := s_law_rows_right) l29 c29 k29
  have b29 := F29.binds (ps := ["pool", "signs"]) fun _ _ _ _ _ _ us hl => match us, hl with | [_, _], _ => rfl
  have F30 := fun_mk (st := s_law) l30 c30 k30
  refine ⟨PySem.W.fnOf "law" "law" (defArgs s_law) (defBody s_law) (defScope s_law) .none kV30 dc30 pm30 an30 cd30 ct30, fun s v => .of_eq rfl, fun base _ _ => ?_⟩
  have T_is_integer : Cal l.prog w K mg base 1 "is_integer" _ := ⟨f0, _, ["value"], ok_is_integer_O F0 B, PySem.W.mg_of X G a0, F0.kp, b0⟩
  have T_is_integer_within : Cal l.prog w K mg base 2 "is_integer_within" _ := ⟨f1, _, ["value", "least", "greatest"], ok_is_integer_within_O F1 T_is_integer, PySem.W.mg_of X G a1, F1.kp, b1⟩
  have T_is_integer_within_good : Cal l.prog w K mg base 2 "is_integer_within" _ := cal_weak T_is_integer_within within_good
  have T_are_integers : Cal l.prog w K mg base 3 "are_integers" _ := ⟨f2, _, ["value", "least", "greatest", "most"], ok_are_integers_O F2 B T_is_integer_within, PySem.W.mg_of X G a2, F2.kp, b2⟩
  have T_check_number : Cal l.prog w K mg base 3 "check_number" _ := ⟨f3, _, ["value", "least", "greatest"], ok_check_number F3 T_is_integer_within_good, PySem.W.mg_of X G a3, F3.kp, b3⟩
  have T_check_number_N : CalN l.prog w K mg base 3 "check_number" (SpOr spCheckN (spBadN K (Ex [C0, C1, C2, C3, C4, C5, C6, C7, C8, C9, C10, C11, C12, C13, C14, C15, C16, C17]))) := ⟨f3, _, ["value", "least", "greatest"], Lp.FnOk.or (Lp.FnOk.liftN (ok_check_number F3 T_is_integer_within_good)) (ok_check_number_B F3 R T_is_integer_within), PySem.W.mg_of X G a3, F3.kp, b3⟩
  have T_check_index : Cal l.prog w K mg base 4 "check_index" _ := ⟨f4, _, ["index", "count"], ok_check_index F4 T_check_number, PySem.W.mg_of X G a4, F4.kp, b4⟩
  have T_check_index_N : CalN l.prog w K mg base 4 "check_index" (SpOr spCI (spBadI K (Ex [C0, C1, C2, C3, C4, C5, C6, C7, C8, C9, C10, C11, C12, C13, C14, C15, C16, C17]))) := ⟨f4, _, ["index", "count"], Lp.FnOk.or (Lp.FnOk.liftN (ok_check_index F4 T_check_number)) (ok_check_index_B F4 T_check_number_N), PySem.W.mg_of X G a4, F4.kp, b4⟩
  have T_are_events : Cal l.prog w K mg base 4 "are_events" _ := ⟨f5, _, ["value"], ok_are_events_O F5 B (PySem.W.mg_of X G g_LAST_PATCH) (PySem.W.mg_of X G g_MOST_EVENTS) T_are_integers, PySem.W.mg_of X G a5, F5.kp, b5⟩
  have T_is_history : Cal l.prog w K mg base 5 "is_history" _ := ⟨f6, _, ["value"], ok_is_history_O F6 B T_are_events, PySem.W.mg_of X G a6, F6.kp, b6⟩
  have T_is_history_good : Cal l.prog w K mg base 5 "is_history" _ := cal_weak T_is_history isHist_good
  have T_check_history : Cal l.prog w K mg base 6 "check_history" _ := ⟨f7, _, ["history"], ok_check_history F7 T_is_history_good, PySem.W.mg_of X G a7, F7.kp, b7⟩
  have T_check_history_N : CalN l.prog w K mg base 6 "check_history" (spCheckX K (Ex [C0, C1, C2, C3, C4, C5, C6, C7, C8, C9, C10, C11, C12, C13, C14, C15, C16, C17])) := ⟨f7, _, ["history"], ok_check_history_X F7 R T_is_history, PySem.W.mg_of X G a7, F7.kp, b7⟩
  have T_starts_of : Cal l.prog w K mg base 1 "starts_of" _ := ⟨f8, _, ["history"], ok_starts_of F8, PySem.W.mg_of X G a8, F8.kp, b8⟩
  have T_is_plain : Cal l.prog w K mg base 7 "is_plain" _ := ⟨f9, _, ["history"], ok_is_plain F9 B T_check_history T_starts_of, PySem.W.mg_of X G a9, F9.kp, b9⟩
  have T_is_plain_N : CalN l.prog w K mg base 7 "is_plain" (SpOr (spPlain K) (spBadH K (Ex [C0, C1, C2, C3, C4, C5, C6, C7, C8, C9, C10, C11, C12, C13, C14, C15, C16, C17]))) := ⟨f9, _, ["history"], Lp.FnOk.or (Lp.FnOk.liftN (ok_is_plain F9 B T_check_history T_starts_of)) (ok_is_plain_B F9 B T_check_history_N T_starts_of), PySem.W.mg_of X G a9, F9.kp, b9⟩
  have T_is_shape : Cal l.prog w K mg base 1 "is_shape" _ := ⟨f10, _, ["value"], ok_is_shape F10 B (PySem.W.mg_of X G g_LAST_PATCH), PySem.W.mg_of X G a10, F10.kp, b10⟩
  have T_is_shape_A : Cal l.prog w K mg base 1 "is_shape" _ := ⟨f10, _, ["value"], ok_is_shape_A F10 B (PySem.W.mg_of X G g_LAST_PATCH), PySem.W.mg_of X G a10, F10.kp, b10⟩
  have T_check_shape : Cal l.prog w K mg base 2 "_check_shape" _ := ⟨f11, _, ["shape"], ok_check_shape F11 T_is_shape, PySem.W.mg_of X G a11, F11.kp, b11⟩
  have T_check_shape_N : CalN l.prog w K mg base 2 "_check_shape" (SpOr spCheckS (spBadS K (Ex [C0, C1, C2, C3, C4, C5, C6, C7, C8, C9, C10, C11, C12, C13, C14, C15, C16, C17]))) := ⟨f11, _, ["shape"], Lp.FnOk.or (Lp.FnOk.liftN (ok_check_shape F11 T_is_shape)) (ok_check_shape_B F11 R T_is_shape_A), PySem.W.mg_of X G a11, F11.kp, b11⟩
  have T_shape_of : Cal l.prog w K mg base 7 "shape_of" _ := ⟨f12, _, ["history"], ok_shape_of F12 T_check_history, PySem.W.mg_of X G a12, F12.kp, b12⟩
  have T_shape_of_N : CalN l.prog w K mg base 7 "shape_of" (SpOr (spShapeOf K) (spBadH K (Ex [C0, C1, C2, C3, C4, C5, C6, C7, C8, C9, C10, C11, C12, C13, C14, C15, C16, C17]))) := ⟨f12, _, ["history"], Lp.FnOk.or (Lp.FnOk.liftN (ok_shape_of F12 T_check_history)) (ok_shape_of_B F12 T_check_history_N), PySem.W.mg_of X G a12, F12.kp, b12⟩
  have T_shape_of_K : CalNk l.prog w K mg base 7 "shape_of" 0 ["history"] gApp (SpOr (spShapeOf K) (spBadH K (Ex [C0, C1, C2, C3, C4, C5, C6, C7, C8, C9, C10, C11, C12, C13, C14, C15, C16, C17]))) := ⟨f12, _, ["history"], _, Lp.FnOk.or (Lp.FnOk.liftN (ok_shape_of F12 T_check_history)) (ok_shape_of_B F12 T_check_history_N), PySem.W.mg_of X G a12, F12.kp, kb_of F12 0 ["history"] gApp kb_gApp fun _ _ _ _ _ _ us ws l1 l2 => match us, ws, l1, l2 with | [], [_], _, _ => rfl⟩
  have T_count_in_shape : Cal l.prog w K mg base 3 "count_in_shape" _ := ⟨f13, _, ["shape"], ok_count_in_shape F13 T_check_shape, PySem.W.mg_of X G a13, F13.kp, b13⟩
  have T_count_in_shape_N : CalN l.prog w K mg base 3 "count_in_shape" (SpOr spCount (spBadS K (Ex [C0, C1, C2, C3, C4, C5, C6, C7, C8, C9, C10, C11, C12, C13, C14, C15, C16, C17]))) := ⟨f13, _, ["shape"], Lp.FnOk.or (Lp.FnOk.liftN (ok_count_in_shape F13 T_check_shape)) (ok_count_in_shape_B F13 T_check_shape_N), PySem.W.mg_of X G a13, F13.kp, b13⟩
  have T_count_in_shape_K : CalNk l.prog w K mg base 3 "count_in_shape" 0 ["shape"] gApp (SpOr spCount (spBadS K (Ex [C0, C1, C2, C3, C4, C5, C6, C7, C8, C9, C10, C11, C12, C13, C14, C15, C16, C17]))) := ⟨f13, _, ["shape"], _, Lp.FnOk.or (Lp.FnOk.liftN (ok_count_in_shape F13 T_check_shape)) (ok_count_in_shape_B F13 T_check_shape_N), PySem.W.mg_of X G a13, F13.kp, kb_of F13 0 ["shape"] gApp kb_gApp fun _ _ _ _ _ _ us ws l1 l2 => match us, ws, l1, l2 with | [], [_], _, _ => rfl⟩
  have T_count_survivors : Cal l.prog w K mg base 4 "count_survivors" _ := ⟨f14, _, ["shape", "survivor"], ok_count_survivors F14 T_check_shape T_check_number, PySem.W.mg_of X G a14, F14.kp, b14⟩
  have T_count_survivors_N : CalN l.prog w K mg base 4 "count_survivors" (SpOr spSurv (spBadSN K (Ex [C0, C1, C2, C3, C4, C5, C6, C7, C8, C9, C10, C11, C12, C13, C14, C15, C16, C17]) (fun bs => ((upsN bs : Nat) : Int)))) := ⟨f14, _, ["shape", "survivor"], Lp.FnOk.or (Lp.FnOk.liftN (ok_count_survivors F14 T_check_shape T_check_number)) (ok_count_survivors_B F14 T_check_shape_N T_check_number_N), PySem.W.mg_of X G a14, F14.kp, b14⟩
  have T_nth_in_shape : Cal l.prog w K mg base 5 "nth_in_shape" _ := ⟨f15, _, ["shape", "index"], ok_nth_in_shape F15 (PySem.W.mg_none_of X G z_divmod) B T_count_in_shape T_check_index, PySem.W.mg_of X G a15, F15.kp, b15⟩
  have T_nth_in_shape_N : CalN l.prog w K mg base 5 "nth_in_shape" (SpOr spNth (spBadSN K (Ex [C0, C1, C2, C3, C4, C5, C6, C7, C8, C9, C10, C11, C12, C13, C14, C15, C16, C17]) (fun bs => ((waysN bs : Nat) : Int) - 1))) := ⟨f15, _, ["shape", "index"], Lp.FnOk.or (Lp.FnOk.liftN (ok_nth_in_shape F15 (PySem.W.mg_none_of X G z_divmod) B T_count_in_shape T_check_index)) (ok_nth_in_shape_B F15 (PySem.W.mg_none_of X G z_divmod) B T_count_in_shape_N T_check_index_N), PySem.W.mg_of X G a15, F15.kp, b15⟩
  have T_nth_in_shape_K : CalNk l.prog w K mg base 5 "nth_in_shape" 0 ["index", "shape"] gRev (SpOr spNth (spBadSN K (Ex [C0, C1, C2, C3, C4, C5, C6, C7, C8, C9, C10, C11, C12, C13, C14, C15, C16, C17]) (fun bs => ((waysN bs : Nat) : Int) - 1))) := ⟨f15, _, ["shape", "index"], _, Lp.FnOk.or (Lp.FnOk.liftN (ok_nth_in_shape F15 (PySem.W.mg_none_of X G z_divmod) B T_count_in_shape T_check_index)) (ok_nth_in_shape_B F15 (PySem.W.mg_none_of X G z_divmod) B T_count_in_shape_N T_check_index_N), PySem.W.mg_of X G a15, F15.kp, kb_of F15 0 ["index", "shape"] gRev kb_gRev fun _ _ _ _ _ _ us ws l1 l2 => match us, ws, l1, l2 with | [], [_, _], _, _ => rfl⟩
  have T_shape_rank : Cal l.prog w K mg base 8 "shape_rank" _ := ⟨f16, _, ["history"], ok_shape_rank_A F16 B T_is_plain, PySem.W.mg_of X G a16, F16.kp, b16⟩
  have T_shape_rank_N : CalN l.prog w K mg base 8 "shape_rank" (SpOr (spRankA K) (spBadR K (Ex [C0, C1, C2, C3, C4, C5, C6, C7, C8, C9, C10, C11, C12, C13, C14, C15, C16, C17]))) := ⟨f16, _, ["history"], Lp.FnOk.or (Lp.FnOk.liftN (ok_shape_rank_A F16 B T_is_plain)) (ok_shape_rank_B F16 B R T_is_plain_N), PySem.W.mg_of X G a16, F16.kp, b16⟩
  have T_law_pool : Gc l.prog w K mg base 1 "_law_pool" _ := ⟨f17, _, ["script", "k"], ok_law_pool F17 B, PySem.W.mg_of X G a17, F17.kp, b17⟩
  have T_law_draw : Gc l.prog w K mg base 1 "_law_draw" _ := ⟨f18, _, ["pool", "many"], ok_law_draw F18, PySem.W.mg_of X G a18, F18.kp, b18⟩
  have T_law_signs : Gc l.prog w K mg base 2 "_law_signs" _ := ⟨f19, _, ["pool", "script"], ok_law_signs F19 B T_law_draw, PySem.W.mg_of X G a19, F19.kp, b19⟩
  have T_law_ways : Gc l.prog w K mg base 1 "_law_ways" _ := ⟨f20, _, ["signs"], ok_law_ways F20 B, PySem.W.mg_of X G a20, F20.kp, b20⟩
  have T_law_row : Gc l.prog w K mg base 2 "_law_row" _ := ⟨f21, _, ["pool", "signs"], ok_law_row F21 B T_law_draw, PySem.W.mg_of X G a21, F21.kp, b21⟩
  have T_law_said : CalE2 l.prog w K mg base 1 "_law_said" _ := ⟨f22, _, ["e"], ok_law_said F22 B R (PySem.W.mg_none_of X G z_ValueError), PySem.W.mg_of X G a22, F22.kp, b22⟩
  have T_law_wrong_row : Gc l.prog w K mg base 2 "_law_wrong_row" _ := ⟨f23, _, ["pool", "row"], ok_law_wrong_row F23 B T_law_draw, PySem.W.mg_of X G a23, F23.kp, b23⟩
  have T_law_told : Gc l.prog w K mg base 9 "_law_told" _ := ⟨f24, _, ["door", "one", "number"], ok_law_told F24 B R T_count_in_shape_K T_count_survivors_N T_nth_in_shape_N T_nth_in_shape_K T_shape_of_K T_shape_rank_N T_law_said, PySem.W.mg_of X G a24, F24.kp, b24⟩
  have T_law_wrong_signs : Gc l.prog w K mg base 2 "_law_wrong_signs" _ := ⟨f25, _, ["pool", "signs"], ok_law_wrong_signs F25 B T_law_draw, PySem.W.mg_of X G a25, F25.kp, b25⟩
  have T_law_right : Gc l.prog w K mg base 10 "_law_right" _ := ⟨f26, _, ["pool", "signs"], ok_law_right F26 B T_law_draw T_law_wrong_signs T_law_row T_law_ways T_law_told, PySem.W.mg_of X G a26, F26.kp, b26⟩
  have T_law_others : Gc l.prog w K mg base 2 "_law_others" _ := ⟨f27, _, ["pool", "row"], ok_law_others F27 B T_law_draw, PySem.W.mg_of X G a27, F27.kp, b27⟩
  have T_law_is_plain : Gc l.prog w K mg base 1 "_law_is_plain" _ := ⟨f28, _, ["row"], ok_law_is_plain F28 B, PySem.W.mg_of X G a28, F28.kp, b28⟩
  have T_law_rows_right : Gc l.prog w K mg base 10 "_law_rows_right" _ := ⟨f29, _, ["pool", "signs"], ok_law_rows_right F29 B T_law_row T_law_wrong_row T_law_others T_law_is_plain T_law_told, PySem.W.mg_of X G a29, F29.kp, b29⟩
  exact ok_law F30 B T_law_pool T_law_signs T_law_right T_law_rows_right
end L59
open PySem PySem.W PyProof.Rows
set_option maxHeartbeats 0 in
theorem PySem.Challenge.cw_latepatches_k59_errors_of_shapes_holds : PySem.Challenge.rw_latepatches_k59_errors_of_shapes.Holds := by
  w_on; o_law; k_head; (case hw => w_witness2)
  k_fill
  refine Lp.walk_ofG (l := PySem.Challenge.rw_latepatches_k59_errors_of_shapes) (n := 63) (k := 11) (x := "script") (CX := fun _ => L2.CX0) (sp := fun w => L59.spLaw _) rfl (by decide) rfl ⟨rfl, by decide, by decide⟩ (fun w h Y => PySem.W.kIn_of Y) ?F (fun _ _ a ns hl _ hS => ⟨a, ns, rfl, hS, hl, fun _ => rfl⟩) (fun _ _ _ _ _ h => h)
  case F =>
    intro w mg fa h KX G hmg
    refine' L59.all_mk KX G hmg ?a0 ?l0 ?c0 ?k0 ?a1 ?l1 ?c1 ?k1 ?a2 ?l2 ?c2 ?k2 ?a3 ?l3 ?c3 ?k3 ?a4 ?l4 ?c4 ?k4 ?a5 ?l5 ?c5 ?k5 ?a6 ?l6 ?c6 ?k6 ?a7 ?l7 ?c7 ?k7 ?a8 ?l8 ?c8 ?k8 ?a9 ?l9 ?c9 ?k9 ?a10 ?l10 ?c10 ?k10 ?a11 ?l11 ?c11 ?k11 ?a12 ?l12 ?c12 ?k12 ?a13 ?l13 ?c13 ?k13 ?a14 ?l14 ?c14 ?k14 ?a15 ?l15 ?c15 ?k15 ?a16 ?l16 ?c16 ?k16 ?a17 ?l17 ?c17 ?k17 ?a18 ?l18 ?c18 ?k18 ?a19 ?l19 ?c19 ?k19 ?a20 ?l20 ?c20 ?k20 ?a21 ?l21 ?c21 ?k21 ?a22 ?l22 ?c22 ?k22 ?a23 ?l23 ?c23 ?k23 ?a24 ?l24 ?c24 ?k24 ?a25 ?l25 ?c25 ?k25 ?a26 ?l26 ?c26 ?k26 ?a27 ?l27 ?c27 ?k27 ?a28 ?l28 ?c28 ?k28 ?a29 ?l29 ?c29 ?k29 ?a30 ?l30 ?c30 ?k30 ?g_LAST_PATCH ?g_MOST_EVENTS ?z_len ?z_list ?z_int ?z_bool ?z_str ?z_tuple ?z_max ?z_min ?z_range ?z_repr ?z_isinstance ?z_type ?z_all ?z_set ?z_zip ?z_enumerate ?z_sorted ?z_abs ?z_ValueError ?z_divmod ?gC0 ?xC0 ?kC0 ?gC1 ?xC1 ?kC1 ?gC2 ?xC2 ?kC2 ?gC3 ?xC3 ?kC3 ?gC4 ?xC4 ?kC4 ?gC5 ?xC5 ?kC5 ?gC6 ?xC6 ?kC6 ?gC7 ?xC7 ?kC7 ?gC8 ?xC8 ?kC8 ?gC9 ?xC9 ?kC9 ?gC10 ?xC10 ?kC10 ?gC11 ?xC11 ?kC11 ?gC12 ?xC12 ?kC12 ?gC13 ?xC13 ?kC13 ?gC14 ?xC14 ?kC14 ?gC15 ?xC15 ?kC15 ?gC16 ?xC16 ?kC16 ?gC17 ?xC17 ?kC17 ?hEc ?hTy ?hSu ?hLp ?hN ?hTk
    (case a0 => k_is); (case l0 => k_is); (case c0 => k_is); (case k0 => k_is); (case a1 => k_is); (case l1 => k_is); (case c1 => k_is); (case k1 => k_is); (case a2 => k_is); (case l2 => k_is); (case c2 => k_is); (case k2 => k_is); (case a3 => k_is); (case l3 => k_is); (case c3 => k_is); (case k3 => k_is); (case a4 => k_is); (case l4 => k_is); (case c4 => k_is); (case k4 => k_is); (case a5 => k_is); (case l5 => k_is); (case c5 => k_is); (case k5 => k_is); (case a6 => k_is); (case l6 => k_is); (case c6 => k_is); (case k6 => k_is); (case a7 => k_is); (case l7 => k_is); (case c7 => k_is); (case k7 => k_is); (case a8 => k_is); (case l8 => k_is); (case c8 => k_is); (case k8 => k_is); (case a9 => k_is); (case l9 => k_is); (case c9 => k_is); (case k9 => k_is); (case a10 => k_is); (case l10 => k_is); (case c10 => k_is); (case k10 => k_is); (case a11 => k_is); (case l11 => k_is); (case c11 => k_is); (case k11 => k_is); (case a12 => k_is); (case l12 => k_is); (case c12 => k_is); (case k12 => k_is); (case a13 => k_is); (case l13 => k_is); (case c13 => k_is); (case k13 => k_is); (case a14 => k_is); (case l14 => k_is); (case c14 => k_is); (case k14 => k_is); (case a15 => k_is); (case l15 => k_is); (case c15 => k_is); (case k15 => k_is); (case a16 => k_is); (case l16 => k_is); (case c16 => k_is); (case k16 => k_is); (case a17 => k_is); (case l17 => k_is); (case c17 => k_is); (case k17 => k_is); (case a18 => k_is); (case l18 => k_is); (case c18 => k_is); (case k18 => k_is); (case a19 => k_is); (case l19 => k_is); (case c19 => k_is); (case k19 => k_is); (case a20 => k_is); (case l20 => k_is); (case c20 => k_is); (case k20 => k_is); (case a21 => k_is); (case l21 => k_is); (case c21 => k_is); (case k21 => k_is); (case a22 => k_is); (case l22 => k_is); (case c22 => k_is); (case k22 => k_is); (case a23 => k_is); (case l23 => k_is); (case c23 => k_is); (case k23 => k_is); (case a24 => k_is); (case l24 => k_is); (case c24 => k_is); (case k24 => k_is); (case a25 => k_is); (case l25 => k_is); (case c25 => k_is); (case k25 => k_is); (case a26 => k_is); (case l26 => k_is); (case c26 => k_is); (case k26 => k_is); (case a27 => k_is); (case l27 => k_is); (case c27 => k_is); (case k27 => k_is); (case a28 => k_is); (case l28 => k_is); (case c28 => k_is); (case k28 => k_is); (case a29 => k_is); (case l29 => k_is); (case c29 => k_is); (case k29 => k_is); (case a30 => k_is); (case l30 => k_is); (case c30 => k_is); (case k30 => k_is); (case g_LAST_PATCH => k_is); (case g_MOST_EVENTS => k_is); (case z_len => k_is); (case z_list => k_is); (case z_int => k_is); (case z_bool => k_is); (case z_str => k_is); (case z_tuple => k_is); (case z_max => k_is); (case z_min => k_is); (case z_range => k_is); (case z_repr => k_is); (case z_isinstance => k_is); (case z_type => k_is); (case z_all => k_is); (case z_set => k_is); (case z_zip => k_is); (case z_enumerate => k_is); (case z_sorted => k_is); (case z_abs => k_is); (case z_ValueError => k_is); (case z_divmod => k_is); (case gC0 => k_is); (case xC0 => k_exc); (case kC0 => k_is); (case gC1 => k_is); (case xC1 => k_exc); (case kC1 => k_is); (case gC2 => k_is); (case xC2 => k_exc); (case kC2 => k_is); (case gC3 => k_is); (case xC3 => k_exc); (case kC3 => k_is); (case gC4 => k_is); (case xC4 => k_exc); (case kC4 => k_is); (case gC5 => k_is); (case xC5 => k_exc); (case kC5 => k_is); (case gC6 => k_is); (case xC6 => k_exc); (case kC6 => k_is); (case gC7 => k_is); (case xC7 => k_exc); (case kC7 => k_is); (case gC8 => k_is); (case xC8 => k_exc); (case kC8 => k_is); (case gC9 => k_is); (case xC9 => k_exc); (case kC9 => k_is); (case gC10 => k_is); (case xC10 => k_exc); (case kC10 => k_is); (case gC11 => k_is); (case xC11 => k_exc); (case kC11 => k_is); (case gC12 => k_is); (case xC12 => k_exc); (case kC12 => k_is); (case gC13 => k_is); (case xC13 => k_exc); (case kC13 => k_is); (case gC14 => k_is); (case xC14 => k_exc); (case kC14 => k_is); (case gC15 => k_is); (case xC15 => k_exc); (case kC15 => k_is); (case gC16 => k_is); (case xC16 => k_exc); (case kC16 => k_is); (case gC17 => k_is); (case xC17 => k_exc); (case kC17 => k_is); (case hEc => kernel_rfl); (case hTy => kernel_rfl); (case hSu => kernel_rfl); (case hLp => kernel_rfl); (case hN => k_is); (case hTk => k_is)
