import PyProof.Rows.All
import Wide.All
import OpenK.AllK
import Wide.FinOn
import HandS.ForMost
import HandS.IsInst
import HandS.More
import HandS.Strs
import HandS.Wide
import HandS.SortInts
import HandS.Style
import HandS.Conv
import PyProof.TypeEq
import PyProof.ReprRoads
import HandS.ForExc
import HandS.Evl
import HandS.Zip
import HandS.SetFor
import HandS.Walk
import PyProof.Rows.CountFlat
import HandS.DictComp
import PyProof.Rows.SeqMore
import HandS.Text
import HandS.WideBits
import HandS.Gcd
import HandS.Defaults
import PyProof.Rows.RegReprOcc
import PyProof.StrOps2
import HandS.NamedTupSort
import KE.LtSeq
import KE.KMathG
import PyProof.Walk
import PyProof.WalkLemmas
import PyProof.Pure
import PyProof.TableTree
import PyProof.FactsTree
import HandS.Rev
import HandS.FStr
import KE.KxField
import PyProof.FString3
import PyProof.Rows.StrIntSpec
import PyProof.StrLawsChain
import PyProof.StrLawsTight
import PyProof.Rows.StrItems
import HandS.Property
import HandS.ExcOwn
import HandS.TryMany
import HandS.WordsExc
import HandS.MakeKwOnly
import HandS.GenList
import HandS.ExcIs
import HandS.ExcValue
import HandS.HotCalls
import OpenK.KMeth
import KE.KCallOwn
import HandS.DictTup
import KE.KDictList
import PyProof.InstNe
import HandS.RaiseMore
import PyProof.CallFns
import PyProof.ReprReads
import PyProof.EqKinds
import HandS.Comp
import PyProof.Rows.TupIter
import HandS.ClsMeth
import HandS.Nested
import HandS.NestedK
import KE.KSuper
import HandS.ExcCtx
import HandS.Star
import KE.KStateDown
import HandS.Head0
import HandS.Head1
import HandS.Head2
import HandS.HeadHook1
import HandS.HeadHook2
import HandS.ExcField
import HandS.Small
import HandS.WideMore
import PySem.Challenge.RW_latepatches_k25_events_tried
set_option Elab.async false
set_option linter.all false
set_option maxRecDepth 100000
namespace Lp
open PySem PySem.Spec PyProof.Rows L2

/-! ### operators that the layer lacks -/
def CPowW (i j : Int) : Prop := 0 ≤ j ∧ (Builtin.Int.intBits i : Int) * j ≤ 2 ^ 27
section
variable {X : Cx}
theorem op_powW : OpR X (binaryOp .Pow) (rI CPowW fun i j => .int (i ^ j.toNat)) := opI fun _ _ _ _ _ _ _ hc q => pow_int hc.1 hc.2 q
end
theorem powW_ok {i : Int} {n : Nat} {j : Int} (h : i.natAbs < 2 ^ n) (hj : 0 ≤ j) (hn : (n : Int) * j ≤ 100000000) : CPowW i j := by
  refine ⟨hj, ?_⟩
  have b := PyProof.Rows.intBits_le h
  have e : (2 : Int) ^ 27 = 134217728 := by decide
  rw [e]
  have h1 : (Builtin.Int.intBits i : Int) ≤ (n : Int) := by omega
  have h2 := Int.mul_le_mul_of_nonneg_right h1 hj
  omega

/-! ### repr -/
def rRepr (K : PySem.W.Frag) : List V → Hp → VK → Prop := fun xs H Q => ∃ (a : Addr) (d : PyData), xs = [.ref a] ∧ Dp K H (.ref a) d ∧ d.showable = true ∧ d.hasDict = false ∧ d.depth ≤ 60 ∧ d.shown.length ≤ sizeLine ∧ Q (.str d.shown) H
theorem call_repr {X : Cx} (hg : X.A.guards = some []) (hu : X.A.units + 64 < cLine) : CallR X (.builtin "repr") (rRepr X.K) := by
  intro pins s σ H xs us Q I r h
  obtain ⟨a, d, rfl, hd, h1, h2, h3, h4, q⟩ := h
  obtain ⟨u, rfl, rx⟩ := vals1 r
  obtain ⟨as, hr⟩ := Dp.reads I d _ u hd rx
  cases (show u = Value.ref a from rx)
  exact PySem.repr_of_reads' hr h1 (PyData.noDict_hsm h2) hg (by omega) (fun _ _ e => e) (fun h' t tk hk => ⟨.str d.shown, H, I.kept hk, ⟨t, rfl⟩, q⟩) h4
end Lp
set_option Elab.async false
set_option linter.all false
set_option maxRecDepth 100000
namespace Lp
open PySem PySem.Spec PyProof.Rows L2

/-! ### defs that are called where no repr is under way (guards = some []) -/
structure FnG (P : Program) (w : World) (K : PySem.W.Frag) (mg : Str → Option Value) (base : Heap) (CX : CXT) (k : Nat) (f : Addr) (fd : FuncData) (ps : List Str) (sp : Sp) : Prop where
  len : ∀ vs H Q E, sp vs H Q E → vs.length = ps.length
  runG : ∀ (A : Around) (out : List Env) (s : Shared) (H : Hp) (ar : Args) (us : List Value) (vs : List V) (Q : VK) (E : XK), A.guards = some [] → Room k A → Env0 P w K mg base A out s H →
    BindsTo s fd ar (ps.zip us) → Vals vs us → sp vs H Q E → codeAny (model P w) A (.call (.ref f) ar) (CR CX out P w H s Q E) s
section
variable {P : Program} {w : World} {K : PySem.W.Frag} {mg : Str → Option Value} {base : Heap}
theorem FnG.of {CX : CXT} {k : Nat} {f : Addr} {fd : FuncData} {ps : List Str} {sp : Sp} (F : FnOk P w K mg base CX k f fd ps sp) : FnG P w K mg base CX k f fd ps sp :=
  ⟨F.len, fun A out s H ar us vs Q E _ hr => F.run A out s H ar us vs Q E hr⟩
theorem fnG_of {CX : CXT} {k : Nat} {f : Addr} {name qual : Str} {params : Arguments} {body : List Stmt} {scope : Scope} {dV kV doc pm cdv ct oc : Value} {an od : Option Addr}
    {osl : Array (Option Value)} {N ps : List Str} {sp : Sp} (lk : K.lookup f = some ⟨oc, od, .func (PySem.W.fnOf name qual params body scope dV kV doc pm an cdv ct), osl⟩) (hcd : PySem.W.codeIn K cdv qual = true) (S : FnScope N ps scope)
    (ln : ∀ vs H Q E, sp vs H Q E → vs.length = ps.length)
    (hb : ∀ (A : Around) (out : List Env) (s : Shared) (H : Hp) (vs : List V) (Q : VK) (E : XK), A.guards = some [] → Room k (A.deeper (envOfC qual scope s.heap.objs.size f cdv)) → sp vs H Q E →
      ∃ t, PSs (cxOf CX P w K mg base N qual scope f cdv A out s H E) body t ∧ t { nx := fun _ H' => Q .non H', rt := Q } (start N vs) H) :
    FnG P w K mg base CX (k + 1) f (PySem.W.fnOf name qual params body scope dV kV doc pm an cdv ct) ps sp := by
  refine ⟨ln, fun A out s H ar us vs Q E hG room en bd rv hs => ?_⟩
  have KX : K.In s.heap := en.mod.kin.keeps fun b o e => (en.bs b o e).1
  have nl : s.heap.NoLimit := en.mod.nolimit.keeps fun b o e => (en.bs b o e).1
  have kd : ∀ y ∈ ps.zip us, scope.names.lookup y.1 = some .local ∨ (scope.names.lookup y.1 = some .cell ∧ ((cellsFrom (s.heap.objs.size + 1) scope.names []).lookup y.1).isSome = true) := by
    rintro ⟨n, v⟩ hy
    have hm := (List.of_mem_zip hy).1
    exact (S.par n hm).elim (fun q => .inl q) fun q => .inr ⟨q, PySem.W.cellsFrom_some _ _ _ (.inl q)⟩
  refine codeAny_call_function room.depth (KX _ _ lk) rfl S.co S.gen rfl (PySem.W.codeRec_of KX hcd) (bd _ _ _ _ ?_)
  refine wpAny_newFunctionEnv_cells S.kind kd fun e1 he s1 x => ?_
  subst he
  refine ⟨nl.keeps x.toInCall.keep, codeAny_func ?_⟩
  obtain ⟨t, ht, hq⟩ := hb A out s H vs Q E hG (room.deeper _) hs
  have J0 : Inv (cxOf CX P w K mg base N qual scope f cdv A out s H E) [] (start N vs) H s1 := inv_start S room.hd en (ln _ _ _ _ hs) rv x
  refine wpAny_mono (ht.run [] s1 (start N vs) H _ J0 hq) (fun fl s' h3 => ?_) fun _ _ h3 => h3
  cases fl with
  | ret u => exact let ⟨v, _, H', J, r2, q⟩ := h3; ⟨v, H', J.os, J.bare, J.base, J.hok, r2, q⟩
  | next => exact let ⟨_, H', J, q⟩ := h3; ⟨.non, H', J.os, J.bare, J.base, J.hok, rfl, q⟩
  | brk => exact (let ⟨_, _, _, q⟩ := h3; q : False).elim
  | cont => exact (let ⟨_, _, _, q⟩ := h3; q : False).elim
theorem okG {x qual : Str} {st : Stmt} {f : Addr} {fd : FuncData} {N ps : List Str} {k : Nat} {sp : Sp} (F : Fun K x qual st f fd) (S : FnScope N ps (defScope st)) (ln : ∀ vs H Q E, sp vs H Q E → vs.length = ps.length)
    (hb : ∀ (cdv : Value) (A : Around) (out : List Env) (s : Shared) (H : Hp) (vs : List V) (Q : VK) (E : XK), A.guards = some [] → Room k (A.deeper (envOfC qual (defScope st) s.heap.objs.size f cdv)) → sp vs H Q E →
      ∃ t, PSs (cxOf CX0 P w K mg base N qual (defScope st) f cdv A out s H E).nox (defBody st) t ∧ t { nx := fun _ H' => Q .non H', rt := Q } (start N vs) H) : FnG P w K mg base CX0 (k + 1) f fd ps sp := by
  obtain ⟨oc, od, kV, doc, pm, an, cdv, ct, osl, rfl, lk, hcd⟩ := F.ex
  refine fnG_of lk hcd S ln fun A out s H vs Q E hG room h => ?_
  obtain ⟨t, ht, q⟩ := hb cdv A out s H vs Q E hG room h
  exact ⟨t, ht.nox, q⟩
end
section
variable {X : Cx} {CX : CXT} {k : Nat} {f : Addr} {fd : FuncData} {ps : List Str} {sp : Sp} {dvs : List V} {ds : List Value} {E : XK} {x : Str} {p pos : Pos} {e : Expr} {es : List Expr} {t : TA}
theorem pe_callG (F : FnG X.prog X.w X.K X.mg X.base CX k f fd ps sp) (hG : X.A.guards = some []) (hr : Room k X.A) (hg : Gl X x) (hm : X.mg x = some (.ref f)) (hk : PySem.W.keepIn X.K (.ref f) = true) (hb : Binds X.K fd ps ds) (hd : Vals dvs ds) (hx : Passes CX X E)
    (ha : PA X (e :: es) t) (hdb : (x == ("__debug__" : Str)) = false := by decide) (he : starEach (e :: es) X.env = (false, eval e X.env) :: starEach es X.env := by rfl) (hpl : (backTo pos (starEach es X.env)).any (·.1) = false := by rfl) :
    PE X (.Call (.Name x p) (e :: es) [] pos) (tCall sp dvs E t) := by
  refine ⟨fun pins s σ H Q I h => wpAny_Call_Name_kw (ld_glob I hg hm ?_ hdb)⟩
  refine PySem.W.callWith_K (h₀ := X.base) I.ok.mod.kin hk (thn (ha.run pos pins s σ H _ I h) fun us s1 ⟨vs, H1, I1, r, q⟩ => ⟨I1.kIn, ?_⟩) he hpl
  have rr : Vals (vs ++ dvs) (us ++ ds) := r.append hd
  have hl : (us ++ ds).length = ps.length := rr.length.symm.trans (F.len _ _ _ _ q)
  refine wpAny_call (codeAny_mono (F.runG X.A X.stack s1 H1 ⟨us, []⟩ (us ++ ds) (vs ++ dvs) Q E hG hr I1.env0 (hb s1 us I1.kIn hl) rr q) fun r s' hq => ?_)
  cases r with
  | error e => exact hx pins σ H1 s1 e s' I1 hq
  | ok fl =>
    cases fl with
    | ret u => exact I1.after hq
    | next => exact False.elim hq
    | brk => exact False.elim hq
    | cont => exact False.elim hq
end

/-! ### the end of a law's row, for such a law -/
theorem law_callG {P : Program} {w : World} {K : PySem.W.Frag} {mg mb : Str → Option Value} {CX : CXT} {k : Nat} {fa a : Addr} {fd : FuncData} {x : Str} {sp : Sp} {s₁ : Shared} {vs : List Value} {ns : List Int}
    (KX : K.In s₁.heap) (hns : s₁.heap.Ns mainGlobals mg) (hb : s₁.heap.Ns builtinsNs mb) (hbb : ∀ x : Str, x ≠ "__name__" → mb x = bootBuiltins x) (hlim : s₁.heap.NoLimit) (hg : s₁.gens = #[])
    (ha : s₁.heap.get? a = some { cls := .type "list", data := .seq vs.toArray }) (hi : IntsAre vs ns) (hl : ns.length ≤ sizeLine) (hr : Room k callerA)
    (F : ∀ base : Heap, K.In base → base.Ns mainGlobals mg → FnG P w K mg base CX k fa fd [x] sp) (hbind : ∀ (s : Shared) (u : Value), BindsTo s fd ⟨[u], []⟩ [(x, u)])
    (hsp : ∀ H : Hp, Only H → SqL K H a (ns.map V.int) → sp [.ref a] H (fun v _ => v = .bl true) fun _ _ _ => False)
    (hCX : ∀ H e s', CX [] H s₁ (fun _ _ _ => False) e s' → False) :
    codeAny (model P w) callerA (.call (.ref fa) ⟨[.ref a], []⟩) (fun r s' => r = .ok (.ret (.bool true)) ∧ OldK s₁.heap s'.heap ∧ s'.os = s₁.os ∧ AllBare s'.gens) s₁ := by
  have rv := vals_ints hi
  have szV := hi.length
  have main : ∀ H : Hp, Only H → SqL K H a (ns.map V.int) → HOk P w H s₁.heap → (∀ b, H b ≠ none → b = a) → (H a ≠ none → K.lookup a = none) →
      codeAny (model P w) callerA (.call (.ref fa) ⟨[.ref a], []⟩) (fun r s' => r = .ok (.ret (.bool true)) ∧ OldK s₁.heap s'.heap ∧ s'.os = s₁.os ∧ AllBare s'.gens) s₁ := by
    intro H hO hS ok hA hK
    have free : ∀ {b : Addr}, b ≠ a → H b = none := fun {b} hb => by
      cases q : H b with
      | none => rfl
      | some u => exact absurd (hA b (by rw [q]; simp)) hb
    have nsK : ∀ {b : Addr} {m : Str → Option Value}, s₁.heap.Ns b m → (hidT s₁.heap H).Ns b m := by
      rintro b m ⟨o, es, ep, e, d, r⟩
      refine ⟨o, es, ep, hidT_get e (free fun z => ?_), d, r⟩
      subst z
      rw [ha] at e
      cases e
      exact nomatch (show Data.seq vs.toArray _ = Data.dict es ep from d)
    have hKb : K.In (hidT s₁.heap H) := by
      intro b o e
      refine hidT_get (KX b o e) ?_
      cases q : H b with
      | none => rfl
      | some u =>
        have z := hA b (by rw [q]; simp)
        subst z
        rw [hK (by rw [q]; simp)] at e
        cases e
    have hM : Mod K mg (hidT s₁.heap H) := ⟨hKb, nsK hns, ⟨mb, nsK hb, hbb⟩, let ⟨mc, h1, h2⟩ := hlim; ⟨mc, nsK h1, h2⟩⟩
    have e0 : Env0 P w K mg (hidT s₁.heap H) callerA [] s₁ H := ⟨rfl, hM, fun b o e => of_hidT e, Nat.le_of_eq (hidT_size _ _), trivial, fun b hb => absurd (show b ∈ ([] : List Addr) from hb) (by simp), ok, .of_eq hg⟩
    refine codeAny_mono ((F _ hKb (nsK hns)).runG callerA [] s₁ H ⟨[.ref a], []⟩ [.ref a] [.ref a] _ _ rfl hr e0 (hbind s₁ (.ref a)) (.cons rfl .nil) (hsp H hO hS)) fun r s' h => ?_
    cases r with
    | error e => exact (hCX H e s' h).elim
    | ok fl =>
      cases fl with
      | next => exact False.elim h
      | brk => exact False.elim h
      | cont => exact False.elim h
      | ret u =>
        obtain ⟨v, H', os, bare, un, hok', r', q⟩ := h
        cases (show v = .bl true from q)
        cases (show u = Value.bool true from r')
        refine ⟨rfl, OldK.of_keep fun b o e => ?_, os, bare⟩
        rcases hO b with z | ⟨ob, xs, z⟩
        · exact un.keep b o e z (fun z => absurd (show b ∈ ([] : List Addr) from z) (by simp)) (by simp)
        · obtain ⟨e1, _⟩ := ok b _ z
          obtain ⟨e2, _⟩ := hok' b _ (un.frzs b ob _ z)
          rw [e] at e1; cases e1
          exact e2
  cases hk : K.lookup a with
  | some o =>
    have e := KX a o hk
    rw [ha] at e
    cases e
    exact main (fun _ => none) (fun _ => .inl rfl) (.inr ⟨_, vs.toArray, _, hk, rfl, rfl, rfl, by rw [List.size_toArray, szV]; exact hl, by simpa using rv⟩) (fun b u z => nomatch z) (fun b z => absurd rfl z) fun z => absurd rfl z
  | none =>
    refine main (fun b => if b = a then some (.frz { cls := .type "list", data := .seq vs.toArray } (.lst (ns.map V.int))) else none) (fun b => ?_) (.inl (.inr ⟨{ cls := .type "list", data := .seq vs.toArray }, if_pos rfl⟩)) (fun b u z => ?_) (fun b z => ?_) fun _ => hk
    · by_cases h : b = a
      · exact .inr ⟨_, _, if_pos h⟩
      · exact .inl (if_neg h)
    · by_cases h : b = a
      · cases (if_pos h).symm.trans z
        subst h
        exact ⟨ha, by rw [List.length_map]; exact hl, vs, _, rv, ha⟩
      · cases (if_neg h).symm.trans z
    · by_cases h : b = a
      · exact h
      · exact absurd (if_neg h) z
theorem walk_ofG {l : PySem.W.OpenLaw} {n k : Nat} {q : Program} {loose : List Str} {XP : (Str → Option Value) → Heap → Prop} {YP : World → Heap → Prop} {d : DefRec} {K : Params → PySem.W.Frag} {CX : World → CXT} {sp : World → Sp} {x : Str}
    (hn : l.most = some n) (hn2 : n ≤ sizeLine) (hdf : d.params.defaults = []) (hr : Room k callerA)
    (hY : ∀ (w : World) (h : Heap), YP w h → (K w.params).In h)
    (F : ∀ (w : World) (mg : Str → Option Value) (fa : Addr) (h : Heap), (K w.params).In h → h.Ns mainGlobals mg → mg d.name = some (.ref fa) →
      ∃ fd : FuncData, (∀ (s : Shared) (u : Value), BindsTo s fd ⟨[u], []⟩ [(x, u)]) ∧
        ∀ base : Heap, (K w.params).In base → base.Ns mainGlobals mg → FnG l.prog w (K w.params) mg base (CX w) k fa fd [x] (sp w))
    (hsp : ∀ (w : World) (H : Hp) (a : Addr) (ns : List Int), ns.length ≤ n → Only H → SqL (K w.params) H a (ns.map V.int) → sp w [.ref a] H (fun v _ => v = .bl true) fun _ _ _ => False)
    (hCX : ∀ (w : World) (H : Hp) (s : Shared) (e : Value) (s' : Shared), CX w [] H s (fun _ _ _ => False) e s' → False) :
    PySem.W.WalkO q loose XP YP l.row.toRowW d [] (fun f vs => PySem.call f vs) := by
  refine Att.attach_call hn hdf fun w _ s₁ mg _ fa _ _ _ _ a vs ns G Y _ _ _ hmg hobj hints hlen hg => ?_
  obtain ⟨fd, hb, hF⟩ := F w mg fa _ (hY w _ Y) G.T.g hmg
  exact law_callG (hY w _ Y) G.T.g G.T.b G.T.builtins G.T.nolimit hg hobj hints (Nat.le_trans hlen hn2) hr hF hb (fun H hO hS => hsp w H a ns hlen hO hS) fun H e s' => hCX w H s₁ e s'
end Lp
set_option Elab.async false
set_option linter.all false
set_option maxRecDepth 100000
namespace Lp
open PySem PySem.Spec PyProof.Rows L2

/-- the names of the built-ins that the text leaves alone -/
structure NoB (mg : Str → Option Value) : Prop where
  len : mg "len" = none
  list : mg "list" = none
  int : mg "int" = none
  bool : mg "bool" = none
  str : mg "str" = none
  tuple : mg "tuple" = none
  max : mg "max" = none
  min : mg "min" = none
  range : mg "range" = none
  repr : mg "repr" = none
  isinstance : mg "isinstance" = none
  type : mg "type" = none
  all : mg "all" = none
  set : mg "set" = none
  zip : mg "zip" = none
  enumerate : mg "enumerate" = none
  sorted : mg "sorted" = none
  abs : mg "abs" = none

/-- a def that may be called by its name -/
structure Gc (P : Program) (w : World) (K : PySem.W.Frag) (mg : Str → Option Value) (base : Heap) (k : Nat) (x : Str) (sp : Sp) : Prop where
  ex : ∃ (f : Addr) (fd : FuncData) (ps : List Str), FnG P w K mg base CX0 k f fd ps sp ∧ mg x = some (.ref f) ∧ PySem.W.keepIn K (.ref f) = true ∧ Binds K fd ps []
theorem FnG.mono {P : Program} {w : World} {K : PySem.W.Frag} {mg : Str → Option Value} {base : Heap} {CX : CXT} {j k : Nat} {f : Addr} {fd : FuncData} {ps : List Str} {sp : Sp} (F : FnG P w K mg base CX j f fd ps sp) (h : j ≤ k) : FnG P w K mg base CX k f fd ps sp :=
  ⟨F.len, fun A out s H ar us vs Q E hG hr => F.runG A out s H ar us vs Q E hG (hr.mono h)⟩
section
variable {X : Cx} {k j : Nat} {x : Str} {sp : Sp} {p pos : Pos} {e : Expr} {es : List Expr} {t : TA}
theorem pe_g (c : Gc X.prog X.w X.K X.mg X.base k x sp) (hG : X.A.guards = some []) (hr : Room j X.A) (hk : k ≤ j) (hg : Gl X x) (ha : PA X (e :: es) t)
    (hdb : (x == ("__debug__" : Str)) = false := by decide) (he : starEach (e :: es) X.env = (false, eval e X.env) :: starEach es X.env := by rfl) (hpl : (backTo pos (starEach es X.env)).any (·.1) = false := by rfl) :
    PE X (.Call (.Name x p) (e :: es) [] pos) (tCall sp [] E0 t) := by
  obtain ⟨f, fd, ps, F, hm, kp, b⟩ := c.ex
  exact pe_callG F hG (hr.mono hk) hg hm kp b .nil pass0 ha hdb he hpl
end

/-! ### == and != of types -/
def rEqTy : R2 := fun x y H Q => ∃ a b, x = .ty a ∧ y = .ty b ∧ (∀ s' : Shared, s'.TypeIs (.type a) "type") ∧ (∀ s' : Shared, s'.TypeIs (.type b) "type") ∧ Q (.bl (decide (a = b))) H
def rNeTy : R2 := fun x y H Q => ∃ a b, x = .ty a ∧ y = .ty b ∧ (∀ s' : Shared, s'.TypeIs (.type a) "type") ∧ (∀ s' : Shared, s'.TypeIs (.type b) "type") ∧ Q (.bl (!decide (a = b))) H
section
variable {X : Cx}
theorem op_eqTy : OpR X (compareOp .Eq) rEqTy := by
  intro pins s σ H x y v u Q I rx ry h
  obtain ⟨a, b, rfl, rfl, ha, hb, q⟩ := h
  cases (show v = Value.type a from rx)
  cases (show u = Value.type b from ry)
  by_cases e : a = b
  · subst e
    exact PySem.TypeEq.eq_type_same ha ⟨.bl true, H, I, rfl, by simpa using q⟩
  · exact PySem.TypeEq.eq_type_other ha hb (by rw [ty_beq]; exact decide_eq_false e) ⟨.bl false, H, I, rfl, by simpa [e] using q⟩
end

open PySem.TypeEq
theorem slot_type_ne : Slot "type" (cmpInfo .NotEq).2.1 "object.__ne__" :=
  .of (owner := "object") (n := "__ne__") (by rw [typeLookup_type, builtinLookup_eq_fast]; kernel_rfl) (by decide +kernel) (by decide +kernel) (by decide +kernel)
    (by first | exact .inl (by decide +kernel) | exact .inr (by decide +kernel)) (by rw [isSubtype_type]; kernel_rfl)
section
variable {prog : Program} {w : World} {A : Around} {E : Value → Shared → Prop} {s : Shared} {Q : Value → Shared → Prop}
theorem ne_type_same {X : String} (hX : ∀ s' : Shared, s'.TypeIs (.type X) "type") (h : Q (.bool false) s) : wpAny (model prog w) A (compareOp .NotEq (.type X) (.type X)) Q E s := by
  show wpAny _ A (richCompare .NotEq _ _) Q E s
  refine PySem.wpAny_richCompare_same (T := "type") (hX s) (hX s) slot_type_ne (wpAny_call_entry slot_type_ne (hX s) F.entry_object_ne ?_ (F.args_object_ne_2 _ _))
  unfold Builtin.«object.__ne__»
  refine wpAny_bind (m := slotArgs "__ne__" 1 _) (wpAny_of_eq (a := ((Value.type X : Value), [Value.type X])) (by first | rfl | (simp only [slotArgs]; rfl)) ?_)
  refine wpAny_bind (wpAny_cRoomFor_or (.inl rfl) ?_)
  refine wpAny_bind (m := callSpecialIfBound? (.type X) (Str.ofString "__eq__") [.type X]) (wpAny_callSpecialIfBound?_slot (hX s) slot_type_eq
    (call_gives slot_type_eq (hX s) F.entry_object_eq (F.args_object_eq_2 _ _) (object_eq_same rfl (by simp)) ?_))
  show wpAny (model prog w) A.in1 (truthy (.bool true) >>= fun b => ret (Value.bool !b)) _ E s
  exact wpAny_bind (wpAny_of_eq (a := true) (by first | rfl | simp [truthy]) (wpAny_pure ⟨_, rfl, (by intro e; cases e), h⟩))
end

/-- a != b of the same built-in type -/
def rNeTyS : R2 := fun x y H Q => ∃ a, x = .ty a ∧ y = .ty a ∧ (∀ s' : Shared, s'.TypeIs (.type a) "type") ∧ Q (.bl false) H
theorem op_neTy {X : Cx} : OpR X (compareOp .NotEq) rNeTyS := by
  intro pins s σ H x y v u Q I rx ry h
  obtain ⟨a, rfl, rfl, ha, q⟩ := h
  cases (show v = Value.type a from rx)
  cases (show u = Value.type a from ry)
  exact ne_type_same ha ⟨.bl false, H, I, rfl, q⟩
/-! ### heaps -/
theorem same_new {H : Hp} {p : Addr} {o : HO} (h : H p = none) : Same H (upd H p o) := fun b x e => by
  rw [upd_ne (ne_of_none e h)]
  exact e
/-- all but what stands at a is as it was -/
def But (a : Addr) (H H' : Hp) : Prop := ∀ b, b ≠ a → ∀ o, H b = some o → H' b = some o
end Lp
set_option Elab.async false
set_option linter.all false
set_option maxRecDepth 100000
namespace Lp
open PySem PySem.Spec PyProof.Rows L2

/-! ### comprehensions that only add -/
def LcP (H1 : Hp) (D : Addr) (acc : Nat → List V) (i : Nat) (H : Hp) : Prop := H1 D = none ∧ Same H1 H ∧ H D = some (.lst (acc i))
section
variable {H1 H H4 : Hp} {D : Addr} {acc : Nat → List V} {i : Nat} {y : V}
theorem LcP.init (h : H1 D = none) (e : acc 0 = []) : LcP H1 D acc 0 (upd H1 D (.lst [])) := ⟨h, same_new h, by rw [upd_same, e]⟩
theorem LcP.put (p : LcP H1 D acc i H) (s : Same H H4) (e : acc (i + 1) = acc i ++ [y]) (hz : (acc i).length < 100000) :
    ∃ l, H4 D = some (.lst l) ∧ l.length < sizeLine ∧ LcP H1 D acc (i + 1) (upd H4 D (.lst (l ++ [y]))) := by
  obtain ⟨p1, p2, p3⟩ := p
  refine ⟨acc i, s _ _ p3, Nat.lt_of_lt_of_le hz (by decide), p1, fun b o h => ?_, by rw [upd_same, e]⟩
  rw [upd_ne (ne_of_none h p1)]
  exact s _ _ (p2 _ _ h)
theorem LcP.skip (p : LcP H1 D acc i H) (s : Same H H4) (e : acc (i + 1) = acc i) : LcP H1 D acc (i + 1) H4 := ⟨p.1, p.2.1.trans s, by rw [e]; exact s _ _ p.2.2⟩
end
theorem get_int {ns : List Int} {i : Nat} {x : V} (h : (ns.map V.int)[i]? = some x) : ∃ n, x = .int n ∧ ns[i]? = some n := by
  rw [List.getElem?_map] at h
  cases e : ns[i]? with
  | none => rw [e] at h; cases h
  | some n => rw [e] at h; cases h; exact ⟨n, rfl, rfl⟩
theorem mem_get {α : Type} {l : List α} {i : Nat} {x : α} (h : l[i]? = some x) : x ∈ l := List.mem_of_getElem? h
theorem lt_get {α : Type} {l : List α} {i : Nat} {x : α} (h : l[i]? = some x) : i < l.length := (List.getElem?_eq_some_iff.mp h).1
theorem take_get {α : Type} {l : List α} {i : Nat} {x : α} (h : l[i]? = some x) : l.take (i + 1) = l.take i ++ [x] := by
  rw [List.take_add_one, h]
  rfl
theorem zs {n : Nat} (h : n ≤ 100000) : n ≤ sizeLine := Nat.le_trans h (by decide)
theorem zl {n : Nat} (h : n < 100000) : n < sizeLine := Nat.lt_of_lt_of_le h (by decide)
theorem at0 {x : V} {r : List V} : atI (x :: r) 0 = some x := atI_nat (j := 0) rfl
theorem at1 {x y : V} {r : List V} : atI (x :: y :: r) 1 = some y := atI_nat (j := 1) rfl
theorem at2 {x y z : V} {r : List V} : atI (x :: y :: z :: r) 2 = some z := atI_nat (j := 2) rfl
theorem at_last {xs : List V} {y : V} : atI (xs ++ [y]) (-1) = some y := atI_last _ _
theorem dT {p : Prop} [Decidable p] (h : p) : V.bl (decide p) = V.bl true := congrArg V.bl (decide_eq_true h)
theorem dF {p : Prop} [Decidable p] (h : ¬ p) : V.bl (decide p) = V.bl false := congrArg V.bl (decide_eq_false h)
theorem nT {p : Prop} [Decidable p] (h : ¬ p) : V.bl (!decide p) = V.bl true := by rw [decide_eq_false h]; rfl
theorem nF {p : Prop} [Decidable p] (h : p) : V.bl (!decide p) = V.bl false := by rw [decide_eq_true h]; rfl
theorem vne {i j : Int} (h : i ≠ j) : ¬ V.int i = V.int j := fun e => h (V.int.inj e)

/-! ### a word behind a test, a value -/
def tMid (t : TT) : TT := fun σ H Q => ∃ M : Bool → Hp → Prop, t σ H M ∧ ∀ b H', M b H' → Q b H'
theorem pt_mid {X : Cx} {e : Expr} {t : TT} (h : PT X e t) : PT X e (tMid t) := ⟨fun pins s σ H _ I ⟨M, hm, hq⟩ => thn (h.run pins s σ H M I hm) fun b _ ⟨H', I', m⟩ => ⟨H', I', hq b H' m⟩⟩
def tMidE (t : TE) : TE := fun σ H Q => ∃ M : VK, t σ H M ∧ ∀ v H', M v H' → Q v H'
theorem pe_mid {X : Cx} {e : Expr} {t : TE} (h : PE X e t) : PE X e (tMidE t) := ⟨fun pins s σ H _ I ⟨M, hm, hq⟩ => thn (h.run pins s σ H M I hm) fun _ _ ⟨v, H', I', r, m⟩ => ⟨v, H', I', r, hq v H' m⟩⟩
/-! ### all but what stands at a is as it was -/
def Bt (a : Addr) (H H' : Hp) : Prop := ∀ b o, b ≠ a → H b = some o → H' b = some o
section
variable {a b p : Addr} {H H1 H2 H' : Hp} {o : HO}
theorem Bt.refl (a : Addr) (H : Hp) : Bt a H H := fun _ _ _ e => e
theorem Bt.trans (x : Bt a H H1) (y : Bt a H1 H2) : Bt a H H2 := fun b o n e => y b o n (x b o n e)
theorem Bt.of (x : Same H H') : Bt a H H' := fun b o _ e => x b o e
theorem Bt.at_ (a : Addr) (H : Hp) (o : HO) : Bt a H (upd H a o) := fun b u n e => by rw [upd_ne n]; exact e
theorem Bt.new (h : H p = none) : Bt a H (upd H p o) := .of (same_new h)
theorem Bt.mut (x : Bt a H H') (h : H p = none) : Bt a H (upd H' p o) := fun b u n e => by rw [upd_ne (ne_of_none e h)]; exact x b u n e
theorem Bt.add (x : Bt a H H') (h : H' p = none) : Bt a H (upd H' p o) := x.trans (.new h)
theorem Same.mut (x : Same H H') (h : H p = none) : Same H (upd H' p o) := fun b u e => by rw [upd_ne (ne_of_none e h)]; exact x b u e
theorem Same.add (x : Same H H') (h : H' p = none) : Same H (upd H' p o) := x.trans (same_new h)
theorem Bt.seq {K : PySem.W.Frag} {xs : List V} (x : Bt a H H') (n : b ≠ a) (h : SqL K H b xs) : SqL K H' b xs := by
  rcases h with (h | ⟨o, h⟩) | h
  · exact .inl (.inl (x _ _ n h))
  · exact .inl (.inr ⟨o, x _ _ n h⟩)
  · exact .inr h
end

/-! ### rules that name the written part outright: for the inside of comprehensions -/
section
variable {X : Cx} {K : PySem.W.Frag} {o e : Expr} {es : List Expr} {to : TE} {t : TA} {name : Str} {apos cpos : Pos} {T id : String} {r : V → List V → Hp → VK → Prop}
theorem k_bm (hK : X.K = K) (pa : PlainAttrs T) (slot : Slot T name id) (hty : typeOf (.builtin id) = pure (.type "method_descriptor")) (hm : MtR X id r) (ho : PE X o to) (ha : PA X (e :: es) t)
    (hbase : attributeBase o name X.env (eval o X.env) = eval o X.env := by rfl)
    (hfew : ((backTo cpos (starEach (e :: es) X.env)).all (fun x => !x.1) && (backToKw cpos (keywordEach [] X.env)).all (fun x => x.1.isSome)
      && decide ((e :: es).length + ([] : List Keyword).length + (if ([] : List Keyword).isEmpty then 0 else 1) < 30)) = true := by rfl)
    (hline : (apos.endLine == cpos.line) = true := by rfl) (hs : starEach (e :: es) X.env = (false, eval e X.env) :: starEach es X.env := by rfl) (hplain : (backTo cpos (starEach es X.env)).any (·.1) = false := by rfl) :
    PE X (.Call (.Attribute o name apos) (e :: es) [] cpos) (tBM K T r to t) := by
  subst hK
  exact pe_bm pa slot hty hm ho ha hbase hfew hline hs hplain
def rLenK (K : PySem.W.Frag) : List V → Hp → VK → Prop := fun xs H Q => ∃ p ys, xs = [.ref p] ∧ (SqL K H p ys ∨ SqT K H p ys) ∧ Q (.int ys.length) H
theorem k_len (hK : X.K = K) : CallR X (.builtin "len") (rLenK K) := by
  subst hK
  exact call_len_seq
theorem k_ix (hK : X.K = K) : IxR X (rIxL K) := by
  subst hK
  exact ix_list
theorem k_ixT (hK : X.K = K) : IxR X (rIxT K) := by
  subst hK
  exact ix_tup
theorem k_in (hK : X.K = K) : OpR X (compareOp .In) (rIn K false) := by
  subst hK
  exact op_in_seq
theorem k_notin (hK : X.K = K) : OpR X (compareOp .NotIn) (rIn K true) := by
  subst hK
  exact op_notIn_seq
theorem k_isi (hK : X.K = K) : CallR X (.builtin "isinstance") (rIsi K) := by
  subst hK
  exact call_isi
end
end Lp
set_option Elab.async false
set_option linter.all false
set_option maxRecDepth 100000
namespace Lp
open PySem PySem.Spec PyProof.Rows L2
/-! ### lists of ints as data -/
abbrev dI (ns : List Int) : PyData := .list (ns.map PyData.int)
theorem lay_ints : ∀ ns : List Int, PyData.canLayAll0 (ns.map PyData.int) = true
  | [] => rfl
  | _ :: r => by
    show (PyData.canLay0 (.int _) && PyData.canLayAll0 (r.map PyData.int)) = true
    rw [lay_ints r]
    rfl
theorem depth_ints : ∀ ns : List Int, PyData.depthAll (ns.map PyData.int) = 0
  | [] => rfl
  | _ :: r => by
    show max (PyData.depth (.int _)) (PyData.depthAll (r.map PyData.int)) = 0
    rw [depth_ints r]
    rfl
theorem shaped_ints (ns : List Int) : SeqAt.shaped (dI ns) = true := by
  show (PyData.canLayAll0 (ns.map PyData.int) && decide (PyData.depthAll (ns.map PyData.int) + 1 ≤ 64)) = true
  rw [lay_ints, depth_ints]
  rfl
theorem noDict_ints : ∀ ns : List Int, PyData.hasDictAll (ns.map PyData.int) = false
  | [] => rfl
  | _ :: r => by
    show (PyData.hasDict (.int _) || PyData.hasDictAll (r.map PyData.int)) = false
    rw [noDict_ints r]
    rfl
theorem show_ints : ∀ ns : List Int, (∀ n ∈ ns, n.natAbs.log2 < 1920) → PyData.showableAll (ns.map PyData.int) = true
  | [], _ => rfl
  | n :: r, h => by
    show (decide (n.natAbs.log2 < 1920) && PyData.showableAll (r.map PyData.int)) = true
    rw [show_ints r (fun m hm => h m (List.mem_cons_of_mem _ hm)), decide_eq_true (h n List.mem_cons_self)]
    rfl
theorem dpAll_ints {K : PySem.W.Frag} {H : Hp} : ∀ ns : List Int, DpAll K H (ns.map V.int) (ns.map PyData.int)
  | [] => .nil
  | n :: r => .cons (.int n) (dpAll_ints r)
theorem dp_ints {K : PySem.W.Frag} {H : Hp} {a : Addr} {ns : List Int} (h : SqL K H a (ns.map V.int)) : Dp K H (.ref a) (dI ns) := .lst h (dpAll_ints ns)
theorem eqvAll_ints : ∀ xs ys : List Int, PyData.eqvAll (xs.map PyData.int) (ys.map PyData.int) = decide (xs = ys)
  | [], [] => rfl
  | [], _ :: _ => rfl
  | _ :: _, [] => rfl
  | x :: r, y :: s => by
    show (PyData.eqv (.int x) (.int y) && PyData.eqvAll (r.map PyData.int) (s.map PyData.int)) = decide (x :: r = y :: s)
    rw [eqvAll_ints r s]
    show ((x == y) && decide (r = s)) = decide (x :: r = y :: s)
    by_cases e : x = y <;> by_cases e' : r = s <;> simp [e, e']
theorem eqv_ints (xs ys : List Int) : PyData.eqv (dI xs) (dI ys) = decide (xs = ys) := by
  show PyData.eqvAll (xs.map PyData.int) (ys.map PyData.int) = _
  exact eqvAll_ints xs ys
/-- [] == [], by the reading of == -/
theorem textFrom_le : ∀ (ts : List Str) (k : Nat) (acc : Str) (m : Nat), (∀ t ∈ ts, t.length ≤ m) → (textFrom k acc ts).length ≤ acc.length + ts.length * (m + 2)
  | [], k, acc, m, _ => by
    show acc.length ≤ _
    simp
  | t :: r, k, acc, m, h => by
    have ih := fun k' acc' => textFrom_le r k' acc' m (fun x hx => h x (List.mem_cons_of_mem _ hx))
    have ht := h t List.mem_cons_self
    have z := ih (k + 1) (acc ++ (if k > 0 then ", " else "" : String) ++ t)
    have e : (acc ++ (if k > 0 then ", " else "" : String) ++ t).length ≤ acc.length + 2 + t.length := by
      rw [Str.length_append, Str.length_append]
      by_cases hk : k > 0
      · rw [if_pos hk]
        exact Nat.le_refl _
      · rw [if_neg hk]
        show acc.length + 0 + t.length ≤ _
        omega
    show (textFrom (k + 1) (acc ++ (if k > 0 then ", " else "" : String) ++ t) r).length ≤ acc.length + (r.length + 1) * (m + 2)
    rw [Nat.succ_mul]
    omega
theorem num_len : ∀ n : Int, -100 ≤ n → n ≤ 100 → (Str.ofString (toString n)).length ≤ 4 := by
  intro n h0 h1
  have key : ∀ i : Fin 201, (Str.ofString (toString ((i.val : Int) - 100))).length ≤ 4 := by decide +kernel
  have e := key ⟨(n + 100).toNat, by omega⟩
  have e2 : (((n + 100).toNat : Nat) : Int) - 100 = n := by omega
  rw [e2] at e
  exact e
theorem shownAll_mem : ∀ (ns : List Int) (t : Str), t ∈ PyData.shownAll (ns.map PyData.int) → ∃ n ∈ ns, t = Str.ofString (toString n)
  | [], t, h => by
    have h' : t ∈ ([] : List Str) := h
    cases h'
  | n :: r, t, h => by
    have h' : t ∈ Str.ofString (toString n) :: PyData.shownAll (r.map PyData.int) := h
    rcases List.mem_cons.mp h' with e | e
    · exact ⟨n, List.mem_cons_self, e⟩
    · obtain ⟨m, hm, e⟩ := shownAll_mem r t e
      exact ⟨m, List.mem_cons_of_mem _ hm, e⟩
theorem shownAll_len : ∀ ns : List Int, (PyData.shownAll (ns.map PyData.int)).length = ns.length
  | [] => rfl
  | n :: r => congrArg (· + 1) (shownAll_len r)
theorem shown_ints {ns : List Int} (hb : ∀ n ∈ ns, -100 ≤ n ∧ n ≤ 100) (hl : ns.length ≤ 1000) : (dI ns).shown.length ≤ sizeLine := by
  show (textFrom 0 "[" (PyData.shownAll (ns.map PyData.int)) ++ ("]" : Str)).length ≤ sizeLine
  rw [Str.length_append]
  have z := textFrom_le (PyData.shownAll (ns.map PyData.int)) 0 "[" 4 (fun t ht => by
    obtain ⟨n, hn, e⟩ := shownAll_mem ns t ht
    rw [e]
    exact num_len n (hb n hn).1 (hb n hn).2)
  rw [shownAll_len] at z
  have e1 : ("[" : Str).length = 1 := rfl
  have e2 : ("]" : Str).length = 1 := rfl
  rw [e1] at z
  rw [e2]
  exact zs (by omega)
theorem log2_small {n : Int} (h0 : -100 ≤ n) (h1 : n ≤ 100) : n.natAbs.log2 < 1920 := by
  have h : n.natAbs < 2 ^ 7 := by omega
  exact Nat.lt_trans (PySem.Flt.log2_lt_of (by decide : 0 < 7) h) (by decide)
theorem rrepr_ints {K : PySem.W.Frag} {H : Hp} {a : Addr} {ns : List Int} {Q : VK} (hS : SqL K H a (ns.map V.int)) (hb : ∀ n ∈ ns, -100 ≤ n ∧ n ≤ 100) (hl : ns.length ≤ 1000) (q : Q (.str (dI ns).shown) H) : rRepr K [.ref a] H Q :=
  ⟨a, dI ns, rfl, dp_ints hS, show_ints ns (fun n hn => log2_small (hb n hn).1 (hb n hn).2), noDict_ints ns, by
    show PyData.depthAll (ns.map PyData.int) + 1 ≤ 60
    rw [depth_ints]
    decide, shown_ints hb hl, q⟩

/-! ### places -/
theorem erase_map {α β : Type} (f : α → β) : ∀ (l : List α) (j : Nat), (l.map f).eraseIdx j = (l.eraseIdx j).map f
  | [], _ => by simp
  | x :: r, 0 => rfl
  | x :: r, j + 1 => congrArg (f x :: ·) (erase_map f r j)
theorem get_at {al : List Int} {j : Nat} (h : j < al.length) : (al.map V.int)[j]? = some (.int al[j]) := by
  rw [List.getElem?_map, List.getElem?_eq_getElem h]
  rfl
theorem ix_at {j n : Nat} (h : j < n) : seqIndex? (j : Int) n = some j := (ixN_seq (Evl.ixN_nat h)).1
theorem nat_of {r : Int} (h : 0 ≤ r) : ∃ j : Nat, r = (j : Int) := ⟨r.toNat, by omega⟩
theorem nm {k : Nat} (h : k ≤ 100000) : -(2 ^ 63) ≤ (k : Int) ∧ (k : Int) < 2 ^ 63 := by omega
theorem free_of {a p : Addr} {H H' : Hp} (b : Bt a H H') (n : p ≠ a) (h : H' p = none) : H p = none := by
  cases e : H p with
  | none => rfl
  | some o =>
    rw [b _ _ n e] at h
    cases h
theorem erase_perm : ∀ (l : List Int) (j : Nat) (h : j < l.length), (l[j] :: l.eraseIdx j).Perm l
  | x :: r, 0, _ => .refl _
  | x :: r, j + 1, h => by
    have h' : j < r.length := Nat.lt_of_succ_lt_succ h
    exact (List.Perm.swap x (r[j]'h') (r.eraseIdx j)).trans ((erase_perm r j h').cons x)
end Lp
set_option Elab.async false
set_option linter.all false
set_option maxRecDepth 100000
namespace Lp
open PySem PySem.Spec PyProof.Rows L2
theorem lc_enum {K : PySem.W.Frag} {a : Addr} {xs : List V} {g : TG} {tt : TT} {te : TE} {vs : List Nat} {σ : L2.St} {H1 : Hp} {D : Addr} {Qd : Hp → Prop} (Pv : Nat → Hp → Prop) (h0 : Pv 0 (upd H1 D (.lst []))) (hl : ∀ i H, i ≤ xs.length → Pv i H → SqL K H a xs)
    (hs : ∀ (i : Nat) (x : V) (T : Addr) (H : Hp), xs[i]? = some x → H T = none → Pv i H → g (.ref T) (wipe σ vs) (upd H T (.tup [.int (i : Nat), x])) fun σ2 H2 => wipe σ2 vs = wipe σ vs ∧ tt σ2 H2 fun b H3 =>
      if b = true then te σ2 H3 fun y H4 => ∃ acc, H4 D = some (.lst acc) ∧ acc.length < sizeLine ∧ Pv (i + 1) (upd H4 D (.lst (acc ++ [y]))) else Pv (i + 1) H3) (hd : ∀ H, Pv xs.length H → Qd H) :
    ∃ W : Nat → Nat → Hp → Prop, (∃ m, W 0 m (upd H1 D (.lst []))) ∧ ∀ i m H, W i m H →
      ((Ite K a).stop i H ∧ Qd H) ∨ ((Ite K a).go i H ∧ ∃ Nx : Hp → Prop, (∀ H', Nx H' → ∃ m', m' < m ∧ W (i + 1) m' H') ∧ ∀ x H', (Ite K a).yld i H x H' → g x (wipe σ vs) H' fun σ2 H2 => wipe σ2 vs = wipe σ vs ∧ tt σ2 H2 fun b H3 =>
        if b = true then te σ2 H3 fun y H4 => ∃ acc, H4 D = some (.lst acc) ∧ acc.length < sizeLine ∧ Nx (upd H4 D (.lst (acc ++ [y]))) else Nx H3) := by
  refine ⟨fun i m H => m = xs.length - i ∧ i ≤ xs.length ∧ Pv i H, ⟨xs.length, by simp, Nat.zero_le _, h0⟩, ?_⟩
  rintro i m H ⟨rfl, hi, pv⟩
  have sq := hl i H hi pv
  rcases Nat.lt_or_ge i xs.length with hlt | hge
  · refine .inr ⟨⟨xs, xs[i], sq, List.getElem?_eq_getElem hlt⟩, Pv (i + 1), fun H' p' => ⟨xs.length - (i + 1), by omega, rfl, hlt, p'⟩, fun x H' y => ?_⟩
    obtain ⟨T, z, rfl, nT, rfl, ez⟩ := y
    exact hs i z T H (ez xs sq) nT pv
  · have e : i = xs.length := by omega
    subst e
    exact .inl ⟨⟨xs, sq, Nat.le_refl _⟩, hd H pv⟩
theorem cut_take (xs : List V) (k : Nat) (h : k ≤ xs.length) : cutV xs none (some (k : Int)) = xs.take k := by
  unfold cutV
  rw [HT.sIx_none, HT.sIx_nat, List.drop_zero, Nat.sub_zero, Nat.min_eq_left h]
theorem decV (i j : Int) : decide (V.int i = V.int j) = decide (i = j) := decide_eq_decide.mpr ⟨fun z => V.int.inj z, fun z => congrArg V.int z⟩
theorem k_sl {X : Cx} {K : PySem.W.Frag} (hK : X.K = K) : SlR X (rSlL K) := by
  subst hK
  exact sl_list
theorem k_tup {X : Cx} {K : PySem.W.Frag} {es : List Expr} {k : Nat} {pos : Pos} {t : TGs} {n : Nat} (hK : X.K = K) (hc : X.calm = true) (h : PGs X es t)
    (hn : (assignEach es X.env).length = n := by rfl) (hst : (assignEach es X.env).findIdx? (·.1) = none := by rfl) : PG X (.Tuple es k pos) (gTup K n t) := by
  subst hK
  exact pg_tup hc h hn hst
theorem seqN {K : PySem.W.Frag} {xs : List V} {H H1 H' : Hp} {a b : Addr} (h : SqL K H b xs) (n : H a = none) (s : Same H H1) (x : Bt a H1 H') : SqL K H' b xs := by
  rcases h with (h | ⟨o, h⟩) | h
  · exact .inl (.inl (x _ _ (ne_of_none h n) (s _ _ h)))
  · exact .inl (.inr ⟨o, x _ _ (ne_of_none h n) (s _ _ h)⟩)
  · exact .inr h
theorem rI1 {ns : List Int} (hb : ∀ n ∈ ns, -100 ≤ n ∧ n ≤ 100) : (dI ns).showable = true := show_ints ns (fun n hn => log2_small (hb n hn).1 (hb n hn).2)
theorem rI2 (ns : List Int) : (dI ns).depth ≤ 60 := by
  show PyData.depthAll (ns.map PyData.int) + 1 ≤ 60
  rw [depth_ints]
  decide
end Lp
set_option Elab.async false
set_option linter.all false
set_option maxRecDepth 100000
namespace Lp
open PySem PySem.Spec PyProof.Rows L2
theorem lc_zipL {K : PySem.W.Frag} {a b : Addr} {xs ys : List V} {g : TG} {tt : TT} {te : TE} {vs : List Nat} {σ : L2.St} {H1 : Hp} {D : Addr} {Qd : Hp → Prop} (le : xs.length = ys.length) (Pv : Nat → Hp → Prop) (h0 : Pv 0 (upd H1 D (.lst []))) (hl : ∀ i H, i ≤ xs.length → Pv i H → SqL K H a xs ∧ SqL K H b ys)
    (hs : ∀ (i : Nat) (x y : V) (T : Addr) (H : Hp), xs[i]? = some x → ys[i]? = some y → H T = none → Pv i H → g (.ref T) (wipe σ vs) (upd H T (.tup [x, y])) fun σ2 H2 => wipe σ2 vs = wipe σ vs ∧ tt σ2 H2 fun b H3 =>
      if b = true then te σ2 H3 fun y H4 => ∃ acc, H4 D = some (.lst acc) ∧ acc.length < sizeLine ∧ Pv (i + 1) (upd H4 D (.lst (acc ++ [y]))) else Pv (i + 1) H3) (hd : ∀ H, Pv xs.length H → Qd H) :
    ∃ W : Nat → Nat → Hp → Prop, (∃ m, W 0 m (upd H1 D (.lst []))) ∧ ∀ i m H, W i m H →
      ((Itz K a b).stop i H ∧ Qd H) ∨ ((Itz K a b).go i H ∧ ∃ Nx : Hp → Prop, (∀ H', Nx H' → ∃ m', m' < m ∧ W (i + 1) m' H') ∧ ∀ x H', (Itz K a b).yld i H x H' → g x (wipe σ vs) H' fun σ2 H2 => wipe σ2 vs = wipe σ vs ∧ tt σ2 H2 fun b H3 =>
        if b = true then te σ2 H3 fun y H4 => ∃ acc, H4 D = some (.lst acc) ∧ acc.length < sizeLine ∧ Nx (upd H4 D (.lst (acc ++ [y]))) else Nx H3) := by
  refine ⟨fun i m H => m = xs.length - i ∧ i ≤ xs.length ∧ Pv i H, ⟨xs.length, by simp, Nat.zero_le _, h0⟩, ?_⟩
  rintro i m H ⟨rfl, hi, pv⟩
  obtain ⟨sa, sb⟩ := hl i H hi pv
  rcases Nat.lt_or_ge i xs.length with hlt | hge
  · refine .inr ⟨⟨xs, ys, xs[i], ys[i]'(by omega), sa, sb, List.getElem?_eq_getElem hlt, List.getElem?_eq_getElem (by omega)⟩, Pv (i + 1), fun H' p' => ⟨xs.length - (i + 1), by omega, rfl, hlt, p'⟩, fun x H' y => ?_⟩
    obtain ⟨T, z1, z2, rfl, nT, rfl, e1, e2⟩ := y
    exact hs i z1 z2 T H (e1 xs sa) (e2 ys sb) nT pv
  · have e : i = xs.length := by omega
    subst e
    exact .inl ⟨⟨xs, ys, sa, sb, .inl (Nat.le_refl _)⟩, hd H pv⟩
theorem lc_zipT {K : PySem.W.Frag} {a b : Addr} {xs ys : List V} {g : TG} {tt : TT} {te : TE} {vs : List Nat} {σ : L2.St} {H1 : Hp} {D : Addr} {Qd : Hp → Prop} (le : xs.length = ys.length) (Pv : Nat → Hp → Prop) (h0 : Pv 0 (upd H1 D (.lst []))) (hl : ∀ i H, i ≤ xs.length → Pv i H → SqT K H a xs ∧ SqT K H b ys)
    (hs : ∀ (i : Nat) (x y : V) (T : Addr) (H : Hp), xs[i]? = some x → ys[i]? = some y → H T = none → Pv i H → g (.ref T) (wipe σ vs) (upd H T (.tup [x, y])) fun σ2 H2 => wipe σ2 vs = wipe σ vs ∧ tt σ2 H2 fun b H3 =>
      if b = true then te σ2 H3 fun y H4 => ∃ acc, H4 D = some (.lst acc) ∧ acc.length < sizeLine ∧ Pv (i + 1) (upd H4 D (.lst (acc ++ [y]))) else Pv (i + 1) H3) (hd : ∀ H, Pv xs.length H → Qd H) :
    ∃ W : Nat → Nat → Hp → Prop, (∃ m, W 0 m (upd H1 D (.lst []))) ∧ ∀ i m H, W i m H →
      ((RZ.ItzT K a b).stop i H ∧ Qd H) ∨ ((RZ.ItzT K a b).go i H ∧ ∃ Nx : Hp → Prop, (∀ H', Nx H' → ∃ m', m' < m ∧ W (i + 1) m' H') ∧ ∀ x H', (RZ.ItzT K a b).yld i H x H' → g x (wipe σ vs) H' fun σ2 H2 => wipe σ2 vs = wipe σ vs ∧ tt σ2 H2 fun b H3 =>
        if b = true then te σ2 H3 fun y H4 => ∃ acc, H4 D = some (.lst acc) ∧ acc.length < sizeLine ∧ Nx (upd H4 D (.lst (acc ++ [y]))) else Nx H3) := by
  refine ⟨fun i m H => m = xs.length - i ∧ i ≤ xs.length ∧ Pv i H, ⟨xs.length, by simp, Nat.zero_le _, h0⟩, ?_⟩
  rintro i m H ⟨rfl, hi, pv⟩
  obtain ⟨sa, sb⟩ := hl i H hi pv
  rcases Nat.lt_or_ge i xs.length with hlt | hge
  · refine .inr ⟨⟨xs, ys, xs[i], ys[i]'(by omega), sa, sb, List.getElem?_eq_getElem hlt, List.getElem?_eq_getElem (by omega)⟩, Pv (i + 1), fun H' p' => ⟨xs.length - (i + 1), by omega, rfl, hlt, p'⟩, fun x H' y => ?_⟩
    obtain ⟨T, z1, z2, rfl, nT, rfl, e1, e2⟩ := y
    exact hs i z1 z2 T H (e1 xs sa) (e2 ys sb) nT pv
  · have e : i = xs.length := by omega
    subst e
    exact .inl ⟨⟨xs, ys, sa, sb, .inl (Nat.le_refl _)⟩, hd H pv⟩
theorem tyx_l {K : PySem.W.Frag} {H : Hp} {a : Addr} {xs : List V} (h : SqL K H a xs) : TyX K H (.ref a) (.type "list") := by
  rcases h with (h | ⟨o, h⟩) | ⟨o, its, n, h, c, _⟩
  · exact .base (.lst h)
  · exact .base (.frz h)
  · exact .kList h c
theorem tyx_t {K : PySem.W.Frag} {H : Hp} {a : Addr} {xs : List V} (h : SqT K H a xs) : TyX K H (.ref a) (.type "tuple") := by
  rcases h with (h | ⟨o, h⟩) | ⟨o, its, n, h, c, _⟩
  · exact .base (.tup h)
  · exact .fTuple h
  · exact .kTuple h c
theorem seqT {K : PySem.W.Frag} {H H' : Hp} {a : Addr} {xs : List V} (e : Same H H') (h : SqT K H a xs) : SqT K H' a xs := by
  rcases h with (h | ⟨o, h⟩) | h
  · exact .inl (.inl (e _ _ h))
  · exact .inl (.inr ⟨o, e _ _ h⟩)
  · exact .inr h
mutual
theorem dp_same {K : PySem.W.Frag} {H H' : Hp} (s : Same H H') : ∀ {v : V} {d : PyData}, Dp K H v d → Dp K H' v d
  | _, _, .non => .non
  | _, _, .bl b => .bl b
  | _, _, .int i => .int i
  | _, _, .str x => .str x
  | _, _, .lst h1 h2 => .lst (s.seq h1) (dpAll_same s h2)
  | _, _, .tup h1 h2 => .tup (seqT s h1) (dpAll_same s h2)
theorem dpAll_same {K : PySem.W.Frag} {H H' : Hp} (s : Same H H') : ∀ {vs : List V} {ds : List PyData}, DpAll K H vs ds → DpAll K H' vs ds
  | _, _, .nil => .nil
  | _, _, .cons h1 h2 => .cons (dp_same s h1) (dpAll_same s h2)
end
theorem dpAll_len {K : PySem.W.Frag} {H : Hp} : ∀ {vs : List V} {ds : List PyData}, DpAll K H vs ds → vs.length = ds.length
  | _, _, .nil => rfl
  | _, _, .cons _ h => congrArg (· + 1) (dpAll_len h)
theorem dpAll_get {K : PySem.W.Frag} {H : Hp} : ∀ {vs : List V} {ds : List PyData} {i : Nat} {v : V}, DpAll K H vs ds → vs[i]? = some v → ∃ d, ds[i]? = some d ∧ Dp K H v d
  | _, _, 0, _, .cons h _, e => by cases e; exact ⟨_, rfl, h⟩
  | _, _, i + 1, _, .cons _ h, e => dpAll_get (i := i) h e
theorem depth_get : ∀ {ds : List PyData} {i : Nat} {d : PyData}, ds[i]? = some d → d.depth ≤ PyData.depthAll ds
  | x :: r, 0, d, e => by cases e; exact Nat.le_max_left _ _
  | x :: r, i + 1, d, e => Nat.le_trans (depth_get (ds := r) (i := i) e) (Nat.le_max_right _ _)
theorem kitA {K : PySem.W.Frag} {t c1 c2 : Value} {b : Bool} (h1 : PySem.W.kitOne K t c1 = some false) (h2 : PySem.W.kitOne K t c2 = some b) : PySem.W.kitAny K t [c1, c2] = some b := by
  unfold PySem.W.kitAny
  rw [h1]
  show PySem.W.kitAny K t [c2] = _
  unfold PySem.W.kitAny
  rw [h2]
  cases b <;> rfl
theorem kitT {K : PySem.W.Frag} {t c1 : Value} {cs : List Value} (h1 : PySem.W.kitOne K t c1 = some true) : PySem.W.kitAny K t (c1 :: cs) = some true := by
  unfold PySem.W.kitAny
  rw [h1]
/-! ### list(range(a, b, c)) -/
def tList3 (ta : TA) : TE := fun σ H Q => ta σ H fun vs H1 => ∃ (i j c : Int) (n : Nat), vs = [.int i, .int j, .int c] ∧ RgC i j c n ∧ n ≤ 100000 ∧ ∀ q, H1 q = none → Q (.ref q) (upd H1 q (.lst ((List.range n).map fun k : Nat => V.int (i + (k : Int) * c))))
theorem vals_rg3 {a c : Int} {n : Nat} {acc : Array Value} (h : ItemsOf (fun i v => ∃ t, v = .int (a + i * c) t) acc n) : Vals ((List.range n).map fun k : Nat => V.int (a + (k : Int) * c)) acc.toList := by
  have e : acc.toList.length = n := by rw [Array.length_toList]; exact h.1
  rw [← e]
  refine vals_of_get acc.toList _ fun j u hj => ?_
  obtain ⟨t, rfl⟩ := h.2 j u (by rw [← hj, Array.getElem?_toList])
  exact ⟨t, rfl⟩
theorem pe_list3 {X : Cx} {a b c : Expr} {ta : TA} {p p2 pos pos2 : Pos} (hc : X.calm = true) (hg : Gl X "list") (hm : X.mg "list" = none) (hg2 : Gl X "range") (hm2 : X.mg "range" = none) (ha : PA X [a, b, c] ta)
    (hs : starEach [a, b, c] X.env = (false, eval a X.env) :: starEach [b, c] X.env := by rfl) (hpl : (backTo pos2 (starEach [b, c] X.env)).any (·.1) = false := by rfl)
    (na : starEach [.Call (.Name "range" p2) [a, b, c] [] pos2] X.env = (false, eval (.Call (.Name "range" p2) [a, b, c] [] pos2) X.env) :: starEach [] X.env := by rfl) :
    PE X (.Call (.Name "list" p) [.Call (.Name "range" p2) [a, b, c] [] pos2] [] pos) (tList3 ta) := by
  refine ⟨fun pins s σ H Q I h => ?_⟩
  refine Call_ (ld_blt I hg hm boot_list (PyProof.Rows.callWith_type1 (args_cons (?_) na) na))
  refine Call_ (ld_blt I hg2 hm2 boot_range (PyProof.Rows.callWith_type1 (thn (ha.run pos2 pins s σ H _ I h) fun us s1 ⟨vs, H1, I1, r1, q1⟩ => ?_) hs hpl))
  obtain ⟨i, j, k, n, e, ⟨c0, c1, c2, c3⟩, hn, q⟩ := q1
  subst e
  cases r1 with
  | cons r rr =>
    cases rr with
    | cons r' rr =>
      cases rr with
      | cons r'' rr =>
        cases rr
        obtain ⟨t, rfl⟩ := r
        obtain ⟨t', rfl⟩ := r'
        obtain ⟨t'', rfl⟩ := r''
        refine call_range_3 c0 ?_ (.inl (PyProof.noPylong_small c1))
        refine args_nil ?_
        have I2 : Inv X pins σ H1 { s1 with heap := s1.heap.push { cls := .type "range", data := .fields #[.int i t, .int j t', .int k t''] } } := I1.kept (t' := s1.toks) fun b o e => Heap.get?_push_of_some _ e
        refine call_list_range (n := n) (I2.ok.hd hc) (IsRange.new ..) c2 c3 (by omega) fun h' tk acc c' hk e' hi => ?_
        refine ⟨.ref _, upd H1 _ (.lst ((List.range n).map fun m : Nat => V.int (i + (m : Int) * k))), I2.laid hk (Nat.le_refl _) (show ObjOk X.prog X.w _ _ _ (.lst _) from ⟨?_, acc.toList, c', vals_rg3 hi, ?_⟩), rfl, q _ (I2.hok.fresh (Nat.le_refl _))⟩
        · rw [List.length_map, List.length_range]
          exact zs hn
        · rw [Array.toArray_toList]; exact e'
end Lp
set_option Elab.async false
set_option linter.all false
set_option maxRecDepth 100000
namespace Lp
open PySem PySem.Spec PyProof.Rows L2
/-! ### xs.count(text) -/
theorem strCount {k : Str} : ∀ {us : List Value} {ys : List Str}, StrsAre us ys → us.countP (isStrOf k) = ys.countP (fun y => y == k)
  | _, _, .nil => rfl
  | _, _, .cons n t h => by
    have ih := strCount (k := k) h
    rw [List.countP_cons, List.countP_cons, ih] <;> rfl
def rCntS (K : PySem.W.Frag) : V → List V → Hp → VK → Prop := fun x xs H Q => ∃ (p : Addr) (ys : List Str) (k : Str), x = .ref p ∧ xs = [.str k] ∧ SqL K H p (ys.map V.str) ∧ Q (.int (ys.countP (fun y => y == k) : Nat)) H
theorem mt_lcountS {X : Cx} : MtR X "list.count" (rCntS X.K) := by
  intro pins s σ H x xs v us Q I rx rxs h
  obtain ⟨p, ys, k, rfl, rfl, hs, q⟩ := h
  cases rx
  obtain ⟨u, rfl, ru⟩ := rxs.one
  obtain ⟨t, rfl⟩ := ru
  obtain ⟨its, rv, ⟨⟨cls, dd, data, sl⟩, n, ho, hc, hdn, hd⟩, hlen⟩ := I.list hs
  simp only at hc hd
  subst hc hd
  have hi := Vals.strs rv
  refine call_meets PySem.F.slot_list_count ⟨_, ho, rfl⟩ PySem.F.entry_list_count (PySem.F.args_list_count_2 _ _)
    (SeqAt.list_countAt p its.toArray n dd sl (.str k t) (isStrOf k)) ⟨ho, fun y hy => (eq_isStrOf k t hi y (by simpa using hy)).at _ _, ?_⟩
  have ec : its.toArray.toList.countP (isStrOf k) = ys.countP (fun y => y == k) := strCount hi
  refine ⟨.int (ys.countP (fun y => y == k) : Nat), H, I.tok _, ⟨s.toks, ?_⟩, q⟩
  show Value.int ((its.toArray.toList.countP (isStrOf k) : Nat) : Int) s.toks = Value.int ((ys.countP (fun y => y == k) : Nat) : Int) s.toks
  rw [ec]
end Lp
set_option Elab.async false
set_option linter.all false
set_option maxRecDepth 100000
namespace Lp
open PySem PySem.Spec PyProof.Rows L2
/-! ### dict comprehensions over enumerate -/
theorem dc_enum {K : PySem.W.Frag} {a : Addr} {xs : List V} {g : TG} {tt : TT} {tk tv : TE} {vs : List Nat} {σ : L2.St} {H1 : Hp} {D : Addr} {Qd : Hp → Prop} (Pv : Nat → Hp → Prop) (h0 : Pv 0 (upd H1 D (.dK []))) (hl : ∀ i H, i ≤ xs.length → Pv i H → SqL K H a xs)
    (hs : ∀ (i : Nat) (x : V) (T : Addr) (H : Hp), xs[i]? = some x → H T = none → Pv i H → g (.ref T) (wipe σ vs) (upd H T (.tup [.int (i : Nat), x])) fun σ2 H2 => wipe σ2 vs = wipe σ vs ∧ tt σ2 H2 fun b H3 =>
      if b = true then tk σ2 H3 fun y H4 => tv σ2 H4 fun z H5 => ∃ kvs k, y = kV k ∧ H5 D = some (.dK kvs) ∧ kvs.length < sizeLine ∧ Pv (i + 1) (upd H5 D (.dK (putK kvs k z))) else Pv (i + 1) H3) (hd : ∀ H, Pv xs.length H → Qd H) :
    ∃ W : Nat → Nat → Hp → Prop, (∃ m, W 0 m (upd H1 D (.dK []))) ∧ ∀ i m H, W i m H →
      ((Ite K a).stop i H ∧ Qd H) ∨ ((Ite K a).go i H ∧ ∃ Nx : Hp → Prop, (∀ H', Nx H' → ∃ m', m' < m ∧ W (i + 1) m' H') ∧ ∀ x H', (Ite K a).yld i H x H' → g x (wipe σ vs) H' fun σ2 H2 => wipe σ2 vs = wipe σ vs ∧ tt σ2 H2 fun b H3 =>
        if b = true then tk σ2 H3 fun y H4 => tv σ2 H4 fun z H5 => ∃ kvs k, y = kV k ∧ H5 D = some (.dK kvs) ∧ kvs.length < sizeLine ∧ Nx (upd H5 D (.dK (putK kvs k z))) else Nx H3) := by
  refine ⟨fun i m H => m = xs.length - i ∧ i ≤ xs.length ∧ Pv i H, ⟨xs.length, by simp, Nat.zero_le _, h0⟩, ?_⟩
  rintro i m H ⟨rfl, hi, pv⟩
  have sq := hl i H hi pv
  rcases Nat.lt_or_ge i xs.length with hlt | hge
  · refine .inr ⟨⟨xs, xs[i], sq, List.getElem?_eq_getElem hlt⟩, Pv (i + 1), fun H' p' => ⟨xs.length - (i + 1), by omega, rfl, hlt, p'⟩, fun x H' y => ?_⟩
    obtain ⟨T, z, rfl, nT, rfl, e1⟩ := y
    exact hs i z T H (e1 xs sq) nT pv
  · have e : i = xs.length := by omega
    subst e
    exact .inl ⟨⟨xs, sq, Nat.le_refl _⟩, hd H pv⟩
end Lp
set_option Elab.async false
set_option linter.all false
set_option maxRecDepth 100000
namespace Lp
open PySem PySem.Spec PyProof.Rows L2
/-! ### list + list, the script's own list too -/
def rCatS (K : PySem.W.Frag) : R2 := fun x y H Q => ∃ l b xs zs, x = .ref l ∧ y = .ref b ∧ SqL K H l xs ∧ SqL K H b zs ∧ xs.length + zs.length ≤ sizeLine ∧ ∀ p, H p = none → Q (.ref p) (upd H p (.lst (xs ++ zs)))
theorem op_catS {X : Cx} : OpR X (binaryOp .Add) (rCatS X.K) := by
  intro pins s σ H x y v u Q I rx ry h
  obtain ⟨l, b, xs, zs, rfl, rfl, hl, hb, hz, q⟩ := h
  cases rx
  cases ry
  obtain ⟨its, r, ⟨⟨cls, dd, data, sl⟩, n, ho, hc, hdn, hd⟩, h1⟩ := I.list hl
  obtain ⟨its2, r2, ⟨⟨cls2, dd2, data2, sl2⟩, n2, ho2, hc2, hdn2, hd2⟩, h2⟩ := I.list hb
  simp only at hc hd hc2 hd2
  subst hc hd hc2 hd2
  have e1 := r.length
  have e2 := r2.length
  refine concat_meets ⟨_, ho, rfl⟩ ⟨_, ho2, rfl⟩ noFill_list_add seq_list_add PySem.F.slot_list_add PySem.F.entry_list_add (PySem.F.args_list_add_2 _ _) (list_addW l b its.toArray its2.toArray n n2 dd dd2 sl sl2 (by rw [List.size_toArray, List.size_toArray]; omega)) ⟨ho, ho2, ?_⟩
  have ea : its.toArray ++ its2.toArray = (its ++ its2).toArray := by simp
  rw [ea]
  exact ⟨.ref _, _, I.lnew (t' := s.toks) (r.append r2) (by rw [List.length_append]; omega), rfl, q _ I.fresh⟩
end Lp
set_option Elab.async false
set_option linter.all false
set_option maxRecDepth 100000
namespace Lp
open PySem PySem.Spec PyProof.Rows L2

/-! ### calls by keywords, of defs that are called where no repr is under way -/
structure Gk (P : Program) (w : World) (K : PySem.W.Frag) (mg : Str → Option Value) (base : Heap) (k : Nat) (x : Str) (n : Nat) (ks : List Str) (gV : List V → List V → List V) (sp : Sp) : Prop where
  ex : ∃ (f : Addr) (fd : FuncData) (ps : List Str) (g : List Value → List Value → List Value), FnG P w K mg base CX0 k f fd ps sp ∧ mg x = some (.ref f) ∧ PySem.W.keepIn K (.ref f) = true ∧ KBn K fd ps n ks g gV
theorem kb_of {K : PySem.W.Frag} {x qual : Str} {st : Stmt} {f : Addr} {fd : FuncData} {ps : List Str} (F : Fun K x qual st f fd) (n : Nat) (ks : List Str) (g : {α : Type} → List α → List α → List α)
    (hrel : ∀ {vs : List V} {us : List Value} {zs : List V} {ws : List Value}, Vals vs us → Vals zs ws → Vals (g vs zs) (g us ws))
    (h : ∀ (kV doc pm : Value) (an : Option Addr) (cdv ct : Value) (us ws : List Value), us.length = n → ws.length = ks.length → bindArgs (PySem.W.fnOf x qual (defArgs st) (defBody st) (defScope st) .none kV doc pm an cdv ct) ⟨us, ks.zip ws⟩ = pure (ps.zip (g us ws))) :
    KBn K fd ps n ks g g := by
  obtain ⟨oc, od, kV, doc, pm, an, cdv, ct, osl, rfl, lk, hcd⟩ := F.ex
  exact ⟨fun s us ws _ l1 l2 => .of_eq (h kV doc pm an cdv ct us ws l1 l2), hrel⟩
theorem kb_gApp0 {vs : List V} {us : List Value} {zs : List V} {ws : List Value} (a : Vals vs us) (b : Vals zs ws) : Vals (vs ++ zs) (us ++ ws) := a.append b
def gApp {α : Type} (us ws : List α) : List α := us ++ ws
def gRev {α : Type} (us ws : List α) : List α := us ++ ws.reverse
theorem kb_gApp {vs : List V} {us : List Value} {zs : List V} {ws : List Value} (a : Vals vs us) (b : Vals zs ws) : Vals (gApp vs zs) (gApp us ws) := a.append b
theorem vals_rev2 : ∀ {zs : List V} {ws : List Value}, Vals zs ws → Vals zs.reverse ws.reverse
  | _, _, .nil => .nil
  | _, _, .cons h t => by
    rw [List.reverse_cons, List.reverse_cons]
    exact (vals_rev2 t).append (.cons h .nil)
theorem kb_gRev {vs : List V} {us : List Value} {zs : List V} {ws : List Value} (a : Vals vs us) (b : Vals zs ws) : Vals (gRev vs zs) (gRev us ws) := a.append (vals_rev2 b)
def tCallG (n m : Nat) (sp : Sp) (gV : List V → List V → List V) (t tk : TA) : TE := fun σ H Q => t σ H fun vs H1 => tk σ H1 fun zs H2 => vs.length = n ∧ zs.length = m ∧ sp (gV vs zs) H2 Q E0
section
variable {X : Cx} {CX : CXT} {k n : Nat} {f : Addr} {fd : FuncData} {ps ks : List Str} {sp : Sp} {E : XK} {x : Str} {p pos : Pos} {e : Expr} {es : List Expr} {kws : List Keyword} {t tk : TA} {g : List Value → List Value → List Value} {gV : List V → List V → List V}
theorem run_fnG {pins : List (Addr × Obj)} {σ : L2.St} {H : Hp} {s : Shared} {Q : VK} {us ws : List Value} {vs zs : List V} (F : FnG X.prog X.w X.K X.mg X.base CX k f fd ps sp) (hG : X.A.guards = some []) (hr : Room k X.A) (hb : KBn X.K fd ps n ks g gV) (hx : Passes CX X E)
    (I : Inv X pins σ H s) (r : Vals vs us) (rz : Vals zs ws) (l1 : vs.length = n) (l2 : zs.length = ks.length) (h : sp (gV vs zs) H Q E) : wpAny (model X.prog X.w) X.A (call (.ref f) us (ks.zip ws)) (EP X pins σ Q) X.xe s := by
  have r2 := hb.rel r rz
  refine wpAny_call (codeAny_mono (F.runG X.A X.stack s H ⟨us, ks.zip ws⟩ (g us ws) (gV vs zs) Q E hG hr I.env0 (hb.to s us ws I.kIn (r.length.symm.trans l1) (rz.length.symm.trans l2)) r2 h) fun r s' hq => ?_)
  cases r with
  | error e => exact hx pins σ H s e s' I hq
  | ok fl =>
    cases fl with
    | ret u => exact I.after hq
    | next => exact False.elim hq
    | brk => exact False.elim hq
    | cont => exact False.elim hq
/-- f(k = v, ..) -/
theorem pe_gK0 {j : Nat} (c : Gk X.prog X.w X.K X.mg X.base k x 0 ks gV sp) (hG : X.A.guards = some []) (hr : Room j X.A) (hk : k ≤ j) (hg : Gl X x) (hkw : PK X kws tk)
    (hall : (backToKw pos (keywordEach kws X.env)).all (·.1.isSome) = true := by rfl) (hks : (backToKw pos (keywordEach kws X.env)).filterMap (·.1) = ks := by rfl) (hdb : (x == ("__debug__" : Str)) = false := by decide)
    (hpl : ((backTo pos (starEach [] X.env)).any (·.1) || (backToKw pos (keywordEach kws X.env)).any (·.1.isNone)) = false := by rfl) :
    PE X (.Call (.Name x p) [] kws pos) (tCallG 0 ks.length sp gV tNil tk) := by
  obtain ⟨f, fd, ps, g, F, hm, kp, hb⟩ := c.ex
  refine ⟨fun pins s σ H Q I h => ?_⟩
  refine wpAny_Call_Name_kw (ld_glob I hg hm ?_ hdb)
  refine PySem.W.callWith_KW0 (h₀ := X.base) I.ok.mod.kin kp hall ?_ hpl
  refine thn (hkw.run pos pins s σ H _ I h) fun ws s2 ⟨zs, H2, I2, rz, l1, l2, q2⟩ => ⟨I2.kIn, ?_⟩
  rw [hks]
  exact run_fnG (us := []) (vs := []) F hG (hr.mono hk) hb pass0 I2 .nil rz rfl l2 q2
/-- f(e, .., k = v, ..) -/
theorem pe_gK {j : Nat} (c : Gk X.prog X.w X.K X.mg X.base k x n ks gV sp) (hG : X.A.guards = some []) (hr : Room j X.A) (hk : k ≤ j) (hg : Gl X x) (ha : PA X (e :: es) t) (hkw : PK X kws tk)
    (hall : (backToKw pos (keywordEach kws X.env)).all (·.1.isSome) = true := by rfl) (hks : (backToKw pos (keywordEach kws X.env)).filterMap (·.1) = ks := by rfl) (hdb : (x == ("__debug__" : Str)) = false := by decide)
    (he : starEach (e :: es) X.env = (false, eval e X.env) :: starEach es X.env := by rfl) (hpl : ((backTo pos (starEach (e :: es) X.env)).any (·.1) || (backToKw pos (keywordEach kws X.env)).any (·.1.isNone)) = false := by rfl) :
    PE X (.Call (.Name x p) (e :: es) kws pos) (tCallG n ks.length sp gV t tk) := by
  obtain ⟨f, fd, ps, g, F, hm, kp, hb⟩ := c.ex
  refine ⟨fun pins s σ H Q I h => ?_⟩
  refine wpAny_Call_Name_kw (ld_glob I hg hm ?_ hdb)
  refine PySem.W.callWith_KW (h₀ := X.base) I.ok.mod.kin kp hall (thn (ha.run pos pins s σ H _ I h) fun us s1 ⟨vs, H1, I1, r, q⟩ => ?_) hpl he
  refine thn (hkw.run pos pins s1 σ H1 _ I1 q) fun ws s2 ⟨zs, H2, I2, rz, l1, l2, q2⟩ => ⟨I2.kIn, ?_⟩
  rw [hks]
  exact run_fnG F hG (hr.mono hk) hb pass0 I2 r rz l1 l2 q2
end

/-! ### i *= j of great ints -/
def ipC (C : Int → Int → Prop) (f : Int → Int → Int) : TIp := fun x y H Q => ∃ i j, x = .int i ∧ y = .int j ∧ C i j ∧ Q (.int (f i j)) H
section
variable {X : Cx}
theorem ip_mulW : PIp X .Mult (ipC CMulW fun i j => i * j) := by
  intro pins s σ H x y v u Q I r1 r2 h
  obtain ⟨i, j, e1, e2, hc, q⟩ := h
  subst e1; subst e2
  obtain ⟨t, rfl⟩ := r1
  obtain ⟨t', rfl⟩ := r2
  exact imul_int ⟨.int _, H, I.tok _, ⟨_, rfl⟩, q⟩ hc.ok
/-! ### text * int -/
theorem foldl_repN (l : List Nat) : ∀ (n : Nat) (acc : List Nat), List.foldl (fun x1 x2 => x1 ++ x2) acc.toArray (List.replicate n l.toArray) = (acc ++ (List.replicate n l).flatten).toArray
  | 0, acc => by simp
  | n + 1, acc => by
    rw [List.replicate_succ, List.foldl_cons, List.append_toArray, foldl_repN l n (acc ++ l), List.replicate_succ, List.flatten_cons, List.append_assoc]
theorem op_repS : OpR X (binaryOp .Mult) (fun x y H Q => ∃ (z : Str) (n : Nat), x = .str z ∧ y = .int (n : Int) ∧ 2 ≤ n ∧ z.length ≠ 0 ∧ z.length * n ≤ 100000 ∧ Q (.str ⟨(List.replicate n z.cps.toList).flatten.toArray⟩) H) := by
  intro pins s σ H x y v u Q I r1 r2 h
  obtain ⟨z, n, e1, e2, h1, h3, h4, q⟩ := h
  subst e1; subst e2
  obtain ⟨t, rfl⟩ := r1
  obtain ⟨t', rfl⟩ := r2
  have hn : ¬ (n : Int) < 1 := by omega
  have hz1 : 1 ≤ z.length := Nat.pos_of_ne_zero h3
  have hn2 : n ≤ 100000 := Nat.le_trans (Nat.le_mul_of_pos_left n hz1) h4
  have hb : ((n : Int) == 1 || z.length == 0) = false := by
    have a : ((n : Int) == 1) = false := beq_eq_false_iff_ne.mpr (by omega)
    have b : (z.length == 0) = false := beq_eq_false_iff_ne.mpr h3
    rw [a, b]
    rfl
  have hsz : z.length * n ≤ sizeLine := zs h4
  have f0 : List.foldl (fun x1 x2 => x1 ++ x2) #[] (List.replicate n z.cps) = (List.replicate n z.cps.toList).flatten.toArray := by
    have := foldl_repN z.cps.toList n []
    rw [List.nil_append, Array.toArray_toList] at this
    exact this
  have hl : (⟨(List.replicate n z.cps.toList).flatten.toArray⟩ : Str).length = n * z.length := by
    show ((List.replicate n z.cps.toList).flatten.toArray).size = n * z.length
    rw [List.size_toArray, List.length_flatten, List.map_replicate, List.sum_replicate_nat, Array.length_toList]
    rfl
  refine PySem.P.mul_str ?_ (fun _ _ => ?_) (fun _ _ => ?_) ?_
  · have a : ¬ (n : Int) < -(2 ^ 63 : Int) := by omega
    have b : ¬ (n : Int) ≥ 2 ^ 63 := by omega
    rw [decide_eq_false a, decide_eq_false b]
    rfl
  · have h5 : (z.length : Int) * (n : Int) ≤ 100000 := by
      have := Int.ofNat_le.mpr h4
      rwa [Int.natCast_mul] at this
    have := (Int.le_ediv_iff_mul_le (show (0 : Int) < n by omega)).mpr (show (z.length : Int) * (n : Int) ≤ 2 ^ 63 - 1 by omega)
    omega
  · have e : (n : Int).toNat = n := rfl
    rw [e]
    unfold Builtin.Str.tooLong
    exact decide_eq_false (by omega)
  · rw [if_neg hn, hb, if_neg Bool.false_ne_true]
    have e : (n : Int).toNat = n := rfl
    rw [e, f0]
    exact ⟨by rw [hl]; rw [Nat.mul_comm]; exact hsz, .str _, H, I.tok _, ⟨_, rfl⟩, q⟩
end
/-! ### math.factorial, math.comb -/
def facN : Nat → Nat
  | 0 => 1
  | n + 1 => facN n * (n + 1)
theorem fac_eq : ∀ n : Nat, Builtin.Math.factorialNat n = facN n
  | 0 => rfl
  | n + 1 => by
    have e : Builtin.Math.factorialNat (n + 1) = Builtin.Math.factorialNat n * (n + 1) := by
      unfold Builtin.Math.factorialNat
      rw [List.range_succ, List.foldl_append]
      rfl
    rw [e, fac_eq n]
    rfl
theorem fac_lt : ∀ n : Nat, n ≤ 1000 → facN n < 2 ^ (10 * n + 1)
  | 0, _ => by decide
  | n + 1, h => by
    have z := fac_lt n (by omega)
    have e : 10 * (n + 1) + 1 = (10 * n + 1) + 10 := by omega
    show facN n * (n + 1) < _
    rw [e, Nat.pow_add]
    exact Nat.mul_lt_mul_of_lt_of_le z (by have : (2 : Nat) ^ 10 = 1024 := by decide
                                           omega) (by decide)
def rFac : List V → Hp → VK → Prop := fun vs H Q => ∃ n : Nat, vs = [.int (n : Int)] ∧ n ≤ 1000 ∧ Q (.int ((facN n : Nat) : Int)) H
theorem cr_fac {X : Cx} : CallR X (.builtin "math.factorial") rFac := by
  intro pins s σ H vs us Q I r h
  obtain ⟨n, rfl, hn, q⟩ := h
  obtain ⟨u, rfl, t, rfl⟩ := vals1 r
  have hl := fac_lt n hn
  have e : Builtin.Math.factorialNat (n : Int).toNat = facN n := fac_eq n
  refine PySem.W.mg_factorial (by show ¬ (n : Int) > 2 ^ 63 - 1; omega) (by omega) (by show ¬ (n : Int) > 20000; omega) ?_ ?_
  · rw [e]
    show (facN n).log2 < bitsLine
    have b := PySem.Flt.log2_lt_of (by omega : 0 < 10 * n + 1) hl
    have e2 : bitsLine = 134217728 := by decide
    rw [e2]
    omega
  · rw [e]
    exact ⟨.int _, H, I.tok _, ⟨_, rfl⟩, q⟩
/-! ### lists of great ints as text -/
theorem shown_big {ns : List Int} (hb : ∀ n ∈ ns, n.natAbs.log2 < 1920) (hl : ns.length ≤ 40) : (dI ns).shown.length ≤ sizeLine := by
  show (textFrom 0 "[" (PyData.shownAll (ns.map PyData.int)) ++ ("]" : Str)).length ≤ sizeLine
  rw [Str.length_append]
  have z := textFrom_le (PyData.shownAll (ns.map PyData.int)) 0 "[" 1921 (fun t ht => by
    obtain ⟨n, hn, e⟩ := shownAll_mem ns t ht
    rw [e]
    exact PyProof.Rows.int_text_len_1921 (hb n hn))
  rw [shownAll_len] at z
  have e1 : ("[" : Str).length = 1 := rfl
  have e2 : ("]" : Str).length = 1 := rfl
  rw [e1] at z
  rw [e2]
  exact zs (by omega)
theorem rrepr_big {K : PySem.W.Frag} {H : Hp} {a : Addr} {ns : List Int} {Q : VK} (hS : SqL K H a (ns.map V.int)) (hb : ∀ n ∈ ns, n.natAbs.log2 < 1920) (hl : ns.length ≤ 40) (q : Q (.str (dI ns).shown) H) : rRepr K [.ref a] H Q :=
  ⟨a, dI ns, rfl, dp_ints hS, show_ints ns hb, noDict_ints ns, rI2 ns, shown_big hb hl, q⟩
theorem log_nat {n k : Nat} (h : n < 2 ^ k) (h0 : 0 < k) (hk : k ≤ 1920) : ((n : Nat) : Int).natAbs.log2 < 1920 := Nat.lt_of_lt_of_le (PySem.Flt.log2_lt_of h0 (show ((n : Nat) : Int).natAbs < 2 ^ k from h)) hk
end Lp
set_option Elab.async false
set_option linter.all false
set_option maxRecDepth 100000
namespace Lp
open PySem PySem.Spec PyProof.Rows L2
theorem filtG {α : Type} {l : List α} {f : α → Bool} {i : Nat} {e : α} (he : l[i]? = some e) : (l.take (i + 1)).filter f = (l.take i).filter f ++ (if f e = true then [e] else []) := by
  rw [take_get he, List.filter_append]
  congr 1
  simp only [List.filter_cons, List.filter_nil]
theorem filtG_len {α : Type} {l : List α} {f : α → Bool} (i : Nat) : ((l.take i).filter f).length ≤ l.length := Nat.le_trans (List.length_filter_le _ _) (by rw [List.length_take]; exact Nat.min_le_right _ _)
theorem inVI (x : Int) : ∀ ns : List Int, inV (.int x) (ns.map V.int) = decide (x ∈ ns)
  | [] => rfl
  | n :: r => by
    show (eqV (.int n) (.int x) || inV (.int x) (r.map V.int)) = _
    rw [inVI x r]
    show ((n == x) || decide (x ∈ r)) = _
    by_cases e : n = x
    · subst e
      simp
    · have e' : ¬ x = n := fun z => e z.symm
      simp [e, e']
theorem flatI (ns : List Int) : (ns.map V.int).all flatV = true := by
  rw [List.all_eq_true]
  intro v hv
  obtain ⟨n, _, rfl⟩ := List.mem_map.mp hv
  rfl
theorem notInT {x : Int} {ns : List Int} (h : x ∉ ns) : V.bl (if true = true then !inV (.int x) (ns.map V.int) else inV (.int x) (ns.map V.int)) = V.bl true := by
  rw [if_pos rfl, inVI, decide_eq_false h]
  rfl
theorem notInF {x : Int} {ns : List Int} (h : x ∈ ns) : V.bl (if true = true then !inV (.int x) (ns.map V.int) else inV (.int x) (ns.map V.int)) = V.bl false := by
  rw [if_pos rfl, inVI, decide_eq_true h]
  rfl

/-! ### rows of ints in the heap -/
def RowsR (H : Hp) (rs : List V) (rows : List (List Int)) : Prop := rs.length = rows.length ∧ ∀ (i : Nat) (row : List Int), rows[i]? = some row → ∃ a, rs[i]? = some (.ref a) ∧ H a = some (.lst (row.map V.int))
theorem RowsR.same {H H' : Hp} {rs : List V} {rows : List (List Int)} (h : RowsR H rs rows) (s : Same H H') : RowsR H' rs rows := ⟨h.1, fun i row e => by
  obtain ⟨a, b, c⟩ := h.2 i row e
  exact ⟨a, b, s _ _ c⟩⟩
theorem RowsR.upd {H : Hp} {rs : List V} {rows : List (List Int)} {q : Addr} {o : HO} (h : RowsR H rs rows) (n : V.ref q ∉ rs) : RowsR (upd H q o) rs rows := ⟨h.1, fun i row e => by
  obtain ⟨a, b, c⟩ := h.2 i row e
  have ne : a ≠ q := fun z => n (by rw [← z]; exact List.mem_of_getElem? b)
  refine ⟨a, b, ?_⟩
  rw [upd_ne ne]
  exact c⟩
theorem RowsR.nil (H : Hp) : RowsR H [] [] := ⟨rfl, fun i row e => by simp at e⟩
theorem RowsR.app {H : Hp} {rs ss : List V} {rows sows : List (List Int)} (h : RowsR H rs rows) (g : RowsR H ss sows) : RowsR H (rs ++ ss) (rows ++ sows) := by
  refine ⟨by rw [List.length_append, List.length_append, h.1, g.1], fun i row e => ?_⟩
  by_cases hi : i < rows.length
  · rw [List.getElem?_append_left hi] at e
    rw [List.getElem?_append_left (by rw [h.1]; exact hi)]
    exact h.2 i row e
  · rw [List.getElem?_append_right (by omega)] at e
    rw [List.getElem?_append_right (by rw [h.1]; omega), h.1]
    exact g.2 _ row e
theorem RowsR.one {H : Hp} {a : Addr} {row : List Int} (h : H a = some (.lst (row.map V.int))) : RowsR H [.ref a] [row] := ⟨rfl, fun i r e => by
  cases i with
  | zero => cases e; exact ⟨a, rfl, h⟩
  | succ i => simp at e⟩
theorem RowsR.dp {K : PySem.W.Frag} {H : Hp} : ∀ {rs : List V} {rows : List (List Int)}, RowsR H rs rows → DpAll K H rs (rows.map dI)
  | [], [], _ => .nil
  | [], _ :: _, h => absurd h.1 (by simp)
  | _ :: _, [], h => absurd h.1 (by simp)
  | v :: rs, r :: rows, h => by
    obtain ⟨a, b, c⟩ := h.2 0 r rfl
    have e : v = .ref a := Option.some.inj b
    subst e
    exact .cons (dp_ints (.of c)) (RowsR.dp ⟨Nat.succ.inj h.1, fun i row e => h.2 (i + 1) row e⟩)
theorem flatMap_take_len {α β : Type} {f : α → List β} (l : List α) (j : Nat) : ((l.take j).flatMap f).length ≤ (l.flatMap f).length := by
  have e : l.flatMap f = (l.take j).flatMap f ++ (l.drop j).flatMap f := by rw [← List.flatMap_append, List.take_append_drop]
  rw [e, List.length_append]
  omega
theorem flatMap_take_succ {α β : Type} {f : α → List β} {l : List α} {j : Nat} {x : α} (h : l[j]? = some x) : (l.take (j + 1)).flatMap f = (l.take j).flatMap f ++ f x := by
  rw [take_get h, List.flatMap_append]
  simp
end Lp
set_option Elab.async false
set_option linter.all false
set_option maxRecDepth 100000
namespace Lp
open PySem PySem.Spec PyProof.Rows L2
theorem rgc_two (n : Nat) (h : n ≤ 1000) : RgC 1 (2 * (n : Int)) 2 n := by
  have hs : Builtin.Range.rangeSize 1 (2 * (n : Int)) 2 = (n : Int) := by
    unfold Builtin.Range.rangeSize
    rw [if_pos (by decide)]
    by_cases h0 : n = 0
    · subst h0
      rw [if_neg (by omega)]
      rfl
    · rw [if_pos (by omega)]
      omega
  refine ⟨by decide, by decide, ?_, hs⟩
  unfold Builtin.Range.small
  rw [hs]
  have f : ∀ z : Int, -1000000 ≤ z → z ≤ 1000000 → Builtin.Range.rangeFitsLong z = true := fun z a b => by
    unfold Builtin.Range.rangeFitsLong
    rw [decide_eq_true (show -2 ^ 63 ≤ z by omega), decide_eq_true (show z < 2 ^ 63 by omega)]
    rfl
  rw [f 1 (by decide) (by decide), f (2 * (n : Int)) (by omega) (by omega), f 2 (by decide) (by decide), f (n : Int) (by omega) (by omega), if_pos (by decide), f (2 * (n : Int) + (2 - 1)) (by omega) (by omega), Bool.or_true]
  rfl
/-! ### lists of objects in the heap -/
def ObjR {α : Type} (o : α → HO) (H : Hp) (rs : List V) (l : List α) : Prop := rs.length = l.length ∧ ∀ (i : Nat) (x : α), l[i]? = some x → ∃ a, rs[i]? = some (.ref a) ∧ H a = some (o x)
section
variable {α : Type} {o : α → HO} {H H' : Hp} {rs ss : List V} {l m : List α}
theorem ObjR.same (h : ObjR o H rs l) (s : Same H H') : ObjR o H' rs l := ⟨h.1, fun i x e => by
  obtain ⟨a, b, c⟩ := h.2 i x e
  exact ⟨a, b, s _ _ c⟩⟩
theorem ObjR.upd {q : Addr} {u : HO} (h : ObjR o H rs l) (n : V.ref q ∉ rs) : ObjR o (upd H q u) rs l := ⟨h.1, fun i x e => by
  obtain ⟨a, b, c⟩ := h.2 i x e
  have ne : a ≠ q := fun z => n (by rw [← z]; exact List.mem_of_getElem? b)
  refine ⟨a, b, ?_⟩
  rw [upd_ne ne]
  exact c⟩
theorem ObjR.nil : ObjR o H [] [] := ⟨rfl, fun i x e => by simp at e⟩
theorem ObjR.app (h : ObjR o H rs l) (g : ObjR o H ss m) : ObjR o H (rs ++ ss) (l ++ m) := by
  refine ⟨by rw [List.length_append, List.length_append, h.1, g.1], fun i x e => ?_⟩
  by_cases hi : i < l.length
  · rw [List.getElem?_append_left hi] at e
    rw [List.getElem?_append_left (by rw [h.1]; exact hi)]
    exact h.2 i x e
  · rw [List.getElem?_append_right (by omega)] at e
    rw [List.getElem?_append_right (by rw [h.1]; omega), h.1]
    exact g.2 _ x e
theorem ObjR.one {a : Addr} {x : α} (h : H a = some (o x)) : ObjR o H [.ref a] [x] := ⟨rfl, fun i r e => by
  cases i with
  | zero => cases e; exact ⟨a, rfl, h⟩
  | succ i => simp at e⟩
end
theorem rep_one (b : Bool) (v : V) : (List.replicate (if b = true then (1 : Int) else 0).toNat [v]).flatten = if b = true then [v] else [] := by cases b <;> rfl
theorem rep_sz (b : Bool) (v : V) : [v].length * (if b = true then (1 : Int) else 0).toNat ≤ sizeLine := by
  cases b
  · exact Nat.zero_le _
  · exact Lp.zs (show 1 * 1 ≤ 100000 by decide)
theorem ifs_len (b : Bool) (v : V) : (if b = true then [v] else []).length ≤ 1 := by
  cases b
  · exact Nat.zero_le _
  · exact Nat.le_refl _
theorem ints_get {ns : List Int} {i : Nat} {n : Int} (h : ns[i]? = some n) : (ns.map V.int)[i]? = some (.int n) := by rw [List.getElem?_map, h]; rfl
end Lp
set_option Elab.async false
set_option linter.all false
set_option maxRecDepth 100000
namespace Lp
open PySem PySem.Spec PyProof.Rows L2
/-! ### lists of ints, by < -/
theorem firstLt_map (e r : Nat → Bool) (fin : Bool) (f : Nat → Nat) : ∀ l : List Nat, SeqAt.firstLt e r fin (l.map f) = SeqAt.firstLt (fun j => e (f j)) (fun j => r (f j)) fin l
  | [] => rfl
  | j :: t => by
    show (if e (f j) = true then SeqAt.firstLt e r fin (t.map f) else r (f j)) = (if e (f j) = true then SeqAt.firstLt (fun j => e (f j)) (fun j => r (f j)) fin t else r (f j))
    rw [firstLt_map e r fin f t]
theorem first_lex : ∀ ns ms : List Int, SeqAt.firstLt (fun j => ns.getD j 0 == ms.getD j 0) (fun j => decide (ns.getD j 0 < ms.getD j 0)) (decide (ns.length < ms.length)) (List.range (min ns.length ms.length)) = HT.lexLt ns ms
  | [], [] => rfl
  | [], _ :: _ => rfl
  | _ :: _, [] => rfl
  | n :: ns, m :: ms => by
    have e : min (n :: ns).length (m :: ms).length = min ns.length ms.length + 1 := by
      simp only [List.length_cons]
      omega
    have e2 : decide ((n :: ns).length < (m :: ms).length) = decide (ns.length < ms.length) := decide_eq_decide.mpr (by simp only [List.length_cons]; omega)
    rw [e, e2, List.range_succ_eq_map]
    show (if (n == m) = true then SeqAt.firstLt _ _ _ ((List.range (min ns.length ms.length)).map Nat.succ) else decide (n < m)) = if n = m then HT.lexLt ns ms else decide (n < m)
    rw [firstLt_map]
    by_cases h : n = m
    · rw [if_pos (beq_iff_eq.mpr h), if_pos h]
      exact first_lex ns ms
    · rw [if_neg (fun z => h (beq_iff_eq.mp z)), if_neg h]
def IsLs (h : Heap) (v : Value) (ns : List Int) : Prop := ∃ (a : Addr) (items : List Value), v = .ref a ∧ h.IsList a items.toArray ∧ IntsAre items ns
theorem IsLs.keeps {h h' : Heap} {v : Value} {ns : List Int} (x : IsLs h v ns) (k : ∀ b o, v = .ref b → h.get? b = some o → h'.get? b = some o) : IsLs h' v ns := by
  obtain ⟨a, its, rfl, ⟨o, ho, hc, n, hd⟩, hi⟩ := x
  exact ⟨a, its, rfl, ⟨o, k a o rfl ho, hc, n, hd⟩, hi⟩
theorem ints_at : ∀ {us : List Value} {ns : List Int}, IntsAre us ns → ∀ j (h : j < us.length), ∃ t, us[j] = .int (ns.getD j 0) t
  | _, _, .cons n t r, 0, _ => ⟨t, rfl⟩
  | _, _, .cons n t r, j + 1, h => by
    obtain ⟨u, e⟩ := ints_at r j (Nat.lt_of_succ_lt_succ h)
    exact ⟨u, e⟩
section
variable {prog : Program} {w : World} {A : Around} {E : Value → Shared → Prop} {s : Shared}
theorem rcLt_int (A : Around) (s : Shared) (a : Int) (t : Tok) (b : Int) (u : Tok) : SeqAt.RcLt A s (.int a t) (.int b u) (decide (a < b)) := fun prog w E Q h => by
  have z : wpAny (model prog w) A (compareOp .Lt (.int a t) (.int b u)) Q E s := lt_int h
  exact z
theorem lt_ls {v u : Value} {ns ms : List Int} {Q : Bool → Shared → Prop} (hu : A.units < cLine) (hv : IsLs s.heap v ns) (hw : IsLs s.heap u ms) (h : Q (HT.lexLt ns ms) s) : wpAny (model prog w) A (keyLt' oneType' v u) Q E s := by
  obtain ⟨a, its, rfl, la, ia⟩ := hv
  obtain ⟨b, its2, rfl, lb, ib⟩ := hw
  have l1 := ia.length
  have l2 := ib.length
  rw [keyLt'_oneType, oneLt'_eq]
  simp only [if_true]
  refine wpAny_bind (wpAny_cRoomFor hu ?_)
  refine wpAny_bind (wpAny_callSpecialIfBound?_slot la.typeIs PySem.F.slot_list_lt (SeqAt.call_list_lt (e := fun j => ns.getD j 0 == ms.getD j 0) (r := fun j => decide (ns.getD j 0 < ms.getD j 0)) la lb (fun j h1 h2 => ?_) (fun j h1 h2 _ => ?_) ?_))
  · obtain ⟨t, e⟩ := ints_at ia j (by simpa using h1)
    obtain ⟨t', e'⟩ := ints_at ib j (by simpa using h2)
    rw [List.getElem_toArray, List.getElem_toArray, e, e']
    exact SeqAt.EqAt.int_int _ t _ t'
  · obtain ⟨t, e⟩ := ints_at ia j (by simpa using h1)
    obtain ⟨t', e'⟩ := ints_at ib j (by simpa using h2)
    rw [List.getElem_toArray, List.getElem_toArray, e, e']
    exact rcLt_int _ _ _ t _ t'
  · rw [List.size_toArray, List.size_toArray, l1, l2, first_lex]
    exact wpAny_truthy_bool h
theorem ls_cmp {vs : List Value} {k : Value → List Int} (hu : A.units < cLine) (hv : ∀ v ∈ vs, IsLs s.heap v (k v)) : SrtO.Cmp prog w A s oneType' (fun p => p.1 ∈ vs) (SrtO.lt2 fun v u => HT.lexLt (k v) (k u)) := by
  intro p q hp hq
  exact lt_ls (Q := fun r s' => s' = s ∧ r = HT.lexLt (k p.1) (k q.1)) (E := fun _ _ => False) hu (hv p.1 hp) (hv q.1 hq) ⟨rfl, rfl⟩
theorem ls_sortable {a : Addr} {vs : List Value} {k : Value → List Int} (h2 : 2 ≤ vs.length) (hu : A.units < cLine) (hv : ∀ v ∈ vs, IsLs s.heap v (k v)) (ha : ∀ v ∈ vs, v ≠ .ref a) :
    SrtO.SortableO prog w A s a vs fun v u => HT.lexLt (k v) (k u) := by
  intro h' keep
  have hv' : ∀ v ∈ vs, IsLs h' v (k v) := fun v hm => (hv v hm).keeps fun b o e g => keep b o (fun z => ha v hm (by rw [e, z])) g
  refine ⟨oneType', fun Q E hq => ?_, ls_cmp (s := { s with heap := h' }) hu hv'⟩
  refine PySem.W.kas_kind (s := { s with heap := h' }) (T := .type "list") h2 (fun v hm => ?_) (by rfl) (by simp) hq
  obtain ⟨a, its, rfl, ⟨o, ho, hc, n, hd⟩, hi⟩ := hv' v hm
  rw [← hc]
  exact (PySem.W.Looks.ld ho).andThen .now
end
/-- sorted(xs), xs a list of lists of ints of any length (k says which) -/
def rSortedLL (K : PySem.W.Frag) : List V → Hp → VK → Prop := fun vs H Q => ∃ (a : Addr) (xs : List V) (k : V → List Int), vs = [V.ref a] ∧ SqL K H a xs ∧ (∀ x ∈ xs, ∃ t, x = V.ref t ∧ SqL K H t ((k x).map V.int)) ∧
  ∀ ys p, ys.Perm xs → ys.Pairwise (fun x y => HT.lexLt (k y) (k x) = false) → H p = none → Q (.ref p) (upd H p (.lst ys))
theorem cr_sortedLL {X : Cx} (hu : X.A.units + 64 < cLine) : CallR X (.builtin "sorted") (rSortedLL X.K) := by
  intro pins s σ H vs us Q I r h
  obtain ⟨a, xs, k, rfl, hs, hx, q⟩ := h
  obtain ⟨its, rv, hl, hz⟩ := I.list hs
  obtain ⟨u, rfl, ru⟩ := vals1 r
  obtain rfl : u = Value.ref a := ru
  obtain ⟨e1, e2⟩ := refs_back rv fun x m => by
    obtain ⟨t, e, _⟩ := hx x m
    exact ⟨t, e⟩
  have hv : ∀ v ∈ its, IsLs s.heap v (k (backV v)) := fun v hv => by
    obtain ⟨t, rfl⟩ := e2 v hv
    have hm : V.ref t ∈ xs := by rw [e1]; exact List.mem_map.mpr ⟨_, hv, rfl⟩
    obtain ⟨t', e, ht⟩ := hx _ hm
    cases e
    obtain ⟨its2, r2, l2, _⟩ := I.list ht
    exact ⟨t, its2, rfl, l2.isList, r2.ints⟩
  refine SrtO.sorted_ord (NtL.swo_lexL fun u => k (backV u)) hl.isList (by rw [← rv.length]; exact hz) (fun h2 h₁ a' g keep => ls_sortable h2 (by show X.A.units + 1 + 1 < cLine; omega) (fun v hm => (hv v hm).keeps fun b o _ g => (keep b o g).2) fun v hm z => ?_) fun out h1 h2 => ?_
  · obtain ⟨b, its3, e, ⟨o, ho, _⟩, _⟩ := hv v hm
    rw [z] at e
    cases e
    exact (keep _ o ho).1 rfl
  · have h3 : ∀ u ∈ out, ∃ a, u = Value.ref a := fun u hu => e2 u (h2.perm.mem_iff.mp hu)
    obtain ⟨ep, he'⟩ := PyProof.Rows.sortedAll_at s.heap its out.toArray
    have hp : (out.map backV).Perm xs := by
      rw [e1]
      exact h2.perm.map backV
    have hlen : (out.map backV).length ≤ sizeLine := by
      rw [hp.length_eq]
      exact hz
    exact ⟨.ref _, upd H (s.heap.objs.size + 1) (.lst (out.map backV)), I.laid (t' := s.toks) (fun _ _ => PyProof.Rows.sortedAll_old) (Nat.le_succ _) ⟨hlen, out, ep, vals_back h3, he'⟩, rfl, q _ _ hp (List.pairwise_map.mpr (h1.imp fun {x y} z => z)) (I.hok.fresh (Nat.le_succ _))⟩
end Lp
set_option Elab.async false
set_option linter.all false
set_option maxRecDepth 100000
namespace Lp
open PySem PySem.Spec PyProof.Rows L2
theorem all_bounds (n : Nat) : PySem.sliceBounds none none none n = (0, (n : Int), 1) := by
  simp [PySem.sliceBounds]
section
variable {prog : Program} {w : World} {A : Around} {E : Value → Shared → Prop} {s : Shared}
/-- xs[:] = ys -/
theorem whole_set {p q z : Addr} {old new : Array Value} {n1 n2 : Nat} {R : Unit → Shared → Prop} (hp : s.heap.get? p = some { cls := .type "list", data := .seq old n1 }) (hq : s.heap.get? q = some { cls := .type "list", data := .seq new n2 })
    (npq : p ≠ q) (hz : s.heap.IsSliceOf z .none .none .none) (fit : old.size + new.size ≤ sizeLine) (h : R () { s with heap := s.heap.update p (Obj.mapSeq fun xs => xs.extract 0 0 ++ new ++ xs.extract old.size xs.size) }) :
    wpAny (model prog w) A (setItem (.ref p) (.ref z) (.ref q)) R E s := by
  have tp : s.heap.IsList p old := PySem.IsL.isList hp
  have tq : s.heap.IsList q new := PySem.IsL.isList hq
  obtain ⟨oz, goz, coz, doz⟩ := id hz
  have tz : s.TypeIs (.ref z) "slice" := ⟨oz, goz, coz⟩
  have noZero : ¬ ((rawPart none == rawInt 0) = true) := Bool.false_ne_true
  have two : Builtin.List.listSameRef (.ref p) (.ref q) = false := by unfold Builtin.List.listSameRef; exact beq_eq_false_iff_ne.mpr npq
  have upper : (max (0 : Int) (old.size : Int)).toNat = old.size := by omega
  have fit' : ((fun xs : Array Value => xs.extract 0 0 ++ new ++ xs.extract old.size xs.size) old).size ≤ sizeLine + 1 := by simp only [Array.size_append, Array.size_extract]; omega
  unfold setItem; try with_reducible refine wpAny_holding ?_
  first | refine wpAny_bind (wpAny_pure ?_) | skip
  refine wpAny_bind (wpAny_sequenceKey tp.typeIs (by decide) (wpAny_bind (wpAny_callSpecial?_slot (name := Str.ofString "__setitem__") tp.typeIs slot_list_setitem (wpAny_call_entry slot_list_setitem tp.typeIs entry_list_setitem ?_ (args_list_setitem _ _ _)))))
  show wpAny _ _ (Builtin.List.listSubscript? (.ref z) >>= _) _ _ s
  refine wpAny_bind ?_
  unfold Builtin.List.listSubscript?
  refine wpAny_bind (wpAny_specialOf tz slice_no_index ?_)
  simp only [Option.isNone_none, if_true]
  refine wpAny_pure (?_ : wpAny _ _ (typeOf (.ref z) >>= _) _ _ s)
  refine wpAny_bind (wpAny_typeOf tz ?_)
  first | rw [if_neg (by decide)] | refine PySem.W.KFB.if_not (by decide) ?_
  rw [listSliceParts_eq]
  refine wpAny_bind (wpAny_bind (wpAny_field goz doz (x := .none) rfl (wpAny_bind (wpAny_listPart .none (?_ : wpAny _ _ _ _ _ _)))))
  rw [if_neg noZero]
  refine wpAny_bind (wpAny_field goz doz (x := .none) rfl (wpAny_bind (wpAny_listPart .none (wpAny_bind (wpAny_field goz doz (x := .none) rfl (wpAny_bind (wpAny_listPart .none (wpAny_pure ?_))))))))
  first | simp only [two, Bool.false_eq_true, if_false] | refine PySem.W.KFB.if_not two ?_ | (dsimp only; rw [if_neg (by rw [two]; exact Bool.false_ne_true)])
  refine wpAny_bind (m := Builtin.List.listAllItems (.ref q) "must assign iterable to extended slice") ?_
  unfold Builtin.List.listAllItems; refine wpAny_bind (wpAny_typeOf tq.typeIs ?_)
  first | refine PySem.W.KFB.if_so (by decide) ?_ | rw [if_pos (by decide)] | simp only [beq_self_eq_true, Bool.true_or, if_true]
  unfold Builtin.List.listItems; refine wpAny_bind (wpAny_seqItems hq rfl (wpAny_pure (wpAny_bind (wpAny_bind (wpAny_seqItems hp rfl (wpAny_pure ?_))))))
  refine wpAny_bind (wpAny_of_eq ((sliceIndices_raw none none none old.size (by simp)).trans (congrArg (pure : Int × Int × Int → Sem (Int × Int × Int)) (all_bounds old.size))) ?_)
  show wpAny _ _ (if ((1 : Int) == 1) = true then _ else _) _ _ s
  rw [if_pos (by decide)]; refine wpAny_bind (wpAny_rule ?_)
  first | simp only [notLongL fit, Bool.false_eq_true, if_false] | refine PySem.W.KFB.if_not (notLongL fit) ?_
  first | refine wpAny_bind (wpAny_pure ?_) | skip
  show wpAny _ _ (updateSeq p (fun xs => xs.extract 0 ((0 : Int)).toNat ++ new ++ xs.extract (max (0 : Int) (old.size : Int)).toNat xs.size) >>= _) _ _ s
  rw [upper]; refine wpAny_bind (wpAny_updateSeq (hz := Nat.le_trans (Nat.le_add_right _ _) fit) (_hz' := fit') hp rfl (wpAny_bind (wpAny_letGo ?_)))
  first | exact wpAny_bind (wpAny_pure (wpAny_pure ⟨.none, rfl, wpAny_pure h⟩)) | exact wpAny_pure ⟨.none, rfl, wpAny_pure h⟩
end
/-- the slice object of [:] -/
def SlO (a : Addr) : HO := .ext fun h => h.IsSliceOf a .none .none .none
section
variable {X : Cx} {pos : Pos}
def tSlAll : TE := fun _ H Q => ∀ p, H p = none → Q (.ref p) (upd H p (SlO p))
theorem pe_slAll : PE X (.Slice none none none pos) tSlAll := by
  refine ⟨fun pins s σ H Q I h => ?_⟩
  refine wpAny_Slice ?_
  rw [evalPart_none]
  refine wpAny_pure (wpAny_pure (wpAny_pure ?_))
  refine ⟨.ref s.heap.objs.size, upd H s.heap.objs.size (SlO s.heap.objs.size), I.laid (t' := s.toks) (fun b ob q => Heap.get?_push_of_some _ q) (Nat.le_refl _) ⟨Heap.IsSliceOf.new .., ⟨_, Heap.get?_push_size s.heap rfl⟩, fun h1 h2 x k => ?_⟩, rfl, h _ (I.hok.fresh (Nat.le_refl _))⟩
  obtain ⟨o, e, c, d⟩ := x
  exact ⟨o, k o e, c, d⟩
def sAll : TSet := fun x y z H Q => ∃ (l b sl : Addr) (xs ys : List V), x = .ref l ∧ y = .ref sl ∧ z = .ref b ∧ H sl = some (SlO sl) ∧ H l = some (.lst xs) ∧ H b = some (.lst ys) ∧ l ≠ b ∧ xs.length + ys.length ≤ sizeLine ∧ Q (upd H l (.lst ys))
theorem set_all : PSet X sAll := by
  intro pins s σ H o i v ov iv u Q I r1 r2 r3 h
  obtain ⟨l, b, sl, xs, ys, rfl, rfl, rfl, hsl, hl, hb, ne, hz, q⟩ := h
  cases r1
  cases r2
  cases r3
  obtain ⟨z, its, n, r, el, e⟩ := I.lstM hl
  obtain ⟨z2, its2, n2, r', el2, e2⟩ := I.lstM hb
  have os : ObjOk X.prog X.w H s.heap sl (SlO sl) := I.hok sl _ hsl
  refine whole_set e e2 ne os.1 (by rw [List.size_toArray, List.size_toArray]; omega) ⟨_, I.lset (its' := its2) (t' := s.toks) hl e ?_ r' (by omega), q⟩
  apply Array.toList_inj.mp
  simp
/-- xs[..] = as a target, a slice without a step -/
theorem pg_slAll {o i : Expr} {to ti : TE} {t : TSet} (ho : PE X o to) (hi : PE X i ti) (hs : PSet X t)
    (ha : ∀ v, assign (.Subscript o i pos) X.env v = (holding [v] (eval o X.env) >>= fun ov => holding [v, ov] (eval i X.env) >>= fun iv => standAt pos >>= fun _ => holding [v, ov, iv] (setItem ov iv v) >>= fun _ => release [iv, v, ov] []) := by intro _; rfl) : PG X (.Subscript o i pos) (gSub to ti t) := by
  refine ⟨fun pins s σ H v u Q I r h => ?_⟩
  rw [ha u]
  refine wpAny_bind (wpAny_holding (thn (ho.run pins s σ H _ I h) fun ov sA ⟨x, HA, IA, rA, qA⟩ => wpAny_bind (wpAny_holding (thn (hi.run pins sA σ HA _ IA qA) fun iv sB ⟨y, HB, IB, rB, qB⟩ =>
    wpAny_bind (wpAny_standAt (wpAny_bind (wpAny_holding (thn (hs pins sB σ HB x y v ov iv u _ IB rA rB r qB) fun _ sC ⟨HC, IC, qC⟩ => wpAny_release ⟨σ, HC, IC, qC⟩))))))))
end
end Lp
set_option Elab.async false
set_option linter.all false
set_option maxRecDepth 100000
namespace Lp
open PySem PySem.Calls
theorem comb_entry : entryFor table "math.comb" = some Builtin.«math.comb» := entryFor_of_tree (by kernel_rfl)
theorem comb_kind : builtinKind "math.comb" = none := by kernel_rfl
theorem comb_plain : plainId "math.comb" = true := by decide +kernel
theorem comb_args (a b : Value) : argsOk "math.comb" ⟨[a, b], []⟩ := by unfold argsOk; kernel_rfl
theorem comb_run (a : Int) (t : Tok) (b : Int) (u : Tok) (h0 : ¬ a < 0) (h1 : ¬ b < 0) (h2 : ¬ b > a) (h3 : ¬ min b (a - b) > Builtin.Math.maxSsize) (h4 : ¬ min b (a - b) > Builtin.Math.manyFactors) (h5 : ¬ min b (a - b) > 9000)
    (hs : (Builtin.Math.fallingProduct a (min b (a - b)).toNat / Builtin.Math.fallingProduct (min b (a - b)) (min b (a - b)).toNat).natAbs.log2 < bitsLine) :
    Gives (Builtin.«math.comb» ⟨[.int a t, .int b u], []⟩) (.int (Builtin.Math.fallingProduct a (min b (a - b)).toNat / Builtin.Math.fallingProduct (min b (a - b)) (min b (a - b)).toNat)) :=
  .of_wp fun M A E s Q h => by obtain ⟨hp, g, d, tk, os⟩ := s; wp_walk; (try (refine wpAny_ite_false (decide_eq_false (Nat.not_le.mpr hs)) ?_; wp_walk)); exact ⟨_, rfl, h⟩
end Lp
namespace Lp
open PySem PySem.Spec PySem.Calls PyProof.Rows L2
/-! ### binomial coefficients -/
theorem facN_pos' : ∀ n, 0 < facN n
  | 0 => by decide
  | n + 1 => Nat.mul_pos (facN_pos' n) (Nat.succ_pos n)
def chN (n k : Nat) : Nat := facN n / (facN k * facN (n - k))
def chP : Nat → Nat → Nat
  | _, 0 => 1
  | 0, _ + 1 => 0
  | n + 1, k + 1 => chP n k + chP n (k + 1)
theorem chP_zero (n : Nat) : chP n 0 = 1 := by cases n <;> rfl
theorem chP_gt : ∀ n k, n < k → chP n k = 0
  | 0, k + 1, _ => rfl
  | n + 1, k + 1, h => by
    show chP n k + chP n (k + 1) = 0
    rw [chP_gt n k (by omega), chP_gt n (k + 1) (by omega)]
theorem chP_self : ∀ n, chP n n = 1
  | 0 => rfl
  | n + 1 => by
    show chP n n + chP n (n + 1) = 1
    rw [chP_self n, chP_gt n (n + 1) (by omega)]
theorem chP_fac : ∀ n k, k ≤ n → chP n k * (facN k * facN (n - k)) = facN n
  | n, 0, _ => by
    rw [chP_zero, Nat.sub_zero]
    show 1 * (1 * facN n) = facN n
    rw [Nat.one_mul, Nat.one_mul]
  | n + 1, k + 1, h => by
    show (chP n k + chP n (k + 1)) * (facN k * (k + 1) * facN (n + 1 - (k + 1))) = facN n * (n + 1)
    have e : n + 1 - (k + 1) = n - k := by omega
    rw [e]
    have a := chP_fac n k (by omega)
    rcases Nat.lt_or_ge k n with hk | hk
    · have b := chP_fac n (k + 1) (by omega)
      have b2 : facN (n - k) = facN (n - (k + 1)) * (n - k) := by
        have e2 : n - k = (n - (k + 1)) + 1 := by omega
        rw [e2]
        rfl
      have x1 : chP n k * (facN k * (k + 1) * facN (n - k)) = facN n * (k + 1) := by
        rw [← a]
        simp only [Nat.mul_assoc, Nat.mul_comm, Nat.mul_left_comm]
      have x2 : chP n (k + 1) * (facN k * (k + 1) * facN (n - k)) = facN n * (n - k) := by
        rw [← b, b2]
        show _ = chP n (k + 1) * (facN k * (k + 1) * facN (n - (k + 1))) * (n - k)
        simp only [Nat.mul_assoc, Nat.mul_comm, Nat.mul_left_comm]
      rw [Nat.add_mul, x1, x2, ← Nat.mul_add]
      congr 1
      omega
    · have ek : k = n := by omega
      subst ek
      have x : chP k k * (facN k * (k + 1) * facN (k - k)) = chP k k * (facN k * facN (k - k)) * (k + 1) := by
        simp only [Nat.mul_assoc, Nat.mul_comm, Nat.mul_left_comm]
      rw [chP_gt k (k + 1) (by omega), Nat.add_zero, x, a]
theorem ch_eq {n k : Nat} (h : k ≤ n) : chN n k = chP n k := by
  unfold chN
  rw [← chP_fac n k h]
  exact Nat.mul_div_cancel _ (Nat.mul_pos (facN_pos' k) (facN_pos' _))
theorem ch_sym {n k : Nat} (h : k ≤ n) : chN n (n - k) = chN n k := by
  unfold chN
  have e : n - (n - k) = k := by omega
  rw [e, Nat.mul_comm]
theorem ch_le (n k : Nat) : chN n k ≤ facN n := Nat.div_le_self _ _
theorem fall_fac (n : Nat) : ∀ k, k ≤ n → Builtin.Math.fallingProduct (n : Int) k * ((facN (n - k) : Nat) : Int) = ((facN n : Nat) : Int)
  | 0, _ => by
    show 1 * _ = _
    rw [Int.one_mul, Nat.sub_zero]
  | k + 1, h => by
    have e : Builtin.Math.fallingProduct (n : Int) (k + 1) = Builtin.Math.fallingProduct (n : Int) k * ((n : Int) - (k : Int)) := by
      unfold Builtin.Math.fallingProduct
      rw [List.range_succ, List.foldl_append]
      rfl
    have ih := fall_fac n k (by omega)
    have e2 : facN (n - k) = facN (n - (k + 1)) * (n - k) := by
      have e3 : n - k = (n - (k + 1)) + 1 := by omega
      rw [e3]
      rfl
    rw [← ih, e, e2, Int.natCast_mul, Int.mul_assoc]
    congr 1
    rw [Int.mul_comm]
    congr 1
    omega
theorem comb_val {n k : Nat} (h : k ≤ n) : Builtin.Math.fallingProduct (n : Int) k / Builtin.Math.fallingProduct (k : Int) k = ((chN n k : Nat) : Int) := by
  have a := fall_fac n k h
  have b := fall_fac k k (Nat.le_refl k)
  have c := chP_fac n k h
  rw [Nat.sub_self] at b
  have b' : Builtin.Math.fallingProduct (k : Int) k = ((facN k : Nat) : Int) := by
    rw [← b]
    exact (Int.mul_one _).symm
  have fp : ((facN (n - k) : Nat) : Int) ≠ 0 := by
    have := facN_pos' (n - k)
    omega
  have a' : Builtin.Math.fallingProduct (n : Int) k = ((chP n k * facN k : Nat) : Int) := by
    refine Int.eq_of_mul_eq_mul_right fp ?_
    rw [a, ← c, ← Int.natCast_mul, Nat.mul_assoc]
  rw [a', b', ← Int.natCast_ediv, Nat.mul_div_cancel _ (facN_pos' k), ch_eq h]
def rComb : List V → Hp → VK → Prop := fun vs H Q => ∃ n k : Nat, vs = [.int (n : Int), .int (k : Int)] ∧ k ≤ n ∧ n ≤ 1000 ∧ Q (.int ((chN n k : Nat) : Int)) H
theorem cr_comb {X : Cx} : CallR X (.builtin "math.comb") rComb := by
  intro pins s σ H vs us Q I r h
  obtain ⟨n, k, rfl, hk, hn, q⟩ := h
  obtain ⟨t, u, rfl⟩ := Vals.int2 r
  obtain ⟨m, em, hm, ech⟩ : ∃ m : Nat, min (k : Int) ((n : Int) - (k : Int)) = (m : Int) ∧ m ≤ n ∧ chN n m = chN n k := by
    rcases Nat.le_total k (n - k) with c | c
    · exact ⟨k, by omega, hk, rfl⟩
    · exact ⟨n - k, by omega, by omega, ch_sym hk⟩
  have v : Builtin.Math.fallingProduct (n : Int) (min (k : Int) ((n : Int) - (k : Int))).toNat / Builtin.Math.fallingProduct (min (k : Int) ((n : Int) - (k : Int))) (min (k : Int) ((n : Int) - (k : Int))).toNat = ((chN n k : Nat) : Int) := by
    rw [em, Int.toNat_natCast, comb_val hm, ech]
  have fl := fac_lt n hn
  refine call_function_meets comb_kind comb_plain comb_entry (comb_args _ _) (comb_run (n : Int) t (k : Int) u (by omega) (by omega) (by omega) (by rw [em]; show ¬ (m : Int) > 2 ^ 63 - 1; omega) (by rw [em]; show ¬ (m : Int) > 20000; omega) (by omega) ?_).meets ?_
  · rw [v]
    show (chN n k).log2 < bitsLine
    have b := PySem.Flt.log2_lt_of (by omega : 0 < 10 * n + 1) (Nat.lt_of_le_of_lt (ch_le n k) fl)
    have e2 : bitsLine = 134217728 := by decide
    rw [e2]
    omega
  · rw [v]
    exact ⟨.int _, H, I.tok _, ⟨_, rfl⟩, q⟩
end Lp
set_option Elab.async false
set_option linter.all false
set_option maxRecDepth 100000
namespace Lp
open PySem PySem.Spec PyProof.Rows L2
/-! ### a text read from its end -/
theorem fm_all {α : Type} : ∀ m : List α, List.filterMap (fun k => m[k]?) (List.range m.length) = m
  | [] => rfl
  | a :: m => by
    rw [List.length_cons, List.range_succ_eq_map, List.filterMap_cons]
    show a :: List.filterMap (fun k => (a :: m)[k]?) (List.map Nat.succ (List.range m.length)) = a :: m
    rw [List.filterMap_map]
    exact congrArg (a :: ·) (fm_all m)
theorem fm_congr {α β : Type} {f g : α → Option β} : ∀ {l : List α}, (∀ x ∈ l, f x = g x) → l.filterMap f = l.filterMap g
  | [], _ => rfl
  | a :: l, h => by
    rw [List.filterMap_cons, List.filterMap_cons, h a (List.mem_cons_self ..), fm_congr fun x hx => h x (List.mem_cons_of_mem _ hx)]
theorem fm_rev {α : Type} (l : List α) : List.filterMap (fun k => l[l.length - 1 - k]?) (List.range l.length) = l.reverse := by
  refine Eq.trans (fm_congr (g := fun k => l.reverse[k]?) fun k hk => ?_) ((congrArg (fun n => List.filterMap (fun k => l.reverse[k]?) (List.range n)) (List.length_reverse (as := l)).symm).trans (fm_all l.reverse))
  rw [List.getElem?_reverse (List.mem_range.mp hk)]
theorem rev_idx (n : Nat) : Builtin.Str.strSliceIndices none none (-1) n = (List.range n).map fun k => n - 1 - k := by
  show sliceRange ((n : Int) - 1) (-1) (-1) = _
  have e : sliceRange ((n : Int) - 1) (-1) (-1) = List.map (fun k : Nat => ((n : Int) - 1 + (-1) * (k : Int)).toNat) (List.range (if (n : Int) - 1 > -1 then ((n : Int) - 1 - (-1) - (-1) - 1) / 1 else (0 : Int)).toNat) := rfl
  rw [e]
  have c : (if (n : Int) - 1 > -1 then ((n : Int) - 1 - (-1) - (-1) - 1) / 1 else (0 : Int)).toNat = n := by
    split <;> omega
  rw [c]
  exact List.map_congr_left fun k hk => by omega
def revS (x : Str) : Str := ⟨x.cps.toList.reverse.toArray⟩
theorem rev_made (x : Str) (t q : Tok) : sliceMade x t none none (some (-1, q)) = .str (revS x) := by
  show (if ((-1 : Int) == 1 && _) = true then _ else _) = _
  rw [if_neg (by simp)]
  show Made.str ⟨(List.filterMap (fun i => x.cps[i]?) (Builtin.Str.strSliceIndices none none (-1) x.length)).toArray⟩ = _
  rw [rev_idx, List.filterMap_map]
  have := fm_rev x.cps.toList
  simp only [Array.getElem?_toList, Array.length_toList] at this
  exact congrArg (fun l => Made.str ⟨List.toArray l⟩) this
section
variable {X : Cx}
def tRevS (te : TE) : TE := fun σ H Q => te σ H fun x H1 => ∃ z, x = .str z ∧ z.cps.size ≤ sizeLine ∧ Q (.str (revS z)) H1
theorem pe_revS {e : Expr} {te : TE} {k : Nat} {p1 p2 p3 pos : Pos} (he : PE X e te) : PE X (e.Subscript (Expr.Slice none none (some (Expr.UnaryOp UnaryOp.USub (Expr.Constant (Const.int 1) k p1) p2)) p3) pos) (tRevS te) := by
  refine ⟨fun pins s σ H Q I h => ?_⟩
  refine Subscript_ (thn (he.run pins s σ H _ I h) fun o s1 ⟨v, H1, I1, r1, q1⟩ => ?_)
  obtain ⟨z, rfl, hz, q⟩ := q1
  obtain ⟨t, rfl⟩ := r1
  refine wpAny_Slice ?_
  rw [evalPart_none]
  refine wpAny_pure (wpAny_pure ?_)
  refine thn ((po_some (pe_un un_neg pe_int)).run pins s1 σ H1 (fun o H2 => o = some (-1) ∧ H2 = H1) I1 ⟨1, rfl, _, rfl, rfl, rfl⟩) fun u s2 ⟨o, H2, I2, ip, eo, eh⟩ => ?_
  subst eo
  subst eh
  cases ip with
  | int i tk =>
    refine tail_any (typeIs_str _ _ _) F.slot_str_getitem.lookup ?_ rfl
    refine wpAny_getItem_str_slice (l := none) (u := none) (st := some (-1, tk)) (Heap.IsSliceOf.new ..) rfl ?_
    rw [rev_made]
    have I3 : Inv X pins σ H2 { s2 with heap := s2.heap.push { cls := .type "slice", data := .fields #[.none, .none, .int (-1) tk] } } := I2.kept (t' := s2.toks) fun b o e => Heap.get?_push_of_some _ e
    have hl : (revS z).length ≤ sizeLine := by
      show (z.cps.toList.reverse.toArray).size ≤ sizeLine
      rw [List.size_toArray, List.length_reverse, Array.length_toList]
      exact hz
    exact ⟨hl, .str (revS z), H2, I3.tok _, ⟨_, rfl⟩, q⟩
/-! ### list and tuple of a text -/
def chL (z : Str) : List V := z.cps.toList.map fun c => V.str ⟨#[c]⟩
theorem vals_ch {z : Str} {acc : Array Value} (h : ItemsOf (SignAt z) acc z.cps.size) : Vals (chL z) acc.toList := by
  have e : chL z = (List.range acc.toList.length).map fun j => V.str ⟨#[z.cps.toList.getD j 0]⟩ := by
    unfold chL
    rw [Array.length_toList, h.1]
    apply List.ext_getElem?
    intro i
    rw [List.getElem?_map, List.getElem?_map]
    by_cases c : i < z.cps.size
    · rw [List.getElem?_range (by omega), List.getElem?_eq_getElem (by rw [Array.length_toList]; exact c)]
      simp [c]
    · rw [List.getElem?_eq_none (by rw [Array.length_toList]; omega), List.getElem?_eq_none (by rw [List.length_range]; omega)]
      rfl
  rw [e]
  refine vals_of_get acc.toList _ fun j u hj => ?_
  obtain ⟨c, t, hc, rfl⟩ := h.2 j u (by rw [← hj, Array.getElem?_toList])
  refine ⟨t, ?_⟩
  have : z.cps.toList.getD j 0 = c := by
    rw [List.getD_eq_getElem?_getD, Array.getElem?_toList, hc]
    rfl
  rw [this]
def rLStr : List V → Hp → VK → Prop := fun xs H Q => ∃ z, xs = [.str z] ∧ z.cps.size ≤ sizeLine ∧ ∀ p, H p = none → Q (.ref p) (upd H p (.lst (chL z)))
theorem cr_listStr (hc : X.calm = true) : CallR X (.type "list") rLStr := by
  intro pins s σ H xs us Q I r h
  obtain ⟨z, rfl, hz, q⟩ := h
  cases r with
  | cons r rr =>
    cases rr
    obtain ⟨t, rfl⟩ := r
    refine call_list_str (I.ok.hd hc) z t (fun h' tk acc' c' hk e hi => ?_) hz
    refine ⟨.ref _, upd H _ (.lst (chL z)), I.laid hk (Nat.le_refl _) (show ObjOk X.prog X.w _ _ _ (.lst _) from ⟨?_, acc'.toList, c', vals_ch hi, ?_⟩), rfl, q _ (I.hok.fresh (Nat.le_refl _))⟩
    · unfold chL
      rw [List.length_map, Array.length_toList]
      exact hz
    · rw [Array.toArray_toList]; exact e
def rTStr : List V → Hp → VK → Prop := fun xs H Q => ∃ z, xs = [.str z] ∧ z.cps.size ≤ sizeLine ∧ ∀ p, H p = none → Q (.ref p) (upd H p (.tup (chL z)))
theorem cr_tupStr (hc : X.calm = true) : CallR X (.type "tuple") rTStr := by
  intro pins s σ H xs us Q I r h
  obtain ⟨z, rfl, hz, q⟩ := h
  cases r with
  | cons r rr =>
    cases rr
    obtain ⟨t, rfl⟩ := r
    refine call_tuple_str (I.ok.hd hc) z t (fun h' tk acc hk hi => ?_) hz
    have I2 : Inv X pins σ H { s with heap := h', toks := tk } := I.kept (t' := tk) hk
    refine ⟨.ref _, upd H _ (.tup (chL z)), I2.laid (fun b o e => Heap.get?_push_of_some _ e) (Nat.le_refl _) (show ObjOk X.prog X.w _ _ _ (.tup _) from ?_), rfl, q _ (I2.hok.fresh (Nat.le_refl _))⟩
    simp only [ObjOk]
    refine ⟨by unfold chL; rw [List.length_map, Array.length_toList]; exact hz, acc.toList, vals_ch hi, ?_⟩
    rw [Array.toArray_toList]
    exact ⟨_, Heap.get?_push_size _ rfl, rfl, _, rfl⟩
end
end Lp
set_option Elab.async false
set_option linter.all false
set_option maxRecDepth 100000
namespace Lp
open PySem PySem.Spec PyProof.Rows L2
section
variable {prog : Program} {w : World} {A : Around} {E : Value → Shared → Prop} {s : Shared}
theorem zipS_next_item {z TI TO i1 i2 l1 : Addr} {k1 k2 : Nat} {xs : Array Value} {ty : String} {t : Str} {tk : Tok} {x a b : Value} {c : Nat} {Q : Value → Shared → Prop}
    (nx : ∀ (s : Shared) (Q : Value → Shared → Prop) (E : Value → Shared → Prop), s.heap.IsStrIter i2 ty t tk k2 → (∀ h', h'.IsStrIter i2 ty t tk (k2 + 1) → Heap.SameBut i2 s.heap h' → Q (.str ⟨#[c]⟩ s.toks) { heap := h', gens := s.gens, drawn := s.drawn, toks := s.toks + 1, os := s.os }) → wpAny (model prog w) A (Builtin.SmallTypes.nextOf (.ref i2)) Q E s)
    (TIz : TI ≠ z) (TOz : TO ≠ z) (i1z : i1 ≠ z) (i2z : i2 ≠ z) (TITO : TI ≠ TO) (TOi1 : TO ≠ i1) (TOi2 : TO ≠ i2) (i12 : i1 ≠ i2) (l1z : l1 ≠ z)
    (hz : IsZip s.heap z TI TO .none) (hTI : IsPair s.heap TI (.ref i1) (.ref i2)) (hTO : IsPair s.heap TO a b) (h1 : s.heap.IsListIter i1 l1 k1) (h2 : s.heap.IsStrIter i2 ty t tk k2) (hl : s.heap.IsList l1 xs) (hx : xs[k1]? = some x)
    (q : ∀ h' : Heap, IsZip h' z TI TO (rawInt ↑s.heap.objs.size) → IsPair h' TO x (.str ⟨#[c]⟩ s.toks) → h'.IsListIter i1 l1 (k1 + 1) → h'.IsStrIter i2 ty t tk (k2 + 1) → IsPair h' s.heap.objs.size x (.str ⟨#[c]⟩ s.toks) → h'.objs.size = s.heap.objs.size + 1 →
      (∀ (e : Addr) (o : Obj), e ≠ z → e ≠ TO → e ≠ i1 → e ≠ i2 → s.heap.get? e = some o → h'.get? e = some o) → Q (.ref s.heap.objs.size) { heap := h', gens := s.gens, drawn := s.drawn, toks := s.toks + 1, os := s.os }) :
    wpAny (model prog w) A (Builtin.«zip.__next__» { pos := [.ref z] }) (fun fin s' => ∃ v, fin = Fin.done (Flow.ret v) ∧ Q v s') E s := by
  unfold Builtin.«zip.__next__»
  refine wpAny_bind (m := slotArgs "__next__" 0 _) (wpAny_of_eq (a := ((Value.ref z : Value), ([] : List Value))) (by first | rfl | (simp only [slotArgs]; rfl)) ?_)
  refine wpAny_bind (wpAny_field hz rfl rfl ?_)
  refine wpAny_bind (wpAny_field hz rfl rfl ?_)
  refine wpAny_bind (wpAny_seqItems hTI rfl ?_)
  refine wpAny_bind (m := Builtin.SmallTypes.ownedTupleIsFree (.ref z)) ?_
  unfold Builtin.SmallTypes.ownedTupleIsFree
  refine wpAny_bind (wpAny_field hz rfl rfl (wpAny_pure ?_))
  show wpAny _ _ (rule _ >>= _) _ _ _
  refine wpAny_bind (wpAny_rule ?_)
  refine wpAny_bind (wpAny_field hz rfl rfl ?_)
  refine wpAny_bind (wpAny_setField_rec hz (by show 0 < 5; decide) fun g1 gz1 sb1 => ?_)
  refine wpAny_bind ?_
  rw [show (#[Value.ref i1, Value.ref i2] : Array Value).toList.zipIdx = [(Value.ref i1, 0), (Value.ref i2, 1)] from rfl, List.forIn_cons]
  refine wpAny_bind (wpAny_bind (wpAny_onRaise ?_))
  show wpAny _ _ (Builtin.SmallTypes.nextOf (.ref i1) >>= fun v => pure (some v)) _ _ _
  have x1 := sb1.extBut
  have hl1 : g1.IsList l1 xs := hl.extBut x1 l1z
  refine wpAny_bind (wpAny_nextOf_list_item (h1.extBut x1 i1z) hl1 hx fun g2 it2 sb2 => ?_)
  refine wpAny_pure ?_
  have TO2 : IsPair g2 TO a b := by
    show g2.get? TO = _
    rw [sb2.2 TO TOi1, sb1.2 TO TOz]
    exact hTO
  refine wpAny_bind (wpAny_seqItems TO2 rfl ?_)
  refine wpAny_bind (wpAny_updateSeq_pair TO2 fun g3 gt3 sb3 => ?_)
  refine wpAny_bind (wpAny_letGo ?_)
  refine wpAny_pure ?_
  show wpAny _ _ (forIn [((Value.ref i2 : Value), 1)] ((none : Option PySem.Fin), ()) _) _ _ _
  rw [List.forIn_cons]
  refine wpAny_bind (wpAny_bind (wpAny_onRaise ?_))
  show wpAny _ _ (Builtin.SmallTypes.nextOf (.ref i2) >>= fun v => pure (some v)) _ _ _
  have h23 : g3.IsStrIter i2 ty t tk k2 := ((h2.extBut x1 i2z).extBut sb2.extBut i12.symm).extBut sb3.extBut TOi2.symm
  refine wpAny_bind (nx _ _ _ h23 fun g4 it4 sb4 => ?_)
  refine wpAny_pure ?_
  have TO4 : IsPair g4 TO x b := by
    show g4.get? TO = _
    rw [sb4.2 TO TOi2]
    exact gt3
  refine wpAny_bind (wpAny_seqItems TO4 rfl ?_)
  refine wpAny_bind (wpAny_updateSeq_pair TO4 fun g5 gt5 sb5 => ?_)
  refine wpAny_bind (wpAny_letGo ?_)
  refine wpAny_pure ?_
  show wpAny _ _ (forIn [] ((none : Option PySem.Fin), ()) _) _ _ _
  rw [List.forIn_nil]
  refine wpAny_pure ?_
  refine wpAny_bind (wpAny_seqItems gt5 rfl ?_)
  refine wpAny_bind (wpAny_newTuple ?_ (by show 2 ≤ sizeLine; decide))
  refine wpAny_bind ?_
  unfold Builtin.SmallTypes.ownedTupleHandOut
  have gz5 : g5.get? z = some { cls := Value.type "zip", data := Data.fields #[Value.ellipsis, Value.bool false, Value.bool false, Value.ref TI, Value.ref TO] } := by
    rw [sb5.2 z TOz.symm, sb4.2 z i2z.symm, sb3.2 z TOz.symm, sb2.2 z i1z.symm]
    exact gz1
  show wpAny _ _ (setField (.ref z) 0 (rawInt ↑g5.objs.size) >>= fun _ => setField (.ref z) 1 (.bool false)) _ _ _
  have zlt : z < g5.objs.size := Heap.lt_size gz5
  refine wpAny_bind (wpAny_setField_rec (Heap.get?_push_of_some _ gz5) (by show 0 < 5; decide) fun g6 gz6 sb6 => ?_)
  refine wpAny_setField_rec gz6 (by show 1 < 5; decide) fun g7 gz7 sb7 => ?_
  refine wpAny_pure ⟨_, rfl, ?_⟩
  have sz : g5.objs.size = s.heap.objs.size := by rw [sb5.1, sb4.1, sb3.1, sb2.1, sb1.1]
  rw [← sz] at q
  have at7 : ∀ e : Addr, e ≠ z → g7.get? e = (g5.push { cls := Value.type "tuple", data := Data.seq (#[x, b].setIfInBounds 1 (.str ⟨#[c]⟩ s.toks)).toList.toArray }).get? e := fun e he => by
    rw [sb7.2 e he, sb6.2 e he]
  refine q g7 gz7 ?_ ?_ ?_ ?_ ?_ ?_
  · show g7.get? TO = _
    rw [at7 TO TOz]
    exact Heap.get?_push_of_some _ gt5
  · have y := ((it2.extBut sb3.extBut TOi1.symm).extBut sb4.extBut i12).extBut sb5.extBut TOi1.symm
    obtain ⟨o, h, c1, c2⟩ := y
    exact ⟨o, by rw [at7 i1 i1z]; exact Heap.get?_push_of_some _ h, c1, c2⟩
  · obtain ⟨o, h, c1, c2⟩ := it4.extBut sb5.extBut TOi2.symm
    exact ⟨o, by rw [at7 i2 i2z]; exact Heap.get?_push_of_some _ h, c1, c2⟩
  · show g7.get? g5.objs.size = _
    rw [at7 _ (Nat.ne_of_gt zlt)]
    exact Heap.get?_push_size _ rfl
  · rw [sb7.1, sb6.1]
    exact Heap.size_push ..
  · intro e o n1 n2 n3 n4 he
    rw [at7 e n1]
    refine Heap.get?_push_of_some _ ?_
    rw [sb5.2 e n2, sb4.2 e n4, sb3.2 e n2, sb2.2 e n3, sb1.2 e n1]
    exact he
theorem zipS_next_end {z TI TO i1 i2 l1 : Addr} {k1 : Nat} {xs : Array Value} {Q : PySem.Fin → Shared → Prop} (hh : A.handled = none)
    (i1z : i1 ≠ z) (l1z : l1 ≠ z)
    (hz : IsZip s.heap z TI TO .none) (hTI : IsPair s.heap TI (.ref i1) (.ref i2)) (h1 : s.heap.IsListIter i1 l1 k1) (hl : s.heap.IsList l1 xs) (hx : xs[k1]? = none)
    (q : ∀ (h' : Heap) (e : Addr), (∀ (c : Addr) (o : Obj), c ≠ z → c ≠ TO → c ≠ i1 → c ≠ i2 → s.heap.get? c = some o → h'.get? c = some o) → (∃ o, h'.get? e = some o ∧ o.cls = Value.type "StopIteration") → E (.ref e) { heap := h', gens := s.gens, drawn := s.drawn, toks := s.toks, os := s.os }) :
    wpAny (model prog w) A (Builtin.«zip.__next__» { pos := [.ref z] }) Q E s := by
  unfold Builtin.«zip.__next__»
  refine wpAny_bind (m := slotArgs "__next__" 0 _) (wpAny_of_eq (a := ((Value.ref z : Value), ([] : List Value))) (by first | rfl | (simp only [slotArgs]; rfl)) ?_)
  refine wpAny_bind (wpAny_field hz rfl rfl ?_)
  refine wpAny_bind (wpAny_field hz rfl rfl ?_)
  refine wpAny_bind (wpAny_seqItems hTI rfl ?_)
  refine wpAny_bind (m := Builtin.SmallTypes.ownedTupleIsFree (.ref z)) ?_
  unfold Builtin.SmallTypes.ownedTupleIsFree
  refine wpAny_bind (wpAny_field hz rfl rfl (wpAny_pure ?_))
  show wpAny _ _ (rule _ >>= _) _ _ _
  refine wpAny_bind (wpAny_rule ?_)
  refine wpAny_bind (wpAny_field hz rfl rfl ?_)
  refine wpAny_bind (wpAny_setField_rec hz (by show 0 < 5; decide) fun g1 gz1 sb1 => ?_)
  refine wpAny_bind ?_
  rw [show (#[Value.ref i1, Value.ref i2] : Array Value).toList.zipIdx = [(Value.ref i1, 0), (Value.ref i2, 1)] from rfl, List.forIn_cons]
  refine wpAny_bind (wpAny_bind (wpAny_onRaise ?_))
  show wpAny _ _ (Builtin.SmallTypes.nextOf (.ref i1) >>= fun v => pure (some v)) _ _ _
  have x1 := sb1.extBut
  have hl1 : g1.IsList l1 xs := hl.extBut x1 l1z
  refine wpAny_bind (wpAny_nextOf_list_end hh (h1.extBut x1 i1z) hl1 hx fun g2 e x2 so => ?_)
  refine wpAny_setField_rec (x2 z _ i1z.symm gz1) (by show 0 < 5; decide) fun g3 gz3 sb3 => ?_
  refine q g3 e (fun c o n1 n2 n3 n4 hc => ?_) ?_
  · rw [sb3.2 c n1]
    refine x2 c o n3 ?_
    rw [sb1.2 c n1]
    exact hc
  · obtain ⟨o, ho, hc⟩ := so
    by_cases ez : e = z
    · subst ez
      rw [x2 e _ i1z.symm gz1] at ho
      cases ho
      exact absurd (show Value.type "zip" = Value.type "StopIteration" from hc) (by decide)
    · exact ⟨o, by rw [sb3.2 e ez]; exact ho, hc⟩
/-- how an iterator of a text goes on -/
def NxS (prog : Program) (w : World) (ty : String) : Prop := ∀ (A : Around) (E : Value → Shared → Prop) (s : Shared) (it : Addr) (x : Str) (t : Tok) (i c : Nat) (Q : Value → Shared → Prop), s.heap.IsStrIter it ty x t i → x.cps[i]? = some c →
  (∀ h' : Heap, h'.IsStrIter it ty x t (i + 1) → Heap.SameBut it s.heap h' → Q (.str ⟨#[c]⟩ s.toks) { heap := h', gens := s.gens, drawn := s.drawn, toks := s.toks + 1, os := s.os }) → wpAny (model prog w) A (Builtin.SmallTypes.nextOf (.ref it)) Q E s
theorem nxs_ascii : NxS prog w "str_ascii_iterator" := fun _ _ _ _ _ _ _ _ _ h1 h2 h3 => wpAny_nextOf_ascii_item h1 h2 h3
theorem nxs_wide : NxS prog w "str_iterator" := fun _ _ _ _ _ _ _ _ _ h1 h2 h3 => wpAny_nextOf_wide_item h1 h2 h3
theorem pyNext_zipS_item {z TI TO i1 i2 l1 : Addr} {k1 : Nat} {xs : Array Value} {ty : String} {t : Str} {tk : Tok} {x a b : Value} {c : Nat} {Q : Option Value → Shared → Prop}
    (nx : NxS prog w ty) (D : ZipApart z TI TO i1 i2 l1 l1)
    (hz : IsZip s.heap z TI TO .none) (hTI : IsPair s.heap TI (.ref i1) (.ref i2)) (hTO : IsPair s.heap TO a b) (h1 : s.heap.IsListIter i1 l1 k1) (h2 : s.heap.IsStrIter i2 ty t tk k1) (hl : s.heap.IsList l1 xs) (hx : xs[k1]? = some x) (hc : t.cps[k1]? = some c)
    (q : ∀ h' : Heap, IsZip h' z TI TO (rawInt ↑s.heap.objs.size) → IsPair h' TO x (.str ⟨#[c]⟩ s.toks) → h'.IsListIter i1 l1 (k1 + 1) → h'.IsStrIter i2 ty t tk (k1 + 1) → IsPair h' s.heap.objs.size x (.str ⟨#[c]⟩ s.toks) → h'.objs.size = s.heap.objs.size + 1 →
      (∀ (e : Addr) (o : Obj), e ≠ z → e ≠ TO → e ≠ i1 → e ≠ i2 → s.heap.get? e = some o → h'.get? e = some o) → Q (some (.ref s.heap.objs.size)) { heap := h', gens := s.gens, drawn := s.drawn, toks := s.toks + 1, os := s.os }) :
    wpAny (model prog w) A (pyNext (.ref z)) Q E s := by
  have hT : s.TypeIs (.ref z) "zip" := ⟨_, hz, rfl⟩
  unfold pyNext
  exact wpAny_bind (wpAny_attempt (wpAny_callSpecial?_slot hT F.slot_zip_next (wpAny_call_entry F.slot_zip_next hT F.entry_zip_next
    (zipS_next_item (fun s Q E h k => nx _ E s i2 t tk k1 c Q h hc k) D.TIz D.TOz D.i1z D.i2z D.TITO D.TOi1 D.TOi2 D.i12 D.l1z hz hTI hTO h1 h2 hl hx fun h' a1 a2 a3 a4 a5 a6 a7 => wpAny_pure (q h' a1 a2 a3 a4 a5 a6 a7)) (F.args_zip_next_1 (.ref z)))))
theorem pyNext_zipS_end {z TI TO i1 i2 l1 : Addr} {k1 : Nat} {xs : Array Value} {Q : Option Value → Shared → Prop} (hh : A.handled = none) (D : ZipApart z TI TO i1 i2 l1 l1)
    (hz : IsZip s.heap z TI TO .none) (hTI : IsPair s.heap TI (.ref i1) (.ref i2)) (h1 : s.heap.IsListIter i1 l1 k1) (hl : s.heap.IsList l1 xs) (hx : xs[k1]? = none)
    (q : ∀ h' : Heap, (∀ (c : Addr) (o : Obj), c ≠ z → c ≠ TO → c ≠ i1 → c ≠ i2 → s.heap.get? c = some o → h'.get? c = some o) → Q none { heap := h', gens := s.gens, drawn := s.drawn, toks := s.toks, os := s.os }) :
    wpAny (model prog w) A (pyNext (.ref z)) Q E s := by
  have hT : s.TypeIs (.ref z) "zip" := ⟨_, hz, rfl⟩
  unfold pyNext
  exact wpAny_bind (wpAny_attempt (wpAny_callSpecial?_slot hT F.slot_zip_next (wpAny_call_entry F.slot_zip_next hT F.entry_zip_next
    (zipS_next_end hh D.i1z D.l1z hz hTI h1 hl hx fun h' e hk he => by
      obtain ⟨o, ho, hc⟩ := he
      exact wpAny_bind (wpAny_isInstance ⟨o, ho, hc⟩ isSubtype_stop (wpAny_pure (q h' hk)))) (F.args_zip_next_1 (.ref z)))))
def zsH1 (h : Heap) (l1 : Addr) : Heap := h.push { cls := .type "list_iterator", data := .fields #[.ref l1, .int 0 0] }
def zsH2 (h : Heap) (l1 : Addr) (x : Str) (t : Tok) : Heap := (zsH1 h l1).push { cls := .type "str_ascii_iterator", data := .fields #[.str x t, .int 0 0] }
def zsH3 (h : Heap) (l1 : Addr) (x : Str) (t : Tok) : Heap := (zsH2 h l1 x t).push { cls := .type "tuple", data := .seq #[.ref h.objs.size, .ref (zsH1 h l1).objs.size] }
def zsH4 (h : Heap) (l1 : Addr) (x : Str) (t : Tok) : Heap := (zsH3 h l1 x t).push { cls := .type "tuple", data := .seq #[.none, .none] }
def zsH5 (h : Heap) (l1 : Addr) (x : Str) (t : Tok) : Heap := (zsH4 h l1 x t).push { cls := .type "zip", data := .fields #[.none, .bool false, .bool false, .ref (zsH2 h l1 x t).objs.size, .ref (zsH3 h l1 x t).objs.size] }
end
theorem meets_zipS_new (l1 : Addr) (x : Str) (t : Tok) (xs : Array Value) (ha : (x.cps.all fun c => decide (c < 128)) = true) : Meets (Builtin.«zip.__new__» { pos := [.type "zip", .ref l1, .str x t] }) fun _ R s =>
    s.heap.IsList l1 xs ∧ R (Except.ok (Flow.ret (.ref (zsH4 s.heap l1 x t).objs.size))) { heap := zsH5 s.heap l1 x t, gens := s.gens, drawn := s.drawn, toks := s.toks, os := s.os } :=
  Meets.of_wp fun prog w A R s h => by
    obtain ⟨hp, g, d, tk, os⟩ := s
    obtain ⟨hl1, hR⟩ := h
    unfold Builtin.«zip.__new__»
    refine wpAny_bind ?_
    unfold Builtin.SmallTypes.newClass
    refine wpAny_bind (m := isType _) (wpAny_pure ?_)
    refine wpAny_ite_false rfl ?_
    refine wpAny_bind (wpAny_of_eq sub_zip (wpAny_ite_false rfl (wpAny_pure ?_)))
    refine wpAny_ite_false rfl ?_
    refine wpAny_bind (m := Builtin.SmallTypes.iterAll _) ?_
    unfold Builtin.SmallTypes.iterAll
    refine wpAny_bind ?_
    rw [List.forIn_cons]
    refine wpAny_bind (wpAny_bind (wpAny_holding (wpAny_pyIter_list hl1 (wpAny_pure ?_))))
    show wpAny _ _ (forIn [Value.str x t] _ _) _ _ _
    rw [List.forIn_cons]
    refine wpAny_bind (wpAny_bind (wpAny_holding (wpAny_pyIter_ascii ha (wpAny_pure ?_))))
    show wpAny _ _ (forIn [] _ _) _ _ _
    rw [List.forIn_nil]
    refine wpAny_pure (wpAny_pure ?_)
    refine wpAny_bind (wpAny_newTuple ?_ (by show 2 ≤ sizeLine; decide))
    refine wpAny_bind (wpAny_newTuple ?_ (by show 2 ≤ sizeLine; decide))
    refine wpAny_bind ?_
    unfold Builtin.SmallTypes.newRecord
    show wpAny _ _ (newObj _ _) _ _ _
    unfold newObj
    refine wpAny_bind (wpAny_alloc' ?_)
    refine wpAny_pure ?_
    exact wpAny_pure ⟨_, rfl, hR⟩
theorem call_zipS {prog : Program} {w : World} {A : Around} {E : Value → Shared → Prop} {s : Shared} {l1 : Addr} {xs : Array Value} {x : Str} {t : Tok} {Q : Value → Shared → Prop} (ha : (x.cps.all fun c => decide (c < 128)) = true) (hl1 : s.heap.IsList l1 xs)
    (h : ∀ h' : Heap, IsZip h' (s.heap.objs.size + 4) (s.heap.objs.size + 2) (s.heap.objs.size + 3) .none → IsPair h' (s.heap.objs.size + 2) (.ref s.heap.objs.size) (.ref (s.heap.objs.size + 1)) → IsPair h' (s.heap.objs.size + 3) .none .none → h'.IsListIter s.heap.objs.size l1 0 →
      h'.IsStrIter (s.heap.objs.size + 1) "str_ascii_iterator" x t 0 → h'.objs.size = s.heap.objs.size + 5 → (∀ (c : Addr) (o : Obj), s.heap.get? c = some o → h'.get? c = some o) → Q (.ref (s.heap.objs.size + 4)) { heap := h', gens := s.gens, drawn := s.drawn, toks := s.toks, os := s.os }) :
    wpAny (model prog w) A (call (.type "zip") [.ref l1, .str x t]) Q E s := by
  have z1 : (zsH1 s.heap l1).objs.size = s.heap.objs.size + 1 := Heap.size_push ..
  have z2 : (zsH2 s.heap l1 x t).objs.size = s.heap.objs.size + 2 := (Heap.size_push ..).trans (by rw [z1])
  have z3 : (zsH3 s.heap l1 x t).objs.size = s.heap.objs.size + 3 := (Heap.size_push ..).trans (by rw [z2])
  have z4 : (zsH4 s.heap l1 x t).objs.size = s.heap.objs.size + 4 := (Heap.size_push ..).trans (by rw [z3])
  have z5 : (zsH5 s.heap l1 x t).objs.size = s.heap.objs.size + 5 := (Heap.size_push ..).trans (by rw [z4])
  have g5 : (zsH5 s.heap l1 x t).get? (zsH4 s.heap l1 x t).objs.size = _ := Heap.get?_push_size _ rfl
  have g4 : (zsH5 s.heap l1 x t).get? (zsH3 s.heap l1 x t).objs.size = _ := Heap.get?_push_of_some _ (Heap.get?_push_size _ rfl)
  have g3 : (zsH5 s.heap l1 x t).get? (zsH2 s.heap l1 x t).objs.size = _ := Heap.get?_push_of_some _ (Heap.get?_push_of_some _ (Heap.get?_push_size _ rfl))
  have g2 : (zsH5 s.heap l1 x t).get? (zsH1 s.heap l1).objs.size = _ := Heap.get?_push_of_some _ (Heap.get?_push_of_some _ (Heap.get?_push_of_some _ (Heap.get?_push_size _ rfl)))
  have g1 : (zsH5 s.heap l1 x t).get? s.heap.objs.size = _ := Heap.get?_push_of_some _ (Heap.get?_push_of_some _ (Heap.get?_push_of_some _ (Heap.get?_push_of_some _ (Heap.get?_push_size _ rfl))))
  have gk : ∀ (c : Addr) (o : Obj), s.heap.get? c = some o → (zsH5 s.heap l1 x t).get? c = some o := fun c o e => Heap.get?_push_of_some _ (Heap.get?_push_of_some _ (Heap.get?_push_of_some _ (Heap.get?_push_of_some _ (Heap.get?_push_of_some _ e))))
  rw [z1] at g2 g3
  rw [z2] at g3 g5
  rw [z3] at g4 g5
  rw [z4] at g5
  refine callType_new F.called_zip (by decide) (F.typeCall_zip_2 (.ref l1) (.str x t)) (F.newCall_zip_2 (.ref l1) (.str x t)) (fun obj => F.args_object_init_3 obj (.ref l1) (.str x t)) F.entry_zip_new (meets_zipS_new l1 x t xs ha) ⟨hl1, ?_⟩
  show Shared.TypeIs _ (.ref (zsH4 s.heap l1 x t).objs.size) "zip" ∧ Q (.ref (zsH4 s.heap l1 x t).objs.size) _
  rw [z4]
  exact ⟨⟨_, g5, rfl⟩, h _ g5 g3 g4 ⟨_, g1, rfl, rfl⟩ ⟨_, g2, rfl, rfl⟩ z5 gk⟩
/-! ### for one, sign in zip(a list, a text) -/
def ItzS (K : PySem.W.Frag) (a : Addr) (z : Str) : It where
  go i H := ∃ xs x c, SqL K H a xs ∧ xs[i]? = some x ∧ z.cps[i]? = some c
  yld i H v H' := ∃ T x c, v = V.ref T ∧ H T = none ∧ H' = upd H T (.tup [x, .str ⟨#[c]⟩]) ∧ (∀ xs, SqL K H a xs → xs[i]? = some x) ∧ z.cps[i]? = some c
  stop i H := ∃ xs, SqL K H a xs ∧ xs.length ≤ i
theorem walk_zipS {K : PySem.W.Frag} {a : Addr} {xs : List V} {z : Str} (le : xs.length = z.cps.size) :
    Walk (ItzS K a z) xs.length (fun H => SqL K H a xs) (fun i H v H' => ∃ T x c, v = V.ref T ∧ H T = none ∧ H' = upd H T (.tup [x, .str ⟨#[c]⟩]) ∧ xs[i]? = some x ∧ z.cps[i]? = some c) where
  goes i H hi h := ⟨xs, _, _, h, List.getElem?_eq_getElem hi, Array.getElem?_eq_getElem (by omega)⟩
  stops H h := ⟨xs, h, Nat.le_refl _⟩
  yields i H v H' hi h y := by
    obtain ⟨T, x, c, e1, e2, e3, e4, e5⟩ := y
    exact ⟨T, x, c, e1, e2, e3, e4 xs h, e5⟩
theorem turn_zipS {P : Program} {w : World} {K : PySem.W.Frag} {elts : List Expr} {kk : Nat} {tpos : Pos} {a z TI TO i1 i2 : Addr} {x : Str} {t : Tok} (D : ZipApart z TI TO i1 i2 a a) :
    Turn P w K (Expr.Tuple elts kk tpos) (ItzS K a x) [z, TI, TO, i1, i2] z fun i h => IsZip h z TI TO .none ∧ IsPair h TI (.ref i1) (.ref i2) ∧ (∃ x y, IsPair h TO x y) ∧ h.IsListIter i1 a i ∧ h.IsStrIter i2 "str_ascii_iterator" x t i where
  mem := by simp
  obj i h st c hc := by
    obtain ⟨hz, hTI, ⟨u, v, hTO⟩, ⟨o1, e1, _, d1⟩, ⟨o2, e2, _, d2⟩⟩ := st
    simp only [List.mem_cons, List.not_mem_nil, or_false] at hc
    rcases hc with rfl | rfl | rfl | rfl | rfl
    · exact ⟨_, hz, fun v q => nomatch q⟩
    · exact ⟨_, hTI, fun v q => nomatch q⟩
    · exact ⟨_, hTO, fun v q => nomatch q⟩
    · exact ⟨_, e1, fun v q => by rw [d1] at q; cases q⟩
    · exact ⟨_, e2, fun v q => by rw [d2] at q; cases q⟩
  keep i h h' st k := by
    obtain ⟨hz, hTI, ⟨u, v, hTO⟩, ⟨o1, e1, c1, d1⟩, ⟨o2, e2, c2, d2⟩⟩ := st
    exact ⟨k z (by simp) _ hz, k TI (by simp) _ hTI, ⟨u, v, k TO (by simp) _ hTO⟩, ⟨o1, k i1 (by simp) _ e1, c1, d1⟩, ⟨o2, k i2 (by simp) _ e2, c2, d2⟩⟩
  item X hP hw hK hc i pins s σ H E I hf st hg := by
    subst hP
    subst hw
    subst hK
    obtain ⟨hz, hTI, ⟨x0, y0, hTO⟩, h1, h2⟩ := st
    obtain ⟨xs, v, c, hq, hx, hcx⟩ := hg
    obtain ⟨its, rv, p, _⟩ := I.list hq
    obtain ⟨u, hu, ru⟩ := rv.get hx
    have hzl := Heap.lt_size hz
    refine pyNext_zipS_item nxs_ascii D hz hTI hTO h1 h2 p.isList (by rw [List.getElem?_toArray]; exact hu) hcx fun h' z' TO' h1' h2' hT hsz hk => ?_
    refine ⟨.ref s.heap.objs.size, rfl, wpAny_letOwnedTupleGo_zip z' fun h'' z'' sb => ?_⟩
    have hT2 : h''.get? s.heap.objs.size = _ := (sb.2 s.heap.objs.size (Nat.ne_of_gt hzl)).trans hT
    have new : ObjOk X.prog X.w (upd H s.heap.objs.size (.tup [v, .str ⟨#[c]⟩])) h'' s.heap.objs.size (.tup [v, .str ⟨#[c]⟩]) := ⟨by show 2 ≤ sizeLine; decide, [u, .str ⟨#[c]⟩ s.toks], .cons ru (.cons ⟨_, rfl⟩ .nil), ⟨_, hT2, rfl, 0, rfl⟩⟩
    have I1 := I.turnedNew (h' := h'') (t' := s.toks + 1) (ch := [z, TI, TO, i1, i2]) (T := s.heap.objs.size) (ob := .tup [v, .str ⟨#[c]⟩]) (fun e o hb q => by
      simp only [List.mem_cons, List.not_mem_nil, or_false, not_or] at hb
      rw [sb.2 e hb.1]
      exact hk e o hb.1 hb.2.2.1 hb.2.2.2.1 hb.2.2.2.2 q) hf (Nat.le_refl _) new
    have fr : H s.heap.objs.size = none := I.hok.fresh (Nat.le_refl _)
    have lt : ∀ b : Addr, b ∈ [z, TI, TO, i1, i2] → b ≠ s.heap.objs.size := fun b hb => by
      simp only [List.mem_cons, List.not_mem_nil, or_false] at hb
      obtain ⟨o1, e1, _⟩ := h1
      obtain ⟨o2, e2, _⟩ := h2
      rcases hb with rfl | rfl | rfl | rfl | rfl
      · exact Nat.ne_of_lt hzl
      · exact Nat.ne_of_lt (Heap.lt_size hTI)
      · exact Nat.ne_of_lt (Heap.lt_size hTO)
      · exact Nat.ne_of_lt (Heap.lt_size e1)
      · exact Nat.ne_of_lt (Heap.lt_size e2)
    refine ⟨.ref _, _, I1, rfl, ⟨_, v, c, rfl, fr, rfl, fun xs2 q2 => by rw [I.list_inj q2 hq]; exact hx, hcx⟩, ⟨z'', (sb.2 TI D.TIz).trans (hk TI _ D.TIz D.TITO D.TIi1 D.TIi2 hTI), ⟨_, _, (sb.2 TO D.TOz).trans TO'⟩, h1'.extBut sb.extBut D.i1z, h2'.extBut sb.extBut D.i2z⟩, fun b hb => ?_⟩
    rw [upd_ne (lt b hb)]
    exact (hf b hb).1
  done X hP hw hK hc i pins s σ H E I hf st hg := by
    subst hP
    subst hw
    subst hK
    obtain ⟨hz, hTI, _, h1, h2⟩ := st
    obtain ⟨xs, hq, hle⟩ := hg
    obtain ⟨its, rv, p, _⟩ := I.list hq
    have hl := rv.length
    refine pyNext_zipS_end (I.ok.hd hc) D hz hTI h1 p.isList (by rw [List.getElem?_toArray]; exact List.getElem?_eq_none (by omega)) fun h' hk => ⟨rfl, I.turnedL (ch := [z, TI, TO, i1, i2]) (fun e o hb q => ?_) hf⟩
    simp only [List.mem_cons, List.not_mem_nil, or_false, not_or] at hb
    exact hk e o hb.1 hb.2.2.1 hb.2.2.2.1 hb.2.2.2.2 q
  self A i s Q E st h := wpAny_pyIter_zip st.1 h
def iZipS (K : PySem.W.Frag) (ta : TA) : TI := fun σ H R => ta σ H fun vs H1 => ∃ a xs z, vs = [V.ref a, .str z] ∧ SqL K H1 a xs ∧ (z.cps.all fun c => decide (c < 128)) = true ∧ R (ItzS K a z) H1
theorem pi_zipS {X : Cx} {e e2 : Expr} {ta : TA} {p pos tpos : Pos} {elts : List Expr} {kk : Nat} (hg : Gl X "zip") (hm : X.mg "zip" = none) (ha : PA X [e, e2] ta)
    (hs : starEach [e, e2] X.env = (false, eval e X.env) :: starEach [e2] X.env := by rfl) (hpl : (backTo pos (starEach [e2] X.env)).any (·.1) = false := by rfl) :
    PI X (.Tuple elts kk tpos) (.Call (.Name "zip" p) [e, e2] [] pos) (iZipS X.K ta) := by
  refine ⟨fun pins s σ H R I h => ?_⟩
  refine Call_ (ld_blt I hg hm boot_zip (PyProof.Rows.callWith_type1 (thn (ha.run pos pins s σ H _ I h) fun us s1 ⟨vs, H1, I1, r1, q1⟩ => ?_) hs hpl))
  obtain ⟨a, xs, z, ev, hq, hz, q⟩ := q1
  subst ev
  cases r1 with
  | cons r rr =>
    cases rr with
    | cons r' rr =>
      cases rr
      obtain ⟨t', rfl⟩ := r'
      cases (show _ = Value.ref a from r)
      obtain ⟨its, rv, pl, _⟩ := I1.list hq
      refine call_zipS hz pl.isList fun h' a1 a2 a3 a4 a5 a6 a7 => wpAny_pyIter_zip a1 ?_
      have fp : ∀ b : Addr, b ∈ [s1.heap.objs.size + 4, s1.heap.objs.size + 2, s1.heap.objs.size + 3, s1.heap.objs.size, s1.heap.objs.size + 1] → s1.heap.objs.size ≤ b := fun b hb => by
        simp only [List.mem_cons, List.not_mem_nil, or_false] at hb
        rcases hb with rfl | rfl | rfl | rfl | rfl <;> omega
      exact ⟨_, _, _, ItzS X.K a z, H1, rfl, I1.kept (t' := s1.toks) a7, turn_zipS (W.ktu_apart _ a a pl.lt pl.lt), ⟨a1, a2, ⟨_, _, a3⟩, a4, a5⟩, fun b hb => I1.fpOk (fp b hb) (I1.hok.fresh (fp b hb)), q⟩
end Lp
set_option Elab.async false
set_option linter.all false
set_option maxRecDepth 100000
namespace Lp
open PySem PySem.Spec PyProof.Rows L2
/-! ### set(a list of ints) -/
theorem call_set_listI {P : Program} {w : World} {A : Around} {E : Value → Shared → Prop} {s : Shared} {l : Addr} {items : Array Value} (ns : List Int) {Q : Value → Shared → Prop} (hh : A.handled = none) (hl : s.heap.IsList l items) (hit : IntsAre items.toList ns) (hb : ns.length + 1 < scanBound)
    (h : ∀ (h' : Heap) (tk c : Nat), SetR w h' s.heap.objs.size (fun j => decide (j ∈ ns)) c → c ≤ ns.length → (∀ (b : Addr) (o : Obj), s.heap.get? b = some o → h'.get? b = some o) → Q (.ref s.heap.objs.size) { heap := h', gens := s.gens, drawn := s.drawn, toks := tk, os := s.os }) :
    wpAny (model P w) A (call (.type "set") [.ref l]) Q E s := by
  have hisz : items.size = ns.length := by
    have q := hit.length
    rwa [Array.length_toList] at q
  obtain ⟨c, tl, hmro⟩ := F.called_set.mro
  have hmade := F.called_set.made
  have hsub := F.called_set.sub
  refine wpAny_call (codeAny_of_tree ?_)
  refine wpAny_pure ⟨Code.quiet_builtin _ (by decide +kernel), codeAny_builtin F.entry_type_call ?_⟩
  rw [Around.under_plain (weight_type_call_type "set" [.ref l] []) rfl]
  have h1 := F.called_set.notType
  have h2 := F.called_set.canCreate
  have hct := F.typeCall_set_1 (.ref l)
  unfold Builtin.«type.__call__»
  refine wpAny_ite_false rfl (wpAny_ite_false rfl ?_)
  refine wpAny_bind (wpAny_of_eq hct ?_)
  refine wpAny_bind (wpAny_of_eq hmro (wpAny_ite_false rfl ?_))
  refine wpAny_bind (wpAny_of_eq hmade ?_)
  refine wpAny_bind (wpAny_pure (wpAny_bind (wpAny_holding (wpAny_call (codeAny_mono (code_set_led1 (.ref l) (Q₁ := fun obj s₁ => obj = .ref s.heap.objs.size ∧ s₁ = { heap := s.heap.push { cls := .type "set", data := .set #[] 0 (SetTable.fresh 0 0 !w.params.followText "set-order") }, gens := s.gens, drawn := s.drawn, toks := s.toks, os := s.os }) (E := E) ⟨rfl, rfl⟩) fun r s₁ hr => ?_)))))
  cases r with
  | error e => exact hr
  | ok fl =>
    cases fl with
    | next => exact hr.elim
    | brk => exact hr.elim
    | cont => exact hr.elim
    | ret v =>
      obtain ⟨rfl, rfl⟩ := hr
      have hS : (s.heap.push { cls := .type "set", data := .set #[] 0 (SetTable.fresh 0 0 !w.params.followText "set-order") }).get? s.heap.objs.size = _ := Heap.get?_push_size s.heap rfl
      have hT : Shared.TypeIs { heap := s.heap.push { cls := .type "set", data := .set #[] 0 (SetTable.fresh 0 0 !w.params.followText "set-order") }, gens := s.gens, drawn := s.drawn, toks := s.toks, os := s.os } (.ref s.heap.objs.size) "set" := ⟨_, hS, rfl⟩
      have hli := F.called_set.init.lookup
      have hbi := F.called_set.init.bind (.ref s.heap.objs.size)
      refine wpAny_bind (wpAny_isInstance hT hsub (wpAny_ite_false rfl (wpAny_bind (wpAny_holding ?_))))
      unfold callSpecial?
      refine wpAny_bind (wpAny_specialOf hT hli (wpAny_holding (wpAny_bind (wpAny_of_eq hbi (wpAny_bind (wpAny_call (codeAny_mono (R := wants (fun r s₂ => r = Value.none ∧ ∃ h' tk c, s₂ = { heap := h', gens := s.gens, drawn := s.drawn, toks := tk, os := s.os } ∧ SetR w h' s.heap.objs.size (fun j => decide (j ∈ ns)) c ∧ c ≤ ns.length ∧ ∀ (b : Addr) (o : Obj), s.heap.get? b = some o → h'.get? b = some o) E) (codeAny_call_builtin F.called_set.init.plain F.entry_set_init (check_set_init_1 hT ?_)) fun r s₂ hr => ?_)))))))
      · obtain ⟨ol, hol, hcl, nl, hdl⟩ := hl
        obtain ⟨ocls, odict, odata, oslots⟩ := ol
        cases (show ocls = Value.type "list" from hcl)
        cases (show odata = Data.seq items nl from hdl)
        have hol' := Heap.get?_push_of_some { cls := .type "set", data := .set #[] 0 (SetTable.fresh 0 0 !w.params.followText "set-order") } hol
        have hsls := F.sub_list_set
        have hslf := F.sub_list_frozenset
        have hl1 : (s.heap.push { cls := .type "set", data := .set #[] 0 (SetTable.fresh 0 0 !w.params.followText "set-order") }).IsList l items := ⟨_, hol', rfl, nl, rfl⟩
        unfold Builtin.«set.__init__»
        refine wpAny_bind (wpAny_ite_true rfl (wpAny_pure ?_))
        refine wpAny_bind (wpAny_bind (wpAny_bind (wpAny_typeOf hT (wpAny_ite_false rfl (wpAny_pure (wpAny_pure ?_))))))
        refine wpAny_bind ?_
        unfold checkCount
        refine wpAny_ite_false rfl (wpAny_ite_false rfl (wpAny_ite_false rfl (wpAny_pure ?_)))
        refine wpAny_bind ?_
        unfold Builtin.Frozenset.addrOf
        refine wpAny_pure ?_
        refine wpAny_bind ?_
        unfold setUsed
        refine wpAny_bind ?_
        unfold setState
        refine wpAny_bind (wpAny_load' hS (wpAny_ite_false rfl (wpAny_pure (wpAny_pure (wpAny_ite_false rfl ?_)))))
        refine wpAny_bind ?_
        unfold Builtin.Frozenset.updateFrom
        refine wpAny_bind ?_
        unfold Builtin.Frozenset.isAnySet
        refine wpAny_bind (m := isInstance (.ref l) (.type "set")) (wpAny_isInstance hl1.typeIs hsls ?_)
        show wpAny _ _ (isInstance (.ref l) (.type "frozenset")) _ _ _
        refine wpAny_isInstance hl1.typeIs hslf ?_
        refine wpAny_ite_false rfl ?_
        refine wpAny_bind (wpAny_typeOf hl1.typeIs (wpAny_ite_false rfl ?_))
        refine wpAny_bind (wpAny_pyIter_list hl1 ?_)
        refine wpAny_bind (wpAny_runValue ?_)
        have hlS := Heap.lt_size hol
        have hneI : l ≠ (s.heap.push { cls := .type "set", data := .set #[] 0 (SetTable.fresh 0 0 !w.params.followText "set-order") }).objs.size := by
          rw [Heap.size_push]
          exact Nat.ne_of_lt (Nat.lt_succ_of_lt hlS)
        have hSf : ¬ s.heap.objs.size ∈ [(s.heap.push { cls := .type "set", data := .set #[] 0 (SetTable.fresh 0 0 !w.params.followText "set-order") }).objs.size, l] := by
          rw [Heap.size_push]
          intro hm
          rcases List.mem_cons.mp hm with e | e
          · exact Nat.ne_of_lt (Nat.lt_succ_self _) e
          · exact Nat.ne_of_gt hlS (List.mem_singleton.mp e)
        have hval : ∀ (i : Nat) (v : Value), items[i]? = some v → ∃ k t, ns[i]? = some k ∧ v = Value.int k t := fun i v hv => by
          have hi : i < ns.length := by
            rw [← hisz]
            exact (Array.getElem?_eq_some_iff.mp hv).1
          obtain ⟨t, e⟩ := hit.int_at i v (by rw [Array.getElem?_toList]; exact hv)
          exact ⟨ns[i], t, List.getElem?_eq_getElem hi, by rw [e, List.getD_eq_getElem?_getD, List.getElem?_eq_getElem hi]; rfl⟩
        refine set_update_ints (Walks.toS (Walks.list (A := A.in1.in1.in1) (show A.in1.in1.in1.handled = none from hh) _ l hneI items)) s.heap.objs.size hSf ns hisz hb hval (items.size - 0) 0 _ rfl (Nat.zero_le _) ⟨⟨_, Heap.get?_push_size _ rfl, rfl, rfl⟩, hl1.push _⟩ ⟨0, Nat.le_refl 0, setR_new_at (Heap.get?_push_of_some _ hS)⟩ fun s' c' hm hc' hS' => ?_
        obtain ⟨h', g2, d', tk', os'⟩ := s'
        have eg := hm.gens
        have ed := hm.drawn
        have eo := hm.os
        cases eg
        cases ed
        cases eo
        have hk : ∀ (b : Addr) (o : Obj), s.heap.get? b = some o → h'.get? b = some o := fun b o e => by
          have hlt := Heap.lt_size e
          refine hm.heap b o ?_ (Heap.get?_push_of_some _ (Heap.get?_push_of_some _ e))
          intro hb'
          rcases List.mem_cons.mp hb' with e1 | e1
          · exact Nat.ne_of_lt hlt e1
          · rw [List.mem_singleton] at e1
            have e2 : b = s.heap.objs.size + 1 := e1.trans (Heap.size_push ..)
            rw [e2] at hlt
            exact absurd hlt (Nat.not_lt_of_le (Nat.le_succ _))
        exact wpAny_pure (wpAny_pure ⟨rfl, h', tk', c', rfl, hS', by rw [← hisz]; exact hc', hk⟩)
      · cases r with
        | error e => exact hr
        | ok fl =>
          cases fl with
          | next => exact hr.elim
          | brk => exact hr.elim
          | cont => exact hr.elim
          | ret v =>
            obtain ⟨rfl, h', tk, c', rfl, hs, hc, hk⟩ := hr
            exact wpAny_pure (wpAny_ite_false rfl (wpAny_pure (h h' tk c' hs hc hk)))
def rSetL (K : PySem.W.Frag) (w : World) : List V → Hp → VK → Prop := fun xs H Q => ∃ (a : Addr) (ns : List Int), xs = [V.ref a] ∧ SqL K H a (ns.map V.int) ∧ ns.length ≤ 60 ∧ ∀ (p : Addr) (c : Nat), H p = none → c ≤ ns.length → Q (.ref p) (upd H p (SetO w p (fun j => decide (j ∈ ns)) c))
theorem cr_setL {X : Cx} (hc : X.calm = true) : CallR X (.type "set") (rSetL X.K X.w) := by
  intro pins s σ H xs us Q I r h
  obtain ⟨a, ns, rfl, hq, hl, q⟩ := h
  cases r with
  | cons r rr =>
    cases rr
    cases (show _ = Value.ref a from r)
    obtain ⟨its, rv, p, _⟩ := I.list hq
    refine call_set_listI ns (I.ok.hd hc) p.isList (RZ.intsAre_vals rv) (Nat.lt_of_le_of_lt (Nat.succ_le_succ hl) (by decide)) fun h' tk c hs hcn hk => ?_
    refine ⟨.ref _, upd H _ (SetO X.w s.heap.objs.size (fun j => decide (j ∈ ns)) c), I.laid hk (Nat.le_refl _) ⟨hs, ?_, fun h1 h2 x k => ?_⟩, rfl, q _ c (I.hok.fresh (Nat.le_refl _)) hcn⟩
    · obtain ⟨o, _, _, _, e, _⟩ := hs
      exact ⟨o, e⟩
    · obtain ⟨o, es, ep, t, e, r⟩ := x
      exact ⟨o, es, ep, t, k o e, r⟩
theorem op_ltLL {X : Cx} (hu : X.A.units + 64 < cLine) : OpR X (compareOp .Lt) (fun x y H Q => ∃ (a b : Addr) (xs ys : List Int), x = V.ref a ∧ y = V.ref b ∧ SqL X.K H a (xs.map V.int) ∧ SqL X.K H b (ys.map V.int) ∧ Q (.bl (HT.lexLt xs ys)) H) := by
  intro pins s σ H x y v u Q I r1 r2 h
  obtain ⟨a, b, xs, ys, rfl, rfl, h1, h2, q⟩ := h
  cases (show v = Value.ref a from r1)
  cases (show u = Value.ref b from r2)
  obtain ⟨its, rv, p, _⟩ := I.list h1
  obtain ⟨its2, rv2, p2, _⟩ := I.list h2
  have ia := RZ.intsAre_vals rv
  have ib := RZ.intsAre_vals rv2
  have l1 := ia.length
  have l2 := ib.length
  show wpAny _ _ (richCompare .Lt _ _) _ _ s
  refine SeqAt.RcLt.lists (e := fun j => xs.getD j 0 == ys.getD j 0) (r := fun j => decide (xs.getD j 0 < ys.getD j 0)) p.isList p2.isList (by omega) (fun j h1 h2 => ?_) (fun j h1 h2 _ => ?_) _ _ _ _ ?_
  · obtain ⟨t, e⟩ := ints_at ia j (by simpa using h1)
    obtain ⟨t', e'⟩ := ints_at ib j (by simpa using h2)
    rw [List.getElem_toArray, List.getElem_toArray, e, e']
    exact SeqAt.EqAt.int_int _ t _ t'
  · obtain ⟨t, e⟩ := ints_at ia j (by simpa using h1)
    obtain ⟨t', e'⟩ := ints_at ib j (by simpa using h2)
    rw [List.getElem_toArray, List.getElem_toArray, e, e']
    exact rcLt_int _ _ _ t _ t'
  · rw [List.size_toArray, List.size_toArray, l1, l2, first_lex]
    exact ⟨.bl _, H, I, rfl, q⟩
end Lp
set_option Elab.async false
set_option linter.all false
set_option maxRecDepth 100000
namespace Lp
open PySem PySem.Spec PyProof.Rows L2
/-! ### a space, so many times -/
def spc (n : Nat) : Str := ⟨(List.replicate n 32).toArray⟩
theorem spc1 : spc 1 = (" " : Str) := by decide +kernel
theorem spc_len (n : Nat) : (spc n).length = n := by
  show ((List.replicate n 32).toArray).size = n
  rw [List.size_toArray, List.length_replicate]
section
variable {X : Cx}
theorem op_repB : OpR X (binaryOp .Mult) (fun x y H Q => ∃ n : Nat, x = .str (" " : Str) ∧ y = .int (n : Int) ∧ n ≤ 1000 ∧ Q (.str (spc n)) H) := by
  intro pins s σ H x y v u Q I r1 r2 h
  obtain ⟨n, e1, e2, hn, q⟩ := h
  subst e1; subst e2
  obtain ⟨t, rfl⟩ := r1
  obtain ⟨t', rfl⟩ := r2
  have hz : (" " : Str).length = 1 := by decide +kernel
  have hc : (" " : Str).cps = [32].toArray := by decide +kernel
  refine PySem.P.mul_str ?_ (fun c _ => ?_) (fun _ _ => ?_) ?_
  · rw [decide_eq_false (show ¬ (n : Int) < -(2 ^ 63 : Int) by omega), decide_eq_false (show ¬ (n : Int) ≥ 2 ^ 63 by omega)]
    rfl
  · rw [hz]
    have := (Int.le_ediv_iff_mul_le (show (0 : Int) < n by omega)).mpr (show ((1 : Nat) : Int) * (n : Int) ≤ 2 ^ 63 - 1 by omega)
    omega
  · rw [hz]
    unfold Builtin.Str.tooLong
    refine decide_eq_false ?_
    have e : (n : Int).toNat = n := rfl
    have z := zs (show n ≤ 100000 by omega)
    omega
  · by_cases h0 : n = 0
    · subst h0
      rw [if_pos (by decide)]
      exact ⟨by decide, .str _, H, I.tok _, ⟨_, rfl⟩, q⟩
    · rw [if_neg (show ¬ (n : Int) < 1 by omega), hz]
      by_cases h1 : n = 1
      · subst h1
        rw [if_pos (by rfl)]
        rw [spc1] at q
        exact ⟨.str _, H, I, ⟨_, rfl⟩, q⟩
      · have hb : ((n : Int) == 1 || (1 : Nat) == 0) = false := by
          rw [beq_eq_false_iff_ne.mpr (show (n : Int) ≠ 1 by omega)]
          rfl
        rw [hb, if_neg Bool.false_ne_true]
        have e : (n : Int).toNat = n := rfl
        have f0 : List.foldl (fun x1 x2 => x1 ++ x2) #[] (List.replicate n [32].toArray) = (List.replicate n 32).toArray := by
          have := foldl_repN [32] n []
          rw [List.nil_append] at this
          rw [this]
          congr 1
          clear this hb h1 h0 q
          induction n with
          | zero => rfl
          | succ m ih => rw [List.replicate_succ, List.flatten_cons, ih (by omega) rfl, List.replicate_succ]; rfl
        rw [e, hc, f0]
        exact ⟨by rw [show (⟨(List.replicate n 32).toArray⟩ : Str).length = n from spc_len n]; exact zs (by omega), .str _, H, I.tok _, ⟨_, rfl⟩, q⟩
/-! ### an int, written in a form -/
def FmtI (i : Int) (sp y : Str) : Prop := ∀ (prog : Program) (w : World) (A : Around) (E : Value → Shared → Prop) (s : Shared) (t : Tok) (Q : Value → Shared → Prop), (∀ t' k, Q (.str y t') { s with toks := k }) → wpAny (model prog w) A (formatField (.int i t) sp) Q E s
def tFmtS (te ts : TE) : TE := fun σ H Q => te σ H fun x H1 => ts σ H1 fun y H2 => ∃ (i : Int) (f z : Str), x = .int i ∧ y = .str f ∧ FmtI i f z ∧ Q (.str z) H2
theorem pe_fmtS {e sp : Expr} {te ts : TE} {pos : Pos} (he : PE X e te) (hs : PE X sp ts) : PE X (.FormattedValue e (-1) (some sp) pos) (tFmtS te ts) := by
  refine ⟨fun pins s σ H Q I h => ?_⟩
  refine wpAny_FormattedValue_spec (thn (he.run pins s σ H _ I h) fun v s1 ⟨x, H1, I1, r1, q1⟩ => thn (hs.run pins s1 σ H1 _ I1 q1) fun u s2 ⟨y, H2, I2, r2, i, f, z, e1, e2, hf, q⟩ => ?_)
  subst e1
  subst e2
  obtain ⟨t, rfl⟩ := r1
  obtain ⟨t', rfl⟩ := r2
  exact ⟨f, t', rfl, hf _ _ _ _ _ _ _ fun _ _ => ⟨.str z, H2, I2.tok _, ⟨_, rfl⟩, q⟩⟩
end
open Builtin Builtin.Int Builtin.Float in
def fmF (f : FormatSpec) (i : Int) : Str := intField' f (decide (i < 0)) [] ((Nat.toDigits 10 i.natAbs).map fun c => (if (100 : Nat) == 88 then c.toUpper else c).toNat) [] 3
abbrev fs3 : Builtin.Float.FormatSpec := { align := 62, width := some 3 }
abbrev fs4 : Builtin.Float.FormatSpec := { align := 62, width := some 4 }
abbrev fs5 : Builtin.Float.FormatSpec := { align := 62, width := some 5, sign := some 43 }
abbrev fsD : Builtin.Float.FormatSpec := { align := 62, sign := some 43, type := some 100 }
section
open Builtin Builtin.Int Builtin.Float PySem.W
theorem par3 : parseFormatSpec (">3" : Str).cps.toList "int" 62 = .ok fs3 := by kernel_rfl
theorem par4 : parseFormatSpec (">4" : Str).cps.toList "int" 62 = .ok fs4 := by kernel_rfl
theorem par5 : parseFormatSpec (">+5" : Str).cps.toList "int" 62 = .ok fs5 := by kernel_rfl
theorem parD : parseFormatSpec ("+d" : Str).cps.toList "int" 62 = .ok fsD := by kernel_rfl
theorem fmt_3 {i : Int} (hi : i.natAbs.log2 < 1920) (hl : (fmF fs3 i).length ≤ sizeLine) : FmtI i (">3" : Str) (fmF fs3 i) := by
  intro prog w A E s t Q h
  refine KXf.field_int rfl (by decide +kernel) (by decide +kernel) (fun u => KPc.meets_of ?_) h
  intro _ _ _ _ _ _ hh
  unfold Builtin.«int.__format__»; refine wpAny_bind (wpAny_of_eq (a := (_, _)) rfl (wpAny_bind (wpAny_of_eq (a := _) rfl ?_)))
  kxf_if; refine wpAny_bind (wpAny_typeNameOf (T := "str") (typeIs_str _ _ _) (by decide) fun _ => wpAny_bind (wpAny_of_eq (a := some _) rfl ?_))
  kxf_if; kxf_if; refine wpAny_bind (wpAny_typeNameOfCut_int ?_); rw [par3]
  have e100 : (none : Option Nat).getD (if ((">3" : Str).cps.back? == some 0) = true then 0 else 100) = 100 := by decide +kernel
  dsimp only
  rw [e100]
  refine wpAny_ite (KPc.ite_yes (by decide +kernel) ?_)
  refine wpAny_bind (m := Builtin.overDigitLimit? i) (wpAny_of_eq (PySem.overDigitLimit_small hi) (KXf.ret_text (T := fmF fs3 i) rfl hl ?_))
  assumption
theorem fmt_4 {i : Int} (hi : i.natAbs.log2 < 1920) (hl : (fmF fs4 i).length ≤ sizeLine) : FmtI i (">4" : Str) (fmF fs4 i) := by
  intro prog w A E s t Q h
  refine KXf.field_int rfl (by decide +kernel) (by decide +kernel) (fun u => KPc.meets_of ?_) h
  intro _ _ _ _ _ _ hh
  unfold Builtin.«int.__format__»; refine wpAny_bind (wpAny_of_eq (a := (_, _)) rfl (wpAny_bind (wpAny_of_eq (a := _) rfl ?_)))
  kxf_if; refine wpAny_bind (wpAny_typeNameOf (T := "str") (typeIs_str _ _ _) (by decide) fun _ => wpAny_bind (wpAny_of_eq (a := some _) rfl ?_))
  kxf_if; kxf_if; refine wpAny_bind (wpAny_typeNameOfCut_int ?_); rw [par4]
  have e100 : (none : Option Nat).getD (if ((">4" : Str).cps.back? == some 0) = true then 0 else 100) = 100 := by decide +kernel
  dsimp only
  rw [e100]
  refine wpAny_ite (KPc.ite_yes (by decide +kernel) ?_)
  refine wpAny_bind (m := Builtin.overDigitLimit? i) (wpAny_of_eq (PySem.overDigitLimit_small hi) (KXf.ret_text (T := fmF fs4 i) rfl hl ?_))
  assumption
theorem fmt_5 {i : Int} (hi : i.natAbs.log2 < 1920) (hl : (fmF fs5 i).length ≤ sizeLine) : FmtI i (">+5" : Str) (fmF fs5 i) := by
  intro prog w A E s t Q h
  refine KXf.field_int rfl (by decide +kernel) (by decide +kernel) (fun u => KPc.meets_of ?_) h
  intro _ _ _ _ _ _ hh
  unfold Builtin.«int.__format__»; refine wpAny_bind (wpAny_of_eq (a := (_, _)) rfl (wpAny_bind (wpAny_of_eq (a := _) rfl ?_)))
  kxf_if; refine wpAny_bind (wpAny_typeNameOf (T := "str") (typeIs_str _ _ _) (by decide) fun _ => wpAny_bind (wpAny_of_eq (a := some _) rfl ?_))
  kxf_if; kxf_if; refine wpAny_bind (wpAny_typeNameOfCut_int ?_); rw [par5]
  have e100 : (none : Option Nat).getD (if ((">+5" : Str).cps.back? == some 0) = true then 0 else 100) = 100 := by decide +kernel
  dsimp only
  rw [e100]
  refine wpAny_ite (KPc.ite_yes (by decide +kernel) ?_)
  refine wpAny_bind (m := Builtin.overDigitLimit? i) (wpAny_of_eq (PySem.overDigitLimit_small hi) (KXf.ret_text (T := fmF fs5 i) rfl hl ?_))
  assumption
theorem fmt_D {i : Int} (hi : i.natAbs.log2 < 1920) (hl : (fmF fsD i).length ≤ sizeLine) : FmtI i ("+d" : Str) (fmF fsD i) := by
  intro prog w A E s t Q h
  refine KXf.field_int rfl (by decide +kernel) (by decide +kernel) (fun u => KPc.meets_of ?_) h
  intro _ _ _ _ _ _ hh
  unfold Builtin.«int.__format__»; refine wpAny_bind (wpAny_of_eq (a := (_, _)) rfl (wpAny_bind (wpAny_of_eq (a := _) rfl ?_)))
  kxf_if; refine wpAny_bind (wpAny_typeNameOf (T := "str") (typeIs_str _ _ _) (by decide) fun _ => wpAny_bind (wpAny_of_eq (a := some _) rfl ?_))
  kxf_if; kxf_if; refine wpAny_bind (wpAny_typeNameOfCut_int ?_); rw [parD]
  have e100 : (some 100 : Option Nat).getD (if (("+d" : Str).cps.back? == some 0) = true then 0 else 100) = 100 := by decide +kernel
  dsimp only
  rw [e100]
  refine wpAny_ite (KPc.ite_yes (by decide +kernel) ?_)
  refine wpAny_bind (m := Builtin.overDigitLimit? i) (wpAny_of_eq (PySem.overDigitLimit_small hi) (KXf.ret_text (T := fmF fsD i) rfl hl ?_))
  assumption
end
end Lp
set_option Elab.async false
set_option linter.all false
set_option maxRecDepth 100000
namespace Lp
open PySem PySem.Spec PyProof.Rows L2
/-! ### dict comprehensions over a range -/
theorem dc_range {lo : Int} {n : Nat} {g : TG} {tt : TT} {tk tv : TE} {vs : List Nat} {σ : L2.St} {H1 : Hp} {D : Addr} {Qd : Hp → Prop} (Pv : Nat → Hp → Prop) (h0 : Pv 0 (upd H1 D (.dK [])))
    (hs : ∀ (i : Nat) (H : Hp), i < n → Pv i H → g (.int (lo + i)) (wipe σ vs) H fun σ2 H2 => wipe σ2 vs = wipe σ vs ∧ tt σ2 H2 fun b H3 =>
      if b = true then tk σ2 H3 fun y H4 => tv σ2 H4 fun z H5 => ∃ kvs k, y = kV k ∧ H5 D = some (.dK kvs) ∧ kvs.length < sizeLine ∧ Pv (i + 1) (upd H5 D (.dK (putK kvs k z))) else Pv (i + 1) H3) (hd : ∀ H, Pv n H → Qd H) :
    ∃ W : Nat → Nat → Hp → Prop, (∃ m, W 0 m (upd H1 D (.dK []))) ∧ ∀ i m H, W i m H →
      ((Itr lo n).stop i H ∧ Qd H) ∨ ((Itr lo n).go i H ∧ ∃ Nx : Hp → Prop, (∀ H', Nx H' → ∃ m', m' < m ∧ W (i + 1) m' H') ∧ ∀ x H', (Itr lo n).yld i H x H' → g x (wipe σ vs) H' fun σ2 H2 => wipe σ2 vs = wipe σ vs ∧ tt σ2 H2 fun b H3 =>
        if b = true then tk σ2 H3 fun y H4 => tv σ2 H4 fun z H5 => ∃ kvs k, y = kV k ∧ H5 D = some (.dK kvs) ∧ kvs.length < sizeLine ∧ Nx (upd H5 D (.dK (putK kvs k z))) else Nx H3) := by
  refine ⟨fun i m H => m = n - i ∧ i ≤ n ∧ Pv i H, ⟨n, by simp, Nat.zero_le _, h0⟩, ?_⟩
  rintro i m H ⟨rfl, hi, pv⟩
  rcases Nat.lt_or_ge i n with hlt | hge
  · refine .inr ⟨hlt, Pv (i + 1), fun H' p' => ⟨n - (i + 1), by omega, rfl, hlt, p'⟩, fun x H' y => ?_⟩
    obtain ⟨rfl, rfl⟩ := y
    exact hs i _ hlt pv
  · have e : i = n := by omega
    subst e
    exact .inl ⟨Nat.le_refl _, hd H pv⟩
/-! ### words with single spaces between -/
abbrev jn (l : List Str) : Str := Str.join (" " : Str) l
theorem jn_snoc (x : Str) : ∀ l : List Str, jn (l ++ [x]) = if l = [] then x else jn l ++ (" " : Str) ++ x
  | [] => rfl
  | [y] => rfl
  | y :: z :: r => by
    have ih := jn_snoc x (z :: r)
    rw [if_neg (by simp)] at ih
    rw [if_neg (by simp)]
    show y ++ (" " : Str) ++ jn (z :: r ++ [x]) = y ++ (" " : Str) ++ jn (z :: r) ++ (" " : Str) ++ x
    rw [ih]
    simp only [Str.append_assoc]
theorem space1 : (" " : Str) = ⟨#[32]⟩ := by decide +kernel
def jc : List (List Nat) → List Nat
  | [] => []
  | [x] => x
  | x :: y :: r => x ++ 32 :: jc (y :: r)
theorem jn_jc : ∀ l : List Str, (jn l).cps.toList = jc (l.map fun x => x.cps.toList)
  | [] => rfl
  | [x] => rfl
  | x :: y :: r => by
    have ih := jn_jc (y :: r)
    show (x ++ (" " : Str) ++ jn (y :: r)).cps.toList = x.cps.toList ++ 32 :: jc ((y :: r).map fun x => x.cps.toList)
    rw [← ih, space1, Str.cps_append, Str.cps_append]
    simp
theorem cut32 : ∀ {x y a b : List Nat}, 32 ∉ x → 32 ∉ y → x ++ 32 :: a = y ++ 32 :: b → x = y ∧ a = b
  | [], [], a, b, _, _, h => ⟨rfl, (List.cons.inj h).2⟩
  | [], c :: y, a, b, _, hy, h => absurd ((List.cons.inj h).1 ▸ List.mem_cons_self) hy
  | c :: x, [], a, b, hx, _, h => absurd ((List.cons.inj h).1 ▸ List.mem_cons_self) hx
  | c :: x, d :: y, a, b, hx, hy, h => by
    obtain ⟨e1, e2⟩ := List.cons.inj h
    obtain ⟨e3, e4⟩ := cut32 (fun z => hx (List.mem_cons_of_mem _ z)) (fun z => hy (List.mem_cons_of_mem _ z)) e2
    exact ⟨by rw [e1, e3], e4⟩
theorem jc_inj : ∀ {l m : List (List Nat)}, l ≠ [] → m ≠ [] → (∀ x ∈ l, 32 ∉ x) → (∀ x ∈ m, 32 ∉ x) → jc l = jc m → l = m
  | [], _, h, _, _, _, _ => absurd rfl h
  | _ :: _, [], _, h, _, _, _ => absurd rfl h
  | [x], [y], _, _, _, _, h => by rw [show x = y from h]
  | [x], y :: z :: r, _, _, hx, _, h => absurd (show 32 ∈ x by rw [show x = y ++ 32 :: jc (z :: r) from h]; simp) (hx x List.mem_cons_self)
  | x :: z :: r, [y], _, _, _, hy, h => absurd (show 32 ∈ y by rw [← show x ++ 32 :: jc (z :: r) = y from h]; simp) (hy y List.mem_cons_self)
  | x :: z :: r, y :: u :: s, _, _, hx, hy, h => by
    obtain ⟨e1, e2⟩ := cut32 (hx x List.mem_cons_self) (hy y List.mem_cons_self) (show x ++ 32 :: jc (z :: r) = y ++ 32 :: jc (u :: s) from h)
    rw [e1, jc_inj (l := z :: r) (m := u :: s) (by simp) (by simp) (fun q hq => hx q (List.mem_cons_of_mem _ hq)) (fun q hq => hy q (List.mem_cons_of_mem _ hq)) e2]
theorem map_cps_inj : ∀ {l m : List Str}, (l.map fun x => x.cps.toList) = (m.map fun x => x.cps.toList) → l = m
  | [], [], _ => rfl
  | [], _ :: _, h => nomatch h
  | _ :: _, [], h => nomatch h
  | x :: l, y :: m, h => by
    obtain ⟨e1, e2⟩ := List.cons.inj h
    have e3 : x = y := Str.ext' (Array.toList_inj.mp e1)
    rw [e3, map_cps_inj e2]
theorem split_jn {l : List Str} (h : l ≠ []) (hf : ∀ x ∈ l, 32 ∉ x.cps.toList) : Txt.split (jn l) (" " : Str) = l := by
  have e1 : jn (Txt.split (jn l) (" " : Str)) = jn l := StrLaws.join_split _ _
  have e2 : ∀ p ∈ Txt.split (jn l) (" " : Str), 32 ∉ p.cps.toList := by
    rw [space1]
    exact StrLaws.split_free _ 32
  have e3 : Txt.split (jn l) (" " : Str) ≠ [] := fun z => by
    have := split_pos (jn l) (" " : Str)
    rw [z] at this
    simp at this
  refine map_cps_inj (jc_inj (by simpa using e3) (by simpa using h) ?_ ?_ ?_)
  · intro x hx
    obtain ⟨p, hp, rfl⟩ := List.mem_map.mp hx
    exact e2 p hp
  · intro x hx
    obtain ⟨p, hp, rfl⟩ := List.mem_map.mp hx
    exact hf p hp
  · rw [← jn_jc, ← jn_jc, e1]
end Lp
set_option Elab.async false
set_option linter.all false
set_option maxRecDepth 100000
namespace Lp
open PySem PySem.Spec PyProof.Rows L2
/-! ### defs, methods, classes, properties that may be used by their names -/
structure Cal (P : Program) (w : World) (K : PySem.W.Frag) (mg : Str → Option Value) (base : Heap) (k : Nat) (x : Str) (sp : Sp) : Prop where
  ex : ∃ (f : Addr) (fd : FuncData) (ps : List Str), FnOk P w K mg base CX0 k f fd ps sp ∧ mg x = some (.ref f) ∧ PySem.W.keepIn K (.ref f) = true ∧ Binds K fd ps []
structure Met (P : Program) (w : World) (K : PySem.W.Frag) (mg : Str → Option Value) (base : Heap) (k : Nat) (C : Addr) (m : Str) (sp : Sp) : Prop where
  ex : ∃ (f : Addr) (fd : FuncData) (ps : List Str), Cls K C ∧ Meth K C m f ∧ FnOk P w K mg base CX0 k f fd ps sp ∧ Binds K fd ps []
structure Mak (P : Program) (w : World) (K : PySem.W.Frag) (mg : Str → Option Value) (base : Heap) (k : Nat) (x : Str) (C : Addr) (sp : Sp) : Prop where
  ex : ∃ (f : Addr) (fd : FuncData) (ps : List Str), Mk K C f ∧ FnOk P w K mg base CX0 k f fd ps sp ∧ mg x = some (.ref C) ∧ Binds K fd ps []
structure Prp (P : Program) (w : World) (K : PySem.W.Frag) (mg : Str → Option Value) (base : Heap) (k : Nat) (C : Addr) (f : Str) (sp : Sp) : Prop where
  ex : ∃ (p g : Addr) (fd : FuncData) (ps : List Str), Cls K C ∧ PropOf K C f p g ∧ FnOk P w K mg base CX0 k g fd ps sp ∧ Binds K fd ps []
theorem Cal.gc {P : Program} {w : World} {K : PySem.W.Frag} {mg : Str → Option Value} {base : Heap} {k : Nat} {x : Str} {sp : Sp} (c : Cal P w K mg base k x sp) : Gc P w K mg base k x sp := by
  obtain ⟨f, fd, ps, F, h⟩ := c.ex
  exact ⟨f, fd, ps, .of F, h⟩
section
variable {X : Cx} {k j : Nat} {C : Addr} {x m f : Str} {sp : Sp} {p pos apos : Pos} {e o : Expr} {es : List Expr} {ta : TE} {t : TA}
theorem pe_c (c : Cal X.prog X.w X.K X.mg X.base k x sp) (hr : Room j X.A) (hk : k ≤ j) (hg : Gl X x) (ha : PA X (e :: es) t)
    (hdb : (x == ("__debug__" : Str)) = false := by decide) (he : starEach (e :: es) X.env = (false, eval e X.env) :: starEach es X.env := by rfl) (hpl : (backTo pos (starEach es X.env)).any (·.1) = false := by rfl) :
    PE X (.Call (.Name x p) (e :: es) [] pos) (tCall sp [] E0 t) := by
  obtain ⟨g, fd, ps, F, hm, kp, b⟩ := c.ex
  exact pe_call F (hr.mono hk) hg hm kp b .nil pass0 ha hdb he hpl
theorem pe_mk (c : Mak X.prog X.w X.K X.mg X.base k x C sp) (hr : Room j X.A) (hk : k + 1 ≤ j) (hg : Gl X x) (ha : PA X (e :: es) t)
    (hdb : (x == ("__debug__" : Str)) = false := by decide) (he : starEach (e :: es) X.env = (false, eval e X.env) :: starEach es X.env := by rfl) (hpl : (backTo pos (starEach es X.env)).any (·.1) = false := by rfl) :
    PE X (.Call (.Name x p) (e :: es) [] pos) (tMake C sp [] E0 t) := by
  obtain ⟨g, fd, ps, M, F, hm, b⟩ := c.ex
  exact pe_make M F (hr.mono hk) hg hm b .nil pass0 ha hdb he hpl
theorem pe_mt {pl : Sem Bool} (c : Met X.prog X.w X.K X.mg X.base k C m sp) (hr : Room j X.A) (hk : k ≤ j) (he : PE X o ta) (ha : PA X (e :: es) t)
    (hst : starEach (e :: es) X.env = (false, eval e X.env) :: starEach es X.env := by rfl) (hpl : (backTo pos (starEach es X.env)).any (·.1) = false := by rfl)
    (ht : eval (.Call (.Attribute o m apos) (e :: es) [] pos) X.env = (eval o X.env >>= fun ov => standAt apos.atName >>= fun _ => holding [ov] (getMethod ov m pl) >>= fun r => callWith pos r.1 r.2 (backTo pos (starEach (e :: es) X.env)) (backToKw pos (keywordEach [] X.env))) := by rfl) :
    PE X (.Call (.Attribute o m apos) (e :: es) [] pos) (tMeth C m sp [] E0 ta t) := by
  obtain ⟨g, fd, ps, hc, hm, F, b⟩ := c.ex
  exact pe_meth (pl := pl) he hc hm F (hr.mono hk) b .nil pass0 ha hst hpl ht
theorem pe_mt0 {pl : Sem Bool} (c : Met X.prog X.w X.K X.mg X.base k C m sp) (hr : Room j X.A) (hk : k ≤ j) (he : PE X o ta)
    (ht : eval (.Call (.Attribute o m apos) [] [] pos) X.env = (eval o X.env >>= fun ov => standAt apos.atName >>= fun _ => holding [ov] (getMethod ov m pl) >>= fun r => callWith pos r.1 r.2 (backTo pos (starEach [] X.env)) (backToKw pos (keywordEach [] X.env))) := by rfl) :
    PE X (.Call (.Attribute o m apos) [] [] pos) (tMeth C m sp [] E0 ta tNil) := by
  obtain ⟨g, fd, ps, hc, hm, F, b⟩ := c.ex
  exact pe_meth0 (pl := pl) he hc hm F (hr.mono hk) b .nil pass0 ht
theorem pe_pr (c : Prp X.prog X.w X.K X.mg X.base k C f sp) (hr : Room j X.A) (hk : k + 1 ≤ j) (he : PE X e ta) (hab : attributeBase e f X.env (eval e X.env) = eval e X.env := by rfl) : PE X (.Attribute e f pos) (tProp C sp [] E0 ta) := by
  obtain ⟨p, g, fd, ps, hc, hp, F, b⟩ := c.ex
  exact pe_prop he hc hp F (hr.mono hk) b .nil pass0 hab
end
/-! ### slices that end one before the end -/
theorem cut_init (xs : List V) : cutV xs none (some (-1)) = xs.dropLast := by
  have e : HT.sIx xs.length xs.length (some (-1)) = xs.length - 1 := by
    show (if (-1 : Int) < 0 then ((-1 : Int) + (xs.length : Int)).toNat else min (-1 : Int).toNat xs.length) = _
    rw [if_pos (by decide)]
    omega
  unfold cutV
  rw [HT.sIx_none, e, List.drop_zero, Nat.sub_zero, List.dropLast_eq_take]
end Lp
set_option Elab.async false
set_option linter.all false
set_option maxRecDepth 100000
namespace Lp
open PySem PySem.Spec PyProof.Rows L2
/-! ### methods that may raise, called where it is caught -/
structure MetX (P : Program) (w : World) (K : PySem.W.Frag) (mg : Str → Option Value) (base : Heap) (k : Nat) (C : Addr) (m : Str) (sp : Sp) : Prop where
  ex : ∃ (f : Addr) (fd : FuncData) (ps : List Str), Cls K C ∧ Meth K C m f ∧ FnOk P w K mg base (L2.CX P w) k f fd ps sp ∧ Binds K fd ps []
def tMtX0 (C : Addr) (m : Str) (sp : Sp) (W : WX) (ta : TE) : TE := fun σ H Q => ta σ H fun x H1 => ∃ a dx fs, x = .ref a ∧ H1 a = some (.ins C dx fs) ∧ fs.lookup m = none ∧ sp [x] H1 Q (WE W σ)
/-- classes made by keywords alone -/
structure MakK (P : Program) (w : World) (K : PySem.W.Frag) (mg : Str → Option Value) (base : Heap) (k : Nat) (x : Str) (C : Addr) (ks : List Str) (gV : List V → List V → List V) (sp : Sp) : Prop where
  ex : ∃ (f : Addr) (fd : FuncData) (ps : List Str) (g : List Value → List Value → List Value), Mk K C f ∧ FnOk P w K mg base CX0 k f fd ps sp ∧ mg x = some (.ref C) ∧ KBn K fd ps 1 ks g gV
section
variable {X : Cx} {k j : Nat} {C : Addr} {x m : Str} {sp : Sp} {p pos apos : Pos} {o : Expr} {ta : TE} {tk' : TA} {kws : List Keyword} {ks : List Str} {gV : List V → List V → List V}
theorem pe_mtX0 {pl : Sem Bool} {W : WX} (c : MetX X.prog X.w X.K X.mg X.base k C m sp) (hr : Room j X.A) (hk : k ≤ j) (tk : Takes X W) (he : PE X o ta)
    (ht : eval (.Call (.Attribute o m apos) [] [] pos) X.env = (eval o X.env >>= fun ov => standAt apos.atName >>= fun _ => holding [ov] (getMethod ov m pl) >>= fun r => callWith pos r.1 r.2 (backTo pos (starEach [] X.env)) (backToKw pos (keywordEach [] X.env))) := by rfl) :
    PE X (.Call (.Attribute o m apos) [] [] pos) (tMtX0 C m sp W ta) := by
  obtain ⟨g, fd, ps, hc, hm, F, b⟩ := c.ex
  refine ⟨fun pins s σ H Q I h => ?_⟩
  refine PySem.W.methodCall_KW (pl := pl) (thn (he.run pins s σ H _ I h) fun u s1 ⟨y, H1, I1, rx, a, dx, fs, ex, ea, l, q⟩ => ?_) ht
  subst ex
  obtain rfl : u = Value.ref a := rx
  refine getmeth_ok I1 ea hc hm l (PySem.W.callWith_K0 (first := [.ref a]) I1.kIn hm.kp ?_)
  exact run_fnS (us := [.ref a]) (vs := [.ref a]) F (hr.mono hk) b (passAt tk σ) I1 (.cons rfl .nil) q
theorem pe_mkK (c : MakK X.prog X.w X.K X.mg X.base k x C ks gV sp) (hr : Room j X.A) (hk : k + 1 ≤ j) (hg : Gl X x) (hkw : PK X kws tk')
    (hall : (backToKw pos (keywordEach kws X.env)).all (·.1.isSome) = true := by rfl) (hks : (backToKw pos (keywordEach kws X.env)).filterMap (·.1) = ks := by rfl) (hdb : (x == ("__debug__" : Str)) = false := by decide)
    (hpl : ((backTo pos (starEach [] X.env)).any (·.1) || (backToKw pos (keywordEach kws X.env)).any (·.1.isNone)) = false := by rfl) : PE X (.Call (.Name x p) [] kws pos) (tMakeK C 0 ks.length sp gV E0 tNil tk') := by
  obtain ⟨f, fd, ps, g, M, F, hm, hb⟩ := c.ex
  exact pe_makeK0 M F (hr.mono hk) hg hm hb pass0 hkw hall hks hdb hpl
end
end Lp
set_option Elab.async false
set_option linter.all false
set_option maxRecDepth 100000
set_option maxHeartbeats 1000000
namespace Lp
open PySem PySem.Spec PyProof.Rows L2 GenW
/-! ### yield from a list -/
section
variable {prog : Program} {w : World} {A : Around} {E : Value → Shared → Prop} {s : Shared}
theorem special_lst_item {it l : Addr} {i : Nat} {items : Array Value} {x : Value} {Q : Option Value → Shared → Prop} (hit : s.heap.IsListIter it l i)
    (hl : s.heap.IsList l items) (hx : items[i]? = some x)
    (hQ : ∀ h', h'.IsListIter it l (i + 1) → Heap.SameBut it s.heap h' → Q (some x) { s with heap := h' }) :
    wpAny (model prog w) A (callSpecial? (.ref it) "__next__") Q E s := by
  obtain ⟨o, ho, hc, hd⟩ := id hit
  obtain ⟨ol, hol, _, nl, hdl⟩ := hl
  refine wpAny_callSpecial?_slot (name := Str.ofString "__next__") hit.typeIs slot_listiter_next (wpAny_call_entry slot_listiter_next hit.typeIs entry_listiter_next ?_ (args_listiter_next _))
  show wpAny _ _ (field (.ref it) 0 >>= _) _ _ s
  refine wpAny_bind (wpAny_field ho hd (x := .ref l) rfl ?_)
  show wpAny _ _ (if (Value.ref l == Value.none) = true then _ else _) _ _ s
  rw [if_neg (show ¬ ((Value.ref l == Value.none) = true) from Bool.false_ne_true)]
  show wpAny _ _ (field (.ref it) 1 >>= _) _ _ s
  refine wpAny_bind (wpAny_field ho hd (x := .int i 0) rfl ?_)
  show wpAny _ _ (seqItems? (.ref l) >>= _) _ _ s
  refine wpAny_bind (wpAny_seqItems hol hdl ?_)
  simp only [Int.toNat_natCast, hx]
  refine wpAny_bind (wpAny_setField ho hd (by simp) (wpAny_pure ⟨x, rfl, hQ _ ?_ (Heap.SameBut.update ..)⟩))
  exact ⟨_, Heap.get?_update_self _ ho (Obj.isFreed_of_fields (Obj.data_mapFields hd _)), (Obj.cls_mapFields ..).trans hc, by
    rw [Obj.data_mapFields hd]; simp [rawInt]⟩
theorem special_lst_end {it l : Addr} {i : Nat} {items : Array Value} {Q : Option Value → Shared → Prop} (hh : A.handled = none) (hit : s.heap.IsListIter it l i) (hl : s.heap.IsList l items) (hx : items[i]? = none)
    (hE : ∀ e h', StopX e h' → Heap.ExtBut it s.heap h' → E e { s with heap := h' }) : wpAny (model prog w) A (callSpecial? (.ref it) "__next__") Q E s := by
  obtain ⟨o, ho, hc, hd⟩ := id hit
  obtain ⟨ol, hol, _, nl, hdl⟩ := hl
  refine wpAny_callSpecial?_slot (name := Str.ofString "__next__") hit.typeIs slot_listiter_next (wpAny_call_entry slot_listiter_next hit.typeIs entry_listiter_next ?_ (args_listiter_next _))
  show wpAny _ _ (field (.ref it) 0 >>= _) _ _ s
  refine wpAny_bind (wpAny_field ho hd (x := .ref l) rfl ?_)
  show wpAny _ _ (if (Value.ref l == Value.none) = true then _ else _) _ _ s
  rw [if_neg (show ¬ ((Value.ref l == Value.none) = true) from Bool.false_ne_true)]
  show wpAny _ _ (field (.ref it) 1 >>= _) _ _ s
  refine wpAny_bind (wpAny_field ho hd (x := .int i 0) rfl ?_)
  show wpAny _ _ (seqItems? (.ref l) >>= _) _ _ s
  refine wpAny_bind (wpAny_seqItems hol hdl ?_)
  simp only [Int.toNat_natCast, hx]
  refine wpAny_bind (wpAny_rule (wpAny_bind (wpAny_setField ho hd (by simp) ?_)))
  show wpAny _ _ (newExc (.type "StopIteration") [] >>= _) _ _ _
  refine wpAny_bind ?_
  simp only [newExc, newTuple]
  refine wpAny_bind (wpAny_newObj_type ?_ (by size_fits))
  refine wpAny_bind (m := firstArgMember _ _) (wpAny_of_eq (a := Value.none) (by first | rfl | (simp only [firstArgMember]; rfl)) ?_)
  refine wpAny_newObj_type ?_ (by size_fits)
  simp only [raiseNew]
  refine wpAny_bind (wpAny_handled ?_)
  first | rw [show A.in1.handled = none from hh] | rw [hh]
  refine wpAny_bind (wpAny_pure (wpAny_throw ?_))
  refine hE _ _ ⟨_, _, _, rfl, Heap.get?_push_size _ rfl, rfl, rfl, ?_⟩ (((Heap.SameBut.update ..).extBut.push _).push _)
  first
    | rfl
    | (rw [Array.getElem?_append_left (by decide)]; rfl)
    | kernel_rfl
end
section
variable {X : Cx} {e : Expr} {te : TE}
def tYfLst (te : TE) : TYf := fun σ H Q => te σ H fun x H1 => ∃ a xs, x = .ref a ∧ H1 a = some (.lst xs) ∧ Q xs H1
theorem close_lst : typeLookup (.type "list_iterator") "close" = pure none := by rw [typeLookup_type, builtinLookup_eq_fast]; kernel_rfl
theorem yf_lst (he : PE X e te) : YfE X e (tYfLst te) := by
  refine ⟨fun pins s σ H Q I h => ?_⟩
  refine thn (he.run pins s σ H _ I h) fun v s1 ⟨x, H1, I1, r1, a, xs, ex, ha, hq⟩ => ?_
  subst ex
  obtain rfl : v = Value.ref a := r1
  obtain ⟨hlen, its, c, rits, hg⟩ := I1.hok a _ ha
  have ht : s1.heap.IsList a its.toArray := ⟨_, hg, rfl, _, rfl⟩
  refine ⟨"list", ht.typeIs, by decide, wpAny_pyIter_list ht ?_⟩
  have ksz : ∀ b o, s1.heap.get? b = some o → b ≠ s1.heap.objs.size := fun b o e => Nat.ne_of_lt (Heap.lt_size e)
  have kp : ∀ b o, s1.heap.get? b = some o → (s1.heap.push { cls := .type "list_iterator", data := .fields #[.ref a, .int 0 0] }).get? b = some o := fun b o e => Heap.get?_push_of_some _ e
  refine ⟨s1.heap.objs.size, H1, xs, fun j h => h.IsListIter s1.heap.objs.size a j ∧ h.IsList a its.toArray, rfl, I1.kept (t' := s1.toks) kp, .inr I1.sz, Nat.ne_of_gt I1.lt, fun y c hy => ?_, I1.hok.fresh (Nat.le_refl _), fun p hp => ?_,
    ⟨⟨_, Heap.get?_push_size _ rfl, rfl, rfl⟩, ⟨_, kp _ _ hg, rfl, _, rfl⟩⟩, ⟨⟨"list_iterator", fun j h q => ?_, close_lst, by decide⟩, fun j h h' q hk => ?_, fun A' j x s2 Q' E' hA hx q hQ => ?_, fun A' s2 Q' E' hA q hE => ?_⟩, hq⟩
  · obtain ⟨v, o, ho, _⟩ := I1.cell y c hy
    exact ksz c o ho
  · exact ksz p.1 _ (I1.pin p hp).1
  · obtain ⟨⟨o, ho, hc, _⟩, _⟩ := q
    exact ⟨o, ho, hc⟩
  · obtain ⟨⟨o, ho, r⟩, o2, ho2, r2⟩ := q
    exact ⟨⟨o, hk _ o (.inl rfl) ho, r⟩, o2, hk _ o2 (.inr (by rw [ha]; exact fun z => by cases z)) ho2, r2⟩
  · obtain ⟨q1, q2⟩ := q
    obtain ⟨u, hu, ru⟩ := rits.get hx
    have hne : a ≠ s1.heap.objs.size := Nat.ne_of_lt (Heap.lt_size hg)
    exact special_lst_item q1 q2 (x := u) (by simpa using hu) fun h' q1' hs => hQ u h' s2.toks ru ⟨q1', (by obtain ⟨o2, ho2, r2⟩ := q2; exact ⟨o2, hs.extBut _ _ hne ho2, r2⟩)⟩ fun b o hb eb => hs.extBut b o hb eb
  · obtain ⟨q1, q2⟩ := q
    have hnone : its.toArray[xs.length]? = none := by
      have e := rits.length
      have e2 : its[xs.length]? = none := List.getElem?_eq_none_iff.mpr (by omega)
      simpa using e2
    exact special_lst_end hA q1 q2 hnone fun e h' hS hk => hE e h' s2.toks hS fun b o hb eb => hk b o hb eb
end
/-! ### generator defs by their names -/
section
variable {P : Program} {w : World} {K : PySem.W.Frag} {mg : Str → Option Value} {base : Heap}
theorem okGen {x qual : Str} {st : Stmt} {f : Addr} {fd : FuncData} {N ps : List Str} {k : Nat} {sp : SpG} (F : Fun K x qual st f fd) (S : GScope N ps (defScope st)) (ln : ∀ vs H Q E, sp vs H Q E → vs.length = ps.length)
    (hb : ∀ (cdv : Value) (A : Around) (outer : List Env) (s : Shared) (H : Hp) (vs : List V) (Q : List V → Hp → Prop) (E : XK) (pn : List (Addr × Obj)), Room k (A.deeper (envOfC qual (defScope st) s.heap.objs.size f cdv)) → sp vs H Q E →
      ∃ t, GSs (gcxOf P w K mg base N qual (defScope st) f cdv A outer s H E pn) (defBody st) t ∧ t { nx := fun ys _ H' => Q ys H', rt := fun ys v H' => v = .non ∧ Q ys H' } [] (start N vs) H) : GFn P w K mg base (k + 1) f fd ps sp := by
  obtain ⟨oc, od, kV, doc, pm, an, cdv, ct, osl, rfl, lk, hcd⟩ := F.ex
  exact gfn_of lk hcd S ln (hb cdv)
structure Gnr (P : Program) (w : World) (K : PySem.W.Frag) (mg : Str → Option Value) (base : Heap) (k : Nat) (x : Str) (sp : SpG) : Prop where
  ex : ∃ (f : Addr) (fd : FuncData) (ps : List Str), GFn P w K mg base k f fd ps sp ∧ mg x = some (.ref f) ∧ PySem.W.keepIn K (.ref f) = true ∧ Binds K fd ps []
end
section
variable {X : Cx} {k j : Nat} {x nm : Str} {sp : SpG} {p p2 pos pos' : Pos} {e : Expr} {es : List Expr} {t : TA}
theorem noStop0 {K : PySem.W.Frag} : NoStop K E0 := fun _ _ _ h => h.elim
theorem passes0 : Passes (CX X.prog X.w) X E0 := fun pins σ H s1 e s' I h => by
  obtain ⟨a, B, H', cls, d, _, _, _, _, _, _, _, z⟩ := h
  exact z.elim
/-- list(f(e, ..)) of a generator def -/
theorem pe_lg (c : Gnr X.prog X.w X.K X.mg X.base k x sp) (hr : Room j X.A) (hk : k + 3 ≤ j) (hg : Gl X x) (ha : PA X (e :: es) t) (hg2 : Gl X nm) (hmg : X.mg nm = none) (hv : bootBuiltins nm = some (.type "list")) (hnm : nm ≠ "__name__" := by decide) (hdb2 : (nm == ("__debug__" : Str)) = false := by decide)
    (hdb : (x == ("__debug__" : Str)) = false := by decide) (he : starEach (e :: es) X.env = (false, eval e X.env) :: starEach es X.env := by rfl) (hpl : (backTo pos' (starEach es X.env)).any (·.1) = false := by rfl)
    (he2 : starEach [.Call (.Name x p2) (e :: es) [] pos'] X.env = (false, eval (.Call (.Name x p2) (e :: es) [] pos') X.env) :: starEach [] X.env := by rfl) :
    PE X (.Call (.Name nm p) [.Call (.Name x p2) (e :: es) [] pos'] [] pos) (tListG (L2.tCallG sp [] E0 t)) := by
  obtain ⟨g, fd, ps, F, hm, kp, b⟩ := c.ex
  exact pe_listG (pgen_call F (hr.mono (by omega)) hg hm kp b .nil ha hdb he hpl) passes0 noStop0 (hr.mono hk) hg2 hmg hv hnm hdb2 he2
end
end Lp
set_option Elab.async false
set_option linter.all false
set_option maxRecDepth 100000
set_option maxHeartbeats 1000000
namespace Lp
open PySem PySem.Spec PyProof.Rows L2
/-! ### isinstance of an exception that is a value, or that an outer suite holds -/
def rIsX (K : PySem.W.Frag) : List V → Hp → VK → Prop := fun xs H Q => ∃ (a D : Addr) (c : V) (cv : Value) (b : Bool), xs = [.ref a, c] ∧ H a = some (ExO (.ref D) a) ∧ ExcC K D ∧ (∀ u, RelV c u → u = cv) ∧ PySem.W.kitOne K (.ref D) cv = some b ∧ Q (.bl b) H
theorem call_isX {X : Cx} : CallR X (.builtin "isinstance") (rIsX X.K) := by
  intro pins s σ H xs us Q I r h
  obtain ⟨a, D, c, cv, b, rfl, ha, C, hcv, e, q⟩ := h
  cases r with
  | cons rx rr =>
    cases rr with
    | cons rt rr =>
      cases rr
      cases rx
      cases hcv _ rt
      obtain ⟨⟨oe, vs, hget, hz, hv, _⟩, _, _⟩ := I.hok a _ ha
      have J : PySem.W.InstAt s.heap a oe D none := by
        obtain ⟨oc, od, oda, osl⟩ := oe
        obtain ⟨h1, h2⟩ := hz
        dsimp only at h1 h2 hv
        subst h1 h2 hv
        exact ⟨hget, rfl, rfl, trivial⟩
      exact PySem.W.kia_one (PySem.W.handS_kitx_exc C.hg C.hk C.hs C.hd C.ha C.hn C.ht C.hm) I.kIn J e (fun z => nomatch z) fun tk => ⟨.bl b, H, I.kept (t' := tk) fun _ _ z => z, rfl, q⟩
def rIsP (K : PySem.W.Frag) (p : Addr × Obj) : List V → Hp → VK → Prop := fun xs H Q => ∃ (D : Addr) (c : V) (cv : Value) (b : Bool), xs = [.ref p.1, c] ∧ Zc (.ref D) none p.2 ∧ (∃ vs, p.2.data = .fields vs) ∧ ExcC K D ∧ (∀ u, RelV c u → u = cv) ∧ PySem.W.kitOne K (.ref D) cv = some b ∧ Q (.bl b) H
theorem call_isP {X : Cx} {p : Addr × Obj} (hp : p ∈ X.pn) : CallR X (.builtin "isinstance") (rIsP X.K p) := by
  intro pins s σ H xs us Q I r h
  obtain ⟨D, c, cv, b, rfl, hz, ⟨vs, hv⟩, C, hcv, e, q⟩ := h
  cases r with
  | cons rx rr =>
    cases rr with
    | cons rt rr =>
      cases rr
      cases rx
      cases hcv _ rt
      have hget := (I.pin p (List.mem_append_left _ hp)).1
      obtain ⟨a, oe⟩ := p
      have J : PySem.W.InstAt s.heap a oe D none := by
        obtain ⟨oc, od, oda, osl⟩ := oe
        obtain ⟨h1, h2⟩ := hz
        dsimp only at h1 h2 hv
        subst h1 h2 hv
        exact ⟨hget, rfl, rfl, trivial⟩
      exact PySem.W.kia_one (PySem.W.handS_kitx_exc C.hg C.hk C.hs C.hd C.ha C.hn C.ht C.hm) I.kIn J e (fun z => nomatch z) fun tk => ⟨.bl b, H, I.kept (t' := tk) fun _ _ z => z, rfl, q⟩
/-! ### defs that are given the exception that is held -/
structure FnE (P : Program) (w : World) (K : PySem.W.Frag) (mg : Str → Option Value) (base : Heap) (k : Nat) (f : Addr) (fd : FuncData) (ps : List Str) (sp : Addr × Obj → Sp) : Prop where
  len : ∀ p vs H Q E, sp p vs H Q E → vs.length = ps.length
  run : ∀ (p : Addr × Obj) (A : Around) (out : List Env) (s : Shared) (H : Hp) (ar : Args) (us : List Value) (vs : List V) (Q : VK) (E : XK), L2H.RoomH k A → L2H.PinOk out H s p → Env0 P w K mg base A out s H →
    BindsTo s fd ar (ps.zip us) → Vals vs us → sp p vs H Q E → codeAny (model P w) A (.call (.ref f) ar) (CR CX0 out P w H s Q E) s
section
variable {P : Program} {w : World} {K : PySem.W.Frag} {mg : Str → Option Value} {base : Heap}
theorem okE {x qual : Str} {st : Stmt} {f : Addr} {fd : FuncData} {N ps : List Str} {k : Nat} {sp : Addr × Obj → Sp} (F : Fun K x qual st f fd) (S : FnScope N ps (defScope st)) (ln : ∀ p vs H Q E, sp p vs H Q E → vs.length = ps.length)
    (hb : ∀ (cdv : Value) (p : Addr × Obj) (A : Around) (out : List Env) (s : Shared) (H : Hp) (vs : List V) (Q : VK) (E : XK), L2H.RoomH k (A.deeper (envOfC qual (defScope st) s.heap.objs.size f cdv)) → sp p vs H Q E →
      ∃ t, PSs (L2H.cxH CX0 P w K mg base N qual (defScope st) f cdv A out s H E p) (defBody st) t ∧ t { nx := fun _ H' => Q .non H', rt := Q } (start N vs) H) : FnE P w K mg base (k + 1) f fd ps sp := by
  obtain ⟨oc, od, kV, doc, pm, an, cdv, ct, osl, rfl, lk, hcd⟩ := F.ex
  refine ⟨ln, fun p A out s H ar us vs Q E room hpin en bd rv hs => ?_⟩
  have KX : K.In s.heap := en.mod.kin.keeps fun b o e => (en.bs b o e).1
  have nl : s.heap.NoLimit := en.mod.nolimit.keeps fun b o e => (en.bs b o e).1
  have kd : ∀ y ∈ ps.zip us, (defScope st).names.lookup y.1 = some .local ∨ ((defScope st).names.lookup y.1 = some .cell ∧ ((cellsFrom (s.heap.objs.size + 1) (defScope st).names []).lookup y.1).isSome = true) := by
    rintro ⟨n, v⟩ hy
    have hm := (List.of_mem_zip hy).1
    exact (S.par n hm).elim (fun q => .inl q) fun q => .inr ⟨q, PySem.W.cellsFrom_some _ _ _ (.inl q)⟩
  refine codeAny_call_function room.depth (KX _ _ lk) rfl S.co S.gen rfl (PySem.W.codeRec_of KX hcd) (bd _ _ _ _ ?_)
  refine wpAny_newFunctionEnv_cells S.kind kd fun e1 he s1 x => ?_
  subst he
  refine ⟨nl.keeps x.toInCall.keep, codeAny_func ?_⟩
  obtain ⟨t, ht, hq⟩ := hb cdv p A out s H vs Q E (room.deeper _) hs
  have J0 : Inv (L2H.cxH CX0 P w K mg base N qual (defScope st) f cdv A out s H E p) [] (start N vs) H s1 := L2H.inv_startH S hpin en (ln _ _ _ _ _ hs) rv x
  refine wpAny_mono (ht.run [] s1 (start N vs) H _ J0 hq) (fun fl s' h3 => ?_) fun _ _ h3 => h3
  cases fl with
  | ret u => exact let ⟨v, _, H', J, r2, q⟩ := h3; ⟨v, H', J.os, J.bare, J.base, J.hok, r2, q⟩
  | next => exact let ⟨_, H', J, q⟩ := h3; ⟨.non, H', J.os, J.bare, J.base, J.hok, rfl, q⟩
  | brk => exact (let ⟨_, _, _, q⟩ := h3; q : False).elim
  | cont => exact (let ⟨_, _, _, q⟩ := h3; q : False).elim
structure CalE (P : Program) (w : World) (K : PySem.W.Frag) (mg : Str → Option Value) (base : Heap) (k : Nat) (x : Str) (sp : Addr × Obj → Sp) : Prop where
  ex : ∃ (f : Addr) (fd : FuncData) (ps : List Str), FnE P w K mg base k f fd ps sp ∧ mg x = some (.ref f) ∧ PySem.W.keepIn K (.ref f) = true ∧ Binds K fd ps []
structure CalX (P : Program) (w : World) (K : PySem.W.Frag) (mg : Str → Option Value) (base : Heap) (k : Nat) (x : Str) (sp : Sp) : Prop where
  ex : ∃ (f : Addr) (fd : FuncData) (ps : List Str), FnOk P w K mg base (L2.CX P w) k f fd ps sp ∧ mg x = some (.ref f) ∧ PySem.W.keepIn K (.ref f) = true ∧ Binds K fd ps []
end
section
variable {X : Cx} {k j : Nat} {x : Str} {p pos : Pos} {e : Expr} {es : List Expr} {t : TA}
def tCe (sp : Addr × Obj → Sp) (pr : Addr × Obj) (t : TA) : TE := fun σ H Q => t σ H fun vs H1 => sp pr vs H1 Q E0
theorem pe_ce {sp : Addr × Obj → Sp} {pr : Addr × Obj} (c : CalE X.prog X.w X.K X.mg X.base k x sp) (hr : L2H.RoomH k X.A) (hp : pr ∈ X.pn) (hg : Gl X x) (ha : PA X (e :: es) t)
    (hdb : (x == ("__debug__" : Str)) = false := by decide) (he : starEach (e :: es) X.env = (false, eval e X.env) :: starEach es X.env := by rfl) (hpl : (backTo pos (starEach es X.env)).any (·.1) = false := by rfl) :
    PE X (.Call (.Name x p) (e :: es) [] pos) (tCe sp pr t) := by
  obtain ⟨f, fd, ps, F, hm, kp, hb⟩ := c.ex
  refine ⟨fun pins s σ H Q I h => ?_⟩
  refine wpAny_Call_Name_kw (ld_glob I hg hm ?_ hdb)
  refine PySem.W.callWith_K (h₀ := X.base) I.ok.mod.kin kp (thn (ha.run pos pins s σ H _ I h) fun us s1 ⟨vs, H1, I1, r, q⟩ => ⟨I1.kIn, ?_⟩) he hpl
  have hl : us.length = ps.length := by rw [← r.length]; exact F.len _ _ _ _ _ q
  have b := hb s1 us I1.kIn (by rw [List.append_nil]; exact hl)
  rw [List.append_nil] at b
  have P1 := I1.pin pr (List.mem_append_left _ hp)
  have hpin : L2H.PinOk X.stack H1 s1 pr := ⟨P1.1, P1.2.1, fun hm => (List.mem_cons.mp (I1.stkSub pr.1 hm)).elim P1.2.2.1 P1.2.2.2.1, P1.2.2.2.2⟩
  refine wpAny_call (codeAny_mono (F.run pr X.A X.stack s1 H1 ⟨us, []⟩ us vs Q E0 hr hpin I1.env0 b r q) fun r s' hq => ?_)
  cases r with
  | error e => exact pass0 pins σ H1 s1 e s' I1 hq
  | ok fl =>
    cases fl with
    | ret u => exact I1.after hq
    | next => exact False.elim hq
    | brk => exact False.elim hq
    | cont => exact False.elim hq
def tCx (sp : Sp) (W : WX) (t : TA) : TE := fun σ H Q => t σ H fun vs H1 => sp vs H1 Q (WE W σ)
theorem pe_cx {sp : Sp} {W : WX} (c : CalX X.prog X.w X.K X.mg X.base k x sp) (hr : Room j X.A) (hk : k ≤ j) (tk : Takes X W) (hg : Gl X x) (ha : PA X (e :: es) t)
    (hdb : (x == ("__debug__" : Str)) = false := by decide) (he : starEach (e :: es) X.env = (false, eval e X.env) :: starEach es X.env := by rfl) (hpl : (backTo pos (starEach es X.env)).any (·.1) = false := by rfl) :
    PE X (.Call (.Name x p) (e :: es) [] pos) (tCx sp W t) := by
  obtain ⟨f, fd, ps, F, hm, kp, hb⟩ := c.ex
  refine ⟨fun pins s σ H Q I h => ?_⟩
  refine wpAny_Call_Name_kw (ld_glob I hg hm ?_ hdb)
  refine PySem.W.callWith_K (h₀ := X.base) I.ok.mod.kin kp (thn (ha.run pos pins s σ H _ I h) fun us s1 ⟨vs, H1, I1, r, q⟩ => ⟨I1.kIn, ?_⟩) he hpl
  exact run_fnS F (hr.mono hk) hb (passAt tk σ) I1 r q
end
/-! ### != of two built-in types -/
section
variable {M : Model} {A : Around} {E : Value → Shared → Prop} {s : Shared}
theorem richNe_decline {a b : Value} {T id : String} {k : Bool} {Q : Value → Shared → Prop} (ha : ∀ s' : Shared, s'.TypeIs a T) (hb : ∀ s' : Shared, s'.TypeIs b T)
    (h1 : Slot T (cmpInfo .NotEq).2.1 id) (h2 : Slot T (cmpInfo .NotEq).2.2 id) (hv : [a, b].any Value.onHeap = false) (hk : isSame a b = pure k)
    (hc : wpAny M A (call (.builtin id) [a, b]) (fun v s₁ => v = .notImplemented ∧ wpAny M A (call (.builtin id) [b, a]) (fun v s₂ => v = .notImplemented ∧ Q (.bool !k) s₂) E s₁) E s) :
    wpAny M A (richCompare .NotEq a b) Q E s := by
  rcases hi : cmpInfo CmpOp.NotEq with ⟨sym, f, r⟩
  rw [hi] at h1 h2
  simp only [richCompare, hi, (ha s).oneThing_none]
  try with_reducible refine wpAny_holding ?_
  refine wpAny_bind (wpAny_cRoomFor_or (.inl hv) ?_)
  refine wpAny_bind (wpAny_typeOf (ha s) (wpAny_bind (wpAny_typeOf (hb s) ?_)))
  simp only [bne_self_eq_false, Bool.false_eq_true, if_false, pure_bind, Bool.not_false, if_true]
  refine wpAny_bind (m := tryCompare a _ b) (wpAny_tryCompare_declines (ha s) h1 (wpAny_mono hc (fun v s₁ h₁ => ⟨h₁.1, ?_⟩) fun _ _ x => x))
  refine wpAny_bind (m := tryCompare b _ a) (wpAny_tryCompare_declines (hb s₁) h2 (wpAny_mono h₁.2 (fun v s₂ h₂ => ⟨h₂.1, ?_⟩) fun _ _ x => x))
  first
    | exact wpAny_bind (wpAny_rule (wpAny_bind (wpAny_of_eq hk (wpAny_pure h₂.2))))
    | exact wpAny_bind (wpAny_of_eq hk (wpAny_pure h₂.2))
end
section
variable {prog : Program} {w : World} {A : Around} {E : Value → Shared → Prop} {s : Shared} {Q : Value → Shared → Prop}
theorem slot_type_ne2 : Slot "type" (cmpInfo .NotEq).2.2 "object.__ne__" := slot_type_ne
theorem call_object_ne {X Y : String} (hX : ∀ s' : Shared, s'.TypeIs (.type X) "type") (hne : (Value.type X == Value.type Y) = false) (h : Q .notImplemented s) : wpAny (model prog w) A (call (.builtin "object.__ne__") [.type X, .type Y]) Q E s := by
  refine wpAny_call_entry slot_type_ne (hX s) F.entry_object_ne ?_ (F.args_object_ne_2 _ _)
  unfold Builtin.«object.__ne__»
  refine wpAny_bind (m := slotArgs "__ne__" 1 _) (wpAny_of_eq (a := ((Value.type X : Value), [Value.type Y])) (by first | rfl | (simp only [slotArgs]; rfl)) ?_)
  refine wpAny_bind (wpAny_cRoomFor_or (.inl rfl) ?_)
  refine wpAny_bind (m := callSpecialIfBound? (.type X) (Str.ofString "__eq__") [.type Y]) (wpAny_callSpecialIfBound?_slot (hX s) PySem.TypeEq.slot_type_eq
    (call_gives PySem.TypeEq.slot_type_eq (hX s) F.entry_object_eq (F.args_object_eq_2 _ _) (PySem.TypeEq.object_eq_other rfl hne) ?_))
  first
    | exact wpAny_pure ⟨_, rfl, h⟩
    | exact wpAny_pure h
    | exact wpAny_pure ⟨_, rfl, rfl, h⟩
theorem ne_type_other {X Y : String} (hX : ∀ s' : Shared, s'.TypeIs (.type X) "type") (hY : ∀ s' : Shared, s'.TypeIs (.type Y) "type") (hne : (Value.type X == Value.type Y) = false) (hne' : (Value.type Y == Value.type X) = false) (h : Q (.bool true) s) : wpAny (model prog w) A (compareOp .NotEq (.type X) (.type Y)) Q E s := by
  show wpAny _ A (richCompare .NotEq _ _) Q E s
  exact richNe_decline (T := "type") (k := false) hX hY slot_type_ne slot_type_ne2 rfl (by rw [isSame_plain rfl, hne]) (call_object_ne hX hne ⟨rfl, call_object_ne hY hne' ⟨rfl, h⟩⟩)
end
def rNeTyG : R2 := fun x y H Q => (∃ a, x = .ty a ∧ y = .ty a ∧ (∀ s' : Shared, s'.TypeIs (.type a) "type") ∧ Q (.bl false) H) ∨ ∃ a b, x = .ty a ∧ y = .ty b ∧ (∀ s' : Shared, s'.TypeIs (.type a) "type") ∧ (∀ s' : Shared, s'.TypeIs (.type b) "type") ∧ (Value.type a == Value.type b) = false ∧ (Value.type b == Value.type a) = false ∧ Q (.bl true) H
theorem op_neTyG {X : Cx} : OpR X (compareOp .NotEq) rNeTyG := by
  intro pins s σ H x y v u Q I rx ry h
  rcases h with ⟨a, rfl, rfl, ha, q⟩ | ⟨a, b, rfl, rfl, ha, hb, n1, n2, q⟩
  · cases (show v = Value.type a from rx)
    cases (show u = Value.type a from ry)
    exact ne_type_same ha ⟨.bl false, H, I, rfl, q⟩
  · cases (show v = Value.type a from rx)
    cases (show u = Value.type b from ry)
    exact ne_type_other ha hb n1 n2 ⟨.bl true, H, I, rfl, q⟩
/-! ### xs[i] op= e; one sign * n -/
def rGetL (K : PySem.W.Frag) : V → V → Hp → VK → Prop := fun o i H Q => ∃ p xs j v, o = .ref p ∧ i = .int j ∧ SqL K H p xs ∧ 0 ≤ j ∧ atI xs j = some v ∧ Q v H
theorem get_list {X : Cx} : PGet X (rGetL X.K) := by
  intro pins s σ H o i ov iv Q I ro ri h
  obtain ⟨p, xs, k, z, rfl, rfl, hq, h0, he, q⟩ := h
  cases ro
  obtain ⟨t, rfl⟩ := ri
  obtain ⟨its, r, pl, hz⟩ := I.list hq
  obtain ⟨j, h1, h2, h3, h4, h5⟩ := atI_get he
  obtain ⟨w, ew, rw'⟩ := r.get h2
  have hj : k.toNat = j := by
    rw [seqIndex_of h0 h5] at h1
    exact Option.some.inj h1
  have hl := r.length
  have hn := line63
  exact wpAny_getItem_list pl.isList h0 (by omega) (by rw [hj]; simpa using ew) ⟨z, H, I, rw', q⟩
theorem op_repA {X : Cx} : OpR X (binaryOp .Mult) (fun x y H Q => ∃ (z : Str) (n : Nat), x = .str z ∧ y = .int (n : Int) ∧ z.length = 1 ∧ n ≤ 1000 ∧ ∀ y, Q (.str y) H) := by
  intro pins s σ H x y v u Q I r1 r2 h
  obtain ⟨z, n, e1, e2, hz, hn, q⟩ := h
  subst e1; subst e2
  obtain ⟨t, rfl⟩ := r1
  obtain ⟨t', rfl⟩ := r2
  refine PySem.P.mul_str ?_ (fun c _ => ?_) (fun _ _ => ?_) ?_
  · rw [decide_eq_false (show ¬ (n : Int) < -(2 ^ 63 : Int) by omega), decide_eq_false (show ¬ (n : Int) ≥ 2 ^ 63 by omega)]
    rfl
  · rw [hz]
    have := (Int.le_ediv_iff_mul_le (show (0 : Int) < n by omega)).mpr (show ((1 : Nat) : Int) * (n : Int) ≤ 2 ^ 63 - 1 by omega)
    omega
  · rw [hz]
    unfold Builtin.Str.tooLong
    refine decide_eq_false ?_
    have e : (n : Int).toNat = n := rfl
    have z := zs (show n ≤ 100000 by omega)
    omega
  · by_cases h0 : n = 0
    · subst h0
      rw [if_pos (by decide)]
      exact ⟨by decide, .str _, H, I.tok _, ⟨_, rfl⟩, q _⟩
    · rw [if_neg (show ¬ (n : Int) < 1 by omega), hz]
      by_cases h1 : n = 1
      · subst h1
        rw [if_pos (by rfl)]
        exact ⟨.str _, H, I, ⟨_, rfl⟩, q _⟩
      · have hb : ((n : Int) == 1 || (1 : Nat) == 0) = false := by
          rw [beq_eq_false_iff_ne.mpr (show (n : Int) ≠ 1 by omega)]
          rfl
        rw [hb, if_neg Bool.false_ne_true]
        refine ⟨?_, .str _, H, I.tok _, ⟨_, rfl⟩, q _⟩
        have f0 := foldl_repN z.cps.toList n []
        rw [List.nil_append] at f0
        have e : (n : Int).toNat = n := rfl
        have e3 : z.cps = z.cps.toList.toArray := rfl
        rw [e]
        have f1 : List.foldl (fun x1 x2 => x1 ++ x2) #[] (List.replicate n z.cps) = ((List.replicate n z.cps.toList).flatten).toArray := f0
        show (List.foldl (fun (x1 x2 : Array Nat) => x1 ++ x2) #[] (List.replicate n z.cps)).size ≤ _
        rw [f1, List.size_toArray]
        have : ∀ m : Nat, ((List.replicate m z.cps.toList).flatten).length = m := fun m => by
          induction m with
          | zero => rfl
          | succ m ih =>
            rw [List.replicate_succ, List.flatten_cons, List.length_append, ih]
            have : z.cps.toList.length = 1 := hz
            omega
        rw [this]
        exact zs (by omega)
end Lp
set_option Elab.async false
set_option linter.all false
set_option maxRecDepth 100000
set_option maxHeartbeats 1000000
namespace Lp
open PySem PySem.Spec PyProof.Rows L2
/-! ### len(x), y in x: by a method of an own class -/
section
variable {X : Cx} {k j : Nat} {C : Addr} {sp : Sp}
theorem inst_of {pins : List (Addr × Obj)} {σ : L2.St} {H : Hp} {s : Shared} {a dx : Addr} {fs : List (Str × V)} (I : Inv X pins σ H s) (e : H a = some (.ins C dx fs)) : ∃ ox od, PySem.W.InstAt s.heap a ox C od := by
  obtain ⟨mA, O, _⟩ := ins_get I.hok e
  obtain ⟨od, J, _⟩ := O.look
  exact ⟨_, _, J⟩
/-- a call of a method's def, wherever the machine stands -/
theorem run_at {A : Around} {pins : List (Addr × Obj)} {σ : L2.St} {H : Hp} {s : Shared} {f : Addr} {fd : FuncData} {ps : List Str} {us : List Value} {vs : List V} {Q : VK} {E1 : Value → Shared → Prop} (F : FnOk X.prog X.w X.K X.mg X.base CX0 k f fd ps sp) (hr : Room k A) (b : Binds X.K fd ps []) (I : Inv X pins σ H s) (en : Env0 X.prog X.w X.K X.mg X.base A X.stack s H)
    (r : Vals vs us) (q : sp vs H Q E0) : wpAny (model X.prog X.w) A (call (.ref f) us) (EP X pins σ Q) E1 s := by
  have hl : us.length = ps.length := by rw [← r.length]; exact F.len _ _ _ _ q
  have bd := b s us I.kIn (by rw [List.append_nil]; exact hl)
  rw [List.append_nil] at bd
  refine wpAny_call (codeAny_mono (F.run A X.stack s H ⟨us, []⟩ us vs Q E0 hr en bd r q) fun r s' hq => ?_)
  cases r with
  | error e => exact hq.elim
  | ok fl =>
    cases fl with
    | ret u => exact I.after hq
    | next => exact False.elim hq
    | brk => exact False.elim hq
    | cont => exact False.elim hq
def rLenO (C : Addr) (sp : Sp) : List V → Hp → VK → Prop := fun xs H Q => ∃ (a dx : Addr) (fs : List (Str × V)), xs = [.ref a] ∧ H a = some (.ins C dx fs) ∧ sp [.ref a] H (fun v H' => ∃ n : Int, v = .int n ∧ 0 ≤ n ∧ n < 2 ^ 63 ∧ Q (.int n) H') E0
theorem call_lenO (c : Met X.prog X.w X.K X.mg X.base k C "__len__" sp) (hr : Room j X.A) (hk : k + 1 ≤ j) : CallR X (.builtin "len") (rLenO C sp) := by
  intro pins s σ H xs us Q I r h
  obtain ⟨a, dx, fs, rfl, ha, q⟩ := h
  obtain ⟨f, fd, ps, hc, hm, F, b⟩ := c.ex
  obtain ⟨u, rfl, ru⟩ := vals1 r
  cases (show u = Value.ref a from ru)
  obtain ⟨ox, od, J⟩ := inst_of I ha
  refine Calls.call_function_entry PySem.kind_len PySem.plain_len PySem.entry_len (PySem.args_len1 _) ?_
  unfold Builtin.«len»
  refine wpAny_bind (m := oneArg "len" _) (wpAny_pure ?_)
  refine wpAny_bind (m := callSpecial? (.ref a) (Str.ofString "__len__")) (PySem.W.special_fn I.kIn J hm.at_ (beq_iff_eq.mp hm.fn) (wpAny_mono (run_at (A := X.A.in1) (vs := [.ref a]) F (hr.mono hk).in1 b I I.env0.in1 (.cons rfl .nil) q) (fun v s' hv => ?_) fun _ _ z => z))
  obtain ⟨v, H', I', rv, n, rfl, h0, h1, hq⟩ := hv
  obtain ⟨t, rfl⟩ := rv
  refine wpAny_bind (wpAny_holding (wpAny_pure ?_))
  refine wpAny_bind (wpAny_letGo ?_)
  show wpAny _ _ (if n < 0 then _ else _) _ _ _
  rw [if_neg (by omega)]
  show wpAny _ _ (if n ≥ 2 ^ 63 then _ else _) _ _ _
  rw [if_neg (by omega)]
  exact wpAny_bind (wpAny_mkInt (wpAny_pure ⟨_, rfl, .int n, H', I'.tok _, ⟨_, rfl⟩, hq⟩))
def tInO (C : Addr) (sp : Sp) (ty td : TE) (neg : Bool) : TE := fun σ H Q => ty σ H fun y H1 => td σ H1 fun x H2 => ∃ (a dx : Addr) (fs : List (Str × V)), x = .ref a ∧ H2 a = some (.ins C dx fs) ∧ sp [.ref a, y] H2 (fun v H' => ∃ b : Bool, v = .bl b ∧ Q (.bl (if neg then !b else b)) H') E0
theorem pc_inO {i o : Expr} {ty td : TE} (c : Met X.prog X.w X.K X.mg X.base k C "__contains__" sp) (hr : Room j X.A) (hk : k ≤ j) (hi : PE X i ty) (ho : PE X o td) : PC X .In i o (tInO C sp ty td false) := by
  obtain ⟨f, fd, ps, hc, hm, F, b⟩ := c.ex
  refine ⟨fun pins s σ H Q I h => ?_⟩
  refine thn (hi.run pins s σ H _ I h) fun iv s1 ⟨y, H1, I1, ry, q1⟩ => thn (ho.run pins s1 σ H1 _ I1 q1) fun u s2 ⟨x, H2, I2, rx, a, dx, fs, ex, ea, q2⟩ => ?_
  subst ex
  cases (show u = Value.ref a from rx)
  obtain ⟨ox, od, J⟩ := inst_of I2 ea
  refine wpAny_bind ?_
  unfold contains
  refine wpAny_holding (wpAny_bind (wpAny_bind (J.type.here ((PySem.W.looks_findIn I2.kIn hm.at_).here ?_))))
  rw [if_neg (by simp)]
  refine wpAny_bind (PySem.W.unlessNone_K I2.kIn J hm.at_ hm.fn (wpAny_mono (run_at (vs := [.ref a, y]) F (hr.mono hk) b I2 I2.env0 (.cons rfl (.cons ry .nil)) q2) (fun v s' hv => ?_) fun _ _ z => z))
  obtain ⟨v, H', I', rv, b', rfl, hq⟩ := hv
  cases rv
  refine wpAny_of_eq (a := b') (by first | rfl | simp [truthy]) ?_
  exact wpAny_pure ⟨.bl b', H', I', rfl, hq⟩
end
end Lp
namespace Lp
open PySem PySem.Spec PyProof.Rows L2
/-! ### a + b of two instances, by __add__ -/
theorem binop_own {prog : Program} {w : World} {A : Around} {E : Value → Shared → Prop} {s : Shared} {K : PySem.W.Frag} {x C f : Addr} {ox : Obj} {od : Option Obj} {op : Operator} {b : Value} {Q : Value → Shared → Prop} (kin : K.In s.heap) (J : PySem.W.InstAt s.heap x ox C od) (tb : PySem.W.Looks (model prog w) s.heap (typeOf b) (.ref C)) (sf : PySem.W.selfFirst K C = true)
    (at_ : PySem.W.findIn K (.ref C) (PySem.dunder op.info.2) = some (some (.ref f))) (isf : PySem.W.isFn K (.ref f) = true) (go : wpAny (model prog w) A (call (.ref f) [.ref x, b]) (fun v s' => v ≠ .notImplemented ∧ Q v s') E s) : wpAny (model prog w) A (binaryOp op (.ref x) b) Q E s := by
  obtain ⟨cd, e1, e2⟩ := PySem.W.any_some sf
  have e3 : ∃ rest, cd.mro = .ref C :: rest := by
    cases hq : cd.mro with
    | nil =>
      rw [hq] at e2
      cases e2
    | cons u r =>
      rw [hq, List.head?_cons] at e2
      cases (beq_iff_eq.mp e2)
      exact ⟨r, rfl⟩
  obtain ⟨rest, e3⟩ := e3
  unfold binaryOp
  refine wpAny_holding (wpAny_bind ?_)
  unfold binaryOp1
  refine wpAny_bind (J.type.here (wpAny_bind (tb.here (wpAny_bind ((PySem.W.fills_K kin e1 e3 at_).here ?_)))))
  simp only [beq_self_eq_true, if_true]
  refine wpAny_bind (wpAny_pure ?_)
  simp only [Bool.and_false, Bool.false_eq_true, if_false, Bool.false_and]
  refine wpAny_bind (wpAny_pure ?_)
  simp only [Bool.false_eq_true, if_false]
  refine wpAny_bind (m := tryMethod (.ref x) _ b) ?_
  unfold tryMethod
  refine wpAny_bind (PySem.W.special_fn kin J at_ (beq_iff_eq.mp isf) (wpAny_mono go (fun v s' hv => ?_) fun _ _ z => z))
  obtain ⟨nv, hv⟩ := hv
  cases v <;> first | exact absurd rfl nv | exact wpAny_pure (wpAny_pure (wpAny_pure hv))
section
variable {X : Cx} {k j : Nat} {C : Addr} {sp : Sp}
theorem relV_ni {v : V} {u : Value} (r : RelV v u) : u ≠ .notImplemented := by
  intro e
  subst e
  cases v <;> first | (obtain ⟨_, h⟩ := r; cases h) | cases r | (exact nomatch r)
def rAddO (C : Addr) (sp : Sp) : R2 := fun x y H Q => ∃ (a b dx dy : Addr) (fs gs : List (Str × V)), x = .ref a ∧ y = .ref b ∧ H a = some (.ins C dx fs) ∧ H b = some (.ins C dy gs) ∧ sp [.ref a, .ref b] H Q E0
theorem op_addO (c : Met X.prog X.w X.K X.mg X.base k C "__add__" sp) (hr : Room j X.A) (hk : k ≤ j) (sf : PySem.W.selfFirst X.K C = true) : OpR X (binaryOp .Add) (rAddO C sp) := by
  intro pins s σ H x y v u Q I rx ry h
  obtain ⟨a, b, dx, dy, fs, gs, rfl, rfl, ha, hb, q⟩ := h
  obtain ⟨f, fd, ps, hc, hm, F, bd⟩ := c.ex
  cases (show v = Value.ref a from rx)
  cases (show u = Value.ref b from ry)
  obtain ⟨ox, od, J⟩ := inst_of I ha
  obtain ⟨ox2, od2, J2⟩ := inst_of I hb
  refine binop_own I.kIn J J2.type sf hm.at_ hm.fn (wpAny_mono (run_at (vs := [.ref a, .ref b]) F (hr.mono hk) bd I I.env0 (.cons rfl (.cons rfl .nil)) q) (fun w s' hw => ?_) fun _ _ z => z)
  exact ⟨by obtain ⟨z, _, _, r, _⟩ := hw; exact relV_ni r, hw⟩
end
end Lp
namespace Lp
open PySem PySem.Spec PyProof.Rows L2
/-! ### a == b of two instances, by __eq__ -/
theorem eq_own {prog : Program} {w : World} {A : Around} {E : Value → Shared → Prop} {s : Shared} {K : PySem.W.Frag} {x C f : Addr} {ox : Obj} {od : Option Obj} {op : CmpOp} {b tb : Value} {Q : Value → Shared → Prop} (hu : A.units < cLine) (kin : K.In s.heap) (J : PySem.W.InstAt s.heap x ox C od) (tyb : PySem.W.Looks (model prog w) s.heap (typeOf b) tb)
    (nf : PySem.W.notFirst K C tb = true) (at_ : PySem.W.findIn K (.ref C) (cmpInfo op).2.1 = some (some (.ref f))) (isf : PySem.W.isFn K (.ref f) = true) (go : wpAny (model prog w) A (call (.ref f) [.ref x, b]) (fun v s' => v ≠ .notImplemented ∧ Q v s') E s) : wpAny (model prog w) A (richCompare op (.ref x) b) Q E s := by
  have mine : wpAny (model prog w) A (tryCompare (.ref x) (cmpInfo op).2.1 b) (fun r s' => ∃ v, r = some v ∧ Q v s') E s := by
    unfold tryCompare
    refine wpAny_bind (PySem.W.ifBound_K kin J at_ isf (wpAny_mono go (fun v s' hv => ?_) fun _ _ z => z))
    obtain ⟨nv, hv⟩ := hv
    cases v <;> first | exact absurd rfl nv | exact wpAny_pure ⟨_, rfl, hv⟩
  have last : ∀ {g : Option Value → Sem Value}, (∀ v, g (some v) = pure v) → wpAny (model prog w) A (tryCompare (.ref x) (cmpInfo op).2.1 b >>= g) Q E s := fun {g} hg => wpAny_bind (wpAny_mono mine (fun r s' ⟨v, er, hq⟩ => by rw [er, hg]; exact wpAny_pure hq) fun _ _ z => z)
  unfold richCompare
  simp only [oneThing_ref]
  refine wpAny_holding (wpAny_bind (wpAny_cRoomFor hu ?_))
  refine wpAny_bind (J.type.here (wpAny_bind (tyb.here ?_)))
  split
  · rename_i q
    have sb : PySem.W.subIn K tb (.ref C) = some false := by
      rcases Bool.or_eq_true_iff.mp nf with z | z
      · rw [beq_iff_eq.mp z] at q
        simp at q
      · exact beq_iff_eq.mp z
    refine wpAny_bind ((PySem.W.looks_subIn kin sb).here ?_)
    simp only [Bool.false_eq_true, if_false]
    exact last fun v => rfl
  · refine wpAny_bind (wpAny_pure ?_)
    simp only [Bool.false_eq_true, if_false]
    exact last fun v => rfl
section
variable {X : Cx} {k j : Nat} {C : Addr} {sp : Sp}
theorem op_eqO (c : Met X.prog X.w X.K X.mg X.base k C "__eq__" sp) (hr : Room j X.A) (hk : k ≤ j) (nf : PySem.W.notFirst X.K C (.ref C) = true) : OpR X (compareOp .Eq) (rAddO C sp) := by
  intro pins s σ H x y v u Q I rx ry h
  obtain ⟨a, b, dx, dy, fs, gs, rfl, rfl, ha, hb, q⟩ := h
  obtain ⟨f, fd, ps, hc, hm, F, bd⟩ := c.ex
  cases (show v = Value.ref a from rx)
  cases (show u = Value.ref b from ry)
  obtain ⟨ox, od, J⟩ := inst_of I ha
  obtain ⟨ox2, od2, J2⟩ := inst_of I hb
  have hu : X.A.units < cLine := by have := hr.units; omega
  show wpAny _ X.A (richCompare .Eq _ _) _ _ s
  refine eq_own (op := .Eq) hu I.kIn J J2.type nf hm.at_ hm.fn (wpAny_mono (run_at (vs := [.ref a, .ref b]) F (hr.mono hk) bd I I.env0 (.cons rfl (.cons rfl .nil)) q) (fun w s' hw => ?_) fun _ _ z => z)
  exact ⟨by obtain ⟨z, _, _, r, _⟩ := hw; exact relV_ni r, hw⟩
end
end Lp
set_option Elab.async false
set_option linter.all false
set_option maxRecDepth 100000
set_option maxHeartbeats 1000000
namespace Lp
open PySem PySem.Spec PyProof.Rows L2
/-! ### x(e, ..) of an instance, by __call__ -/
theorem inst_plain {X : Cx} {C : Addr} {pins : List (Addr × Obj)} {σ : L2.St} {H : Hp} {s : Shared} {a dx : Addr} {fs : List (Str × V)} (I : Inv X pins σ H s) (e : H a = some (.ins C dx fs)) : ∃ ox od, PySem.W.InstAt s.heap a ox C od ∧ ox.data = .plain := by
  obtain ⟨mA, O, _⟩ := ins_get I.hok e
  obtain ⟨od, J, _⟩ := O.look
  exact ⟨_, _, J, rfl⟩
theorem callWith_obj {M : Model} {A : Around} {E : Value → Shared → Prop} {s : Shared} {pos : Pos} {x : Addr} {first : List Value} {Q : Value → Shared → Prop} {args : List (Bool × Sem Value)} {kws : List (Option Str × Sem Value)} (hp : (args.any (·.1) || kws.any (·.1.isNone)) = false)
    (h : wpAny M A (evalArgs (.ref x) true args kws) (fun a s₁ => (∃ C ox od, PySem.W.InstAt s₁.heap x ox C od ∧ ox.data = .plain) ∧ wpAny M A (call (.ref x) (first ++ a.pos) a.kw) Q E s₁) E s) : wpAny M A (callWith pos (.ref x) first args kws) Q E s := by
  unfold callWith
  refine wpAny_bind (wpAny_holding (wpAny_mono h (fun a s₁ ⟨⟨C, ox, od, J, hd⟩, hq⟩ => wpAny_bind (wpAny_standAt ?_)) fun _ _ z => z))
  have kl := PySem.W.kco_keeper (M := M) J hd
  simp only [hp]
  refine wpAny_bind (kl.here ?_)
  have tl : ∀ {t : Sem Value}, wpAny M A t Q E s₁ → wpAny M A (t >>= fun r => holding [r] point >>= fun _ => pure r) Q E s₁ :=
    fun ht => wpAny_bind (wpAny_mono ht (fun r s₂ hr => wpAny_bind (wpAny_holding (wpAny_point (wpAny_pure hr)))) fun _ _ z => z)
  exact tl (wpAny_operateT hq)
section
variable {X : Cx} {k j i : Nat} {C : Addr} {sp : Sp} {x : Str} {p pos : Pos} {e : Expr} {es : List Expr} {t : TA}
def tCallO (i : Nat) (C : Addr) (sp : Sp) (t : TA) : TE := fun σ H Q => ∃ a : Addr, σ[i]? = some (some (.ref a)) ∧ t σ H fun vs H1 => ∃ (dx : Addr) (fs : List (Str × V)), H1 a = some (.ins C dx fs) ∧ sp (.ref a :: vs) H1 Q E0
theorem pe_callO (c : Met X.prog X.w X.K X.mg X.base k C "__call__" sp) (fi : ∀ f, PySem.W.findIn X.K (.ref C) "__call__" = some (some (.ref f)) → PySem.W.fnIn X.K f = true) (hr : Room j X.A) (hk : k ≤ j) (hN : X.N[i]? = some x) (hv : Vis X.env.scope x) (ha : PA X (e :: es) t)
    (hdb : (x == ("__debug__" : Str)) = false := by decide) (hcd : (x == ("__classdict__" : Str)) = false := by decide)
    (he : starEach (e :: es) X.env = (false, eval e X.env) :: starEach es X.env := by rfl) (hpl : (backTo pos (starEach es X.env)).any (·.1) = false := by rfl) : PE X (.Call (.Name x p) (e :: es) [] pos) (tCallO i C sp t) := by
  obtain ⟨f, fd, ps, hc, hm, F, b⟩ := c.ex
  refine ⟨fun pins s σ H Q I h => ?_⟩
  obtain ⟨a, hs, ht⟩ := h
  refine wpAny_Call_Name_kw (thn ((pe_var (pos := p) hN hv hdb hcd).run pins s σ H (fun v H1 => v = .ref a ∧ H1 = H) I ⟨.ref a, hs, rfl, rfl⟩) fun u s1 ⟨v, H1, I1, r1, q1⟩ => ?_)
  obtain ⟨rfl, rfl⟩ := q1
  cases r1
  have go := ha.run pos pins s1 σ _ _ I1 ht
  rw [he] at go ⊢
  refine callWith_obj (by show ((false || (backTo pos (starEach es X.env)).any (·.1)) || false) = false; rw [hpl]; rfl) (Calls.evalArgs_plain ?_)
  refine thn go fun us s2 ⟨vs, H2, I2, r, dx, fs, ea, q⟩ => ?_
  obtain ⟨ox, od, J, hd⟩ := inst_plain I2 ea
  refine ⟨⟨C, ox, od, J, hd⟩, ?_⟩
  have rr : Vals (.ref a :: vs) (.ref a :: us) := .cons rfl r
  have hl : (Value.ref a :: us).length = ps.length := by rw [← rr.length]; exact F.len _ _ _ _ q
  have bd := b s2 (.ref a :: us) I2.kIn (by rw [List.append_nil]; exact hl)
  rw [List.append_nil] at bd
  refine wpAny_call (PySem.W.kco_code I2.kIn J hd hm.at_ hm.fn (fi f hm.at_) (codeAny_mono (F.run X.A X.stack s2 H2 ⟨.ref a :: us, []⟩ (.ref a :: us) (.ref a :: vs) Q E0 (hr.mono hk) I2.env0 bd rr q) fun r s' hq => ?_))
  cases r with
  | error e => exact hq.elim
  | ok fl =>
    cases fl with
    | ret u => exact I2.after hq
    | next => exact False.elim hq
    | brk => exact False.elim hq
    | cont => exact False.elim hq
end
end Lp
set_option Elab.async false
set_option linter.all false
set_option maxRecDepth 100000
set_option maxHeartbeats 1000000
namespace Lp
open PySem PySem.Spec PyProof.Rows L2
/-! ### sorted(d) of a dict with int keys, any number of them -/
def rSortedDIO : List V → Hp → VK → Prop := fun xs H Q => ∃ (a : Addr) (kvs : List (Key × V)) (ks : List Int), xs = [.ref a] ∧ Rd H a (.dK kvs) ∧ kvs.map (·.1) = ks.map Sum.inl ∧
  ∀ (ys : List Int) (p : Addr), ys.Perm ks → ys.Pairwise (· ≤ ·) → H p = none → Q (.ref p) (upd H p (.lst (ys.map V.int)))
theorem call_sortedDIO {X : Cx} (hcalm : X.calm = true) : CallR X (.builtin "sorted") rSortedDIO := by
  intro pins s σ H xs us Q I r q
  obtain ⟨a, kvs, ks, ex, hd, hks, q⟩ := q
  subst ex
  obtain ⟨u, eu, rx⟩ := vals1 r
  subst eu
  cases rx
  obtain ⟨z, lo, vs, rel, dd⟩ := dk_rd I.hok hd
  obtain ⟨ep, hat⟩ := dd.dictAt
  have hkeys : vs.map (·.1) = ks.map Sum.inl := rel.keys.symm.trans hks
  have hl : vs.length = ks.length := by
    have e := congrArg List.length hkeys
    rw [List.length_map, List.length_map] at e
    exact e
  have hl2 : kvs.length = ks.length := by
    have e := congrArg List.length hks
    rw [List.length_map, List.length_map] at e
    exact e
  have h16 : vs.length ≤ sizeLine := by rw [hl, ← hl2]; exact z
  refine Calls.call_function_entry PyProof.Rows.kind_sorted PyProof.Rows.plain_sorted PyProof.Rows.entry_sorted (PyProof.Rows.args_sorted1 _) ?_
  unfold Builtin.«sorted»
  refine wpAny_bind (m := checkCount "sorted" 1 1 _) (wpAny_pure ?_)
  refine wpAny_bind (PySem.W.kdu_collect (A := X.A.in1) (PySem.W.kdl_dict (knd := mixKind X.prog X.w) (kvs := vs) (ep := ep) lo) (I.ok.hd hcalm) hat h16 fun h' tk acc hk hacc => ?_)
  have hal : acc.toList.length = ks.length := by rw [Array.length_toList, hacc.1, hl]
  have hS : IntsAre acc.toList ks := ints_each hal fun j v e => by
    obtain ⟨k, x, e1, e2⟩ := hacc.2 j v (by rw [← Array.getElem?_toList]; exact e)
    have e3 : (vs.map (·.1))[j]? = some k := by rw [List.getElem?_map, e1]; rfl
    rw [hkeys, List.getElem?_map] at e3
    cases e4 : ks[j]? with
    | none => rw [e4] at e3; cases e3
    | some y =>
      rw [e4] at e3
      have e5 : Sum.inl y = k := Option.some.inj e3
      subst e5
      rcases keyIs_shape (show keyIs (Sum.inl y) v = true from e2) with ⟨i, t, ek, ev⟩ | ⟨z, t, ek, ev⟩
      · cases ek
        exact ⟨y, t, rfl, ev⟩
      · cases ek
  have I1 : Inv X pins σ H { s with heap := h', toks := tk } := I.kept hk
  have hz2 : acc.toList.length ≤ sizeLine := by rw [hal, ← hl2]; exact z
  refine wpAny_bind (wpAny_newList ?_ hz2)
  have hoL : (h'.push (seqObj "list" acc.toList.toArray 0)).get? h'.objs.size = some (seqObj "list" acc.toList.toArray 0) := Heap.get?_push_size _ rfl
  show wpAny _ _ _ _ _ { s with heap := h'.push (seqObj "list" acc.toList.toArray 0), toks := tk }
  refine wpAny_bind (wpAny_holding (wpAny_call_entry PyProof.Rows.slot_list_sort ⟨_, hoL, rfl⟩ PyProof.Rows.entry_list_sort
    (SrtO.list_sort_ord (s := { s with heap := h'.push (seqObj "list" acc.toList.toArray 0), toks := tk }) SrtO.swo_int hoL hz2 (fun h2 => SrtO.ints_sortable hS h2) fun out g1 g2 => ⟨_, rfl, ?_⟩) (PyProof.Rows.args_list_sort _)))
  obtain ⟨k1, k2, k3⟩ := SrtO.ints_out hS g1 g2
  obtain ⟨e', he'⟩ := PyProof.Rows.sortedHeap_at (vs := acc.toList) (out := out.toArray) hoL
  have hlen : ((out.map SrtO.iv).map V.int).length ≤ sizeLine := by
    rw [List.length_map, k2.length_eq, ← hl2]
    exact z
  refine wpAny_pure ⟨_, rfl, .ref h'.objs.size, upd H h'.objs.size (.lst ((out.map SrtO.iv).map V.int)), I1.laid (t' := tk) (fun b u e => ?_) (Nat.le_refl _)
    (show ObjOk X.prog X.w _ _ _ (.lst ((out.map SrtO.iv).map V.int)) from ⟨hlen, out, e', vals_of_ints k1, he'⟩), rfl, q _ _ k2 k3 (I1.hok.fresh (Nat.le_refl _))⟩
  have hb : b < h'.objs.size := Heap.lt_size e
  rw [PyProof.Rows.sortedHeap_old (Nat.ne_of_lt hb) (by rw [size_push']; exact Nat.lt_succ_of_lt hb)]
  exact Heap.get?_push_of_some _ e
end Lp
set_option Elab.async false
set_option linter.all false
set_option maxRecDepth 100000
set_option maxHeartbeats 1000000
namespace Lp
open PySem PySem.Spec PyProof.Rows L2 L2.DX
/-! ### d.items() and sorted(d.items()) of a dict of ints by ints, any number of them -/
def rItemsI : V → List V → Hp → VK → Prop := fun x xs H Q => ∃ (a : Addr) (kvs : List (Key × V)), x = .ref a ∧ xs = [] ∧ H a = some (.dK kvs) ∧ ∀ p, H p = none → Q (.ref p) (upd H p (itemsO p a))
theorem mt_itemsI {X : Cx} : MtR X "dict.items" rItemsI := by
  intro pins s σ H x xs v us Q I rx rxs h
  obtain ⟨a, kvs, rfl, rfl, ha, q⟩ := h
  cases rx
  cases rxs
  obtain ⟨z, hd, vs, rel, dd⟩ := dk_of I.hok ha
  obtain ⟨o, es, ep, ho, hx, hdat, _⟩ := dd
  refine DT.callItems (es := es) (ep := ep) hd ⟨o, ho, hx, hdat⟩ ?_
  have hf : H s.heap.objs.size = none := I.hok.fresh (Nat.le_refl _)
  exact ⟨.ref s.heap.objs.size, upd H s.heap.objs.size (itemsO s.heap.objs.size a), I.laid (t' := s.toks) (fun b u e => Heap.get?_push_of_some _ e) (Nat.le_refl _) (itemsO_ok (Heap.get?_push_size _ rfl)), rfl, q _ hf⟩
abbrev entI (e : Int × Int) : Key × V := (Sum.inl e.1, V.int e.2)
def rSortItI : List V → Hp → VK → Prop := fun vs H Q => ∃ (p a : Addr) (ks : List (Int × Int)), vs = [.ref p] ∧ H p = some (itemsO p a) ∧ H a = some (.dK (ks.map entI)) ∧
  ∀ (H' : Hp) (l : Addr) (ps : List (Addr × Int × Int)), (∀ b o, H b = some o → H' b = some o) → (ps.map (·.2)).Perm ks → (ps.map (·.2)).Pairwise (fun e f => e.1 ≤ f.1) → H' l = some (.lst (ps.map fun z => V.ref z.1)) →
    (∀ z ∈ ps, H' z.1 = some (.tup [.int z.2.1, .int z.2.2])) → H l = none → (∀ z ∈ ps, H z.1 = none) → Q (.ref l) H'
def pairOf (as : List Addr) (ks : List (Int × Int)) : Value → Int × Int
  | .ref b => (ks[as.idxOf b]?).getD (0, 0)
  | _ => (0, 0)
theorem pairOf_at {as : List Addr} {ks : List (Int × Int)} (nd : as.Nodup) {j : Nat} {b : Addr} {e : Int × Int} (hj : as[j]? = some b) (he : ks[j]? = some e) : pairOf as ks (.ref b) = e := by
  obtain ⟨hl, hb⟩ := List.getElem?_eq_some_iff.mp hj
  have hi : as.idxOf b = j := by
    subst hb
    exact nd.idxOf_getElem j hl
  show (ks[as.idxOf b]?).getD (0, 0) = e
  rw [hi, he]
  rfl
theorem pairOf_all {as : List Addr} {ks : List (Int × Int)} (nd : as.Nodup) (hl : as.length = ks.length) : as.map (fun b => pairOf as ks (.ref b)) = ks := by
  refine List.ext_getElem? fun j => ?_
  rw [List.getElem?_map]
  cases hj : as[j]? with
  | none =>
    have h1 := List.getElem?_eq_none_iff.mp hj
    exact (List.getElem?_eq_none (by omega)).symm
  | some b =>
    obtain ⟨h1, _⟩ := List.getElem?_eq_some_iff.mp hj
    have he : ks[j]? = some (ks[j]'(by omega)) := List.getElem?_eq_getElem (by omega)
    rw [he]
    exact congrArg some (pairOf_at nd hj he)
def adOf : Value → Addr
  | .ref b => b
  | _ => 0
theorem adOf_ref : ∀ {out : List Value}, (∀ v ∈ out, ∃ b, v = Value.ref b) → out = (out.map adOf).map Value.ref
  | [], _ => rfl
  | v :: out, h => by
    obtain ⟨b, rfl⟩ := h v List.mem_cons_self
    show Value.ref b :: out = Value.ref b :: (out.map adOf).map Value.ref
    rw [← adOf_ref fun u hu => h u (List.mem_cons_of_mem _ hu)]
theorem adOf_map (as : List Addr) : (as.map Value.ref).map adOf = as := by
  rw [List.map_map]
  exact List.map_id as
theorem cr_sortedItemsI {X : Cx} (hc : X.calm = true) : CallR X (.builtin "sorted") rSortItI := by
  intro pins s σ H xs us Q I r h
  obtain ⟨p, a, ks, rfl, hp, ha, q⟩ := h
  obtain rfl := Vals.ref1 r
  have view : s.heap.IsItemsView p a := (show ObjOk X.prog X.w H s.heap p (itemsO p a) from I.hok p _ hp).1
  obtain ⟨z, hd, vs, rel, o, es, ep, ho, hx, hdat, hes, hprs, hn⟩ := dk_of I.hok ha
  have l1 : (ks.map entI).length = vs.length := rel.length
  have l0 : (ks.map entI).length = ks.length := List.length_map ..
  have l2 : es.size = vs.length := by rw [← hprs.length]; simp
  have hh : X.A.handled = none := I.ok.hd hc
  refine DT.sortedI (es := es) (ep := ep) hh view ⟨o, ho, hx, hdat⟩ (by omega) fun h' tk as hk hlt hl hG => ?_
  have lak : as.length = ks.length := by omega
  have nd : as.Nodup := List.Pairwise.imp (fun h => Nat.ne_of_lt h) hG.rise
  -- the pairs that were made
  have pr : ∀ (j : Nat) (b : Addr), as[j]? = some b → ∃ (e : Int × Int) (t1 t2 : Tok), ks[j]? = some e ∧ h'.get? b = some { cls := .type "tuple", data := .seq #[Value.int e.1 t1, Value.int e.2 t2] } := by
    intro j b hj
    obtain ⟨en, he, hg⟩ := hG.pairs j b hj
    obtain ⟨hjl, _⟩ := List.getElem?_eq_some_iff.mp hj
    have hkj : ks[j]? = some (ks[j]'(by omega)) := List.getElem?_eq_getElem (by omega)
    have hvj : vs[j]? = some (vs[j]'(by omega)) := List.getElem?_eq_getElem (by omega)
    obtain ⟨e1, e2⟩ := hprs.get? (e := en) (by rw [Array.getElem?_toList]; exact he) (show vs[j]? = some ((vs[j]'(by omega)).1, (vs[j]'(by omega)).2) from hvj)
    obtain ⟨x, hx1, hx2⟩ := KV.at' rel (show vs[j]? = some ((vs[j]'(by omega)).1, (vs[j]'(by omega)).2) from hvj)
    rw [List.getElem?_map, hkj] at hx1
    have e3 := Option.some.inj hx1
    have e4 : Sum.inl (ks[j]'(by omega)).1 = (vs[j]'(by omega)).1 := congrArg Prod.fst e3
    have e5 : V.int (ks[j]'(by omega)).2 = x := congrArg Prod.snd e3
    subst e5
    obtain ⟨t2, e6⟩ := hx2
    rw [← e4] at e1
    rcases keyIs_shape (show keyIs (Sum.inl (ks[j]'(by omega)).1) en.key = true from e1) with ⟨i, t, ek, ev⟩ | ⟨z, t, ek, ev⟩
    · cases ek
      refine ⟨_, t, t2, hkj, ?_⟩
      rw [hg, ev, e2, e6]
    · cases ek
  have hob : (h'.push { cls := .type "list", data := .seq (as.map Value.ref).toArray }).get? h'.objs.size = some (seqObj "list" (as.map Value.ref).toArray 0) := Heap.get?_push_size _ rfl
  have kb : ∀ b o, s.heap.get? b = some o → (h'.push { cls := .type "list", data := .seq (as.map Value.ref).toArray }).get? b = some o := fun b o e => Heap.get?_push_of_some _ (hk b o e)
  have ne0 : ∀ b o, h'.get? b = some o → b ≠ h'.objs.size := fun b o e => Nat.ne_of_lt (Heap.lt_size e)
  generalize hh2 : h'.push { cls := .type "list", data := .seq (as.map Value.ref).toArray } = h2 at hob kb ⊢
  have ka : ∀ b o, h'.get? b = some o → h2.get? b = some o := fun b o e => by rw [← hh2]; exact Heap.get?_push_of_some _ e
  have at_ : ∀ v ∈ as.map Value.ref, ∃ (j : Nat) (b : Addr), v = .ref b ∧ as[j]? = some b := by
    intro v hv'
    obtain ⟨b, hb, rfl⟩ := List.mem_map.mp hv'
    obtain ⟨j, hj⟩ := List.mem_iff_getElem?.mp hb
    exact ⟨j, b, rfl, hj⟩
  have isp : ∀ v ∈ as.map Value.ref, Srt.IsPair h2 v (pairOf as ks v).1 (pairOf as ks v).2 := by
    intro v hv'
    obtain ⟨j, b, rfl, hj⟩ := at_ v hv'
    obtain ⟨e, t1, t2, he, hg⟩ := pr j b hj
    rw [pairOf_at nd hj he]
    exact ⟨b, _, t1, t2, _, rfl, ka _ _ hg, rfl, rfl⟩
  have hz2 : (as.map Value.ref).length ≤ sizeLine := by rw [List.length_map]; omega
  refine wpAny_call_entry PyProof.Rows.slot_list_sort ⟨_, hob, rfl⟩ PyProof.Rows.entry_list_sort
    (SrtO.list_sort_ord (s := { s with heap := h2, toks := tk }) (SrtO.swo_lex (pairOf as ks)) hob hz2 (fun h2' => SrtO.pairs_sortableO (s := { s with heap := h2, toks := tk }) (by omega) isp fun o e => ?_) fun out o1 o2 => ⟨.none, rfl, ?_⟩) (PyProof.Rows.args_list_sort _)
  · have e' : some o = some (seqObj "list" (as.map Value.ref).toArray 0) := e.symm.trans hob
    cases e'
    intro c
    exact absurd (Value.type.inj c) (by decide)
  · show EP X pins σ Q (.ref h'.objs.size) { s with heap := sortedHeap h2 h'.objs.size (as.map Value.ref) out.toArray, toks := tk }
    have rfs : ∀ v ∈ out, ∃ b, v = Value.ref b := fun v hv => by
      obtain ⟨_, b, e, _⟩ := at_ v (o2.perm.mem_iff.mp hv)
      exact ⟨b, e⟩
    have eo := adOf_ref rfs
    have pz : (out.map adOf).Perm as := by
      have e := o2.perm.map adOf
      rw [adOf_map] at e
      exact e
    generalize hzs : out.map adOf = zs at eo pz
    have hall := pairOf_all nd lak
    have hperm : (zs.map fun b => pairOf as ks (.ref b)).Perm ks := by
      have e := pz.map fun b => pairOf as ks (.ref b)
      rw [hall] at e
      exact e
    have hsort : (zs.map fun b => pairOf as ks (.ref b)).Pairwise (fun e f => e.1 ≤ f.1) := by
      rw [eo] at o1
      have o3 := List.pairwise_map.mp (show ((zs.map Value.ref).Pairwise fun x y => SrtO.lexB (pairOf as ks y) (pairOf as ks x) = false) from o1)
      refine List.pairwise_map.mpr (o3.imp fun {x y} h => ?_)
      have h' := SrtO.lexB_no.mp h
      omega
    -- behind the sort
    have kF : ∀ b o, b ≠ h'.objs.size → h2.get? b = some o → (sortedHeap h2 h'.objs.size (as.map Value.ref) out.toArray).get? b = some o := fun b o hb e => (PyProof.Rows.sortedHeap_old hb (Heap.lt_size e)).trans e
    have kS : ∀ b o, s.heap.get? b = some o → (sortedHeap h2 h'.objs.size (as.map Value.ref) out.toArray).get? b = some o := fun b o e => kF b o (ne0 _ _ (hk b o e)) (kb b o e)
    obtain ⟨eF, heF⟩ := PyProof.Rows.sortedHeap_at (vs := as.map Value.ref) (out := out.toArray) hob
    have I1 : Inv X pins σ H { s with heap := sortedHeap h2 h'.objs.size (as.map Value.ref) out.toArray, toks := tk } := I.kept (t' := tk) kS
    have hn0 : H h'.objs.size = none := I.hok.fresh (Nat.le_of_lt hlt)
    have hlen : (zs.map fun z => V.ref z).length ≤ sizeLine := by
      have e := hperm.length_eq
      rw [List.length_map] at e
      rw [List.length_map]
      omega
    have rv : Vals (zs.map fun z => V.ref z) out := by
      rw [eo]
      exact vals_maps (fun z : Addr => V.ref z) (fun z => Value.ref z) zs fun _ _ => rfl
    have I2 : Inv X pins σ (upd H h'.objs.size (.lst (zs.map fun z => V.ref z))) { s with heap := sortedHeap h2 h'.objs.size (as.map Value.ref) out.toArray, toks := tk } :=
      I1.take (h' := sortedHeap h2 h'.objs.size (as.map Value.ref) out.toArray) (t' := tk) (fun b ob _ e => e) (I.fpOk (Nat.le_of_lt hlt) hn0) ⟨hlen, out, eF, rv, heF⟩
    obtain ⟨H2, I3, g, qt⟩ := takeT (P := fun b vs => vs = [V.int (pairOf as ks (.ref b)).1, V.int (pairOf as ks (.ref b)).2]) I as _ I2 nd fun b hb => by
      obtain ⟨j, hj⟩ := List.mem_iff_getElem?.mp hb
      obtain ⟨e, t1, t2, he, hg⟩ := pr j b hj
      have hbl : s.heap.objs.size ≤ b := Nat.le_of_lt (hG.above b hb)
      refine ⟨hbl, ?_, _, rfl, fun H3 => ⟨(by rw [sizeLine_eq]; show 2 ≤ 16777216; omega), [Value.int e.1 t1, Value.int e.2 t2], ?_, ⟨_, kF _ _ (ne0 _ _ hg) (ka _ _ hg), rfl, 0, rfl⟩⟩⟩
      · rw [upd_ne (ne0 _ _ hg)]
        exact I.hok.fresh hbl
      · rw [pairOf_at nd hj he]
        exact .cons ⟨t1, rfl⟩ (.cons ⟨t2, rfl⟩ .nil)
    have gr : ∀ b o, H b = some o → H2 b = some o := fun b o e => g b o (by rw [upd_ne (ne_of_none e hn0)]; exact e)
    have em : (zs.map fun b => (b, pairOf as ks (.ref b))).map (·.2) = zs.map fun b => pairOf as ks (.ref b) := by
      rw [List.map_map]
      all_goals rfl
    have em1 : ((zs.map fun b => (b, pairOf as ks (.ref b))).map fun z => V.ref z.1) = zs.map fun z => V.ref z := by
      rw [List.map_map]
      all_goals rfl
    refine ⟨.ref h'.objs.size, H2, I3, rfl, q H2 h'.objs.size (zs.map fun b => (b, pairOf as ks (.ref b))) gr (by rw [em]; exact hperm) (by rw [em]; exact hsort) (by rw [em1]; exact g _ _ upd_same) (fun z' hz' => ?_) hn0 fun z' hz' => ?_⟩
    · obtain ⟨b, hb, rfl⟩ := List.mem_map.mp hz'
      obtain ⟨vs', ev, hH⟩ := qt b (pz.mem_iff.mp hb)
      rw [ev] at hH
      exact hH
    · obtain ⟨b, hb, rfl⟩ := List.mem_map.mp hz'
      exact I.hok.fresh (Nat.le_of_lt (hG.above b (pz.mem_iff.mp hb)))
end Lp
set_option Elab.async false
set_option linter.all false
set_option maxRecDepth 100000
set_option maxHeartbeats 1000000
namespace Lp
open PySem PySem.Spec PyProof.Rows L2
/-! ### y not in x: by __contains__ of an own class -/
section
variable {X : Cx} {k j : Nat} {C : Addr} {sp : Sp}
theorem pc_notinO {i o : Expr} {ty td : TE} (c : Met X.prog X.w X.K X.mg X.base k C "__contains__" sp) (hr : Room j X.A) (hk : k ≤ j) (hi : PE X i ty) (ho : PE X o td) : PC X .NotIn i o (tInO C sp ty td true) := by
  obtain ⟨f, fd, ps, hc, hm, F, b⟩ := c.ex
  refine ⟨fun pins s σ H Q I h => ?_⟩
  refine thn (hi.run pins s σ H _ I h) fun iv s1 ⟨y, H1, I1, ry, q1⟩ => thn (ho.run pins s1 σ H1 _ I1 q1) fun u s2 ⟨x, H2, I2, rx, a, dx, fs, ex, ea, q2⟩ => ?_
  subst ex
  cases (show u = Value.ref a from rx)
  obtain ⟨ox, od, J⟩ := inst_of I2 ea
  refine wpAny_bind ?_
  unfold contains
  refine wpAny_holding (wpAny_bind (wpAny_bind (J.type.here ((PySem.W.looks_findIn I2.kIn hm.at_).here ?_))))
  rw [if_neg (by simp)]
  refine wpAny_bind (PySem.W.unlessNone_K I2.kIn J hm.at_ hm.fn (wpAny_mono (run_at (vs := [.ref a, y]) F (hr.mono hk) b I2 I2.env0 (.cons rfl (.cons ry .nil)) q2) (fun v s' hv => ?_) fun _ _ z => z))
  obtain ⟨v, H', I', rv, b', rfl, hq⟩ := hv
  cases rv
  refine wpAny_of_eq (a := b') (by first | rfl | simp [truthy]) ?_
  exact wpAny_pure ⟨.bl (!b'), H', I', rfl, hq⟩
end
end Lp
set_option Elab.async false
set_option linter.all false
set_option maxRecDepth 100000
set_option maxHeartbeats 1000000
namespace Lp
open PySem PySem.Spec PyProof.Rows L2 L2.DX
/-! ### x(e, ..) and x(k = e) of an instance, by __call__; x any expression -/
structure MetK (P : Program) (w : World) (K : PySem.W.Frag) (mg : Str → Option Value) (base : Heap) (k : Nat) (C : Addr) (m : Str) (n : Nat) (ks : List Str) (gV : List V → List V → List V) (sp : Sp) : Prop where
  ex : ∃ (f : Addr) (fd : FuncData) (ps : List Str) (g : List Value → List Value → List Value), Cls K C ∧ Meth K C m f ∧ FnOk P w K mg base CX0 k f fd ps sp ∧ KBn K fd ps n ks g gV
section
variable {X : Cx} {k j : Nat} {C : Addr} {sp : Sp} {p pos : Pos} {fe e : Expr} {es : List Expr} {t tk' : TA} {tf : TE} {kws : List Keyword} {ks : List Str} {gV : List V → List V → List V}
def tCallE (C : Addr) (sp : Sp) (tf : TE) (t : TA) : TE := fun σ H Q => tf σ H fun x H1 => ∃ a : Addr, x = .ref a ∧ t σ H1 fun vs H2 => ∃ (dx : Addr) (fs : List (Str × V)), H2 a = some (.ins C dx fs) ∧ sp (.ref a :: vs) H2 Q E0
theorem pe_callE (c : Met X.prog X.w X.K X.mg X.base k C "__call__" sp) (fi : ∀ f, PySem.W.findIn X.K (.ref C) "__call__" = some (some (.ref f)) → PySem.W.fnIn X.K f = true) (hr : Room j X.A) (hk : k ≤ j) (hf : PE X fe tf) (ha : PA X (e :: es) t)
    (hc : eval (.Call fe (e :: es) [] pos) X.env = (do callWith pos (← eval fe X.env) [] (backTo pos (starEach (e :: es) X.env)) (backToKw pos (keywordEach [] X.env))) := by rfl)
    (he : starEach (e :: es) X.env = (false, eval e X.env) :: starEach es X.env := by rfl) (hpl : (backTo pos (starEach es X.env)).any (·.1) = false := by rfl) : PE X (.Call fe (e :: es) [] pos) (tCallE C sp tf t) := by
  obtain ⟨f, fd, ps, hc', hm, F, b⟩ := c.ex
  refine ⟨fun pins s σ H Q I h => ?_⟩
  refine Call_ (thn (hf.run pins s σ H _ I h) fun u s1 ⟨v, H1, I1, r1, a, ev, ht⟩ => ?_) hc
  subst ev
  cases (show u = Value.ref a from r1)
  have go := ha.run pos pins s1 σ _ _ I1 ht
  rw [he] at go ⊢
  refine callWith_obj (by show ((false || (backTo pos (starEach es X.env)).any (·.1)) || false) = false; rw [hpl]; rfl) (Calls.evalArgs_plain ?_)
  refine thn go fun us s2 ⟨vs, H2, I2, r, dx, fs, ea, q⟩ => ?_
  obtain ⟨ox, od, J, hd⟩ := inst_plain I2 ea
  refine ⟨⟨C, ox, od, J, hd⟩, ?_⟩
  have rr : Vals (.ref a :: vs) (.ref a :: us) := .cons rfl r
  have hl : (Value.ref a :: us).length = ps.length := by rw [← rr.length]; exact F.len _ _ _ _ q
  have bd := b s2 (.ref a :: us) I2.kIn (by rw [List.append_nil]; exact hl)
  rw [List.append_nil] at bd
  refine wpAny_call (PySem.W.kco_code I2.kIn J hd hm.at_ hm.fn (fi f hm.at_) (codeAny_mono (F.run X.A X.stack s2 H2 ⟨.ref a :: us, []⟩ (.ref a :: us) (.ref a :: vs) Q E0 (hr.mono hk) I2.env0 bd rr q) fun r s' hq => ?_))
  cases r with
  | error e => exact hq.elim
  | ok fl =>
    cases fl with
    | ret u => exact I2.after hq
    | next => exact False.elim hq
    | brk => exact False.elim hq
    | cont => exact False.elim hq
def tCallEK (C : Addr) (m : Nat) (sp : Sp) (gV : List V → List V → List V) (tf : TE) (t : TA) : TE := fun σ H Q => tf σ H fun x H1 => ∃ a : Addr, x = .ref a ∧ t σ H1 fun zs H2 => ∃ (dx : Addr) (fs : List (Str × V)), zs.length = m ∧ H2 a = some (.ins C dx fs) ∧ sp (gV [.ref a] zs) H2 Q E0
theorem pe_callEK (c : MetK X.prog X.w X.K X.mg X.base k C "__call__" 1 ks gV sp) (fi : ∀ f, PySem.W.findIn X.K (.ref C) "__call__" = some (some (.ref f)) → PySem.W.fnIn X.K f = true) (hr : Room j X.A) (hk : k ≤ j) (hf : PE X fe tf) (hkw : PK X kws tk')
    (hc : eval (.Call fe [] kws pos) X.env = (do callWith pos (← eval fe X.env) [] (backTo pos (starEach [] X.env)) (backToKw pos (keywordEach kws X.env))) := by rfl)
    (hall : (backToKw pos (keywordEach kws X.env)).all (·.1.isSome) = true := by rfl) (hks : (backToKw pos (keywordEach kws X.env)).filterMap (·.1) = ks := by rfl)
    (hpl : ((backTo pos (starEach [] X.env)).any (·.1) || (backToKw pos (keywordEach kws X.env)).any (·.1.isNone)) = false := by rfl) : PE X (.Call fe [] kws pos) (tCallEK C ks.length sp gV tf tk') := by
  obtain ⟨f, fd, ps, g, hc', hm, F, b⟩ := c.ex
  refine ⟨fun pins s σ H Q I h => ?_⟩
  rw [hc]
  refine wpAny_bind (thn (hf.run pins s σ H _ I h) fun u s1 ⟨v, H1, I1, r1, a, ev, ht⟩ => ?_)
  subst ev
  cases (show u = Value.ref a from r1)
  refine callWith_obj hpl (evalArgs_kw2_nil hall ?_)
  refine thn (hkw.run pos pins s1 σ _ _ I1 ht) fun ws s2 ⟨zs, H2, I2, rz, dx, fs, lz, ea, q⟩ => ?_
  obtain ⟨ox, od, J, hd⟩ := inst_plain I2 ea
  refine ⟨⟨C, ox, od, J, hd⟩, ?_⟩
  have r0 : Vals [.ref a] [Value.ref a] := .cons rfl .nil
  have rr := b.rel r0 rz
  have bd := b.to s2 [.ref a] ws I2.kIn rfl (rz.length.symm.trans lz)
  rw [hks]
  refine wpAny_call (PySem.W.kco_code I2.kIn J hd hm.at_ hm.fn (fi f hm.at_) (codeAny_mono (F.run X.A X.stack s2 H2 ⟨[.ref a], ks.zip ws⟩ (g [.ref a] ws) (gV [.ref a] zs) Q E0 (hr.mono hk) I2.env0 bd rr q) fun r s' hq => ?_))
  cases r with
  | error e => exact hq.elim
  | ok fl =>
    cases fl with
    | ret u => exact I2.after hq
    | next => exact False.elim hq
    | brk => exact False.elim hq
    | cont => exact False.elim hq
end
/-! ### d.values() and list(d.values()) -/
def valsO (p d : Addr) : HO := .ext fun h => h.IsValuesView p d
theorem valsO_ok {P : Program} {w : World} {H : Hp} {h : Heap} {p d : Addr} (e : h.get? p = some { cls := .type "dict_values", data := .fields #[.ref d] }) : ObjOk P w H h p (valsO p d) :=
  ⟨⟨_, e, rfl, rfl⟩, ⟨_, e⟩, fun h1 h2 x k => let ⟨o, ho, r⟩ := x; ⟨o, k o ho, r⟩⟩
def rValuesI : V → List V → Hp → VK → Prop := fun x xs H Q => ∃ (a : Addr) (kvs : List (L2.Key × V)), x = .ref a ∧ xs = [] ∧ H a = some (.dK kvs) ∧ ∀ p, H p = none → Q (.ref p) (upd H p (valsO p a))
theorem mt_valuesI {X : Cx} : MtR X "dict.values" rValuesI := by
  intro pins s σ H x xs v us Q I rx rxs h
  obtain ⟨a, kvs, rfl, rfl, ha, q⟩ := h
  cases rx
  cases rxs
  obtain ⟨z, hd, vs, rel, dof⟩ := dk_of I.hok ha
  obtain ⟨ep, dat⟩ := dof.dictAt
  obtain ⟨ob, es, ho, ex, hdat, hko, hpr, hnd⟩ := id dat
  refine call_meetsIn PySem.F.slot_dict_values ⟨ob, ho, ex.1⟩ PySem.F.entry_dict_values (PySem.F.args_dict_values_1 _) (meets_dict_values (mixKind X.prog X.w) a hd) ⟨⟨vs, dof⟩, ?_⟩
  have hf : H s.heap.objs.size = none := I.hok.fresh (Nat.le_refl _)
  exact ⟨.ref s.heap.objs.size, upd H s.heap.objs.size (valsO s.heap.objs.size a), I.laid (t' := s.toks) (fun b u e => Heap.get?_push_of_some _ e) (Nat.le_refl _) (valsO_ok (Heap.get?_push_size _ rfl)), rfl, q _ hf⟩
def rListVals : List V → Hp → VK → Prop := fun xs H Q => ∃ (p a : Addr) (kvs : List (L2.Key × V)), xs = [.ref p] ∧ H p = some (valsO p a) ∧ H a = some (.dK kvs) ∧ ∀ q, H q = none → Q (.ref q) (upd H q (.lst (kvs.map (·.2))))
theorem call_listVals {X : Cx} (hc : X.calm = true) : CallR X (.type "list") rListVals := by
  intro pins s σ H xs us Q I r h
  obtain ⟨p, a, kvs, e, hp, hk, q⟩ := h
  subst e
  obtain ⟨u, eu, rx⟩ := vals1 r
  subst eu
  obtain rfl : u = Value.ref p := rx
  have view : s.heap.IsValuesView p a := (show ObjOk X.prog X.w H s.heap p (valsO p a) from I.hok p _ hp).1
  obtain ⟨z, lo, vs, rk, hd⟩ := (show ObjOk X.prog X.w H s.heap a (.dK kvs) from I.hok a _ hk)
  obtain ⟨ep, hat⟩ := hd.dictAt
  have hl : kvs.length = vs.length := Paired.length rk
  refine PySem.W.kdl_call (PySem.W.kdl_values (knd := mixKind X.prog X.w) (kvs := vs) (ep := ep)) (I.ok.hd hc) ⟨view, hat⟩ (by rw [← hl]; exact z) fun h' tk acc' c' hkeep hS hacc => ?_
  refine ⟨.ref s.heap.objs.size, upd H s.heap.objs.size (.lst (kvs.map (·.2))), I.laid hkeep (Nat.le_refl _) (show ObjOk X.prog X.w _ _ _ (.lst (kvs.map (·.2))) from ⟨?_, acc'.toList, c', ?_, ?_⟩), rfl, q _ (I.hok.fresh (Nat.le_refl _))⟩
  · rw [List.length_map]; exact z
  · have el : acc'.toList.length = acc'.size := by simp
    refine vals_of_at (by rw [List.length_map, el, hacc.1, hl]) fun j x w h1 h2 => ?_
    obtain ⟨k, hky⟩ := hacc.2 j w (by rw [← Array.getElem?_toList]; exact h2)
    obtain ⟨y, e1, e2⟩ := KV.at' rk hky
    rw [List.getElem?_map, e1] at h1
    cases h1
    exact e2
  · rw [Array.toArray_toList]; exact hS
end Lp
set_option Elab.async false
set_option linter.all false
set_option maxRecDepth 100000
set_option maxHeartbeats 1000000
namespace Lp
open PySem PySem.Spec PyProof.Rows L2
/-! ### set(xs) and sorted(set(xs)) of ints, any number of them -/
def rSetLG (K : PySem.W.Frag) (w : World) : List V → Hp → VK → Prop := fun xs H Q => ∃ (a : Addr) (ns : List Int), xs = [V.ref a] ∧ SqL K H a (ns.map V.int) ∧ ns.length ≤ 1000 ∧ ∀ (p : Addr) (c : Nat), H p = none → c ≤ ns.length → Q (.ref p) (upd H p (SetO w p (fun j => decide (j ∈ ns)) c))
theorem cr_setLG {X : Cx} (hc : X.calm = true) : CallR X (.type "set") (rSetLG X.K X.w) := by
  intro pins s σ H xs us Q I r h
  obtain ⟨a, ns, rfl, hq, hl, q⟩ := h
  cases r with
  | cons r rr =>
    cases rr
    cases (show _ = Value.ref a from r)
    obtain ⟨its, rv, p, _⟩ := I.list hq
    refine call_set_listI ns (I.ok.hd hc) p.isList (RZ.intsAre_vals rv) (Nat.lt_of_le_of_lt (Nat.succ_le_succ hl) (by decide)) fun h' tk c hs hcn hk => ?_
    refine ⟨.ref _, upd H _ (SetO X.w s.heap.objs.size (fun j => decide (j ∈ ns)) c), I.laid hk (Nat.le_refl _) ⟨hs, ?_, fun h1 h2 x k => ?_⟩, rfl, q _ c (I.hok.fresh (Nat.le_refl _)) hcn⟩
    · obtain ⟨o, _, _, _, e, _⟩ := hs
      exact ⟨o, e⟩
    · obtain ⟨o, es, ep, t, e, r⟩ := x
      exact ⟨o, es, ep, t, k o e, r⟩
section
variable {P : Program} {w : World} {A : Around} {E : Value → Shared → Prop} {s : Shared} {a : Addr}
theorem sorted_setG {S : Int → Bool} {n : Nat} {Q : Value → Shared → Prop} (R : SetR w s.heap a S n) (hh : A.handled = none) (hn : n ≤ 100000)
    (hQ : ∀ s' p (out : Array Value) (c : Nat) (ns : List Int), (∀ b o, s.heap.get? b = some o → s'.heap.get? b = some o) → s'.gens = s.gens → s'.os = s.os → s.heap.objs.size ≤ p →
      s'.heap.get? p = some (seqObj "list" out c) → IntsAre out.toList ns → ns.Pairwise (· ≤ ·) → ns.Nodup → (∀ k, k ∈ ns ↔ S k = true) → ns.length = n → Q (.ref p) s') :
    wpAny (model P w) A (call (.builtin "sorted") [.ref a]) Q E s := by
  obtain ⟨o, es, ep, t, ho, hex, hd, g, nd, hm, hb, hf, hn', hr, hl⟩ := R
  refine Calls.call_function_entry PyProof.Rows.kind_sorted PyProof.Rows.plain_sorted PyProof.Rows.entry_sorted (PyProof.Rows.args_sorted1 _) ?_
  unfold Builtin.«sorted»
  refine wpAny_bind (m := checkCount "sorted" 1 1 _) (wpAny_pure ?_)
  refine wpAny_bind (collect_set (A := A.in1) hh ⟨o, ho, hex.1, hd⟩ hf hb hr hl fun s1 vs k1 hz g1 o1 pm => ?_)
  have hvl : vs.length = n := by rw [pm.length_eq, List.length_map, Array.length_toList]; exact hn'
  have hI : IntsAre vs (vs.map Builtin.Re.reRawOf) := ints_of vs fun v hv => by
    obtain ⟨e, he, q⟩ := List.mem_map.mp (pm.mem_iff.mp hv)
    obtain ⟨k, tk, h1, _⟩ := g e he
    exact ⟨k, tk, by rw [← q]; exact h1⟩
  have pk : (vs.map Builtin.Re.reRawOf).Perm (es.toList.map keyOf) := by
    have q := pm.map Builtin.Re.reRawOf
    rw [List.map_map] at q
    exact q
  have hz2 : vs.length ≤ sizeLine := by rw [hvl]; exact zs hn
  refine wpAny_bind (wpAny_newList ?_ hz2)
  have hoL : (s1.heap.push (seqObj "list" vs.toArray 0)).get? s1.heap.objs.size = some (seqObj "list" vs.toArray 0) := Heap.get?_push_size _ rfl
  refine wpAny_bind (wpAny_holding (wpAny_call_entry PyProof.Rows.slot_list_sort ⟨_, hoL, rfl⟩ PyProof.Rows.entry_list_sort
    (SrtO.list_sort_ord SrtO.swo_int hoL hz2 (fun h2 => SrtO.ints_sortable hI h2) fun out g1' g2 => ⟨_, rfl, ?_⟩) (PyProof.Rows.args_list_sort _)))
  obtain ⟨q1, q2, q3⟩ := SrtO.ints_out hI g1' g2
  obtain ⟨c, hc⟩ := PyProof.Rows.sortedHeap_at (vs := vs) (out := out.toArray) hoL
  have pn : (out.map SrtO.iv).Perm (es.toList.map keyOf) := q2.trans pk
  refine wpAny_pure ⟨_, rfl, hQ _ s1.heap.objs.size out.toArray c (out.map SrtO.iv) (fun b u e => ?_) g1 o1 hz hc (by simpa using q1) q3 (pn.nodup_iff.mpr nd) (fun k => by rw [pn.mem_iff, ← hm k]) ?_⟩
  · have q := k1 b u e
    have hlt := Heap.lt_size q
    show (PyProof.Rows.sortedHeap (s1.heap.push (seqObj "list" vs.toArray 0)) s1.heap.objs.size vs out.toArray).get? b = some u
    rw [PyProof.Rows.sortedHeap_old (Nat.ne_of_lt hlt) (by rw [size_push']; exact Nat.lt_succ_of_lt hlt)]
    exact Heap.get?_push_of_some _ q
  · rw [pn.length_eq, List.length_map, Array.length_toList]; exact hn'
end
section
variable {X : Cx}
def rSortedSetG (w : World) : List V → Hp → VK → Prop := fun vs H Q => ∃ (a : Addr) (S : Int → Bool) (n : Nat), vs = [V.ref a] ∧ H a = some (SetO w a S n) ∧ n ≤ 100000 ∧
  ∀ (ns : List Int) (p : Addr), ns.Pairwise (· ≤ ·) → ns.Nodup → (∀ k : Int, k ∈ ns ↔ S k = true) → H p = none → Q (.ref p) (upd H p (.lst (ns.map V.int)))
theorem cr_sortedSetG (hc : X.calm = true) : CallR X (.builtin "sorted") (rSortedSetG X.w) := by
  intro pins s σ H vs us Q I r h
  obtain ⟨a, S, n, rfl, ha, h64, q⟩ := h
  have R := setO_get I ha
  rw [Vals.ref1 r]
  refine sorted_setG R (I.ok.hd hc) h64 fun s' p out c ns k g o hp hg hi hs hnd hm hl => ?_
  have hlen : (ns.map V.int).length ≤ sizeLine := by rw [List.length_map, hl]; exact zs h64
  have hn : H p = none := I.hok.fresh hp
  have J : Inv X pins σ (upd H p (.lst (ns.map V.int))) { s with heap := s'.heap, gens := s'.gens, drawn := s'.drawn, toks := s'.toks } :=
    I.call (ch := []) (Un.laid k hp hn) (I.hok.laid k hp ⟨hlen, out.toList, c, vals_of_ints hi, hg⟩) (by rw [g]; exact I.bare) (fun _ z => nomatch z)
  have e : s' = { s with heap := s'.heap, gens := s'.gens, drawn := s'.drawn, toks := s'.toks } := by
    cases s'
    cases s
    cases o
    rfl
  rw [e]
  exact ⟨.ref p, _, J, rfl, q ns p hs hnd hm hn⟩
end
end Lp
set_option Elab.async false
set_option linter.all false
set_option maxRecDepth 100000
set_option maxHeartbeats 1000000
namespace Lp
open PySem PySem.Spec PyProof.Rows L2
/-! ### a != b of two instances whose class has __eq__ alone -/
theorem one_bind (self : Value) : bindSpecial (.builtin "object.__ne__") self = pure (.builtin "object.__ne__", [self]) :=
  (Slot.of (T := "object") (name := "__ne__") (owner := "object") (n := "__ne__") (by rw [typeLookup_type, builtinLookup_eq_fast]; kernel_rfl) (by decide +kernel) (by decide +kernel) (by decide +kernel)
    (.inl (by decide +kernel)) (by rw [isSubtype_type]; kernel_rfl)).bind self
theorem ifBound_ne {M : Model} {A : Around} {E : Value → Shared → Prop} {s : Shared} {K : PySem.W.Frag} {x C : Addr} {ox : Obj} {od : Option Obj} {args : List Value} {Q : Option Value → Shared → Prop} (X : K.In s.heap) (I : PySem.W.InstAt s.heap x ox C od) (hs : PySem.W.findIn K (.ref C) "__ne__" = some (some (.builtin "object.__ne__")))
    (h : wpAny M A (call (.builtin "object.__ne__") (.ref x :: args)) (fun v => Q (some v)) E s) : wpAny M A (callSpecialIfBound? (.ref x) "__ne__" args) Q E s := by
  simp only [callSpecialIfBound?, bindSpecialIfBound?]
  refine wpAny_holding (wpAny_bind (wpAny_bind (wpAny_bind (I.type.here ((PySem.W.looks_findIn X hs).here ?_)))))
  refine wpAny_bind (wpAny_askSetting (wpAny_ite ?_))
  have fin : wpAny M A (call (.builtin "object.__ne__") ([.ref x] ++ args) >>= fun v => pure (some v)) Q E s := wpAny_bind (wpAny_mono h (fun v s' h' => wpAny_pure h') fun _ _ h' => h')
  have bnd : PySem.W.Looks M s.heap (bindSpecial (.builtin "object.__ne__") (.ref x)) (.builtin "object.__ne__", [.ref x]) := PySem.W.Looks.of_pure (one_bind _)
  split
  · exact wpAny_bind (bnd.here (wpAny_pure (by exact fin)))
  · exact wpAny_tryCatch (wpAny_bind (bnd.here (wpAny_pure (by exact fin))))
theorem ne_entry {prog : Program} {w : World} {A : Around} {E : Value → Shared → Prop} {s : Shared} {K : PySem.W.Frag} {x C f : Addr} {ox : Obj} {od : Option Obj} {b : Value} {Q : Value → Shared → Prop} (hu : A.in1.units < cLine) (X : K.In s.heap) (I : PySem.W.InstAt s.heap x ox C od)
    (hob : PySem.W.subIn K (.ref C) (.type "object") = some true) (at_ : PySem.W.findIn K (.ref C) "__eq__" = some (some (.ref f))) (isf : PySem.W.isFn K (.ref f) = true)
    (go : wpAny (model prog w) A.in1 (call (.ref f) [.ref x, b]) (fun v s' => ∃ c, v = .bool c ∧ Q (.bool (!c)) s') E s) : wpAny (model prog w) A (call (.builtin "object.__ne__") [.ref x, b]) Q E s := by
  have hi : PySem.W.Looks (model prog w) s.heap (isInstance (.ref x) (.type "object")) true := I.type.andThen (PySem.W.looks_subIn X hob)
  refine wpAny_call (codeAny_call_builtin (by decide +kernel) F.cmpEntry_ne (PySem.W.check_slot F.cmpKind_ne F.cmpSplit_ne hi (F.cmpArgs_ne _ _) ?_))
  unfold Builtin.«object.__ne__»
  refine wpAny_bind (m := slotArgs "__ne__" 1 _) (wpAny_of_eq (a := ((Value.ref x : Value), [b])) (by first | rfl | (simp only [slotArgs]; rfl)) ?_)
  refine wpAny_bind (wpAny_cRoomFor hu ?_)
  refine wpAny_bind (m := callSpecialIfBound? (.ref x) (Str.ofString "__eq__") [b]) (PySem.W.ifBound_K X I at_ isf (wpAny_mono go (fun v s' hv => ?_) fun _ _ z => z))
  obtain ⟨c, rfl, hq⟩ := hv
  show wpAny (model prog w) A.in1 (truthy (.bool c) >>= fun b => ret (Value.bool !b)) _ E s'
  exact wpAny_bind (wpAny_of_eq (a := c) (by first | rfl | simp [truthy]) (wpAny_pure hq))
theorem ne_own {prog : Program} {w : World} {A : Around} {E : Value → Shared → Prop} {s : Shared} {K : PySem.W.Frag} {x C f : Addr} {ox : Obj} {od : Option Obj} {b tb : Value} {Q : Value → Shared → Prop} (hu : A.units < cLine) (hu1 : A.in1.units < cLine) (X : K.In s.heap) (I : PySem.W.InstAt s.heap x ox C od) (tyb : PySem.W.Looks (model prog w) s.heap (typeOf b) tb)
    (nf : PySem.W.notFirst K C tb = true) (hne : PySem.W.findIn K (.ref C) "__ne__" = some (some (.builtin "object.__ne__"))) (hob : PySem.W.subIn K (.ref C) (.type "object") = some true) (at_ : PySem.W.findIn K (.ref C) "__eq__" = some (some (.ref f))) (isf : PySem.W.isFn K (.ref f) = true)
    (go : wpAny (model prog w) A.in1 (call (.ref f) [.ref x, b]) (fun v s' => ∃ c, v = .bool c ∧ Q (.bool (!c)) s') E s) : wpAny (model prog w) A (richCompare .NotEq (.ref x) b) Q E s := by
  have mine : wpAny (model prog w) A (tryCompare (.ref x) (cmpInfo .NotEq).2.1 b) (fun r s' => ∃ v, r = some v ∧ Q v s') E s := by
    show wpAny (model prog w) A (tryCompare (.ref x) "__ne__" b) _ E s
    unfold tryCompare
    have ent : wpAny (model prog w) A (call (.builtin "object.__ne__") [.ref x, b]) (fun v s' => ∃ c, v = .bool c ∧ Q (.bool c) s') E s :=
      ne_entry (Q := fun v s' => ∃ c, v = .bool c ∧ Q (.bool c) s') hu1 X I hob at_ isf (wpAny_mono go (fun v s' hv => by
        obtain ⟨c, rfl, hq⟩ := hv
        exact ⟨c, rfl, !c, rfl, hq⟩) fun _ _ z => z)
    refine wpAny_bind (ifBound_ne X I hne (wpAny_mono ent (fun v s' hv => ?_) fun _ _ z => z))
    obtain ⟨c, rfl, hq⟩ := hv
    exact wpAny_pure ⟨_, rfl, hq⟩
  have last : ∀ {g : Option Value → Sem Value}, (∀ v, g (some v) = pure v) → wpAny (model prog w) A (tryCompare (.ref x) (cmpInfo .NotEq).2.1 b >>= g) Q E s := fun {g} hg => wpAny_bind (wpAny_mono mine (fun r s' ⟨v, er, hq⟩ => by rw [er, hg]; exact wpAny_pure hq) fun _ _ z => z)
  unfold richCompare
  simp only [oneThing_ref]
  refine wpAny_holding (wpAny_bind (wpAny_cRoomFor hu ?_))
  refine wpAny_bind (I.type.here (wpAny_bind (tyb.here ?_)))
  split
  · rename_i q
    have sb : PySem.W.subIn K tb (.ref C) = some false := by
      rcases Bool.or_eq_true_iff.mp nf with z | z
      · rw [beq_iff_eq.mp z] at q
        simp at q
      · exact beq_iff_eq.mp z
    refine wpAny_bind ((PySem.W.looks_subIn X sb).here ?_)
    simp only [Bool.false_eq_true, if_false]
    exact last fun v => rfl
  · refine wpAny_bind (wpAny_pure ?_)
    simp only [Bool.false_eq_true, if_false]
    exact last fun v => rfl
section
variable {X : Cx} {k j : Nat} {C : Addr} {sp : Sp}
def rNeO (C : Addr) (sp : Sp) : R2 := fun x y H Q => ∃ (a b dx dy : Addr) (fs gs : List (Str × V)), x = .ref a ∧ y = .ref b ∧ H a = some (.ins C dx fs) ∧ H b = some (.ins C dy gs) ∧ sp [.ref a, .ref b] H (fun v H' => ∃ c : Bool, v = .bl c ∧ Q (.bl (!c)) H') E0
theorem op_neO (c : Met X.prog X.w X.K X.mg X.base k C "__eq__" sp) (hr : Room j X.A) (hk : k + 1 ≤ j) (nf : PySem.W.notFirst X.K C (.ref C) = true) (hne : PySem.W.findIn X.K (.ref C) "__ne__" = some (some (.builtin "object.__ne__"))) (hob : PySem.W.subIn X.K (.ref C) (.type "object") = some true) : OpR X (compareOp .NotEq) (rNeO C sp) := by
  intro pins s σ H x y v u Q I rx ry h
  obtain ⟨a, b, dx, dy, fs, gs, rfl, rfl, ha, hb, q⟩ := h
  obtain ⟨f, fd, ps, hc, hm, F, bd⟩ := c.ex
  cases (show v = Value.ref a from rx)
  cases (show u = Value.ref b from ry)
  obtain ⟨ox, od, J⟩ := inst_of I ha
  obtain ⟨ox2, od2, J2⟩ := inst_of I hb
  have hu : X.A.units < cLine := by have := hr.units; omega
  have hu1 : X.A.in1.units < cLine := by
    have := hr.units
    show X.A.units + 1 < cLine
    omega
  show wpAny _ X.A (richCompare .NotEq _ _) _ _ s
  refine ne_own hu hu1 I.kIn J J2.type nf hne hob hm.at_ hm.fn (wpAny_mono (run_at (A := X.A.in1) (vs := [.ref a, .ref b]) F (hr.mono hk).in1 bd I I.env0.in1 (.cons rfl (.cons rfl .nil)) q) (fun w s' hw => ?_) fun _ _ z => z)
  obtain ⟨z, H', I', r, c, rfl, hq⟩ := hw
  cases r
  exact ⟨c, rfl, .bl (!c), H', I', rfl, hq⟩
end
end Lp
set_option Elab.async false
set_option linter.all false
set_option maxRecDepth 100000
set_option maxHeartbeats 1000000
namespace Lp
open PySem PySem.Spec PyProof.Rows L2
/-! ### a == y, a != y of an instance and any value -/
section
variable {X : Cx} {k j : Nat} {C : Addr} {sp : Sp}
def rEqOV (K : PySem.W.Frag) (C : Addr) (sp : Sp) : R2 := fun x y H Q => ∃ (a dx : Addr) (fs : List (Str × V)) (t : Value), x = .ref a ∧ H a = some (.ins C dx fs) ∧ TyX K H y t ∧ PySem.W.notFirst K C t = true ∧ sp [.ref a, y] H Q E0
theorem op_eqOV (c : Met X.prog X.w X.K X.mg X.base k C "__eq__" sp) (hr : Room j X.A) (hk : k ≤ j) : OpR X (compareOp .Eq) (rEqOV X.K C sp) := by
  intro pins s σ H x y v u Q I rx ry h
  obtain ⟨a, dx, fs, t, rfl, ha, ty, nf, q⟩ := h
  obtain ⟨f, fd, ps, hc, hm, F, bd⟩ := c.ex
  cases (show v = Value.ref a from rx)
  obtain ⟨ox, od, J⟩ := inst_of I ha
  obtain ⟨P, Z, p, _⟩ := kit_of I ry ty
  have hu : X.A.units < cLine := by have := hr.units; omega
  show wpAny _ X.A (richCompare .Eq _ _) _ _ s
  refine eq_own (op := .Eq) hu I.kIn J (Z.ty _ _ I.kIn p) nf hm.at_ hm.fn (wpAny_mono (run_at (vs := [.ref a, y]) F (hr.mono hk) bd I I.env0 (.cons rfl (.cons ry .nil)) q) (fun w s' hw => ?_) fun _ _ z => z)
  exact ⟨by obtain ⟨z, _, _, r, _⟩ := hw; exact relV_ni r, hw⟩
def rNeOV (K : PySem.W.Frag) (C : Addr) (sp : Sp) : R2 := fun x y H Q => ∃ (a dx : Addr) (fs : List (Str × V)) (t : Value), x = .ref a ∧ H a = some (.ins C dx fs) ∧ TyX K H y t ∧ PySem.W.notFirst K C t = true ∧ sp [.ref a, y] H (fun v H' => ∃ c : Bool, v = .bl c ∧ Q (.bl (!c)) H') E0
theorem op_neOV (c : Met X.prog X.w X.K X.mg X.base k C "__eq__" sp) (hr : Room j X.A) (hk : k + 1 ≤ j) (hne : PySem.W.findIn X.K (.ref C) "__ne__" = some (some (.builtin "object.__ne__"))) (hob : PySem.W.subIn X.K (.ref C) (.type "object") = some true) : OpR X (compareOp .NotEq) (rNeOV X.K C sp) := by
  intro pins s σ H x y v u Q I rx ry h
  obtain ⟨a, dx, fs, t, rfl, ha, ty, nf, q⟩ := h
  obtain ⟨f, fd, ps, hc, hm, F, bd⟩ := c.ex
  cases (show v = Value.ref a from rx)
  obtain ⟨ox, od, J⟩ := inst_of I ha
  obtain ⟨P, Z, p, _⟩ := kit_of I ry ty
  have hu : X.A.units < cLine := by have := hr.units; omega
  have hu1 : X.A.in1.units < cLine := by
    have := hr.units
    show X.A.units + 1 < cLine
    omega
  show wpAny _ X.A (richCompare .NotEq _ _) _ _ s
  refine ne_own hu hu1 I.kIn J (Z.ty _ _ I.kIn p) nf hne hob hm.at_ hm.fn (wpAny_mono (run_at (A := X.A.in1) (vs := [.ref a, y]) F (hr.mono hk).in1 bd I I.env0.in1 (.cons rfl (.cons ry .nil)) q) (fun w s' hw => ?_) fun _ _ z => z)
  obtain ⟨z, H', I', r, c, rfl, hq⟩ := hw
  cases r
  exact ⟨c, rfl, .bl (!c), H', I', rfl, hq⟩
end
end Lp
set_option Elab.async false
set_option linter.all false
set_option maxRecDepth 100000
namespace Lp
open PySem PySem.Spec PyProof.Rows L2
/-! ### the same, with K told apart (for comprehensions) -/
section
variable {X : Cx} {K : PySem.W.Frag} {k j : Nat} {C : Addr} {sp : Sp}
theorem k_eqOV (e : X.K = K) (c : Met X.prog X.w X.K X.mg X.base k C "__eq__" sp) (hr : Room j X.A) (hk : k ≤ j) : OpR X (compareOp .Eq) (rEqOV K C sp) := by
  subst e
  exact op_eqOV c hr hk
theorem k_neOV (e : X.K = K) (c : Met X.prog X.w X.K X.mg X.base k C "__eq__" sp) (hr : Room j X.A) (hk : k + 1 ≤ j) (hne : PySem.W.findIn X.K (.ref C) "__ne__" = some (some (.builtin "object.__ne__"))) (hob : PySem.W.subIn X.K (.ref C) (.type "object") = some true) : OpR X (compareOp .NotEq) (rNeOV K C sp) := by
  subst e
  exact op_neOV c hr hk hne hob
end
end Lp
set_option Elab.async false
set_option linter.all false
set_option maxRecDepth 100000
namespace Lp
open PySem PySem.Spec PyProof.Rows L2
/-! ### values of any kind: None, bools, ints, texts, lists, tuples, the empty dict -/
mutual
inductive Ox (K : PySem.W.Frag) (H : Hp) : V → PyData → Prop
  | non : Ox K H .non .none
  | bl (b : Bool) : Ox K H (.bl b) (.bool b)
  | int (i : Int) : Ox K H (.int i) (.int i)
  | str (x : Str) : Ox K H (.str x) (.str x)
  | lst {a : Addr} {xs : List V} {ds : List PyData} : SqL K H a xs → OxAll K H xs ds → Ox K H (.ref a) (.list ds)
  | tup {a : Addr} {xs : List V} {ds : List PyData} : SqT K H a xs → OxAll K H xs ds → Ox K H (.ref a) (.tuple ds)
  | dct {a : Addr} : H a = some (.dK []) → Ox K H (.ref a) (.dict [])
inductive OxAll (K : PySem.W.Frag) (H : Hp) : List V → List PyData → Prop
  | nil : OxAll K H [] []
  | cons {v : V} {vs : List V} {d : PyData} {ds : List PyData} : Ox K H v d → OxAll K H vs ds → OxAll K H (v :: vs) (d :: ds)
end
section
variable {X : Cx} {pins : List (Addr × Obj)} {σ : L2.St} {H : Hp} {s : Shared}
open PySem
/-- the empty dict, as it stands -/
theorem Ox.dctAt (I : Inv X pins σ H s) {a : Addr} (ha : H a = some (.dK [])) : ∃ o es ep, s.heap.get? a = some o ∧ o.cls = .type "dict" ∧ o.data = .dict es ep ∧ es.toList = [] ∧ (a == sysModules) = false := by
  obtain ⟨_, hns, vs, hkv, o, es, ep, e1, ex, ed, _, pr, _⟩ := (show ObjOk X.prog X.w H s.heap a (.dK []) from I.hok _ _ ha)
  cases hkv
  exact ⟨o, es, ep, e1, ex.1, ed, List.length_eq_zero_iff.mp pr.length, hns⟩
mutual
theorem Ox.rk (I : Inv X pins σ H s) : ∀ (d : PyData) (v : V) (u : Value), Ox X.K H v d → RelV v u → d.showable = true → d.shown.length ≤ sizeLine → ∃ bs as, Reads s.heap u d as ∧ ReadAtMost s.heap d.depth bs ∧ ReprK X.prog X.w bs s.heap d.depth u d.shown
  | .none, _, _, h, r, _, _ => by
    cases h
    cases r
    exact ⟨[], _, Reads.none, (fun _ z => absurd z List.not_mem_nil), .of_is ReprIs.none _ _ _⟩
  | .bool b, _, _, h, r, _, _ => by
    cases h
    cases r
    exact ⟨[], _, Reads.bool b, (fun _ z => absurd z List.not_mem_nil), .of_is (ReprIs.bool b) _ _ _⟩
  | .int i, _, _, h, r, sh, _ => by
    cases h
    obtain ⟨t, rfl⟩ := r
    exact ⟨[], _, Reads.int i t, (fun _ z => absurd z List.not_mem_nil), .of_is (ReprIs.int t (of_decide_eq_true sh)) _ _ _⟩
  | .str x, _, _, h, r, _, hz => by
    cases h
    obtain ⟨t, rfl⟩ := r
    exact ⟨[], _, Reads.str x t, (fun _ z => absurd z List.not_mem_nil), .of_is (ReprIs.str x t hz) _ _ _⟩
  | .list ds, _, _, h, r, sh, hz => by
    cases h with
    | @lst a xs _ hs ha =>
      cases r
      obtain ⟨its, rv, ⟨o, n, ho, hc, _, hd⟩, _⟩ := I.list hs
      have len : (listText (PyData.shownAll ds)).length ≤ sizeLine := hz
      obtain ⟨bs, as, ra, rb, rk⟩ := Ox.rkAll I ds xs its ha rv sh (fun t ht => Nat.le_trans (listText_mem_le ht) len)
      have rr := Reads.list ho hc hd ra
      have fresh : a ∉ bs := not_mem_of_deeper rr (Nat.lt_succ_self (PyData.depthAll ds)) rb
      refine ⟨a :: bs, _, rr, ReadAtMost.cons rr (Nat.le_succ (PyData.depthAll ds)) rb, ?_⟩
      show ReprK X.prog X.w (a :: bs) s.heap (PyData.depthAll ds + 1) (.ref a) (listText (PyData.shownAll ds))
      cases its with
      | nil =>
        cases ra
        show ReprK X.prog X.w (a :: bs) s.heap _ (.ref a) (listText [])
        rw [listText_nil]
        exact ReprK.listEmpty ho hc hd
      | cons y l => exact ReprK.list ho hc hd fresh (by simpa using rk.length_eq) (fun i z e => rk.item i z (by simpa using e))
  | .tuple ds, _, _, h, r, sh, hz => by
    cases h with
    | @tup a xs _ hs ha =>
      cases r
      obtain ⟨its, rv, ⟨o, ho, hc, n, hd⟩, _⟩ := I.tuple hs
      have len : (tupleText (PyData.shownAll ds)).length ≤ sizeLine := hz
      obtain ⟨bs, as, ra, rb, rk⟩ := Ox.rkAll I ds xs its ha rv sh (fun t ht => Nat.le_trans (tupleText_mem_le ht) len)
      have rr := Reads.tuple ho hc hd ra
      have fresh : a ∉ bs := not_mem_of_deeper rr (Nat.lt_succ_self (PyData.depthAll ds)) rb
      exact ⟨a :: bs, _, rr, ReadAtMost.cons rr (Nat.le_succ (PyData.depthAll ds)) rb, ReprK.tuple ho hc hd fresh rk⟩
  | .dict kvs, _, _, h, r, _, _ => by
    cases h with
    | @dct a ha =>
      cases r
      obtain ⟨o, es, ep, e1, ec, ed, e0, hns⟩ := Ox.dctAt I ha
      have rr : Reads s.heap (.ref a) (.dict []) [a] := Reads.dict (kvs := []) (as := []) (bs := []) e1 ec ed (by rw [e0]; exact ReadsAll.nil) (by rw [e0]; exact ReadsAll.nil)
      refine ⟨[a], _, rr, ReadAtMost.cons (n := 0) rr (Nat.zero_le _) (fun _ z => absurd z List.not_mem_nil), ?_⟩
      exact ReprK.dict (d := 0) e1 ec ed hns List.not_mem_nil (by rw [e0]; exact ReprEntriesK.of_two [] [] [] .nil .nil)
theorem Ox.rkAll (I : Inv X pins σ H s) : ∀ (ds : List PyData) (vs : List V) (us : List Value), OxAll X.K H vs ds → Vals vs us → PyData.showableAll ds = true → (∀ t ∈ PyData.shownAll ds, t.length ≤ sizeLine) → ∃ bs as, ReadsAll s.heap us ds as ∧ ReadAtMost s.heap (PyData.depthAll ds) bs ∧ ReprAllK X.prog X.w bs s.heap (PyData.depthAll ds) us (PyData.shownAll ds)
  | [], _, _, h, r, _, _ => by
    cases h
    cases r
    exact ⟨[], _, ReadsAll.nil, (fun _ z => absurd z List.not_mem_nil), .nil⟩
  | d :: ds, _, _, h, r, sh, hz => by
    cases h with
    | cons h1 h2 =>
      cases r with
      | cons r1 r2 =>
        have sh2 : (d.showable && PyData.showableAll ds) = true := sh
        rw [Bool.and_eq_true] at sh2
        obtain ⟨b1, a1, q1, m1, k1⟩ := Ox.rk I d _ _ h1 r1 sh2.1 (hz _ List.mem_cons_self)
        obtain ⟨b2, a2, q2, m2, k2⟩ := Ox.rkAll I ds _ _ h2 r2 sh2.2 (fun t ht => hz t (List.mem_cons_of_mem _ ht))
        have l1 : d.depth ≤ PyData.depthAll (d :: ds) := Nat.le_max_left _ _
        have l2 : PyData.depthAll ds ≤ PyData.depthAll (d :: ds) := Nat.le_max_right _ _
        exact ⟨b1 ++ b2, _, ReadsAll.cons q1 q2, (m1.mono l1).append (m2.mono l2), .cons ((k1.more fun b z => List.mem_append_left _ z).level_le l1) (k2.more_le (fun b z => List.mem_append_right _ z) l2)⟩
end
end
section
variable {K : PySem.W.Frag} {H H' : Hp}
mutual
theorem ox_same (s : Same H H') : ∀ {v : V} {d : PyData}, Ox K H v d → Ox K H' v d
  | _, _, .non => .non
  | _, _, .bl b => .bl b
  | _, _, .int i => .int i
  | _, _, .str x => .str x
  | _, _, .lst h1 h2 => .lst (s.seq h1) (oxAll_same s h2)
  | _, _, .tup h1 h2 => .tup (seqT s h1) (oxAll_same s h2)
  | _, _, .dct h => .dct (s _ _ h)
theorem oxAll_same (s : Same H H') : ∀ {vs : List V} {ds : List PyData}, OxAll K H vs ds → OxAll K H' vs ds
  | _, _, .nil => .nil
  | _, _, .cons h1 h2 => .cons (ox_same s h1) (oxAll_same s h2)
end
mutual
theorem ox_dp : ∀ {v : V} {d : PyData}, Dp K H v d → Ox K H v d
  | _, _, .non => .non
  | _, _, .bl b => .bl b
  | _, _, .int i => .int i
  | _, _, .str x => .str x
  | _, _, .lst h1 h2 => .lst h1 (oxAll_dp h2)
  | _, _, .tup h1 h2 => .tup h1 (oxAll_dp h2)
theorem oxAll_dp : ∀ {vs : List V} {ds : List PyData}, DpAll K H vs ds → OxAll K H vs ds
  | _, _, .nil => .nil
  | _, _, .cons h1 h2 => .cons (ox_dp h1) (oxAll_dp h2)
end
theorem oxAll_len : ∀ {vs : List V} {ds : List PyData}, OxAll K H vs ds → vs.length = ds.length
  | _, _, .nil => rfl
  | _, _, .cons _ h => congrArg (· + 1) (oxAll_len h)
theorem oxAll_get : ∀ {vs : List V} {ds : List PyData} {i : Nat} {v : V}, OxAll K H vs ds → vs[i]? = some v → ∃ d, ds[i]? = some d ∧ Ox K H v d
  | _, _, 0, _, .cons h _, e => by cases e; exact ⟨_, rfl, h⟩
  | _, _, i + 1, _, .cons _ h, e => oxAll_get (i := i) h e
theorem oxAll_app : ∀ {vs ws : List V} {ds es : List PyData}, OxAll K H vs ds → OxAll K H ws es → OxAll K H (vs ++ ws) (ds ++ es)
  | _, _, _, _, .nil, h => h
  | _, _, _, _, .cons h1 h2, h => .cons h1 (oxAll_app h2 h)
theorem oxAll_take : ∀ {vs : List V} {ds : List PyData} (n : Nat), OxAll K H vs ds → OxAll K H (vs.take n) (ds.take n)
  | _, _, 0, _ => .nil
  | _, _, _ + 1, .nil => .nil
  | _, _, n + 1, .cons h1 h2 => .cons h1 (oxAll_take n h2)
theorem oxAll_drop : ∀ {vs : List V} {ds : List PyData} (n : Nat), OxAll K H vs ds → OxAll K H (vs.drop n) (ds.drop n)
  | _, _, 0, h => h
  | _, _, _ + 1, .nil => .nil
  | _, _, n + 1, .cons _ h2 => oxAll_drop n h2
theorem oxAll_ints : ∀ ns : List Int, OxAll K H (ns.map V.int) (ns.map PyData.int)
  | [] => .nil
  | n :: r => .cons (.int n) (oxAll_ints r)
end
/-- the type of a value by its data -/
def tyD : PyData → String
  | .none => "NoneType" | .bool _ => "bool" | .int _ => "int" | .str _ => "str" | .list _ => "list" | .tuple _ => "tuple" | .dict _ => "dict"
section
variable {K : PySem.W.Frag} {H : Hp}
theorem Ox.tyx {v : V} {d : PyData} (h : Ox K H v d) : TyX K H v (.type (tyD d)) := by
  cases h with
  | non => exact .base .non
  | bl b => exact .base (.bl b)
  | int i => exact .base (.int i)
  | str x => exact .base (.str x)
  | lst h1 _ => exact tyx_l h1
  | tup h1 _ => exact tyx_t h1
  | dct h => exact .base (.dK h)
theorem Ox.tyb {v : V} {d : PyData} (h : Ox K H v d) : TyB K H v (tyD d) := by
  cases h with
  | non => exact .non
  | bl b => exact .bl b
  | int i => exact .int i
  | str x => exact .str x
  | lst h1 _ => exact .lst h1
  | tup h1 _ => exact .tup h1
  | dct h => exact .dK h
theorem tyD_meta (d : PyData) : ∀ s' : Shared, s'.TypeIs (.type (tyD d)) "type" := by
  cases d with
  | none => exact PySem.TypeEq.meta_NoneType
  | bool _ => exact PySem.TypeEq.meta_bool
  | int _ => exact PySem.TypeEq.meta_int
  | str _ => exact PySem.TypeEq.meta_str
  | list _ => exact PySem.TypeEq.meta_list
  | tuple _ => exact PySem.TypeEq.meta_tuple
  | dict _ => exact PySem.TypeEq.meta_dict
end
def isI : PyData → Bool | .int _ => true | _ => false
def isB : PyData → Bool | .bool _ => true | _ => false
def isL : PyData → Bool | .list _ => true | _ => false
def isT : PyData → Bool | .tuple _ => true | _ => false
def isS : PyData → Bool | .str _ => true | _ => false
def isN : PyData → Bool | .none => true | _ => false
theorem kit_int {K : PySem.W.Frag} (d : PyData) : PySem.W.kitOne K (.type (tyD d)) (.type "int") = some (isI d || isB d) :=
  match d with
  | .none => kit_ty (show kitB "NoneType" "int" = some false by decide +kernel)
  | .bool _ => kit_ty (show kitB "bool" "int" = some true by decide +kernel)
  | .int _ => kit_ty (show kitB "int" "int" = some true by decide +kernel)
  | .str _ => kit_ty (show kitB "str" "int" = some false by decide +kernel)
  | .list _ => kit_ty (show kitB "list" "int" = some false by decide +kernel)
  | .tuple _ => kit_ty (show kitB "tuple" "int" = some false by decide +kernel)
  | .dict _ => kit_ty (show kitB "dict" "int" = some false by decide +kernel)
theorem kit_bool {K : PySem.W.Frag} (d : PyData) : PySem.W.kitOne K (.type (tyD d)) (.type "bool") = some (isB d) :=
  match d with
  | .none => kit_ty (show kitB "NoneType" "bool" = some false by decide +kernel)
  | .bool _ => kit_ty (show kitB "bool" "bool" = some true by decide +kernel)
  | .int _ => kit_ty (show kitB "int" "bool" = some false by decide +kernel)
  | .str _ => kit_ty (show kitB "str" "bool" = some false by decide +kernel)
  | .list _ => kit_ty (show kitB "list" "bool" = some false by decide +kernel)
  | .tuple _ => kit_ty (show kitB "tuple" "bool" = some false by decide +kernel)
  | .dict _ => kit_ty (show kitB "dict" "bool" = some false by decide +kernel)
theorem kit_list {K : PySem.W.Frag} (d : PyData) : PySem.W.kitOne K (.type (tyD d)) (.type "list") = some (isL d) :=
  match d with
  | .none => kit_ty (show kitB "NoneType" "list" = some false by decide +kernel)
  | .bool _ => kit_ty (show kitB "bool" "list" = some false by decide +kernel)
  | .int _ => kit_ty (show kitB "int" "list" = some false by decide +kernel)
  | .str _ => kit_ty (show kitB "str" "list" = some false by decide +kernel)
  | .list _ => kit_ty (show kitB "list" "list" = some true by decide +kernel)
  | .tuple _ => kit_ty (show kitB "tuple" "list" = some false by decide +kernel)
  | .dict _ => kit_ty (show kitB "dict" "list" = some false by decide +kernel)
theorem kit_tuple {K : PySem.W.Frag} (d : PyData) : PySem.W.kitOne K (.type (tyD d)) (.type "tuple") = some (isT d) :=
  match d with
  | .none => kit_ty (show kitB "NoneType" "tuple" = some false by decide +kernel)
  | .bool _ => kit_ty (show kitB "bool" "tuple" = some false by decide +kernel)
  | .int _ => kit_ty (show kitB "int" "tuple" = some false by decide +kernel)
  | .str _ => kit_ty (show kitB "str" "tuple" = some false by decide +kernel)
  | .list _ => kit_ty (show kitB "list" "tuple" = some false by decide +kernel)
  | .tuple _ => kit_ty (show kitB "tuple" "tuple" = some true by decide +kernel)
  | .dict _ => kit_ty (show kitB "dict" "tuple" = some false by decide +kernel)
theorem kit_str {K : PySem.W.Frag} (d : PyData) : PySem.W.kitOne K (.type (tyD d)) (.type "str") = some (isS d) :=
  match d with
  | .none => kit_ty (show kitB "NoneType" "str" = some false by decide +kernel)
  | .bool _ => kit_ty (show kitB "bool" "str" = some false by decide +kernel)
  | .int _ => kit_ty (show kitB "int" "str" = some false by decide +kernel)
  | .str _ => kit_ty (show kitB "str" "str" = some true by decide +kernel)
  | .list _ => kit_ty (show kitB "list" "str" = some false by decide +kernel)
  | .tuple _ => kit_ty (show kitB "tuple" "str" = some false by decide +kernel)
  | .dict _ => kit_ty (show kitB "dict" "str" = some false by decide +kernel)
/-- type(x) != T -/
theorem neTyL {σ : L2.St} {H : Hp} {d : PyData} {Q : VK} (q : Q (.bl (!isL d)) H) : tC (.ty "list") σ H (fun y H2 => rNeTyG (.ty (tyD d)) y H2 Q) := by
  show rNeTyG (.ty (tyD d)) (.ty "list") H Q
  cases d with
  | list ds => exact .inl ⟨_, rfl, rfl, PySem.TypeEq.meta_list, q⟩
  | none => exact .inr ⟨_, _, rfl, rfl, PySem.TypeEq.meta_NoneType, PySem.TypeEq.meta_list, (show (Value.type "NoneType" == Value.type "list") = false by decide +kernel), (show (Value.type "list" == Value.type "NoneType") = false by decide +kernel), q⟩
  | bool _ => exact .inr ⟨_, _, rfl, rfl, PySem.TypeEq.meta_bool, PySem.TypeEq.meta_list, (show (Value.type "bool" == Value.type "list") = false by decide +kernel), (show (Value.type "list" == Value.type "bool") = false by decide +kernel), q⟩
  | int _ => exact .inr ⟨_, _, rfl, rfl, PySem.TypeEq.meta_int, PySem.TypeEq.meta_list, (show (Value.type "int" == Value.type "list") = false by decide +kernel), (show (Value.type "list" == Value.type "int") = false by decide +kernel), q⟩
  | str _ => exact .inr ⟨_, _, rfl, rfl, PySem.TypeEq.meta_str, PySem.TypeEq.meta_list, (show (Value.type "str" == Value.type "list") = false by decide +kernel), (show (Value.type "list" == Value.type "str") = false by decide +kernel), q⟩
  | tuple _ => exact .inr ⟨_, _, rfl, rfl, PySem.TypeEq.meta_tuple, PySem.TypeEq.meta_list, (show (Value.type "tuple" == Value.type "list") = false by decide +kernel), (show (Value.type "list" == Value.type "tuple") = false by decide +kernel), q⟩
  | dict _ => exact .inr ⟨_, _, rfl, rfl, PySem.TypeEq.meta_dict, PySem.TypeEq.meta_list, (show (Value.type "dict" == Value.type "list") = false by decide +kernel), (show (Value.type "list" == Value.type "dict") = false by decide +kernel), q⟩
theorem neTyT {σ : L2.St} {H : Hp} {d : PyData} {Q : VK} (q : Q (.bl (!isT d)) H) : tC (.ty "tuple") σ H (fun y H2 => rNeTyG (.ty (tyD d)) y H2 Q) := by
  show rNeTyG (.ty (tyD d)) (.ty "tuple") H Q
  cases d with
  | tuple ds => exact .inl ⟨_, rfl, rfl, PySem.TypeEq.meta_tuple, q⟩
  | none => exact .inr ⟨_, _, rfl, rfl, PySem.TypeEq.meta_NoneType, PySem.TypeEq.meta_tuple, (show (Value.type "NoneType" == Value.type "tuple") = false by decide +kernel), (show (Value.type "tuple" == Value.type "NoneType") = false by decide +kernel), q⟩
  | bool _ => exact .inr ⟨_, _, rfl, rfl, PySem.TypeEq.meta_bool, PySem.TypeEq.meta_tuple, (show (Value.type "bool" == Value.type "tuple") = false by decide +kernel), (show (Value.type "tuple" == Value.type "bool") = false by decide +kernel), q⟩
  | int _ => exact .inr ⟨_, _, rfl, rfl, PySem.TypeEq.meta_int, PySem.TypeEq.meta_tuple, (show (Value.type "int" == Value.type "tuple") = false by decide +kernel), (show (Value.type "tuple" == Value.type "int") = false by decide +kernel), q⟩
  | str _ => exact .inr ⟨_, _, rfl, rfl, PySem.TypeEq.meta_str, PySem.TypeEq.meta_tuple, (show (Value.type "str" == Value.type "tuple") = false by decide +kernel), (show (Value.type "tuple" == Value.type "str") = false by decide +kernel), q⟩
  | list _ => exact .inr ⟨_, _, rfl, rfl, PySem.TypeEq.meta_list, PySem.TypeEq.meta_tuple, (show (Value.type "list" == Value.type "tuple") = false by decide +kernel), (show (Value.type "tuple" == Value.type "list") = false by decide +kernel), q⟩
  | dict _ => exact .inr ⟨_, _, rfl, rfl, PySem.TypeEq.meta_dict, PySem.TypeEq.meta_tuple, (show (Value.type "dict" == Value.type "tuple") = false by decide +kernel), (show (Value.type "tuple" == Value.type "dict") = false by decide +kernel), q⟩

/-! ### how long the text of a value is -/
mutual
def wt : PyData → Nat
  | .none => 4
  | .bool _ => 5
  | .int i => (Str.ofString (toString i)).length
  | .str x => (reprText x).length
  | .list ds => 2 + wtAll ds
  | .tuple ds => 3 + wtAll ds
  | .dict _ => 2
def wtAll : List PyData → Nat
  | [] => 0
  | d :: ds => wt d + 2 + wtAll ds
end
/-! no dict but the empty one -/
mutual
def nod : PyData → Bool
  | .dict kvs => kvs.isEmpty
  | .list ds => nodAll ds
  | .tuple ds => nodAll ds
  | _ => true
def nodAll : List PyData → Bool
  | [] => true
  | d :: ds => nod d && nodAll ds
end
def sumLen (ts : List Str) : Nat := (ts.map fun t => t.length + 2).sum
theorem textFrom_sum : ∀ (ts : List Str) (k : Nat) (acc : Str), (textFrom k acc ts).length ≤ acc.length + sumLen ts
  | [], k, acc => by
    show acc.length ≤ _
    exact Nat.le_add_right _ _
  | t :: r, k, acc => by
    have z := textFrom_sum r (k + 1) (acc ++ (if k > 0 then ", " else "" : String) ++ t)
    have e : (acc ++ (if k > 0 then ", " else "" : String) ++ t).length ≤ acc.length + 2 + t.length := by
      rw [Str.length_append, Str.length_append]
      by_cases hk : k > 0
      · rw [if_pos hk]
        exact Nat.le_refl _
      · rw [if_neg hk]
        show acc.length + 0 + t.length ≤ _
        omega
    show (textFrom (k + 1) (acc ++ (if k > 0 then ", " else "" : String) ++ t) r).length ≤ acc.length + (t.length + 2 + sumLen r)
    omega
theorem join_sum : ∀ ts : List Str, (Str.join ", " ts).length ≤ sumLen ts
  | [] => Nat.zero_le _
  | [x] => by show x.length ≤ x.length + 2 + 0; omega
  | x :: y :: r => by
    have ih := join_sum (y :: r)
    show (x ++ ", " ++ Str.join ", " (y :: r)).length ≤ x.length + 2 + sumLen (y :: r)
    have e2 : ((", " : String) : Str).length = 2 := rfl
    rw [Str.length_append, Str.length_append, e2]
    omega
mutual
theorem shown_wt : ∀ d : PyData, nod d = true → d.shown.length ≤ wt d
  | .none, _ => by decide
  | .bool b, _ => by cases b <;> decide
  | .int i, _ => Nat.le_refl _
  | .str x, _ => Nat.le_refl _
  | .list ds, h => by
    have z := textFrom_sum (PyData.shownAll ds) 0 "["
    have z2 := shownAll_wt ds h
    show (textFrom 0 "[" (PyData.shownAll ds) ++ ("]" : Str)).length ≤ 2 + wtAll ds
    rw [Str.length_append]
    have e1 : ("[" : Str).length = 1 := rfl
    have e2 : ("]" : Str).length = 1 := rfl
    omega
  | .tuple ds, h => by
    have z := join_sum (PyData.shownAll ds)
    have z2 := shownAll_wt ds h
    show (("(" : Str) ++ Str.join ", " (PyData.shownAll ds) ++ (if (PyData.shownAll ds).length == 1 then ",)" else ")" : String)).length ≤ 3 + wtAll ds
    rw [Str.length_append, Str.length_append]
    have e1 : ("(" : Str).length = 1 := rfl
    have e2 : (((if (PyData.shownAll ds).length == 1 then ",)" else ")" : String)) : Str).length ≤ 2 := by split <;> decide
    omega
  | .dict kvs, h => by
    cases kvs with
    | nil => decide
    | cons _ _ => cases h
theorem shownAll_wt : ∀ ds : List PyData, nodAll ds = true → sumLen (PyData.shownAll ds) ≤ wtAll ds
  | [], _ => Nat.le_refl _
  | d :: ds, h => by
    have h : (nod d && nodAll ds) = true := h
    rw [Bool.and_eq_true] at h
    have a := shown_wt d h.1
    have b := shownAll_wt ds h.2
    show d.shown.length + 2 + sumLen (PyData.shownAll ds) ≤ wt d + 2 + wtAll ds
    omega
end
/-- data that is to be shown: its text, its depth -/
structure Bd (m k : Nat) (d : PyData) : Prop where
  w : wt d ≤ m
  dp : d.depth ≤ k
  s : d.showable = true
  n : nod d = true
structure BdAll (m k : Nat) (ds : List PyData) : Prop where
  w : wtAll ds ≤ m
  dp : PyData.depthAll ds ≤ k
  s : PyData.showableAll ds = true
  n : nodAll ds = true
theorem Bd.mono {m k m' k' : Nat} {d : PyData} (h : Bd m k d) (a : m ≤ m') (b : k ≤ k') : Bd m' k' d := ⟨Nat.le_trans h.w a, Nat.le_trans h.dp b, h.s, h.n⟩
theorem BdAll.mono {m k m' k' : Nat} {d : List PyData} (h : BdAll m k d) (a : m ≤ m') (b : k ≤ k') : BdAll m' k' d := ⟨Nat.le_trans h.w a, Nat.le_trans h.dp b, h.s, h.n⟩
theorem Bd.list {m k : Nat} {ds : List PyData} (h : BdAll m k ds) : Bd (2 + m) (k + 1) (.list ds) := ⟨Nat.add_le_add_left h.w 2, Nat.succ_le_succ h.dp, h.s, h.n⟩
theorem Bd.tuple {m k : Nat} {ds : List PyData} (h : BdAll m k ds) : Bd (3 + m) (k + 1) (.tuple ds) := ⟨Nat.add_le_add_left h.w 3, Nat.succ_le_succ h.dp, h.s, h.n⟩
theorem BdAll.nil {k : Nat} : BdAll 0 k [] := ⟨Nat.le_refl _, Nat.zero_le _, rfl, rfl⟩
theorem BdAll.cons {m n k : Nat} {d : PyData} {ds : List PyData} (h : Bd m k d) (g : BdAll n k ds) : BdAll (m + 2 + n) k (d :: ds) := by
  refine ⟨?_, Nat.max_le.mpr ⟨h.dp, g.dp⟩, ?_, ?_⟩
  · show wt d + 2 + wtAll ds ≤ _
    have := h.w
    have := g.w
    omega
  · show (d.showable && PyData.showableAll ds) = true
    rw [h.s, g.s]
    rfl
  · show (nod d && nodAll ds) = true
    rw [h.n, g.n]
    rfl
theorem BdAll.app {m n k : Nat} {as bs : List PyData} (h : BdAll m k as) (g : BdAll n k bs) : BdAll (m + n) k (as ++ bs) := by
  induction as generalizing m with
  | nil => exact g.mono (Nat.le_add_left _ _) (Nat.le_refl _)
  | cons d r ih =>
    obtain ⟨h1, h2, h3, h4⟩ := h
    have h3 : (d.showable && PyData.showableAll r) = true := h3
    have h4 : (nod d && nodAll r) = true := h4
    rw [Bool.and_eq_true] at h3 h4
    have h2 : max d.depth (PyData.depthAll r) ≤ k := h2
    have h1 : wt d + 2 + wtAll r ≤ m := h1
    have z := ih (m := wtAll r) ⟨Nat.le_refl _, Nat.le_trans (Nat.le_max_right _ _) h2, h3.2, h4.2⟩
    refine (BdAll.cons (m := wt d) ⟨Nat.le_refl _, Nat.le_trans (Nat.le_max_left _ _) h2, h3.1, h4.1⟩ z).mono (by omega) (Nat.le_refl _)
theorem BdAll.sub {m k : Nat} {as bs : List PyData} (h : BdAll m k bs) (s : as.Sublist bs) : BdAll m k as := by
  induction s generalizing m with
  | slnil => exact h
  | cons d _ ih =>
    obtain ⟨h1, h2, h3, h4⟩ := h
    have h3 : (d.showable && _) = true := h3
    have h4 : (nod d && _) = true := h4
    rw [Bool.and_eq_true] at h3 h4
    have h1 : wt d + 2 + _ ≤ m := h1
    exact ih ⟨by omega, Nat.le_trans (Nat.le_max_right _ _) h2, h3.2, h4.2⟩
  | @cons_cons l1 l2 d _ ih =>
    obtain ⟨h1, h2, h3, h4⟩ := h
    have h3 : (d.showable && _) = true := h3
    have h4 : (nod d && _) = true := h4
    rw [Bool.and_eq_true] at h3 h4
    have h1 : wt d + 2 + wtAll l2 ≤ m := h1
    have z := ih (m := wtAll l2) ⟨Nat.le_refl _, Nat.le_trans (Nat.le_max_right _ _) h2, h3.2, h4.2⟩
    exact (BdAll.cons (m := wt d) ⟨Nat.le_refl _, Nat.le_trans (Nat.le_max_left _ _) h2, h3.1, h4.1⟩ z).mono (by omega) (Nat.le_refl _)
theorem BdAll.get {m k : Nat} {ds : List PyData} (h : BdAll m k ds) {d : PyData} (hd : d ∈ ds) : Bd m k d := by
  induction ds generalizing m with
  | nil => cases hd
  | cons x r ih =>
    obtain ⟨h1, h2, h3, h4⟩ := h
    have h3 : (x.showable && _) = true := h3
    have h4 : (nod x && _) = true := h4
    rw [Bool.and_eq_true] at h3 h4
    have h1 : wt x + 2 + wtAll r ≤ m := h1
    rcases List.mem_cons.mp hd with rfl | hd
    · exact ⟨by omega, Nat.le_trans (Nat.le_max_left _ _) h2, h3.1, h4.1⟩
    · exact ih ⟨by omega, Nat.le_trans (Nat.le_max_right _ _) h2, h3.2, h4.2⟩ hd
/-- the text of a number of at most so many digits -/
theorem bd_int {i : Int} {k : Nat} (h : i.natAbs < 10 ^ 31) : Bd 40 k (.int i) := by
  have hb : i.natAbs < 2 ^ 110 := Nat.lt_trans h (by decide)
  have hl : i.natAbs.log2 < 1920 := Nat.lt_of_lt_of_le (PySem.Flt.log2_lt_of (by decide) hb) (by decide)
  refine ⟨?_, Nat.zero_le _, by show decide (i.natAbs.log2 < 1920) = true; exact decide_eq_true hl, rfl⟩
  show (Str.ofString (toString i)).length ≤ 40
  have z := PySem.int_text_length_le10 (a := i) (k := 31) (by decide) h
  rw [PySem.ofString_length]
  omega
theorem bd_ints {k m : Nat} : ∀ {ns : List Int}, (∀ n ∈ ns, n.natAbs < 10 ^ 31) → ns.length ≤ m → BdAll (m * 42) k (ns.map PyData.int)
  | [], _, _ => BdAll.nil.mono (Nat.zero_le _) (Nat.le_refl _)
  | n :: r, h, hm => by
    have hm : r.length + 1 ≤ m := hm
    have z := bd_ints (k := k) (m := r.length) (ns := r) (fun x hx => h x (List.mem_cons_of_mem _ hx)) (Nat.le_refl _)
    exact (BdAll.cons (bd_int (k := k) (h n List.mem_cons_self)) z).mono (by omega) (Nat.le_refl _)
/-! ### repr of any value -/
def rReprO (K : PySem.W.Frag) : List V → Hp → VK → Prop := fun xs H Q => ∃ (v : V) (d : PyData), xs = [v] ∧ Ox K H v d ∧ Bd 10000000 60 d ∧ Q (.str d.shown) H
theorem call_reprO {X : Cx} (hg : X.A.guards = some []) (hu : X.A.units + 64 < cLine) : CallR X (.builtin "repr") (rReprO X.K) := by
  intro pins s σ H xs us Q I r h
  obtain ⟨v, d, rfl, hv, hb, q⟩ := h
  obtain ⟨u, rfl, rx⟩ := vals1 r
  have hl : d.shown.length ≤ sizeLine := Nat.le_trans (Nat.le_trans (shown_wt d hb.n) hb.w) (by decide)
  have hdp := hb.dp
  have hs := hb.s
  cases hv with
  | non =>
    cases (show u = Value.none from rx)
    exact call_repr_gives (T := "NoneType") rfl F.slot_NoneType_repr F.entry_NoneType_repr (F.args_NoneType_repr_1 _) gives_none_repr ⟨.str _, H, I.tok _, ⟨_, rfl⟩, q⟩ (hx := by decide)
  | bl b =>
    cases (show u = Value.bool b from rx)
    exact PySem.P.repr_of_bool ⟨.str _, H, I.tok _, ⟨_, rfl⟩, by cases b <;> exact q⟩
  | int i =>
    obtain ⟨t, rfl⟩ := (show ∃ t, u = Value.int i t from rx)
    exact PySem.P.repr_of_int (of_decide_eq_true hs) ⟨.str _, H, I.tok _, ⟨_, rfl⟩, q⟩
  | str x =>
    obtain ⟨t, rfl⟩ := (show ∃ t, u = Value.str x t from rx)
    exact PySem.P.repr_of_str ⟨.str _, H, I.tok _, ⟨_, rfl⟩, q⟩ hl
  | @lst a xs ds hL ha =>
    cases (show u = Value.ref _ from rx)
    obtain ⟨its, rv, ⟨o, n, ho, hc, _, hd⟩, _⟩ := I.list hL
    have len : (PySem.listText (PyData.shownAll ds)).length ≤ sizeLine := hl
    have hdp : PyData.depthAll ds + 1 ≤ 60 := hdp
    obtain ⟨bs, as, ra, rb, rk⟩ := Ox.rkAll I ds xs its ha rv hs (fun t ht => Nat.le_trans (PySem.listText_mem_le ht) len)
    have rr := Reads.list ho hc hd ra
    have fresh : a ∉ bs := PySem.not_mem_of_deeper rr (Nat.lt_succ_self (PyData.depthAll ds)) rb
    refine PySem.call_repr_slot (T := "list") (idr := "list.__repr__") (by omega) ⟨o, ho, hc⟩ PySem.F.slot_list_repr.toG ?_
    cases its with
    | nil =>
      cases ra
      refine PySem.call_list_repr_empty ⟨o, ho, hc⟩ ho hd ⟨_, _, rfl, .str _, H, I.tok _, ⟨_, rfl⟩, ?_⟩
      have q : Q (.str (PySem.listText [])) H := q
      rw [PySem.listText_nil] at q
      exact q
    | cons y l => exact PySem.call_list_reprK ho hc hd fresh (by simpa using rk.length_eq) (fun i z e => rk.item i z (by simpa using e)) hg (fun b _ => PySem.Clear.nil b) (by show X.A.units + 1 + (PyData.depthAll ds + 1) < cLine; omega) (fun _ _ e => e) (fun h' t tk hk => ⟨_, _, rfl, .str _, H, I.kept hk, ⟨t, rfl⟩, q⟩) len
  | @tup a xs ds hT ha =>
    cases (show u = Value.ref _ from rx)
    obtain ⟨its, rv, ⟨o, ho, hc, n, hd⟩, _⟩ := I.tuple hT
    have len : (PySem.tupleText (PyData.shownAll ds)).length ≤ sizeLine := hl
    have hdp : PyData.depthAll ds + 1 ≤ 60 := hdp
    obtain ⟨bs, as, ra, rb, rk⟩ := Ox.rkAll I ds xs its ha rv hs (fun t ht => Nat.le_trans (PySem.tupleText_mem_le ht) len)
    have rr := Reads.tuple ho hc hd ra
    have fresh : a ∉ bs := PySem.not_mem_of_deeper rr (Nat.lt_succ_self (PyData.depthAll ds)) rb
    refine PySem.call_repr_slot (T := "tuple") (idr := "tuple.__repr__") (by omega) ⟨o, ho, hc⟩ PySem.F.slot_tuple_repr ?_
    exact PySem.call_tuple_reprK ho hc hd fresh rk hg (fun b _ => PySem.Clear.nil b) (by show X.A.units + 1 + (PyData.depthAll ds + 1) < cLine; omega) (fun _ _ e => e) (fun h' t tk hk => ⟨_, _, rfl, .str _, H, I.kept hk, ⟨t, rfl⟩, q⟩) len
  | @dct a ha =>
    cases (show u = Value.ref _ from rx)
    obtain ⟨o, es, ep, e1, ec, ed, e0, hns⟩ := Ox.dctAt I ha
    refine PySem.call_repr_slot (T := "dict") (idr := "dict.__repr__") (by omega) ⟨o, e1, ec⟩ PySem.F.slot_dict_repr ?_
    exact PySem.call_dict_reprK (d := 0) (as := []) e1 ec ed hns List.not_mem_nil (by rw [e0]; exact PySem.ReprEntriesK.of_two [] [] [] .nil .nil) hg (fun b _ => PySem.Clear.nil b) (by show X.A.units + 1 + (0 + 1) < cLine; omega) (fun _ _ e => e) (fun h' t tk hk => ⟨_, _, rfl, .str _, H, I.kept hk, ⟨t, rfl⟩, q⟩) (by decide)
end Lp
set_option Elab.async false
set_option linter.all false
set_option maxRecDepth 100000
set_option maxHeartbeats 1000000
namespace Lp
open PySem PySem.Spec PyProof.Rows L2
/-! ### a weaker promise of the same def -/
section
variable {P : Program} {w : World} {K : PySem.W.Frag} {mg : Str → Option Value} {base : Heap} {k : Nat} {x : Str} {sp sp' : Sp}
theorem FnOk.weak {CX : CXT} {f : Addr} {fd : FuncData} {ps : List Str} (F : FnOk P w K mg base CX k f fd ps sp) (h : ∀ vs H Q E, sp' vs H Q E → sp vs H Q E) : FnOk P w K mg base CX k f fd ps sp' :=
  ⟨fun vs H Q E s => F.len vs H Q E (h _ _ _ _ s), fun A out s H ar us vs Q E r e b v s1 => F.run A out s H ar us vs Q E r e b v (h _ _ _ _ s1)⟩
theorem FnG.weak {CX : CXT} {f : Addr} {fd : FuncData} {ps : List Str} (F : FnG P w K mg base CX k f fd ps sp) (h : ∀ vs H Q E, sp' vs H Q E → sp vs H Q E) : FnG P w K mg base CX k f fd ps sp' :=
  ⟨fun vs H Q E s => F.len vs H Q E (h _ _ _ _ s), fun A out s H ar us vs Q E g r e b v s1 => F.runG A out s H ar us vs Q E g r e b v (h _ _ _ _ s1)⟩
theorem cal_weak (c : Cal P w K mg base k x sp) (h : ∀ vs H Q E, sp' vs H Q E → sp vs H Q E) : Cal P w K mg base k x sp' := by
  obtain ⟨f, fd, ps, F, r⟩ := c.ex
  exact ⟨f, fd, ps, Lp.FnOk.weak F h, r⟩
theorem gc_weak (c : Gc P w K mg base k x sp) (h : ∀ vs H Q E, sp' vs H Q E → sp vs H Q E) : Gc P w K mg base k x sp' := by
  obtain ⟨f, fd, ps, F, r⟩ := c.ex
  exact ⟨f, fd, ps, Lp.FnG.weak F h, r⟩
end
/-! ### len(set(xs)), xs a list of ints -/
theorem firstMet_le (ns : List Int) : ∀ i : Nat, i ≤ ns.length → (PyProof.Rows.firstMet (fun j => ns.getD j 0) i).length ≤ i ∧ ((PyProof.Rows.firstMet (fun j => ns.getD j 0) i).length = i → PyProof.Rows.firstMet (fun j => ns.getD j 0) i = ns.take i ∧ (ns.take i).Nodup)
  | 0, _ => ⟨Nat.le_refl _, fun _ => ⟨by rw [List.take_zero]; rfl, by rw [List.take_zero]; exact List.nodup_nil⟩⟩
  | i + 1, h => by
    obtain ⟨h1, h2⟩ := firstMet_le ns i (by omega)
    have hlt : i < ns.length := h
    have e : ns.getD i 0 = ns[i] := by rw [List.getD_eq_getElem?_getD, List.getElem?_eq_getElem hlt] <;> rfl
    have st : PyProof.Rows.firstMet (fun j => ns.getD j 0) (i + 1) = if (PyProof.Rows.firstMet (fun j => ns.getD j 0) i).any (· == ns.getD i 0) = true then PyProof.Rows.firstMet (fun j => ns.getD j 0) i else PyProof.Rows.firstMet (fun j => ns.getD j 0) i ++ [ns.getD i 0] := by
      rw [PyProof.Rows.firstMet_succ]
      rfl
    rw [st]
    by_cases c : (PyProof.Rows.firstMet (fun j => ns.getD j 0) i).any (· == ns.getD i 0) = true
    · rw [if_pos c]
      exact ⟨by omega, fun z => by omega⟩
    · rw [if_neg c, List.length_append]
      refine ⟨by show _ + 1 ≤ _; omega, fun z => ?_⟩
      have z : (PyProof.Rows.firstMet (fun j => ns.getD j 0) i).length + 1 = i + 1 := z
      obtain ⟨a, b⟩ := h2 (by omega)
      have t : ns.take (i + 1) = ns.take i ++ [ns[i]] := take_get (List.getElem?_eq_getElem hlt)
      rw [a, e] at c
      rw [a, e, t]
      refine ⟨rfl, List.nodup_append.mpr ⟨b, List.nodup_cons.mpr ⟨List.not_mem_nil, List.nodup_nil⟩, fun x hx y hy q => c ?_⟩⟩
      rw [List.mem_singleton] at hy
      subst hy
      subst q
      exact List.any_eq_true.mpr ⟨_, hx, beq_self_eq_true _⟩
theorem firstMet_len (ns : List Int) : (PyProof.Rows.firstMet (fun j => ns.getD j 0) ns.length).length = ns.length ↔ ns.Nodup := by
  constructor
  · intro h
    have := ((firstMet_le ns ns.length (Nat.le_refl _)).2 h).2
    rwa [List.take_length] at this
  · intro h
    rw [RZ.firstMet_nodup h ns.length (Nat.le_refl _), List.take_length]
def tLenSetG (K : PySem.W.Frag) (ta : TE) : TE := fun σ H Q => ta σ H fun x H1 => ∃ (l : Addr) (ns : List Int), x = .ref l ∧ SqL K H1 l (ns.map V.int) ∧ ns.length ≤ 4000 ∧ ∀ c : Nat, (c = ns.length ↔ ns.Nodup) → Q (.int (c : Int)) H1
theorem pe_lenSetG {X : Cx} {a : Expr} {ta : TE} {p p2 q pos : Pos} (hg : Gl X "len") (hm : X.mg "len" = none) (hg2 : Gl X "set") (hm2 : X.mg "set" = none) (ha : PE X a ta) (hc : X.calm = true := by rfl)
    (na : starEach [a] X.env = (false, eval a X.env) :: starEach [] X.env := by rfl) : PE X (.Call (.Name "len" p) [.Call (.Name "set" p2) [a] [] q] [] pos) (tLenSetG X.K ta) := by
  refine ⟨fun pins s σ H Q I h => ?_⟩
  refine Call_ (ld_blt I hg hm boot_len ?_)
  refine PyProof.Rows.callWith_builtin1 (PyProof.Rows.args_cons ?_ rfl) rfl rfl
  refine Call_ (ld_blt I hg2 hm2 boot_set ?_)
  refine PyProof.Rows.callWith_type1 (PyProof.Rows.args_cons (thn (ha.run pins s σ H _ I h) fun v s1 ⟨x, H1, I1, r1, q1⟩ => PyProof.Rows.args_nil ?_) na) na rfl
  obtain ⟨l, ns, rfl, hq, hl, q1⟩ := q1
  cases r1
  obtain ⟨its, r, pl, hz⟩ := I1.list hq
  have hlen : its.toArray.size = ns.length := by rw [List.size_toArray, ← r.length, List.length_map]
  refine call_set_list (I1.ok.hd hc) pl.isList (by simpa using RZ.intsAre_vals r) (by rw [hlen]; unfold scanBound; omega) fun h' tk hS hk => ?_
  refine PyProof.Rows.args_nil ?_
  rw [hlen] at hS
  have hc2 := firstMet_len ns
  have hc3 := (firstMet_le ns ns.length (Nat.le_refl _)).1
  obtain ⟨o, es, ep, t, ho, hex, hd, _, _, _, hf, hn⟩ := hS
  have I2 : Inv X pins σ H1 { s1 with heap := h', toks := tk } := I1.kept fun b o e => hk b o (Heap.lt_size e) e
  exact call_len_set ho hex hd hf (by rw [hn] <;> omega) ⟨.int ((PyProof.Rows.firstMet (fun j => ns.getD j 0) ns.length).length : Nat), H1, I2.tok _, ⟨_, by rw [hn]⟩, q1 _ hc2⟩
/-! ### xs != [] -/
def rNeNil (K : PySem.W.Frag) : R2 := fun x y H Q => ∃ (a b : Addr) (xs : List V), x = .ref a ∧ y = .ref b ∧ SqL K H a xs ∧ SqL K H b [] ∧ Q (.bl (!xs.isEmpty)) H
theorem op_neNil {X : Cx} (hu : X.A.units + 64 < cLine) : OpR X (compareOp .NotEq) (rNeNil X.K) := by
  intro pins s σ H x y v u Q I rx ry h
  obtain ⟨a, b, xs, rfl, rfl, ha, hb, q⟩ := h
  cases (show v = Value.ref a from rx)
  cases (show u = Value.ref b from ry)
  obtain ⟨its, r1, p1, _⟩ := I.list ha
  obtain ⟨jts, r2, p2, _⟩ := I.list hb
  cases r2
  cases xs with
  | nil =>
    cases r1
    have e : (!PyData.eqv (dI []) (dI [])) = false := rfl
    exact op_neD hu pins s σ H (.ref a) (.ref b) _ _ Q I rfl rfl ⟨dI [], dI [], dp_ints (ns := []) ha, dp_ints (ns := []) hb, shaped_ints [], shaped_ints [], q⟩
  | cons z zs =>
    cases r1 with
    | cons r rr =>
      exact PySem.SeqAt.RcNeAt.lists_lengths p1.isList p2.isList rfl (by omega) X.prog X.w X.xe _ ⟨.bl true, H, I, rfl, q⟩
/-! ### set(xs) of more than a thousand -/
def rSetLH (K : PySem.W.Frag) (w : World) : List V → Hp → VK → Prop := fun xs H Q => ∃ (a : Addr) (ns : List Int), xs = [V.ref a] ∧ SqL K H a (ns.map V.int) ∧ ns.length ≤ 4000 ∧ ∀ (p : Addr) (c : Nat), H p = none → c ≤ ns.length → Q (.ref p) (upd H p (SetO w p (fun j => decide (j ∈ ns)) c))
theorem cr_setLH {X : Cx} (hc : X.calm = true) : CallR X (.type "set") (rSetLH X.K X.w) := by
  intro pins s σ H xs us Q I r h
  obtain ⟨a, ns, rfl, hq, hl, q⟩ := h
  cases r with
  | cons r rr =>
    cases rr
    cases (show _ = Value.ref a from r)
    obtain ⟨its, rv, p, _⟩ := I.list hq
    refine call_set_listI ns (I.ok.hd hc) p.isList (RZ.intsAre_vals rv) (Nat.lt_of_le_of_lt (Nat.succ_le_succ hl) (by decide)) fun h' tk c hs hcn hk => ?_
    refine ⟨.ref _, upd H _ (SetO X.w s.heap.objs.size (fun j => decide (j ∈ ns)) c), I.laid hk (Nat.le_refl _) ⟨hs, ?_, fun h1 h2 x k => ?_⟩, rfl, q _ c (I.hok.fresh (Nat.le_refl _)) hcn⟩
    · obtain ⟨o, _, _, _, e, _⟩ := hs
      exact ⟨o, e⟩
    · obtain ⟨o, es, ep, t, e, r⟩ := x
      exact ⟨o, es, ep, t, k o e, r⟩
theorem num_len3 : ∀ n : Int, -999 ≤ n → n ≤ 999 → (Str.ofString (toString n)).length ≤ 4 := by
  intro n h0 h1
  have key : ∀ i : Fin 1999, (Str.ofString (toString ((i.val : Int) - 999))).length ≤ 4 := by decide +kernel
  have e := key ⟨(n + 999).toNat, by omega⟩
  have e2 : (((n + 999).toNat : Nat) : Int) - 999 = n := by omega
  rw [e2] at e
  exact e
end Lp
namespace Lp
open PySem PySem.Spec PyProof.Rows L2
/-! ### != of equal lists of texts -/
def rNeStrs (K : PySem.W.Frag) : R2 := fun x y H Q => ∃ (a b : Addr) (zs : List Str), x = .ref a ∧ y = .ref b ∧ SqL K H a (zs.map V.str) ∧ SqL K H b (zs.map V.str) ∧ Q (.bl false) H
theorem op_neStrs {X : Cx} (hu : X.A.units + 64 < cLine) : OpR X (compareOp .NotEq) (rNeStrs X.K) := by
  intro pins s σ H x y v u Q I rx ry h
  obtain ⟨a, b, zs, rfl, rfl, ha, hb, q⟩ := h
  cases (show v = Value.ref a from rx)
  cases (show u = Value.ref b from ry)
  obtain ⟨its, r1, p1, _⟩ := I.list ha
  obtain ⟨jts, r2, p2, _⟩ := I.list hb
  have l1 := r1.length
  have l2 := r2.length
  refine PySem.SeqAt.RcNeAt.lists (e := fun _ => true) p1.isList p2.isList (by simp; omega) (by omega) (fun j h1 h2 => ?_) X.prog X.w X.xe _ ?_
  · have g1 : j < its.length := by simpa using h1
    have g2 : j < jts.length := by simpa using h2
    have gz : (zs.map V.str)[j]? = some (.str (zs[j]'(by rw [List.length_map] at l1; omega))) := by rw [List.getElem?_map, List.getElem?_eq_getElem (by rw [List.length_map] at l1; omega)]; rfl
    obtain ⟨u1, e1, t1, q1⟩ := r1.get gz
    obtain ⟨u2, e2, t2, q2⟩ := r2.get gz
    rw [List.getElem?_eq_getElem g1] at e1
    rw [List.getElem?_eq_getElem g2] at e2
    have f1 : its.toArray[j] = u1 := by simpa using Option.some.inj e1
    have f2 : jts.toArray[j] = u2 := by simpa using Option.some.inj e2
    rw [f1, f2, q1, q2]
    have z := PySem.SeqAt.EqAt.str_str (A := X.A.in1) (s := s) (zs[j]'(by rw [List.length_map] at l1; omega)) t1 (zs[j]'(by rw [List.length_map] at l1; omega)) t2
    rw [beq_self_eq_true] at z
    exact z
  · have e : (!(List.range its.toArray.size).all fun _ => true) = false := by simp
    rw [e]
    exact ⟨.bl false, H, I, rfl, q⟩
end Lp
set_option Elab.async false
set_option linter.all false
set_option maxRecDepth 100000
set_option maxHeartbeats 1000000
namespace Lp
open PySem PySem.Spec PyProof.Rows L2
/-! ### isinstance(e, (C1, C2, ..)) of the exception that is held -/
def rIsPT (K : PySem.W.Frag) (p : Addr × Obj) : List V → Hp → VK → Prop := fun xs H Q => ∃ (D tp : Addr) (cs : List V) (us : List Value) (b : Bool), xs = [.ref p.1, .ref tp] ∧ H tp = some (.tup cs) ∧ Paired ClsV cs us ∧ Zc (.ref D) none p.2 ∧ (∃ vs, p.2.data = .fields vs) ∧ ExcC K D ∧ PySem.W.kitAny K (.ref D) us = some b ∧ Q (.bl b) H
theorem call_isPT {X : Cx} {p : Addr × Obj} (hp : p ∈ X.pn) : CallR X (.builtin "isinstance") (rIsPT X.K p) := by
  intro pins s σ H xs us Q I r h
  obtain ⟨D, tp, cs, ws, b, rfl, hT, k, hz, ⟨vs, hv⟩, C, e, q⟩ := h
  obtain ⟨u1, u2, rfl, r1, r2⟩ := vals2 r
  cases (show u1 = Value.ref p.1 from r1)
  cases (show u2 = Value.ref tp from r2)
  have hget := (I.pin p (List.mem_append_left _ hp)).1
  obtain ⟨a, oe⟩ := p
  have J : PySem.W.InstAt s.heap a oe D none := by
    obtain ⟨oc, od, oda, osl⟩ := oe
    obtain ⟨h1, h2⟩ := hz
    dsimp only at h1 h2 hv
    subst h1 h2 hv
    exact ⟨hget, rfl, rfl, trivial⟩
  obtain ⟨_, its, rv, o, h1, h2, n, h3⟩ := (show ObjOk X.prog X.w H s.heap tp (.tup cs) from I.hok tp _ hT)
  have e3 := ClsV.all k rv
  subst e3
  obtain ⟨oc, od, dt, sl⟩ := o
  simp only at h2 h3
  subst h2 h3
  exact PySem.W.kia_tup (PySem.W.handS_kitx_exc C.hg C.hk C.hs C.hd C.ha C.hn C.ht C.hm) I.kIn J h1 e (fun z => nomatch z) fun tk => ⟨.bl b, H, I.kept (t' := tk) fun _ _ z => z, rfl, q⟩
/-! ### bs.count(b) of bools -/
def isBo (b : Bool) : Value → Bool
  | .bool c => c == b
  | _ => false
theorem bo_count {b : Bool} : ∀ {ys : List Bool} {us : List Value}, Vals (ys.map V.bl) us → us.countP (isBo b) = ys.count b
  | [], _, .nil => rfl
  | y :: ys, _, .cons r t => by
    cases (show _ = Value.bool y from r)
    rw [List.countP_cons, bo_count t, List.count_cons]
    rfl
theorem bo_mem {ys : List Bool} {us : List Value} (h : Vals (ys.map V.bl) us) {u : Value} (hu : u ∈ us) : ∃ c, u = .bool c := by
  obtain ⟨i, hi⟩ := List.mem_iff_getElem?.mp hu
  have hl := h.length
  have li := (List.getElem?_eq_some_iff.mp hi).1
  have g : (ys.map V.bl)[i]? = some (.bl (ys[i]'(by rw [List.length_map] at hl; omega))) := by rw [List.getElem?_map, List.getElem?_eq_getElem (by rw [List.length_map] at hl; omega)]; rfl
  obtain ⟨w, ew, rw'⟩ := h.get g
  rw [hi] at ew
  cases ew
  exact ⟨_, rw'⟩
def rCntB (K : PySem.W.Frag) : V → List V → Hp → VK → Prop := fun x xs H Q => ∃ (p : Addr) (ys : List Bool) (b : Bool), x = .ref p ∧ xs = [.bl b] ∧ SqL K H p (ys.map V.bl) ∧ Q (.int (ys.count b : Nat)) H
theorem mt_lcountB {X : Cx} : MtR X "list.count" (rCntB X.K) := by
  intro pins s σ H x xs v us Q I rx rxs h
  obtain ⟨p, ys, b, rfl, rfl, hs, q⟩ := h
  cases rx
  obtain ⟨u, rfl, ru⟩ := rxs.one
  cases (show u = Value.bool b from ru)
  obtain ⟨its, rv, ⟨⟨cls, dd, data, sl⟩, n, ho, hc, hdn, hd⟩, hlen⟩ := I.list hs
  simp only at hc hd
  subst hc hd
  refine call_meets PySem.F.slot_list_count ⟨_, ho, rfl⟩ PySem.F.entry_list_count (PySem.F.args_list_count_2 _ _)
    (SeqAt.list_countAt p its.toArray n dd sl (.bool b) (isBo b)) ⟨ho, fun y hy => ?_, ?_⟩
  · obtain ⟨c, rfl⟩ := bo_mem rv (by simpa using hy)
    exact PySem.SeqAt.EqAt.bool_bool c b
  · have ec : its.toArray.toList.countP (isBo b) = ys.count b := bo_count rv
    refine ⟨.int (ys.count b : Nat), H, I.tok _, ⟨s.toks, ?_⟩, q⟩
    show Value.int ((its.toArray.toList.countP (isBo b) : Nat) : Int) s.toks = Value.int ((ys.count b : Nat) : Int) s.toks
    rw [ec]
/-! ### == of lists of texts -/
def rEqStrs (K : PySem.W.Frag) : R2 := fun x y H Q => ∃ (a b : Addr) (zs : List Str), x = .ref a ∧ y = .ref b ∧ SqL K H a (zs.map V.str) ∧ SqL K H b (zs.map V.str) ∧ Q (.bl true) H
theorem op_eqStrs {X : Cx} (hu : X.A.units + 64 < cLine) : OpR X (compareOp .Eq) (rEqStrs X.K) := by
  intro pins s σ H x y v u Q I rx ry h
  obtain ⟨a, b, zs, rfl, rfl, ha, hb, q⟩ := h
  cases (show v = Value.ref a from rx)
  cases (show u = Value.ref b from ry)
  obtain ⟨its, r1, p1, _⟩ := I.list ha
  obtain ⟨jts, r2, p2, _⟩ := I.list hb
  have l1 := r1.length
  have l2 := r2.length
  refine PySem.SeqAt.RcAt.lists (e := fun _ => true) p1.isList p2.isList (by simp; omega) (by omega) (fun j h1 h2 => ?_) X.prog X.w X.xe _ ?_
  · have g1 : j < its.length := by simpa using h1
    have g2 : j < jts.length := by simpa using h2
    have gz : (zs.map V.str)[j]? = some (.str (zs[j]'(by rw [List.length_map] at l1; omega))) := by rw [List.getElem?_map, List.getElem?_eq_getElem (by rw [List.length_map] at l1; omega)]; rfl
    obtain ⟨u1, e1, t1, q1⟩ := r1.get gz
    obtain ⟨u2, e2, t2, q2⟩ := r2.get gz
    rw [List.getElem?_eq_getElem g1] at e1
    rw [List.getElem?_eq_getElem g2] at e2
    have f1 : its.toArray[j] = u1 := by simpa using Option.some.inj e1
    have f2 : jts.toArray[j] = u2 := by simpa using Option.some.inj e2
    rw [f1, f2, q1, q2]
    have z := PySem.SeqAt.EqAt.str_str (A := X.A.in1) (s := s) (zs[j]'(by rw [List.length_map] at l1; omega)) t1 (zs[j]'(by rw [List.length_map] at l1; omega)) t2
    rw [beq_self_eq_true] at z
    exact z
  · have e : ((List.range its.toArray.size).all fun _ => true) = true := by simp
    rw [e]
    exact ⟨.bl true, H, I, rfl, q⟩
/-! ### the call of a def that an expression chooses -/
structure FtX (P : Program) (w : World) (K : PySem.W.Frag) (mg : Str → Option Value) (base : Heap) (k : Nat) (f : Addr) (sp : Sp) : Prop where
  ex : ∃ (fd : FuncData) (ps : List Str), FnOk P w K mg base (L2.CX P w) k f fd ps sp ∧ PySem.W.keepIn K (.ref f) = true ∧ Binds K fd ps []
section
variable {X : Cx} {k j : Nat} {pos : Pos} {fe e : Expr} {es : List Expr} {t : TA} {tf : TE} {W : WX}
def tSel (G : Addr → Sp → Prop) (W : WX) (tf : TE) (t : TA) : TE := fun σ H Q => tf σ H fun x H1 => ∃ (f : Addr) (sp : Sp), x = .ref f ∧ G f sp ∧ t σ H1 fun vs H2 => sp vs H2 Q (WE W σ)
theorem pe_sel {G : Addr → Sp → Prop} (hG : ∀ f sp, G f sp → FtX X.prog X.w X.K X.mg X.base k f sp) (hr : Room j X.A) (hk : k ≤ j) (tk : Takes X W) (hf : PE X fe tf) (ha : PA X (e :: es) t)
    (hc : eval (.Call fe (e :: es) [] pos) X.env = (do callWith pos (← eval fe X.env) [] (backTo pos (starEach (e :: es) X.env)) (backToKw pos (keywordEach [] X.env))) := by rfl)
    (he : starEach (e :: es) X.env = (false, eval e X.env) :: starEach es X.env := by rfl) (hpl : (backTo pos (starEach es X.env)).any (·.1) = false := by rfl) : PE X (.Call fe (e :: es) [] pos) (tSel G W tf t) := by
  refine ⟨fun pins s σ H Q I h => ?_⟩
  refine Call_ (thn (hf.run pins s σ H _ I h) fun u s1 ⟨v, H1, I1, r1, f, sp, ev, g, ht⟩ => ?_) hc
  subst ev
  cases (show u = Value.ref f from r1)
  obtain ⟨fd, ps, F, kp, hb⟩ := (hG f sp g).ex
  refine PySem.W.callWith_K (h₀ := X.base) I1.ok.mod.kin kp (thn (ha.run pos pins s1 σ H1 _ I1 ht) fun us s2 ⟨vs, H2, I2, r, q⟩ => ⟨I2.kIn, ?_⟩) he hpl
  exact run_fnS F (hr.mono hk) hb (passAt tk σ) I2 r q
end
end Lp
set_option Elab.async false
set_option linter.all false
set_option maxRecDepth 100000
set_option maxHeartbeats 1000000
namespace Lp
open PySem PySem.Spec PyProof.Rows L2
/-! ### a def that raises nothing, among those that may raise; two promises of one def -/
section
variable {P : Program} {w : World} {K : PySem.W.Frag} {mg : Str → Option Value} {base : Heap} {k j : Nat} {x : Str} {sp sp1 sp2 : Sp}
theorem FnOk.lift {f : Addr} {fd : FuncData} {ps : List Str} (F : FnOk P w K mg base CX0 k f fd ps sp) : FnOk P w K mg base (L2.CX P w) k f fd ps sp :=
  ⟨F.len, fun A out s H ar us vs Q E r e b v h => codeAny_mono (F.run A out s H ar us vs Q E r e b v h) fun r s' hq => by
    cases r with
    | error e => exact False.elim hq
    | ok fl =>
      cases fl with
      | ret u => exact hq
      | next => exact hq
      | brk => exact hq
      | cont => exact hq⟩
def SpOr (a b : Sp) : Sp := fun vs H Q E => a vs H Q E ∨ b vs H Q E
theorem FnOk.or {CX : CXT} {f : Addr} {fd : FuncData} {ps : List Str} (F : FnOk P w K mg base CX k f fd ps sp1) (G : FnOk P w K mg base CX k f fd ps sp2) : FnOk P w K mg base CX k f fd ps (SpOr sp1 sp2) :=
  ⟨fun vs H Q E h => h.elim (F.len _ _ _ _) (G.len _ _ _ _), fun A out s H ar us vs Q E r e b v h => h.elim (F.run A out s H ar us vs Q E r e b v) (G.run A out s H ar us vs Q E r e b v)⟩
theorem FnOk.mono {CX : CXT} {f : Addr} {fd : FuncData} {ps : List Str} (F : FnOk P w K mg base CX k f fd ps sp) (h : k ≤ j) : FnOk P w K mg base CX j f fd ps sp :=
  ⟨F.len, fun A out s H ar us vs Q E r e b v => F.run A out s H ar us vs Q E (r.mono h) e b v⟩
/-! ### calls by keywords of defs that may raise -/
structure CalXk (P : Program) (w : World) (K : PySem.W.Frag) (mg : Str → Option Value) (base : Heap) (k : Nat) (x : Str) (n : Nat) (ks : List Str) (gV : List V → List V → List V) (sp : Sp) : Prop where
  ex : ∃ (f : Addr) (fd : FuncData) (ps : List Str) (g : List Value → List Value → List Value), FnOk P w K mg base (L2.CX P w) k f fd ps sp ∧ mg x = some (.ref f) ∧ PySem.W.keepIn K (.ref f) = true ∧ KBn K fd ps n ks g gV
end
section
variable {X : Cx} {k j : Nat} {x : Str} {p pos : Pos} {kws : List Keyword} {ks : List Str} {tk : TA} {gV : List V → List V → List V}
def tCxK (m : Nat) (sp : Sp) (gV : List V → List V → List V) (W : WX) (tk : TA) : TE := fun σ H Q => tk σ H fun zs H1 => zs.length = m ∧ sp (gV [] zs) H1 Q (WE W σ)
theorem pe_cxk0 {sp : Sp} {W : WX} (c : CalXk X.prog X.w X.K X.mg X.base k x 0 ks gV sp) (hr : Room j X.A) (hk : k ≤ j) (tk' : Takes X W) (hg : Gl X x) (hkw : PK X kws tk)
    (hall : (backToKw pos (keywordEach kws X.env)).all (·.1.isSome) = true := by rfl) (hks : (backToKw pos (keywordEach kws X.env)).filterMap (·.1) = ks := by rfl) (hdb : (x == ("__debug__" : Str)) = false := by decide)
    (hpl : ((backTo pos (starEach [] X.env)).any (·.1) || (backToKw pos (keywordEach kws X.env)).any (·.1.isNone)) = false := by rfl) :
    PE X (.Call (.Name x p) [] kws pos) (tCxK ks.length sp gV W tk) := by
  obtain ⟨f, fd, ps, g, F, hm, kp, hb⟩ := c.ex
  refine ⟨fun pins s σ H Q I h => ?_⟩
  refine wpAny_Call_Name_kw (ld_glob I hg hm ?_ hdb)
  refine PySem.W.callWith_KW0 (h₀ := X.base) I.ok.mod.kin kp hall ?_ hpl
  refine thn (hkw.run pos pins s σ H _ I h) fun ws s2 ⟨zs, H2, I2, rz, l2, q2⟩ => ⟨I2.kIn, ?_⟩
  rw [hks]
  have r2 := hb.rel (.nil : Vals [] []) rz
  refine wpAny_call (codeAny_mono (F.run X.A X.stack s2 H2 ⟨[], ks.zip ws⟩ (g [] ws) (gV [] zs) Q (WE W σ) (hr.mono hk) I2.env0 (hb.to s2 [] ws I2.kIn rfl (rz.length.symm.trans l2)) r2 q2) fun r s' hq => ?_)
  cases r with
  | error e => exact passAt tk' σ pins H2 s2 e s' I2 hq
  | ok fl =>
    cases fl with
    | ret u => exact I2.after hq
    | next => exact False.elim hq
    | brk => exact False.elim hq
    | cont => exact False.elim hq
end
/-! ### great numbers, told -/
theorem bd_big {i : Int} {k : Nat} (h : i.natAbs < 10 ^ 450) : Bd 500 k (.int i) := by
  have hb : i.natAbs < 2 ^ 1500 := Nat.lt_trans h (by decide +kernel)
  have hl : i.natAbs.log2 < 1920 := Nat.lt_of_lt_of_le (PySem.Flt.log2_lt_of (by decide) hb) (by decide)
  refine ⟨?_, Nat.zero_le _, by show decide (i.natAbs.log2 < 1920) = true; exact decide_eq_true hl, rfl⟩
  show (Str.ofString (toString i)).length ≤ 500
  have z := PySem.int_text_length_le10 (a := i) (k := 450) (by decide) h
  rw [PySem.ofString_length]
  omega
end Lp
set_option Elab.async false
set_option linter.all false
set_option maxRecDepth 100000
set_option maxHeartbeats 2000000
namespace Lp
open PySem PySem.Spec PyProof.Rows L2 HotX
/-! ### defs that may raise, the exception's context None -/
section
variable {P : Program} {w : World} {K : PySem.W.Frag} {mg : Str → Option Value} {base : Heap} {k j : Nat} {x : Str} {sp : Sp}
theorem _root_.L2.Fun.okN {x qual : Str} {st : Stmt} {f : Addr} {fd : FuncData} {N ps : List Str} {k : Nat} {sp : Sp} (F : Fun K x qual st f fd) (S : FnScope N ps (defScope st)) (len : ∀ vs H Q E, sp vs H Q E → vs.length = ps.length)
    (hbody : ∀ (cdv : Value) (A : Around) (outer : List Env) (s : Shared) (H : Hp) (vs : List V) (Q : VK) (E : XK), Room k (A.deeper (envOfC qual (defScope st) s.heap.objs.size f cdv)) → sp vs H Q E →
      ∃ t, PSs (cxOf (L2N.CX P w) P w K mg base N qual (defScope st) f cdv A outer s H E) (defBody st) t ∧ t { nx := fun _ H' => Q .non H', rt := Q } (start N vs) H) : FnOk P w K mg base (L2N.CX P w) (k + 1) f fd ps sp := by
  obtain ⟨oc, od, kV, doc, pm, an, cdv, ct, osl, rfl, lk, hcd⟩ := F.ex
  exact fn_of lk hcd S len fun A outer s H vs Q E hr hsp => hbody cdv A outer s H vs Q E hr hsp
theorem FnOk.liftN {f : Addr} {fd : FuncData} {ps : List Str} (F : FnOk P w K mg base CX0 k f fd ps sp) : FnOk P w K mg base (L2N.CX P w) k f fd ps sp :=
  ⟨F.len, fun A out s H ar us vs Q E r e b v h => codeAny_mono (F.run A out s H ar us vs Q E r e b v h) fun r s' hq => by
    cases r with
    | error e => exact False.elim hq
    | ok fl =>
      cases fl with
      | ret u => exact hq
      | next => exact hq
      | brk => exact hq
      | cont => exact hq⟩
structure CalN (P : Program) (w : World) (K : PySem.W.Frag) (mg : Str → Option Value) (base : Heap) (k : Nat) (x : Str) (sp : Sp) : Prop where
  ex : ∃ (f : Addr) (fd : FuncData) (ps : List Str), FnOk P w K mg base (L2N.CX P w) k f fd ps sp ∧ mg x = some (.ref f) ∧ PySem.W.keepIn K (.ref f) = true ∧ Binds K fd ps []
structure CalNk (P : Program) (w : World) (K : PySem.W.Frag) (mg : Str → Option Value) (base : Heap) (k : Nat) (x : Str) (n : Nat) (ks : List Str) (gV : List V → List V → List V) (sp : Sp) : Prop where
  ex : ∃ (f : Addr) (fd : FuncData) (ps : List Str) (g : List Value → List Value → List Value), FnOk P w K mg base (L2N.CX P w) k f fd ps sp ∧ mg x = some (.ref f) ∧ PySem.W.keepIn K (.ref f) = true ∧ KBn K fd ps n ks g gV
end
section
variable {X : Cx} {k j : Nat} {x : Str} {p pos : Pos} {e : Expr} {es : List Expr} {t : TA}
theorem pe_cn {sp : Sp} {W : WX} (c : CalN X.prog X.w X.K X.mg X.base k x sp) (hr : Room j X.A) (hk : k ≤ j) (tk : L2N.Takes X W) (hg : Gl X x) (ha : PA X (e :: es) t)
    (hdb : (x == ("__debug__" : Str)) = false := by decide) (he : starEach (e :: es) X.env = (false, eval e X.env) :: starEach es X.env := by rfl) (hpl : (backTo pos (starEach es X.env)).any (·.1) = false := by rfl) :
    PE X (.Call (.Name x p) (e :: es) [] pos) (tCx sp W t) := by
  obtain ⟨f, fd, ps, F, hm, kp, hb⟩ := c.ex
  refine ⟨fun pins s σ H Q I h => ?_⟩
  refine wpAny_Call_Name_kw (ld_glob I hg hm ?_ hdb)
  refine PySem.W.callWith_K (h₀ := X.base) I.ok.mod.kin kp (thn (ha.run pos pins s σ H _ I h) fun us s1 ⟨vs, H1, I1, r, q⟩ => ⟨I1.kIn, ?_⟩) he hpl
  exact run_fnS F (hr.mono hk) hb (L2N.passAt tk σ) I1 r q
variable {kws : List Keyword} {ks : List Str} {tk : TA} {gV : List V → List V → List V}
theorem pe_cnk0 {sp : Sp} {W : WX} (c : CalNk X.prog X.w X.K X.mg X.base k x 0 ks gV sp) (hr : Room j X.A) (hk : k ≤ j) (tk' : L2N.Takes X W) (hg : Gl X x) (hkw : PK X kws tk)
    (hall : (backToKw pos (keywordEach kws X.env)).all (·.1.isSome) = true := by rfl) (hks : (backToKw pos (keywordEach kws X.env)).filterMap (·.1) = ks := by rfl) (hdb : (x == ("__debug__" : Str)) = false := by decide)
    (hpl : ((backTo pos (starEach [] X.env)).any (·.1) || (backToKw pos (keywordEach kws X.env)).any (·.1.isNone)) = false := by rfl) :
    PE X (.Call (.Name x p) [] kws pos) (tCxK ks.length sp gV W tk) := by
  obtain ⟨f, fd, ps, g, F, hm, kp, hb⟩ := c.ex
  refine ⟨fun pins s σ H Q I h => ?_⟩
  refine wpAny_Call_Name_kw (ld_glob I hg hm ?_ hdb)
  refine PySem.W.callWith_KW0 (h₀ := X.base) I.ok.mod.kin kp hall ?_ hpl
  refine thn (hkw.run pos pins s σ H _ I h) fun ws s2 ⟨zs, H2, I2, rz, l2, q2⟩ => ⟨I2.kIn, ?_⟩
  rw [hks]
  have r2 := hb.rel (.nil : Vals [] []) rz
  refine wpAny_call (codeAny_mono (F.run X.A X.stack s2 H2 ⟨[], ks.zip ws⟩ (g [] ws) (gV [] zs) Q (WE W σ) (hr.mono hk) I2.env0 (hb.to s2 [] ws I2.kIn rfl (rz.length.symm.trans l2)) r2 q2) fun r s' hq => ?_)
  cases r with
  | error e => exact L2N.passAt tk' σ pins H2 s2 e s' I2 hq
  | ok fl =>
    cases fl with
    | ret u => exact I2.after hq
    | next => exact False.elim hq
    | brk => exact False.elim hq
    | cont => exact False.elim hq
end
/-! ### a def that is given the exception that is held, its context None -/
structure FnE2 (P : Program) (w : World) (K : PySem.W.Frag) (mg : Str → Option Value) (base : Heap) (k : Nat) (f : Addr) (fd : FuncData) (ps : List Str) (sp : Addr × Obj → Sp) : Prop where
  len : ∀ p vs H Q E, sp p vs H Q E → vs.length = ps.length
  run : ∀ (p : Addr × Obj) (A : Around) (out : List Env) (s : Shared) (H : Hp) (ar : Args) (us : List Value) (vs : List V) (Q : VK) (E : XK), L2H.RoomH k A → L2H.Hot1 A p → L2H.PinOk out H s p → Env0 P w K mg base A out s H →
    BindsTo s fd ar (ps.zip us) → Vals vs us → sp p vs H Q E → codeAny (model P w) A (.call (.ref f) ar) (CR CX0 out P w H s Q E) s
section
variable {P : Program} {w : World} {K : PySem.W.Frag} {mg : Str → Option Value} {base : Heap}
theorem okE2 {x qual : Str} {st : Stmt} {f : Addr} {fd : FuncData} {N ps : List Str} {k : Nat} {sp : Addr × Obj → Sp} (F : Fun K x qual st f fd) (S : FnScope N ps (defScope st)) (ln : ∀ p vs H Q E, sp p vs H Q E → vs.length = ps.length)
    (hb : ∀ (cdv : Value) (p : Addr × Obj) (A : Around) (out : List Env) (s : Shared) (H : Hp) (vs : List V) (Q : VK) (E : XK), L2H.HotC (L2H.cxH CX0 P w K mg base N qual (defScope st) f cdv A out s H E p) → L2H.RoomH k (A.deeper (envOfC qual (defScope st) s.heap.objs.size f cdv)) → sp p vs H Q E →
      ∃ t, PSs (L2H.cxH CX0 P w K mg base N qual (defScope st) f cdv A out s H E p) (defBody st) t ∧ t { nx := fun _ H' => Q .non H', rt := Q } (start N vs) H) : FnE2 P w K mg base (k + 1) f fd ps sp := by
  obtain ⟨oc, od, kV, doc, pm, an, cdv, ct, osl, rfl, lk, hcd⟩ := F.ex
  refine ⟨ln, fun p A out s H ar us vs Q E room hot hpin en bd rv hs => ?_⟩
  have KX : K.In s.heap := en.mod.kin.keeps fun b o e => (en.bs b o e).1
  have nl : s.heap.NoLimit := en.mod.nolimit.keeps fun b o e => (en.bs b o e).1
  have kd : ∀ y ∈ ps.zip us, (defScope st).names.lookup y.1 = some .local ∨ ((defScope st).names.lookup y.1 = some .cell ∧ ((cellsFrom (s.heap.objs.size + 1) (defScope st).names []).lookup y.1).isSome = true) := by
    rintro ⟨n, v⟩ hy
    have hm := (List.of_mem_zip hy).1
    exact (S.par n hm).elim (fun q => .inl q) fun q => .inr ⟨q, PySem.W.cellsFrom_some _ _ _ (.inl q)⟩
  refine codeAny_call_function room.depth (KX _ _ lk) rfl S.co S.gen rfl (PySem.W.codeRec_of KX hcd) (bd _ _ _ _ ?_)
  refine wpAny_newFunctionEnv_cells S.kind kd fun e1 he s1 x => ?_
  subst he
  refine ⟨nl.keeps x.toInCall.keep, codeAny_func ?_⟩
  obtain ⟨t, ht, hq⟩ := hb cdv p A out s H vs Q E ⟨p, hot, List.mem_cons_self⟩ (room.deeper _) hs
  have J0 : Inv (L2H.cxH CX0 P w K mg base N qual (defScope st) f cdv A out s H E p) [] (start N vs) H s1 := L2H.inv_startH S hpin en (ln _ _ _ _ _ hs) rv x
  refine wpAny_mono (ht.run [] s1 (start N vs) H _ J0 hq) (fun fl s' h3 => ?_) fun _ _ h3 => h3
  cases fl with
  | ret u => exact let ⟨v, _, H', J, r2, q⟩ := h3; ⟨v, H', J.os, J.bare, J.base, J.hok, r2, q⟩
  | next => exact let ⟨_, H', J, q⟩ := h3; ⟨.non, H', J.os, J.bare, J.base, J.hok, rfl, q⟩
  | brk => exact (let ⟨_, _, _, q⟩ := h3; q : False).elim
  | cont => exact (let ⟨_, _, _, q⟩ := h3; q : False).elim
structure CalE2 (P : Program) (w : World) (K : PySem.W.Frag) (mg : Str → Option Value) (base : Heap) (k : Nat) (x : Str) (sp : Addr × Obj → Sp) : Prop where
  ex : ∃ (f : Addr) (fd : FuncData) (ps : List Str), FnE2 P w K mg base k f fd ps sp ∧ mg x = some (.ref f) ∧ PySem.W.keepIn K (.ref f) = true ∧ Binds K fd ps []
end
section
variable {X : Cx} {k j : Nat} {x : Str} {p pos : Pos} {e : Expr} {es : List Expr} {t : TA}
theorem pe_ce2 {sp : Addr × Obj → Sp} {pr : Addr × Obj} (c : CalE2 X.prog X.w X.K X.mg X.base k x sp) (hr : L2H.RoomH k X.A) (hot : L2H.Hot1 X.A pr) (hp : pr ∈ X.pn) (hg : Gl X x) (ha : PA X (e :: es) t)
    (hdb : (x == ("__debug__" : Str)) = false := by decide) (he : starEach (e :: es) X.env = (false, eval e X.env) :: starEach es X.env := by rfl) (hpl : (backTo pos (starEach es X.env)).any (·.1) = false := by rfl) :
    PE X (.Call (.Name x p) (e :: es) [] pos) (tCe sp pr t) := by
  obtain ⟨f, fd, ps, F, hm, kp, hb⟩ := c.ex
  refine ⟨fun pins s σ H Q I h => ?_⟩
  refine wpAny_Call_Name_kw (ld_glob I hg hm ?_ hdb)
  refine PySem.W.callWith_K (h₀ := X.base) I.ok.mod.kin kp (thn (ha.run pos pins s σ H _ I h) fun us s1 ⟨vs, H1, I1, r, q⟩ => ⟨I1.kIn, ?_⟩) he hpl
  have hl : us.length = ps.length := by rw [← r.length]; exact F.len _ _ _ _ _ q
  have b := hb s1 us I1.kIn (by rw [List.append_nil]; exact hl)
  rw [List.append_nil] at b
  have P1 := I1.pin pr (List.mem_append_left _ hp)
  have hpin : L2H.PinOk X.stack H1 s1 pr := ⟨P1.1, P1.2.1, fun hm => (List.mem_cons.mp (I1.stkSub pr.1 hm)).elim P1.2.2.1 P1.2.2.2.1, P1.2.2.2.2⟩
  refine wpAny_call (codeAny_mono (F.run pr X.A X.stack s1 H1 ⟨us, []⟩ us vs Q E0 hr hot hpin I1.env0 b r q) fun r s' hq => ?_)
  cases r with
  | error e => exact pass0 pins σ H1 s1 e s' I1 hq
  | ok fl =>
    cases fl with
    | ret u => exact I1.after hq
    | next => exact False.elim hq
    | brk => exact False.elim hq
    | cont => exact False.elim hq
end
/-! ### iterators at their end, while an exception is held -/
section
variable {prog : Program} {w : World} {A : Around} {E : Value → Shared → Prop} {s : Shared}
theorem next_list_end_hot {it l x1 : Addr} {i : Nat} {items} {Q : Option Value → Shared → Prop} (hot : HotAt A x1 s.heap) (hne : it ≠ x1)
    (hit : s.heap.IsListIter it l i) (hl : s.heap.IsList l items) (hx : items[i]? = none)
    (hQ : ∀ h', Heap.ExtBut it s.heap h' → Q none { s with heap := h' }) : wpAny (model prog w) A (pyNext (.ref it)) Q E s := by
  obtain ⟨o, ho, hc, hd⟩ := id hit
  obtain ⟨ol, hol, _, nl, hdl⟩ := hl
  obtain ⟨hh, o1, vs1, h1, d1, c1⟩ := hot
  unfold pyNext
  refine wpAny_bind (wpAny_attempt (wpAny_callSpecial?_slot (name := Str.ofString "__next__") hit.typeIs slot_listiter_next
    (wpAny_call_entry slot_listiter_next hit.typeIs entry_listiter_next ?_ (args_listiter_next _))))
  show wpAny _ _ (field (.ref it) 0 >>= _) _ _ s
  refine wpAny_bind (wpAny_field ho hd (x := .ref l) rfl ?_)
  show wpAny _ _ (if (Value.ref l == Value.none) = true then _ else _) _ _ s
  rw [if_neg (show ¬ ((Value.ref l == Value.none) = true) from Bool.false_ne_true)]
  show wpAny _ _ (field (.ref it) 1 >>= _) _ _ s
  refine wpAny_bind (wpAny_field ho hd (x := .int i 0) rfl ?_)
  show wpAny _ _ (seqItems? (.ref l) >>= _) _ _ s
  refine wpAny_bind (wpAny_seqItems hol hdl ?_)
  simp only [Int.toNat_natCast, hx]
  refine wpAny_bind (wpAny_rule (wpAny_bind (wpAny_setField ho hd (by simp) ?_)))
  show wpAny _ _ (newExc (.type "StopIteration") [] >>= _) _ _ _
  refine wpAny_bind ?_
  simp only [newExc, newTuple]
  refine wpAny_bind (wpAny_newObj_type ?_ (by size_fits))
  refine wpAny_bind (m := firstArgMember _ _) (wpAny_of_eq (a := Value.none) (by first | rfl | (simp only [firstArgMember]; rfl)) ?_)
  refine wpAny_newObj_type ?_ (by size_fits)
  have g1 := Heap.get?_push_of_some { cls := .type "tuple", data := .seq ([] : List Value).toArray } ((Heap.get?_update_other s.heap (Obj.mapFields (·.setIfInBounds 0 .none)) hne).trans h1)
  refine raiseNew_hot ⟨hh, o1, vs1, Heap.get?_push_of_some _ g1, d1, c1⟩ (Nat.ne_of_lt (Heap.lt_size g1)) (Heap.get?_push_size _ rfl) rfl (by first | (simp; done) | (simp; omega) | (simp only [Array.size_append]; simp; omega)) ?_
  refine wpAny_bind (wpAny_isInstance (T := "StopIteration") (b := true) ⟨_, Heap.get?_update_self _ (Heap.get?_push_size _ rfl) rfl, rfl⟩ isSubtype_stop ?_)
  refine wpAny_pure (hQ _ fun b o hb e => ?_)
  have e1 := Heap.get?_push_of_some { cls := .type "tuple", data := .seq ([] : List Value).toArray } ((Heap.get?_update_other s.heap (Obj.mapFields (·.setIfInBounds 0 .none)) (Ne.symm hb)).trans e)
  rw [Heap.get?_update_other _ _ (Nat.ne_of_gt (Heap.lt_size e1))]
  exact Heap.get?_push_of_some _ e1
theorem next_tuple_end_hot {it l x1 : Addr} {i : Nat} {items} {Q : Option Value → Shared → Prop} (hot : HotAt A x1 s.heap) (hne : it ≠ x1)
    (hit : IsTupIter s.heap it l i) (hl : IsTup s.heap l items) (hx : items[i]? = none)
    (hQ : ∀ h', Heap.ExtBut it s.heap h' → Q none { s with heap := h' }) : wpAny (model prog w) A (pyNext (.ref it)) Q E s := by
  obtain ⟨o, ho, hc, hd⟩ := id hit
  obtain ⟨ol, hol, _, nl, hdl⟩ := hl
  obtain ⟨hh, o1, vs1, h1, d1, c1⟩ := hot
  unfold pyNext
  refine wpAny_bind (wpAny_attempt (wpAny_callSpecial?_slot (name := Str.ofString "__next__") hit.typeIs slot_tupleiter_next
    (wpAny_call_entry slot_tupleiter_next hit.typeIs entry_tupleiter_next ?_ (args_tupleiter_next _))))
  show wpAny _ _ (field (.ref it) 0 >>= _) _ _ s
  refine wpAny_bind (wpAny_field ho hd (x := .ref l) rfl ?_)
  show wpAny _ _ (if (Value.ref l == Value.none) = true then _ else _) _ _ s
  rw [if_neg (show ¬ ((Value.ref l == Value.none) = true) from Bool.false_ne_true)]
  show wpAny _ _ (field (.ref it) 1 >>= _) _ _ s
  refine wpAny_bind (wpAny_field ho hd (x := .int i 0) rfl ?_)
  show wpAny _ _ (seqItems? (.ref l) >>= _) _ _ s
  refine wpAny_bind (wpAny_seqItems hol hdl ?_)
  simp only [Int.toNat_natCast, hx]
  refine wpAny_bind (wpAny_rule (wpAny_bind (wpAny_setField ho hd (by simp) ?_)))
  show wpAny _ _ (newExc (.type "StopIteration") [] >>= _) _ _ _
  refine wpAny_bind ?_
  simp only [newExc, newTuple]
  refine wpAny_bind (wpAny_newObj_type ?_ (by size_fits))
  refine wpAny_bind (m := firstArgMember _ _) (wpAny_of_eq (a := Value.none) (by first | rfl | (simp only [firstArgMember]; rfl)) ?_)
  refine wpAny_newObj_type ?_ (by size_fits)
  have g1 := Heap.get?_push_of_some { cls := .type "tuple", data := .seq ([] : List Value).toArray } ((Heap.get?_update_other s.heap (Obj.mapFields (·.setIfInBounds 0 .none)) hne).trans h1)
  refine raiseNew_hot ⟨hh, o1, vs1, Heap.get?_push_of_some _ g1, d1, c1⟩ (Nat.ne_of_lt (Heap.lt_size g1)) (Heap.get?_push_size _ rfl) rfl (by first | (simp; done) | (simp; omega) | (simp only [Array.size_append]; simp; omega)) ?_
  refine wpAny_bind (wpAny_isInstance (T := "StopIteration") (b := true) ⟨_, Heap.get?_update_self _ (Heap.get?_push_size _ rfl) rfl, rfl⟩ isSubtype_stop ?_)
  refine wpAny_pure (hQ _ fun b o hb e => ?_)
  have e1 := Heap.get?_push_of_some { cls := .type "tuple", data := .seq ([] : List Value).toArray } ((Heap.get?_update_other s.heap (Obj.mapFields (·.setIfInBounds 0 .none)) (Ne.symm hb)).trans e)
  rw [Heap.get?_update_other _ _ (Nat.ne_of_gt (Heap.lt_size e1))]
  exact Heap.get?_push_of_some _ e1
theorem unpackItems_hot {t x1 : Addr} {items : Array Value} {Q : List Value → Shared → Prop} (hot : HotAt A x1 s.heap) (ht : IsTup s.heap t items)
    (hQ : ∀ h', Heap.ExtBut s.heap.objs.size s.heap h' → Q items.toList { s with heap := h' }) : wpAny (model prog w) A (unpackItems (.ref t) items.size none) Q E s := by
  have hlt : t ≠ s.heap.objs.size := by obtain ⟨o, ho, _⟩ := ht; exact Nat.ne_of_lt (Heap.lt_size ho)
  obtain ⟨hh, o1, vs1, h1, d1, c1⟩ := hot
  have hlx : x1 ≠ s.heap.objs.size := Nat.ne_of_lt (Heap.lt_size h1)
  unfold unpackItems
  refine wpAny_bind ?_
  · unfold notIterableAtAll
    refine wpAny_bind (wpAny_specialOf ht.typeIs slot_tuple_iter.lookup ?_)
    refine wpAny_pure ?_
    simp only [Bool.false_eq_true, if_false]
    refine wpAny_bind (wpAny_holding (iter_tuple ht ?_))
    refine wpAny_bind (wpAny_holding (draw_tuple hlt items.size 0 _ _ ⟨_, Heap.get?_push_size _ rfl, rfl, rfl⟩ (ht.push _) (by omega) fun h₁ hit₁ hs₁ => ?_))
    have hall : List.take items.size (List.drop 0 items.toList) = items.toList := by
      rw [List.drop_zero]; exact List.take_of_length_le (by simp)
    rw [hall]
    rw [if_neg (by simp)]
    have ht₁ : IsTup h₁ t items := (ht.push _).extBut hs₁.extBut hlt
    have hx₁ : h₁.get? x1 = some o1 := hs₁.extBut x1 o1 hlx (Heap.get?_push_of_some _ h1)
    refine wpAny_bind (wpAny_holding (next_tuple_end_hot ⟨hh, o1, vs1, hx₁, d1, c1⟩ (Ne.symm hlx) hit₁ ht₁ (by simp) fun h₂ he₂ => ?_))
    simp only [Option.isSome_none, Bool.false_eq_true, if_false]
    refine wpAny_pure (hQ h₂ fun b o hb e => he₂ b o hb (hs₁.extBut b o hb (Heap.get?_push_of_some _ e)))
theorem assign_tuple_hot {env : Env} {elts : List Expr} {k} {pos : Pos} {t x1 : Addr} {items : Array Value} {Q : Unit → Shared → Prop} (hot : HotAt A x1 s.heap) (ht : IsTup s.heap t items)
    (hn : (assignEach elts env).length = items.size) (hstar : (assignEach elts env).findIdx? (·.1) = none)
    (h : ∀ h', Heap.ExtBut s.heap.objs.size s.heap h' → wpAny (model prog w) A (assignInOrder ((assignEach elts env).map (·.2)) items.toList) Q E { s with heap := h' }) :
    wpAny (model prog w) A (assign (.Tuple elts k pos) env (.ref t)) Q E s := by
  rw [assign_Tuple]
  refine wpAny_bind (wpAny_standAt ?_)
  unfold unpack
  rw [hn, hstar]
  exact wpAny_bind (wpAny_holding (unpackItems_hot hot ht h))
end
section
variable {X : Cx} {pos : Pos}
theorem pg_tupH {K : PySem.W.Frag} {es : List Expr} {k : Nat} {t : TGs} {n : Nat} (hK : X.K = K) (hc : L2H.HotC X) (h : PGs X es t)
    (hn : (assignEach es X.env).length = n := by rfl) (hst : (assignEach es X.env).findIdx? (·.1) = none := by rfl) : PG X (.Tuple es k pos) (gTup K n t) := by
  subst hK
  refine ⟨fun pins s σ H v u Q I r hw => ?_⟩
  obtain ⟨a, xs, e1, hq, hl, hw⟩ := hw
  subst e1
  cases r
  obtain ⟨its, rv, ht, hz⟩ := I.tuple hq
  obtain ⟨x1, hot⟩ := hc.at I
  refine assign_tuple_hot hot ht (by simp [hn, ← hl, rv.length]) hst fun h' hx => ?_
  have I1 : Inv X pins σ H { s with heap := h' } := I.kept (t' := s.toks) fun b o e => hx b o (Nat.ne_of_lt (Heap.lt_size e)) e
  exact h.run pins _ σ H xs _ Q I1 (by simpa using rv) hw
theorem turn_listH {P : Program} {w : World} {K : PySem.W.Frag} {tg : Expr} (a it : Addr) : L2H.TurnH P w K tg (Itl K a) [it] it (fun i h => h.IsListIter it a i) where
  mem := by simp
  obj := fun i h st b hb => by
    have e : b = it := by simpa using hb
    subst e
    obtain ⟨o, e, c, d⟩ := st
    exact ⟨o, e, fun v z => by rw [d] at z; cases z⟩
  keep := fun i h h' st k => st.at fun o e => k it (by simp) o e
  item := by
    intro X hP hw hK hc i pins s σ H E I hf st hg
    subst hP hw hK
    obtain ⟨xs, x, hq, hx⟩ := hg
    obtain ⟨its, rv, p, hz⟩ := I.list hq
    obtain ⟨u, hu, ru⟩ := rv.get hx
    obtain ⟨f0, f1, f2, f3, f4, f5⟩ := hf it (by simp)
    refine wpAny_pyNext_list_item st p.isList (x := u) (by simpa using hu) fun h' st' sb => ?_
    have I1 : Inv X pins σ H { s with heap := h' } := I.turned (t' := s.toks) (fun b o hb e => (sb.2 b hb).trans e) f0 f1 f3 f4 f5
    obtain ⟨o, e, c, d⟩ := id st'
    exact ⟨u, rfl, go_of (s := { s with heap := h' }) e c d (by decide) ⟨x, H, I1, ru, ⟨rfl, fun ys hy => by rw [I.list_inj hy hq]; exact hx⟩, st', fun b hb => (hf b hb).1⟩⟩
  done := by
    intro X hP hw hK hc i pins s σ H E I hf st hg
    subst hP hw hK
    obtain ⟨xs, hq, hx⟩ := hg
    obtain ⟨its, rv, p, hz⟩ := I.list hq
    obtain ⟨f0, f1, f2, f3, f4, f5⟩ := hf it (by simp)
    have hl := rv.length
    obtain ⟨p1, ⟨hh, v1, e1, c1⟩, hp⟩ := hc
    have P1 := (I.pin p1 (List.mem_append_left _ hp)).1
    exact next_list_end_hot ⟨hh, p1.2, v1, P1, e1, c1⟩ (Ne.symm (f5 p1 (List.mem_append_left _ hp))) st p.isList (by simp; omega) fun h' eb => ⟨rfl, I.turned (t' := s.toks) (fun b o hb e => eb b o hb e) f0 f1 f3 f4 f5⟩
  self := fun _ _ _ _ _ st h => wpAny_pyIter_listiter st h
theorem pi_listH {K : PySem.W.Frag} {tg l : Expr} {tl : TE} (hK : X.K = K) (hl : PE X l tl) : L2H.PIH X tg l (iList K tl) := by
  subst hK
  refine ⟨fun pins s σ H R I h => ?_⟩
  refine thn (hl.run pins s σ H _ I h) fun v s1 ⟨x, H1, I1, r1, q1⟩ => ?_
  obtain ⟨a, e, ⟨xs, hq⟩, q⟩ := q1
  subst e
  cases r1
  obtain ⟨its, rv, p, hz⟩ := I1.list hq
  refine wpAny_pyIter_list p.isList ?_
  refine ⟨s1.heap.objs.size, [s1.heap.objs.size], _, _, H1, rfl, I1.kept (t' := s1.toks) fun b o e => Heap.get?_push_of_some _ e, turn_listH a _, ⟨_, Heap.get?_push_size _ rfl, rfl, rfl⟩, fun b hb => ?_, q⟩
  have e : b = s1.heap.objs.size := by simpa using hb
  subst e
  exact I1.fpOk (Nat.le_refl _) (I1.hok.fresh (Nat.le_refl _))
end
/-! ### a list comprehension while an exception is held -/
abbrev blkH (X : Cx) (s : Shared) (H : Hp) (scope : Scope) (cenv : Env) (fp : List Addr) : Cx := { X with s_0 := s, H_0 := H, env := cenv, outer := X.stack, ex := fp, fn := fun x => scope.names.lookup x == some .cell, xe := fun _ _ => False }
section
variable {X : Cx} {pins : List (Addr × Obj)} {σ : L2.St} {H : Hp} {s : Shared}
theorem block_startH {scope : Scope} {own : List (Str × Nat)} {fp : List Addr} (I : Inv X pins σ H s) (ok : BlkOk X.N X.env.scope scope own) (hN : X.N.Nodup) (hfp : ∀ b ∈ fp, FpOk X pins H b ∧ b < s.heap.objs.size) :
    Inv (blkH X s H scope (compEnvC scope (cellsFrom (s.heap.objs.size + 1) scope.names (cloFrom X.env.cells scope.names [])) s.heap.objs.size X.env) fp) [] (wipe σ (own.map (·.2))) H { s with heap := pushCells (s.heap.push { cls := .type "dict", data := .dict #[] }) scope.names } := by
  have J := block_start I ok hN hfp
  have o := J.ok
  refine ⟨⟨o.mod, o.kind, o.glob, o.blt, o.above, o.inj, o.has, o.cab, o.hd, o.frames, o.stk, o.exf, o.bs, o.bsz, o.noex, o.exfs, o.funs, o.frf⟩, J.os, J.bare, J.base, J.loc, J.cell, J.free, J.freeC, fun p hp => ?_, J.hok, J.len⟩
  have hp : p ∈ X.pn := by simpa using (show p ∈ X.pn ++ ([] : List (Addr × Obj)) from hp)
  have P1 := I.pin p (List.mem_append_left _ hp)
  refine ⟨pushCells_keeps _ _ _ _ (Heap.get?_push_of_some _ P1.1), P1.2.1, Nat.ne_of_lt (Heap.lt_size P1.1), fun hm => (List.mem_cons.mp (I.stkSub p.1 hm)).elim P1.2.2.1 P1.2.2.2.1, P1.2.2.2.2⟩
theorem lc_coreH {pins : List (Addr × Obj)} {s : Shared} {σ : L2.St} {H : Hp} {Q : VK} {elt tg iter : Expr} {ifs : List Expr} {scope : Scope} {own : List (Str × Nat)} {pos pos' : Pos} {wi : TI} {g : TG} {tt : TT} {te : TE} {use : Option (Value → Sem Unit)} {Qf : Value → Shared → Prop}
    (hc : L2H.HotC X) (hN : X.N.Nodup) (I : Inv X pins σ H s) (hi : L2H.PIH X tg iter wi) (ok : BlkOk X.N X.env.scope scope own)
    (hg : ∀ (s : Shared) (H : Hp) (C : Addr) (cl : List (Str × Addr)) (fp : List Addr), PG (blkH X s H scope (compEnvC scope cl C X.env) fp) tg g) (ht : ∀ (s : Shared) (H : Hp) (C : Addr) (cl : List (Str × Addr)) (fp : List Addr), PTs (blkH X s H scope (compEnvC scope cl C X.env) fp) ifs tt)
    (he : ∀ (s : Shared) (H : Hp) (C : Addr) (cl : List (Str × Addr)) (fp : List Addr), PE (blkH X s H scope (compEnvC scope cl C X.env) fp) elt te) (hs : ∀ x, foldedSetIterable iter X.env x = pure x)
    (h : tLc wi g tt te (own.map (·.2)) σ H Q)
    (hRR : ∀ D C s' m H', Inv X pins σ H' s' → Q (.ref D) H' → s'.heap.Ns C m → FpOk X pins H' C → compPost (model X.prog X.w) X.A X.xe use Qf (.ref D) C (.ok .next) s') :
    wpAny (model X.prog X.w) X.A (comprehension (.ListComp elt [⟨tg, iter, ifs, 0⟩] scope pos) scope X.env pos' (newList []) false (eval iter X.env) use) Qf X.xe s := by
  have hfree : ∀ y ∈ scope.names, y.2 = .free → ∃ c, X.env.cells.lookup y.1 = some c := fun y hy e => by
    rcases ok.free y hy e with k | k
    · exact I.ok.has _ (.inl k)
    · exact I.ok.has _ (.inr k)
  refine wpAny_comprehension_free (use := use) rfl hs (closure_ok hfree) ok.kind (fun y hy e => by rw [ok.uniq y hy, e])
    (thn (hi.run pins s σ H _ I h) fun xv s1 hx => thn hx fun itv s2 h2 => ?_)
  obtain ⟨it, fp, tn, J, H2, e, I2, T, st2, f2, q⟩ := h2
  subst e
  refine wpAny_newObj_type (newEnv_comp ?_) (by show 0 ≤ sizeLine; decide)
  generalize hD : s2.heap.objs.size = D
  have hDn : H2 D = none := I2.hok.fresh (Nat.le_of_eq hD)
  obtain ⟨W, ⟨m0, w0⟩, turn⟩ := q D hDn
  -- the new list
  generalize hs3 : ({ s2 with heap := s2.heap.push { cls := .type "list", data := .seq ([] : List Value).toArray } } : Shared) = s3
  have I3 : Inv X pins σ (upd H2 D (.lst [])) s3 := by
    rw [← hs3]
    refine I2.laid (t' := s2.toks) (fun b o e => Heap.get?_push_of_some _ e) (Nat.le_of_eq hD) ⟨Nat.zero_le _, [], 0, .nil, ?_⟩
    rw [← hD]
    exact Heap.get?_push_size _ rfl
  have h3 : s3.heap = s2.heap.push { cls := .type "list", data := .seq ([] : List Value).toArray } := by rw [← hs3]
  have sz : ∀ b ∈ fp, b < s2.heap.objs.size := fun b hb => by
    obtain ⟨o, e, _⟩ := T.obj _ _ st2 b hb
    exact Heap.lt_size e
  have f3 : ∀ b ∈ fp, FpOk X pins (upd H2 D (.lst [])) b ∧ b < s3.heap.objs.size := fun b hb => by
    have hlt := sz b hb
    refine ⟨⟨?_, (f2 b hb).2⟩, by rw [h3, Heap.size_push]; exact Nat.lt_succ_of_lt hlt⟩
    rw [upd_ne (by rw [← hD]; exact Nat.ne_of_lt hlt)]
    exact (f2 b hb).1
  have st3 : tn 0 s3.heap := T.keep _ _ _ st2 fun b _ o e => by rw [h3]; exact Heap.get?_push_of_some _ e
  have I4 := block_startH I3 ok hN f3
  have pg := hg s3 (upd H2 D (.lst [])) s3.heap.objs.size (cellsFrom (s3.heap.objs.size + 1) scope.names (cloFrom X.env.cells scope.names [])) fp
  have pt := ht s3 (upd H2 D (.lst [])) s3.heap.objs.size (cellsFrom (s3.heap.objs.size + 1) scope.names (cloFrom X.env.cells scope.names [])) fp
  have pe := he s3 (upd H2 D (.lst [])) s3.heap.objs.size (cellsFrom (s3.heap.objs.size + 1) scope.names (cloFrom X.env.cells scope.names [])) fp
  show codeAny _ _ (.compStart (.ListComp elt [⟨tg, iter, ifs, 0⟩] scope pos) 0 (.ref it) (.ref D) (compEnvC scope (cellsFrom (s3.heap.objs.size + 1) scope.names (cloFrom X.env.cells scope.names [])) s3.heap.objs.size X.env)) (compPost (model X.prog X.w) X.A X.xe use Qf (.ref D) s3.heap.objs.size) { s3 with heap := pushCells (s3.heap.push { cls := .type "dict", data := .dict #[] }) scope.names }
  have nfp : ∀ b ∈ fp, (upd H2 D (.lst [])) b = none := fun b hb => (f3 b hb).1.1
  generalize hce : compEnvC scope (cellsFrom (s3.heap.objs.size + 1) scope.names (cloFrom X.env.cells scope.names [])) s3.heap.objs.size X.env = ce at I4 pg pt pe ⊢
  have cL : ce.locals = s3.heap.objs.size := by subst hce; rfl
  generalize hH3 : upd H2 D (.lst []) = H3 at I3 I4 pg pt pe w0 nfp f3
  generalize hs4 : ({ s3 with heap := pushCells (s3.heap.push { cls := .type "dict", data := .dict #[] }) scope.names } : Shared) = s4 at I4 ⊢
  have st4 : tn 0 s4.heap := T.keep _ _ _ st3 fun b _ o e => by rw [← hs4]; exact pushCells_keeps _ _ _ _ (Heap.get?_push_of_some _ e)
  have stat : ∀ {σ' : L2.St} {H' : Hp} {s' : Shared}, Inv (blkH X s3 H3 scope ce fp) [] σ' H' s' → (∀ b ∈ fp, H' b = none) → ∀ b ∈ fp, FpOk (blkH X s3 H3 scope ce fp) [] H' b := fun {σ' H' s'} I' hn b hb =>
    ⟨hn b hb, (I'.ok.exf b hb).1, I'.ok.exfs b hb, .inl hb, fun x c e => (I'.ok.exf b hb).2 x c e, fun p hp => (f3 b hb).1.2.2.2.2.2 p (List.mem_append_left _ (by simpa using (show p ∈ X.pn ++ ([] : List (Addr × Obj)) from hp)))⟩
  have loop : codeAny (model X.prog X.w) X.A (.compLoop (.ListComp elt [⟨tg, iter, ifs, 0⟩] scope pos) 0 (.ref it) (.ref D) ce) (compPost (model X.prog X.w) X.A X.xe use Qf (.ref D) s3.heap.objs.size) s4 := by
    refine compLoop_any (fun n s' => ∃ i H', Inv (blkH X s3 H3 scope ce fp) [] (wipe σ (own.map (·.2))) H' s' ∧ tn i s'.heap ∧ (∀ b ∈ fp, H' b = none) ∧ W i n H') ?_ m0 ⟨0, H3, I4, st4, nfp, w0⟩
    rintro n s5 ⟨i, H5, I5, st5, n5, w5⟩
    rcases turn i n H5 w5 with ⟨stop, qq⟩ | ⟨go, Nx, hNx, step⟩
    · have td := T.done (blkH X s3 H3 scope ce fp) rfl rfl rfl hc i [] s5 _ H5 (fun _ _ => False) I5 (stat I5 n5) st5 stop
      refine thnF td fun r s6 ⟨hr, I6⟩ => ?_
      subst hr
      -- back in the def's context
      have I7 : Inv X pins σ H5 s6 := I3.call' (ch := fp) I6.os I6.base I6.hok I6.bare fun b hb => ⟨(f3 b hb).1.2.2.2.1, (f3 b hb).1.2.1, (f3 b hb).1.2.2.2.2.1, (f3 b hb).1.2.2.2.2.2⟩
      have nC : H5 s3.heap.objs.size = none := by
        have z : H5 ce.locals = none := I6.free
        rw [cL] at z
        exact z
      obtain ⟨m, hn, _⟩ := I6.loc
      have hn : s6.heap.Ns ce.locals m := hn
      rw [cL] at hn
      exact hRR D s3.heap.objs.size s6 m H5 I7 qq hn (I3.fpOk (Nat.le_refl _) nC)
    · have ti := T.item (blkH X s3 H3 scope ce fp) rfl rfl rfl hc i [] s5 _ H5 (fun _ _ => False) I5 (stat I5 n5) st5 go
      refine thnF ti fun r s6 ⟨u, hr, h6⟩ => ?_
      subst hr
      refine thnF h6 fun _ s7 ⟨x, H7, I7, r7, y7, st7, n7⟩ => ?_
      have I7' := I7.pinned (stat I7 n7) (T.obj _ _ st7)
      refine thnF (pg.run _ s7 _ H7 x u _ I7' r7 (step x H7 y7)) fun _ s8 ⟨σ8, H8, I8, hw8, q8⟩ => ?_
      refine thnF (pt.run _ s8 σ8 H8 _ I8 q8) fun b s9 ⟨H9, I9, q9⟩ => ?_
      -- the turn's end
      have fin : ∀ {s' : Shared} {H' : Hp}, Inv (blkH X s3 H3 scope ce fp) ([] ++ pinsAt fp s7.heap) σ8 H' s' → Nx H' → ∃ m, m < n ∧ ∃ i H', Inv (blkH X s3 H3 scope ce fp) [] (wipe σ (own.map (·.2))) H' s' ∧ tn i s'.heap ∧ (∀ b ∈ fp, H' b = none) ∧ W i m H' := fun {s' H'} I' nx => by
        obtain ⟨m', hm, w'⟩ := hNx H' nx
        have pin' : ∀ b ∈ fp, ∀ o, s7.heap.get? b = some o → s'.heap.get? b = some o ∧ H' b = none := fun b hb o e =>
          let z := I'.pin (b, o) (List.mem_append_right _ (List.mem_append_right _ (mem_pinsAt hb e)))
          ⟨z.1, z.2.1⟩
        have hl : (wipe σ (own.map (·.2))).length = σ8.length := by rw [← hw8, wipe_length]
        refine ⟨m', hm, i + 1, H', (I'.unpinned (pins := [])).weak hl (fun j v e => ?_), T.keep _ _ _ st7 fun b hb o e => (pin' b hb o e).1, fun b hb => ?_, w'⟩
        · rw [← hw8] at e
          exact (wipe_some e).1
        · obtain ⟨o, e, _⟩ := T.obj _ _ st7 b hb
          exact (pin' b hb o e).2
      cases b with
      | false =>
        simp only [Bool.false_eq_true, if_false] at q9 ⊢
        exact fin I9 q9
      | true =>
        simp only [if_true] at q9 ⊢
        refine thnF (pe.run _ s9 σ8 H9 _ I9 q9) fun z s10 ⟨yv, H10, I10, r10, acc, hD10, hz10, nx⟩ => ?_
        exact app_ok (X := blkH X s3 H3 scope ce fp) I10 hD10 hz10 r10 fun s11 I11 => fin I11 nx
  exact codeAny_compStart_list loop (T.self X.A 0 _ _ _ st4 loop)
/-- as a value -/
theorem pe_lcH {elt tg iter : Expr} {ifs : List Expr} {scope : Scope} {own : List (Str × Nat)} {pos : Pos} {wi : TI} {g : TG} {tt : TT} {te : TE} (hc : L2H.HotC X) (hN : X.N.Nodup) (hi : L2H.PIH X tg iter wi) (ok : BlkOk X.N X.env.scope scope own)
    (hg : ∀ (s : Shared) (H : Hp) (C : Addr) (cl : List (Str × Addr)) (fp : List Addr), PG (blkH X s H scope (compEnvC scope cl C X.env) fp) tg g) (ht : ∀ (s : Shared) (H : Hp) (C : Addr) (cl : List (Str × Addr)) (fp : List Addr), PTs (blkH X s H scope (compEnvC scope cl C X.env) fp) ifs tt)
    (he : ∀ (s : Shared) (H : Hp) (C : Addr) (cl : List (Str × Addr)) (fp : List Addr), PE (blkH X s H scope (compEnvC scope cl C X.env) fp) elt te) (hs : ∀ x, foldedSetIterable iter X.env x = pure x := by intro _; rfl) :
    PE X (.ListComp elt [⟨tg, iter, ifs, 0⟩] scope pos) (tLc wi g tt te (own.map (·.2))) := by
  refine ⟨fun pins s σ H Q I h => ?_⟩
  rw [eval_ListComp]
  refine lc_coreH hc hN I hi ok hg ht he hs h fun D C s' m H' I' q hn f => ⟨m, hn, fun h'' sb => ?_⟩
  obtain ⟨f0, f1, f2, f3, f4, f5⟩ := f
  exact ⟨.ref D, H', I'.turned (t' := s'.toks) (fun b o hb e => (sb.2 b hb).trans e) f0 f1 f3 f4 f5, rfl, q⟩
/-- name = [..] on one line, the name a local -/
theorem ps_setLcH {i : Nat} {y : Str} {py : Pos} {elt tg iter : Expr} {ifs : List Expr} {scope : Scope} {own : List (Str × Nat)} {pos spos : Pos} {wi : TI} {g : TG} {tt : TT} {te : TE} (hc : L2H.HotC X) (hN : X.N.Nodup) (hy : X.N[i]? = some y) (hyl : X.env.scope.names.lookup y = some .local)
    (hsw : swapsWith (.ListComp elt [⟨tg, iter, ifs, 0⟩] scope pos) (some (.Name y py)) spos.line X.env = pure true) (hi : L2H.PIH X tg iter wi) (ok : BlkOk X.N X.env.scope scope own)
    (hg : ∀ (s : Shared) (H : Hp) (C : Addr) (cl : List (Str × Addr)) (fp : List Addr), PG (blkH X s H scope (compEnvC scope cl C X.env) fp) tg g) (ht : ∀ (s : Shared) (H : Hp) (C : Addr) (cl : List (Str × Addr)) (fp : List Addr), PTs (blkH X s H scope (compEnvC scope cl C X.env) fp) ifs tt)
    (he : ∀ (s : Shared) (H : Hp) (C : Addr) (cl : List (Str × Addr)) (fp : List Addr), PE (blkH X s H scope (compEnvC scope cl C X.env) fp) elt te) (hs : ∀ x, foldedSetIterable iter X.env x = pure x := by intro _; rfl) :
    PS X (.Assign [.Name y py] (.ListComp elt [⟨tg, iter, ifs, 0⟩] scope pos) spos) (tAsg (tLc wi g tt te (own.map (·.2))) (gName i)) := by
  refine ⟨fun pins s σ H D I h => ?_⟩
  rw [exec_Assign_Name_used _ _ _ _ hsw]
  refine wpAny_bind (wpAny_standAt (wpAny_bind ?_))
  show wpAny _ X.A (do let _ ← comprehension (.ListComp elt [⟨tg, iter, ifs, 0⟩] scope pos) scope X.env (firstIterPos [⟨tg, iter, ifs, 0⟩] pos) (newList []) false (eval iter X.env) (some (assign (.Name y py) X.env))) _ _ s
  have h : tLc wi g tt te (own.map (·.2)) σ H (fun x H1 => gName i x σ H1 D.nx) := h
  refine wpAny_bind (thn (lc_coreH (Qf := fun _ s' => SP X pins D .next s') hc hN I hi ok hg ht he hs h fun L C s' m H' I' q hn f => ?_) fun _ s' hq => wpAny_pure (wpAny_pure hq))
  show wpAny _ _ (assign (.Name y py) X.env (.ref L)) _ _ _
  refine wpAny_assign_Name (store_ok2 (v := V.ref L) I' hN hy (.inl hyl) rfl (fun s2 I2 ⟨a, sb, ha⟩ => ?_) (.inr hyl))
  obtain ⟨f0, f1, f2, f3, f4, f5⟩ := f
  have haC : C ≠ a := by
    rcases ha with z | z
    · rw [z]; exact f1
    · exact fun e => f4 y a z e.symm
  refine ⟨m, hn.sameBut sb haC, fun h3 sb3 => ?_⟩
  exact ⟨_, H', I2.turned (t' := s2.toks) (fun b o hb e => (sb3.2 b hb).trans e) f0 f1 f3 f4 f5, q⟩

end
end Lp
set_option Elab.async false
set_option linter.all false
set_option maxRecDepth 100000
set_option maxHeartbeats 1000000
namespace Lp
open PySem PySem.Spec PyProof.Rows L2 GenW
/-! ### list(g(k = v, ..)) of a generator def -/
structure GnrK (P : Program) (w : World) (K : PySem.W.Frag) (mg : Str → Option Value) (base : Heap) (k : Nat) (x : Str) (ks : List Str) (gV : List V → List V → List V) (sp : SpG) : Prop where
  ex : ∃ (f : Addr) (fd : FuncData) (ps : List Str) (g : List Value → List Value → List Value), GFn P w K mg base k f fd ps sp ∧ mg x = some (.ref f) ∧ PySem.W.keepIn K (.ref f) = true ∧ KBn K fd ps 0 ks g gV
def tGenK (sp : SpG) (gV : List V → List V → List V) (n : Nat) (E : XK) (tk : TA) : TGen := fun σ H cont => tk σ H fun zs H2 => zs.length = n ∧ sp (gV [] zs) H2 cont E
section
variable {X : Cx} {k n : Nat} {f : Addr} {fd : FuncData} {ps ks : List Str} {sp : SpG} {E : XK} {x nm : Str} {p p2 pos pos' : Pos} {kws : List Keyword} {tk : TA} {g : List Value → List Value → List Value} {gV : List V → List V → List V}
theorem run_gfnK {pins : List (Addr × Obj)} {σ : L2.St} {H : Hp} {s : Shared} {us ws : List Value} {vs zs : List V} {cont : List V → Hp → Prop} {E1 : Value → Shared → Prop} (F : GFn X.prog X.w X.K X.mg X.base k f fd ps sp) (hr : Room k X.A) (hb : KBn X.K fd ps n ks g gV)
    (I : Inv X pins σ H s) (r : Vals vs us) (rz : Vals zs ws) (l1 : vs.length = n) (l2 : zs.length = ks.length) (h : sp (gV vs zs) H cont E) :
    wpAny (model X.prog X.w) X.A (call (.ref f) us (ks.zip ws)) (fun u s' => ∃ H1 sc ex, Inv X pins σ H1 sc ∧ ExOk X pins ex ∧ GMade X.prog X.w k X.stack H1 sc ex cont E u s') E1 s := by
  have r2 := hb.rel r rz
  refine wpAny_call (codeAny_mono (F.run X.A X.stack s H ⟨us, ks.zip ws⟩ (g us ws) (gV vs zs) cont E hr I.env0 (hb.to s us ws I.kIn (r.length.symm.trans l1) (rz.length.symm.trans l2)) r2 h) fun r s' hq => ?_)
  cases r with
  | error e => exact False.elim hq
  | ok fl =>
    cases fl with
    | ret u => exact ⟨H, s, [], I, .nil, hq⟩
    | next => exact False.elim hq
    | brk => exact False.elim hq
    | cont => exact False.elim hq
theorem pgen_callK0 (F : GFn X.prog X.w X.K X.mg X.base k f fd ps sp) (hr : Room k X.A) (hg : Gl X x) (hm : X.mg x = some (.ref f)) (hk : PySem.W.keepIn X.K (.ref f) = true) (hb : KBn X.K fd ps 0 ks g gV) (hkw : PK X kws tk)
    (hall : (backToKw pos' (keywordEach kws X.env)).all (·.1.isSome) = true := by rfl) (hks : (backToKw pos' (keywordEach kws X.env)).filterMap (·.1) = ks := by rfl) (hdb : (x == ("__debug__" : Str)) = false := by decide)
    (hpl : ((backTo pos' (starEach [] X.env)).any (·.1) || (backToKw pos' (keywordEach kws X.env)).any (·.1.isNone)) = false := by rfl) :
    PGen X k (.Call (.Name x p) [] kws pos') (tGenK sp gV ks.length E tk) E := by
  refine ⟨fun pins s σ H cont I h => ?_⟩
  refine wpAny_Call_Name_kw (ld_glob I hg hm ?_ hdb)
  refine PySem.W.callWith_KW0 (h₀ := X.base) I.ok.mod.kin hk hall ?_ hpl
  refine thn (hkw.run pos' pins s σ H _ I h) fun ws s2 ⟨zs, H2, I2, rz, l2, q2⟩ => ⟨I2.kIn, ?_⟩
  rw [hks]
  exact run_gfnK (us := []) (vs := []) F hr hb I2 .nil rz rfl l2 q2
theorem pe_lgK0 {j : Nat} (c : GnrK X.prog X.w X.K X.mg X.base k x ks gV sp) (hr : Room j X.A) (hk : k + 3 ≤ j) (hg : Gl X x) (hkw : PK X kws tk) (hg2 : Gl X nm) (hmg : X.mg nm = none) (hv : bootBuiltins nm = some (.type "list"))
    (hall : (backToKw pos' (keywordEach kws X.env)).all (·.1.isSome) = true := by rfl) (hks : (backToKw pos' (keywordEach kws X.env)).filterMap (·.1) = ks := by rfl) (hdb : (x == ("__debug__" : Str)) = false := by decide)
    (hpl : ((backTo pos' (starEach [] X.env)).any (·.1) || (backToKw pos' (keywordEach kws X.env)).any (·.1.isNone)) = false := by rfl) (hnm : nm ≠ "__name__" := by decide) (hdb2 : (nm == ("__debug__" : Str)) = false := by decide)
    (he2 : starEach [.Call (.Name x p2) [] kws pos'] X.env = (false, eval (.Call (.Name x p2) [] kws pos') X.env) :: starEach [] X.env := by rfl) :
    PE X (.Call (.Name nm p) [.Call (.Name x p2) [] kws pos'] [] pos) (tListG (tGenK sp gV ks.length E0 tk)) := by
  obtain ⟨g, fd, ps, gg, F, hm, kp, b⟩ := c.ex
  exact pe_listG (pgen_callK0 F (hr.mono (by omega)) hg hm kp b hkw hall hks hdb hpl) passes0 noStop0 (hr.mono hk) hg2 hmg hv hnm hdb2 he2
end
end Lp
set_option Elab.async false
set_option linter.all false
set_option maxRecDepth 100000
set_option maxHeartbeats 2000000
namespace Lp
open PySem PySem.Spec PyProof.Rows L2 NdefX
/-! ### rules where the running code is known: for super() -/
structure PEa (X : Cx) (c : Code) (e : Expr) (t : TE) : Prop where
  run : ∀ (pins : List (Addr × Obj)) (s : Shared) (σ : L2.St) (H : Hp) (Q : VK), Inv X pins σ H s → t σ H Q → _root_.PySem.wpAt (model X.prog X.w) X.A c (eval e X.env) (EP X pins σ Q) X.xe s
structure PSa (X : Cx) (c : Code) (st : Stmt) (t : TS) : Prop where
  run : ∀ (pins : List (Addr × Obj)) (s : Shared) (σ : L2.St) (H : Hp) (D : Ends), Inv X pins σ H s → t D σ H → _root_.PySem.wpAt (model X.prog X.w) X.A c (exec st X.env) (SP X pins D) X.xe s
structure PSsa (X : Cx) (c : Code) (st : List Stmt) (t : TS) : Prop where
  run : ∀ (pins : List (Addr × Obj)) (s : Shared) (σ : L2.St) (H : Hp) (D : Ends), Inv X pins σ H s → t D σ H → _root_.PySem.wpAt (model X.prog X.w) X.A c (execs st X.env) (SP X pins D) X.xe s
section
variable {X : Cx} {c : Code} {e a b : Expr} {st : Stmt} {rest : List Stmt} {te ta tb : TE} {t u : TS} {pos : Pos}
theorem PEa.of (h : PE X e te) : PEa X c e te := ⟨fun pins s σ H Q I q => _root_.PySem.wpAt_of_wpAny (h.run pins s σ H Q I q)⟩
theorem PSa.of (h : PS X st t) : PSa X c st t := ⟨fun pins s σ H D I q => _root_.PySem.wpAt_of_wpAny (h.run pins s σ H D I q)⟩
theorem PSsa.of (h : PSs X rest t) : PSsa X c rest t := ⟨fun pins s σ H D I q => _root_.PySem.wpAt_of_wpAny (h.run pins s σ H D I q)⟩
theorem psa_ret (he : PEa X c e te) : PSa X c (.Return (some e) pos) (tRet te) :=
  ⟨fun pins s σ H D I h => ks_wpAt_Return_some (ks_wpAt_mono (he.run pins s σ H _ I h) (fun v s1 ⟨x, H1, I1, r1, q1⟩ => ⟨x, σ, H1, I1, r1, q1⟩) fun _ _ z => z)⟩
theorem pssa_cons (h1 : PSa X c st t) (h2 : PSsa X c rest u) : PSsa X c (st :: rest) (tSeq t u) := by
  refine ⟨fun pins s σ H D I h => ks_wpAt_execs_cons (ks_wpAt_mono (h1.run pins s σ H { D with nx := u D } I h) (fun f s1 q => ?_) fun _ _ z => z)⟩
  cases f with
  | next =>
    obtain ⟨σ', H', I', q⟩ := q
    exact h2.run pins s1 σ' H' D I' q
  | ret v => exact q
  | brk => exact q
  | cont => exact q
theorem pssa_one (h1 : PSa X c st t) : PSsa X c [st] t := by
  refine ⟨fun pins s σ H D I h => ks_wpAt_execs_cons (ks_wpAt_mono (h1.run pins s σ H D I h) (fun f s1 q => ?_) fun _ _ z => z)⟩
  cases f with
  | next => exact _root_.PySem.wpAt_of_wpAny (wpAny_execs_nil q)
  | ret v => exact q
  | brk => exact q
  | cont => exact q
theorem pea_opl {op : Operator} {r : R2} (ho : OpR X (binaryOp op) r) (ha : PEa X c a ta) (hb : PE X b tb) : PEa X c (.BinOp a op b pos) (tOp r ta tb) := by
  refine ⟨fun pins s σ H Q I h => ks_wpAt_BinOp (ks_wpAt_mono (ha.run pins s σ H _ I h) (fun v s1 ⟨x, H1, I1, r1, q1⟩ => ?_) fun _ _ z => z)⟩
  exact thn (hb.run pins s1 σ H1 _ I1 q1) fun u s2 ⟨y, H2, I2, r2, q2⟩ => ho pins s2 σ H2 x y v u Q I2 r1 r2 q2
theorem pea_ifExp {d : Expr} {tA : TT} (hc : PT X d tA) (ha : PEa X c a ta) (hb : PEa X c b tb) : PEa X c (.IfExp d a b pos) (tIf tA ta tb) := by
  refine ⟨fun pins s σ H Q I h => ?_⟩
  rw [arm_eval_IfExp]
  refine _root_.PySem.wpAt_bind (_root_.PySem.wpAt_of_wpAny (thn (hc.run pins s σ H _ I h) fun d s1 ⟨H1, I1, q1⟩ => ?_))
  cases d with
  | true => exact ha.run pins s1 σ H1 Q I1 q1
  | false => exact hb.run pins s1 σ H1 Q I1 q1
end
/-! ### super().m(..) in a method of the class D -/
/-- what the text must have: the def at f, its first parameter sf, its cell __class__ at cc -/
structure SupC (X : Cx) (c : Code) (f cc D : Addr) (sf : Str) : Prop where
  ex : ∃ (body : List Stmt) (fd : FuncData) (oc : Value) (od : Option Addr) (osl : Array (Option Value)) (ar : Arg) (cda : Addr) (ccl : Value) (cdd : Option Addr) (vs : Array Value) (ccs : Array (Option Value)) (file : Str) (tf : Tok) (cl : Value) (cld : Option Addr) (csl : Array (Option Value)) (cdD : ClassData),
    c = .func body X.env ∧ X.env.func = some f ∧ X.K.lookup f = some ⟨oc, od, .func fd, osl⟩ ∧ (fd.params.posonlyargs ++ fd.params.args).head? = some ar ∧ ar.arg = sf ∧ X.env.code = .ref cda ∧ X.K.lookup cda = some ⟨ccl, cdd, .fields vs, ccs⟩ ∧
    vs[2]? = some (.str file tf) ∧ ((X.prog.main.file : Str) == file) = true ∧ X.K.lookup cc = some ⟨cl, cld, .cell (some (.ref D)), csl⟩ ∧ PySem.W.clsIn X.K D = some cdD ∧ X.env.cells.lookup ("__class__" : Str) = some cc
  ks : X.env.kindOf "super" = some .globalImplicit
  kc : X.env.kindOf "__class__" = some .free
  ka : X.env.kindOf sf = some .local
  sup : X.mg "super" = none
  top : (X.prog.main.scope.names.lookup ("super" : Str)).isSome = false
  loc : X.N[0]? = some sf
/-- the method m of the classes above D is the def at g -/
structure SupM (K : PySem.W.Frag) (D : Addr) (m : Str) (g : Addr) : Prop where
  at_ : PySem.W.ks_superIn K D D m = some (some (.ref g))
  ty : PySem.W.typeIn K (.ref g) = some (.type "function")
  fi : PySem.W.fnIn K g = true
  sub : PySem.W.mroIn K D (.ref D) = some true
  op : PySem.W.nsIn K cStatics "thirdparty.any" = some none
def tSup (D : Addr) (sp : Sp) (E : XK) (t : TA) : TE := fun σ H Q => ∃ a dx fs, σ[0]? = some (some (.ref a)) ∧ H a = some (.ins D dx fs) ∧ t σ H fun vs H2 => sp (.ref a :: vs) H2 Q E
section
variable {X : Cx} {c : Code} {f cc D g a dx : Addr} {sf m : Str} {fs : List (Str × V)} {pins : List (Addr × Obj)} {σ : L2.St} {H : Hp} {s : Shared} {A : Around} {E : Value → Shared → Prop}
theorem sup_base {p0 p1 : Pos} {whole : Sem Value} {Q : Value → Shared → Prop} (S : SupC X c f cc D sf) (M : SupM X.K D m g) (hm : (m == ("__class__" : Str)) = false) (I : Inv X pins σ H s) (e0 : σ[0]? = some (some (.ref a))) (ea : H a = some (.ins D dx fs))
    (h : ∀ (so : Addr) (s' : Shared), Inv X ((so, PySem.W.ks_superObj D a D) :: pins) σ H s' → s.heap.objs.size ≤ so → Q (.ref so) s') :
    _root_.PySem.wpAt (model X.prog X.w) X.A c (attributeBase (.Call (.Name "super" p0) [] [] p1) m X.env whole) Q X.xe s := by
  obtain ⟨body, fd, oc, od, osl, ar, cda, ccl, cdd, vs, ccs, file, tf, cl, cld, csl, cdD, rfl, hfn, hf, hp, har, hcode, hcd, hvs, hfile, hcell, hD, hcl⟩ := S.ex
  have kin := I.kIn
  obtain ⟨oD, hD1, hD2⟩ : ∃ oD, s.heap.get? D = some oD ∧ oD.data = .cls cdD := by
    unfold PySem.W.clsIn at hD
    split at hD
    · rename_i c d cd' sl ho
      cases hD
      exact ⟨_, kin _ _ ho, rfl⟩
    · cases hD
  refine ks_wpAt_super_base S.ks S.kc hm hfn (kin _ _ hf) rfl hp hcode (kin _ _ hcd) rfl hvs hfile S.top ?_
  refine PySem.W.ks_loadName_global I.ok.kind S.ks ?_
  obtain ⟨mb, b1, b2⟩ := I.mod.blt
  refine Calls.loadGlobal_builtin (by rw [I.ok.glob]; exact I.mod.glob.keeps I.bk) S.sup (by rw [I.ok.blt]; exact b1.keeps I.bk) ((b2 _ (by decide)).trans (by first | boot_by_name | rfl | kernel_rfl)) ⟨rfl, ?_⟩
  refine wpAny_loadName_free I.ok.kind S.kc hcl ⟨_, kin _ _ hcell, rfl⟩ ?_
  obtain ⟨mm, hn, hl⟩ := I.loc
  obtain ⟨u, r, l⟩ := hl 0 sf (.ref a) S.loc e0 (.inl S.ka)
  obtain rfl : u = Value.ref a := r
  have hm1 : mm sf = some (.ref a) := by
    rcases l with ⟨_, z⟩ | ⟨z, _⟩
    · exact z
    · have k := S.ka
      rcases z with z | z
      · rw [show X.env.kindOf sf = some .cell from z] at k; cases k
      · rw [show X.env.kindOf sf = some .free from z] at k; cases k
  rw [har]
  refine wpAny_loadName_local I.ok.kind S.ka hn hm1 ?_
  refine ks_wpAny_isType_cls hD1 hD2 ⟨rfl, ?_⟩
  obtain ⟨mA, O, _, _, _, _⟩ := ins_get I.hok ea
  obtain ⟨hh, g', d, t, os⟩ := s
  obtain ⟨od', J, _⟩ := O.look
  refine ks_wpAny_call_super hD1 hD2 J.at_ J.cls (fun c e => ?_) (PySem.W.looks_mroIn kin M.sub) (fun h' e k => ?_)
  · have := J.no
    unfold PySem.W.notCls at this
    rw [e] at this
    exact Bool.noConfusion this
  · exact h _ _ (ClX.pin_new (t' := t) I k (Nat.le_refl _) e (fun v z => nomatch z)) (Nat.le_refl _)
theorem sup_meth {so : Addr} {pl : Sem Bool} {Q : Value × List Value → Shared → Prop} {cdD : ClassData} (M : SupM X.K D m g) (hD : PySem.W.clsIn X.K D = some cdD) (hm : (m == ("__class__" : Str)) = false) (I : Inv X ((so, PySem.W.ks_superObj D a D) :: pins) σ H s) (ea : H a = some (.ins D dx fs))
    (h : ∀ (q : Addr) (s' : Shared), Inv X ((q, PySem.W.methodObj (.ref g) (.ref a)) :: pins) σ H s' → X.base.get? q = none → Q (.ref q, []) s') : wpAny (model X.prog X.w) A (getMethod (.ref so) m pl) Q E s := by
  have kin := I.kIn
  obtain ⟨mA, O, _, _, _, _⟩ := ins_get I.hok ea
  have hx := ClX.pin_at I
  have hb := ClX.base_none (a := s.heap.objs.size) I (Nat.le_refl _)
  obtain ⟨of, hof, hofc⟩ : ∃ of, s.heap.get? g = some of ∧ of.cls = .type "function" := by
    have ht' : (X.K.lookup g).map (·.cls) = some (.type "function") := M.ty
    cases z : X.K.lookup g with
    | none => rw [z] at ht'; cases ht'
    | some of => rw [z] at ht'; exact ⟨of, kin _ _ z, Option.some.inj ht'⟩
  have hm' := M.at_
  unfold PySem.W.ks_superIn at hm'
  rw [hD, Option.bind_some] at hm'
  obtain ⟨hh, g', d, t, os⟩ := s
  obtain ⟨od', J, _⟩ := O.look
  refine ks_wpAny_getMethod_super hx (PySem.W.looks_opaque kin M.op) (l₀ := cdD.mro) ?_ rfl kin hm' hof hofc (PySem.W.ks_ne kin J hD) hm ?_
  · exact fun A Q E s k q => wpAny_bind ((PySem.W.looks_clsIn kin hD) A _ E s k (wpAny_pure q))
  · exact h _ _ (ClX.met_new (ClX.unpin I)) hb
variable {CX : CXT} {k : Nat} {fd : FuncData} {ps : List Str} {sp : Sp} {E1 : XK} {e : Expr} {es : List Expr} {t : TA} {p0 p1 apos pos : Pos} {pl : Sem Bool}
theorem fnR_of (F : FnOk X.prog X.w X.K X.mg X.base CX k g fd ps sp) (b : Binds X.K fd ps []) : FnR X.prog X.w X.K X.mg X.base CX k g sp := fun A outer s H us vs Q E hr e0 r hs => by
  have hl : us.length = ps.length := by rw [← r.length]; exact F.len _ _ _ _ hs
  have kin : X.K.In s.heap := e0.mod.kin.keeps fun b o e => (e0.bs b o e).1
  have bb := b s us kin (by rw [List.append_nil]; exact hl)
  rw [List.append_nil] at bb
  exact F.run A outer s H ⟨us, []⟩ us vs Q E hr e0 bb r hs
theorem pea_sup (S : SupC X c f cc D sf) (M : SupM X.K D m g) (F : FnOk X.prog X.w X.K X.mg X.base CX k g fd ps sp) (b : Binds X.K fd ps []) (hr : Room k X.A) (hx : Passes CX X E1) (ha : PA X (e :: es) t) (hm : (m == ("__class__" : Str)) = false := by decide)
    (hst : starEach (e :: es) X.env = (false, eval e X.env) :: starEach es X.env := by rfl) (hpl : (backTo pos (starEach es X.env)).any (·.1) = false := by rfl)
    (he : eval (.Call (.Attribute (.Call (.Name "super" p0) [] [] p1) m apos) (e :: es) [] pos) X.env = (do
      let ov ← attributeBase (.Call (.Name "super" p0) [] [] p1) m X.env (eval (.Call (.Name "super" p0) [] [] p1) X.env)
      standAt apos.atName
      let (f, first) ← holding [ov] (getMethod ov m pl)
      callWith pos f first (backTo pos (starEach (e :: es) X.env)) []) := by rfl) :
    PEa X c (.Call (.Attribute (.Call (.Name "super" p0) [] [] p1) m apos) (e :: es) [] pos) (tSup D sp E1 t) := by
  refine ⟨fun pins s σ H Q I h => ?_⟩
  obtain ⟨a, dx, fs, e0, ea, q⟩ := h
  obtain ⟨cdD, hD⟩ : ∃ cdD, PySem.W.clsIn X.K D = some cdD := by
    obtain ⟨_, _, _, _, _, _, _, _, _, _, _, _, _, _, _, _, cdD, _, _, _, _, _, _, _, _, _, _, hD, _⟩ := S.ex
    exact ⟨cdD, hD⟩
  refine ks_wpAt_MethodCall (pl := pl) (sup_base S M hm I e0 ea fun so s1 I1 _ => ?_) he
  refine sup_meth M hD hm I1 ea fun q' s2 I2 hb => ?_
  refine ClX.callwith_cm (C := a) I2 hb M.fi (thn (ha.run pos _ s2 σ H _ I2 q) fun us s3 ⟨vs, H2, I3, rv, q2⟩ => ⟨⟨ClX.pin_at I3, I3.kIn⟩, ?_⟩) hst hpl
  exact ClX.run_cm (C := a) (fnR_of F b) hr hx I3 rv q2
theorem pea_sup0 (S : SupC X c f cc D sf) (M : SupM X.K D m g) (F : FnOk X.prog X.w X.K X.mg X.base CX k g fd ps sp) (b : Binds X.K fd ps []) (hr : Room k X.A) (hx : Passes CX X E1) (hm : (m == ("__class__" : Str)) = false := by decide)
    (he : eval (.Call (.Attribute (.Call (.Name "super" p0) [] [] p1) m apos) [] [] pos) X.env = (do
      let ov ← attributeBase (.Call (.Name "super" p0) [] [] p1) m X.env (eval (.Call (.Name "super" p0) [] [] p1) X.env)
      standAt apos.atName
      let (f, first) ← holding [ov] (getMethod ov m pl)
      callWith pos f first (backTo pos (starEach [] X.env)) []) := by rfl) :
    PEa X c (.Call (.Attribute (.Call (.Name "super" p0) [] [] p1) m apos) [] [] pos) (tSup D sp E1 tNil) := by
  refine ⟨fun pins s σ H Q I h => ?_⟩
  obtain ⟨a, dx, fs, e0, ea, q⟩ := h
  obtain ⟨cdD, hD⟩ : ∃ cdD, PySem.W.clsIn X.K D = some cdD := by
    obtain ⟨_, _, _, _, _, _, _, _, _, _, _, _, _, _, _, _, cdD, _, _, _, _, _, _, _, _, _, _, hD, _⟩ := S.ex
    exact ⟨cdD, hD⟩
  refine ks_wpAt_MethodCall (pl := pl) (sup_base S M hm I e0 ea fun so s1 I1 _ => ?_) he
  refine sup_meth M hD hm I1 ea fun q' s2 I2 hb => ?_
  refine PySem.W.callWith_M0 (K := X.K) ⟨ClX.pin_at I2, I2.kIn⟩ M.fi ?_
  exact ClX.run_cm (C := a) (us := []) (vs := []) (fnR_of F b) hr hx I2 .nil q
end
/-! ### a def with the cell __class__, by its body -/
structure FunS (K : PySem.W.Frag) (x qual : Str) (st : Stmt) (f cc cda : Addr) (fd : FuncData) : Prop where
  ex : ∃ (oc : Value) (od : Option Addr) (kV doc pm : Value) (an : Option Addr) (ct : Value) (osl : Array (Option Value)),
    fd = PySem.W.fnX x qual (defArgs st) (defBody st) (defScope st) [("__class__", cc)] .none kV doc pm an (.ref cda) ct ∧ K.lookup f = some ⟨oc, od, .func fd, osl⟩ ∧ PySem.W.codeIn K (.ref cda) qual = true
  kp : PySem.W.keepIn K (.ref f) = true
abbrev NFs (x qual : Str) (st : Stmt) (cc cda : Addr) : NF := ⟨x, qual, defArgs st, defBody st, defScope st, [("__class__", cc)], cda⟩
section
variable {P : Program} {w : World} {K : PySem.W.Frag} {mg : Str → Option Value} {base : Heap} {CX : CXT} {x qual : Str} {st : Stmt} {f cc cda : Addr} {fd : FuncData} {N ps : List Str} {k : Nat} {sp : Sp}
theorem fnok_sup (F : FunS K x qual st f cc cda fd) (S : NScope N ps ["__class__"] (defScope st)) (hcc : ∃ cl cld v csl, K.lookup cc = some ⟨cl, cld, .cell v, csl⟩) (ln : ∀ vs H Q E, sp vs H Q E → vs.length = ps.length)
    (hb : ∀ (A : Around) (out : List Env) (s : Shared) (H : Hp) (vs : List V) (Q : VK) (E : XK), Room k (A.deeper (envF (NFs x qual st cc cda) f s.heap.objs.size)) → sp vs H Q E →
      ∃ t, PSsa (ncx CX P w K mg base N (NFs x qual st cc cda) f A out s H E) (.func (defBody st) (envF (NFs x qual st cc cda) f s.heap.objs.size)) (defBody st) t ∧ t { nx := fun _ H' => Q .non H', rt := Q } (startF N vs [none]) H) :
    FnOk P w K mg base CX (k + 1) f fd ps sp := by
  obtain ⟨oc, od, kV, doc, pm, an, ct, osl, rfl, lk, hcd⟩ := F.ex
  refine ⟨ln, fun A out s H ar us vs Q E room en bd rv hs => ?_⟩
  have KX : K.In s.heap := en.mod.kin.keeps fun b o e => (en.bs b o e).1
  have lim : s.heap.NoLimit := en.mod.nolimit.keeps fun b o e => (en.bs b o e).1
  have hl := ln _ _ _ _ hs
  have hloc : ∀ y ∈ ps.zip us, (defScope st).names.lookup y.1 = some .local := fun ⟨n, _⟩ hy => S.par n (List.of_mem_zip hy).1
  refine ks_codeAny_call_defAt (fd := PySem.W.fnX x qual (defArgs st) (defBody st) (defScope st) [("__class__", cc)] .none kV doc pm an (.ref cda) ct) (body := defBody st) (binds := ps.zip us) room.depth (KX _ _ lk) rfl lim (PySem.W.codeRec_of KX hcd) rfl bd S.nocell hloc (fun h₁ hns kp => ?_) S.co S.gen S.kind
  obtain ⟨t, ht, q⟩ := hb A out s H vs Q E (room.deeper _) hs
  obtain ⟨cl, cld, v, csl, hcell⟩ := hcc
  have C : CellsAt (NFs x qual st cc cda).cl ["__class__"] [none] s.heap H := by
    refine ⟨rfl, fun y c e => ?_, fun y z c e1 e2 => ?_, fun i y e => ?_⟩
    · have ec : c = cc := by
        simp only [NFs, List.lookup] at e
        split at e
        · exact (Option.some.inj e).symm
        · cases e
      subst ec
      exact ⟨(en.bs _ _ (en.mod.kin _ _ hcell)).2, v, _, KX _ _ hcell, rfl⟩
    · have ey : ∀ {y : Str}, (NFs x qual st cc cda).cl.lookup y = some c → y = "__class__" := fun {y} e => by
        simp only [NFs, List.lookup] at e
        split at e
        · rename_i h
          exact eq_of_beq h
        · cases e
      rw [ey e1, ey e2]
    · cases i with
      | zero =>
        cases e
        exact ⟨cc, rfl, fun v hv => nomatch hv⟩
      | succ i => simp at e
  have I : Inv (ncx CX P w K mg base N (NFs x qual st cc cda) f A out s H E) [] (startF N vs [none]) H { s with heap := h₁, toks := s.toks + (ps.zip us).length } := inv_startN S room.hd en hl rv C hns kp
  refine ks_wpAt_mono (ht.run [] _ (startF N vs [none]) H _ I q) (fun fl s' hs => ?_) fun e s' hs => hs
  have fin : ∀ {σ' : L2.St} {H' : Hp} {v : V} {u : Value}, Inv (ncx CX P w K mg base N (NFs x qual st cc cda) f A out s H E) [] σ' H' s' → L2.RelV v u → Q v H' → CE out P w H s Q u s' :=
    fun {σ' H' v u} J rv q => ⟨v, H', J.os, J.bare, J.base, J.hok, rv, q⟩
  cases fl with
  | ret u =>
    obtain ⟨v, σ', H', J, rv, q⟩ := hs
    exact fin J rv q
  | next =>
    obtain ⟨σ', H', J, q⟩ := hs
    exact fin (v := V.non) (u := Value.none) J rfl q
  | brk =>
    obtain ⟨_, _, _, q⟩ := hs
    exact False.elim q
  | cont =>
    obtain ⟨_, _, _, q⟩ := hs
    exact False.elim q
end
end Lp
set_option Elab.async false
set_option linter.all false
set_option maxRecDepth 100000
set_option maxHeartbeats 2000000
namespace Lp
open PySem PySem.Spec PyProof.Rows L2 NdefX
/-! ### a def that may raise, where it doesn't -/
def SpN (sp : Sp) : Sp := fun vs H Q _ => sp vs H Q fun _ _ _ => False
section
variable {P : Program} {w : World} {K : PySem.W.Frag} {mg : Str → Option Value} {base : Heap} {k : Nat} {f : Addr} {fd : FuncData} {ps : List Str} {sp : Sp}
theorem FnOk.low (F : FnOk P w K mg base (L2N.CX P w) k f fd ps sp) : FnOk P w K mg base CX0 k f fd ps (SpN sp) :=
  ⟨fun vs H Q E h => F.len _ _ _ _ h, fun A out s H ar us vs Q E r e b v h => codeAny_mono (F.run A out s H ar us vs Q (fun _ _ _ => False) r e b v h) fun r s' hq => by
    cases r with
    | error e =>
      obtain ⟨_, _, _, _, _, _, _, _, _, _, _, _, z⟩ := hq
      exact z.elim
    | ok fl =>
      cases fl with
      | ret u => exact hq
      | next => exact hq
      | brk => exact hq
      | cont => exact hq⟩
end
theorem passN {X : Cx} : Passes (L2N.CX X.prog X.w) X E0 := fun _ _ _ _ _ _ _ h => by
  obtain ⟨_, _, _, _, _, _, _, _, _, _, _, _, z⟩ := h
  exact z.elim
theorem takesN {X : Cx} : L2N.Takes X (fun _ _ _ _ => False) := fun _ _ x => by
  obtain ⟨_, _, _, _, _, _, _, _, _, _, _, _, _, _, _, _, z⟩ := x
  exact z.elim
/-! ### methods and properties of an object whose class is one of several -/
abbrev Is (C : Addr) : Addr → Prop := fun C' => C' = C
structure MetV (P : Program) (w : World) (K : PySem.W.Frag) (mg : Str → Option Value) (base : Heap) (k : Nat) (An : Addr → Prop) (m : Str) (sp : Sp) : Prop where
  ex : ∀ C, An C → ∃ (f : Addr) (fd : FuncData) (ps : List Str), Cls K C ∧ Meth K C m f ∧ FnOk P w K mg base (L2N.CX P w) k f fd ps sp ∧ Binds K fd ps []
structure PrpV (P : Program) (w : World) (K : PySem.W.Frag) (mg : Str → Option Value) (base : Heap) (k : Nat) (An : Addr → Prop) (f : Str) (sp : Sp) : Prop where
  ex : ∀ C, An C → ∃ (p g : Addr) (fd : FuncData) (ps : List Str), Cls K C ∧ PropOf K C f p g ∧ FnOk P w K mg base (L2N.CX P w) k g fd ps sp ∧ Binds K fd ps []
structure MetVK (P : Program) (w : World) (K : PySem.W.Frag) (mg : Str → Option Value) (base : Heap) (k : Nat) (An : Addr → Prop) (m : Str) (n : Nat) (ks : List Str) (gV : List V → List V → List V) (sp : Sp) : Prop where
  ex : ∀ C, An C → ∃ (f : Addr) (fd : FuncData) (ps : List Str) (g : List Value → List Value → List Value), Cls K C ∧ Meth K C m f ∧ FnOk P w K mg base (L2N.CX P w) k f fd ps sp ∧ KBn K fd ps n ks g gV
def tMetV (An : Addr → Prop) (m : Str) (sp : Sp) (W : WX) (ta : TE) (t : TA) : TE := fun σ H Q => ta σ H fun x H1 => ∃ a C dx fs, x = .ref a ∧ An C ∧ H1 a = some (.ins C dx fs) ∧ fs.lookup m = none ∧ t σ H1 fun vs H2 => sp (.ref a :: vs) H2 Q (WE W σ)
def tMetVK (An : Addr → Prop) (m : Str) (n : Nat) (sp : Sp) (gV : List V → List V → List V) (W : WX) (ta : TE) (t : TA) : TE := fun σ H Q => ta σ H fun x H1 => ∃ a C dx fs, x = .ref a ∧ An C ∧ H1 a = some (.ins C dx fs) ∧ fs.lookup m = none ∧ t σ H1 fun zs H2 => zs.length = n ∧ sp (gV [.ref a] zs) H2 Q (WE W σ)
def tPrpV (An : Addr → Prop) (sp : Sp) (ta : TE) : TE := fun σ H Q => ta σ H fun x H1 => ∃ a C dx fs, x = .ref a ∧ An C ∧ H1 a = some (.ins C dx fs) ∧ sp [.ref a] H1 Q E0
section
variable {X : Cx} {k j n : Nat} {An : Addr → Prop} {m f : Str} {sp : Sp} {W : WX} {p pos apos : Pos} {e o : Expr} {es : List Expr} {kws : List Keyword} {ks : List Str} {gV : List V → List V → List V} {ta : TE} {t tkk : TA}
theorem pe_mV {pl : Sem Bool} (c : MetV X.prog X.w X.K X.mg X.base k An m sp) (hr : Room j X.A) (hk : k ≤ j) (tk : L2N.Takes X W) (he : PE X o ta) (ha : PA X (e :: es) t)
    (hst : starEach (e :: es) X.env = (false, eval e X.env) :: starEach es X.env := by rfl) (hpl : (backTo pos (starEach es X.env)).any (·.1) = false := by rfl)
    (ht : eval (.Call (.Attribute o m apos) (e :: es) [] pos) X.env = (eval o X.env >>= fun ov => standAt apos.atName >>= fun _ => holding [ov] (getMethod ov m pl) >>= fun r => callWith pos r.1 r.2 (backTo pos (starEach (e :: es) X.env)) (backToKw pos (keywordEach [] X.env))) := by rfl) :
    PE X (.Call (.Attribute o m apos) (e :: es) [] pos) (tMetV An m sp W ta t) := by
  refine ⟨fun pins s σ H Q I h => ?_⟩
  refine PySem.W.methodCall_KW (pl := pl) (thn (he.run pins s σ H _ I h) fun u s1 ⟨x, H1, I1, rx, a, C, dx, fs, ex, an, ea, l, q⟩ => ?_) ht
  obtain ⟨g, fd, ps, hc, hm, F, b⟩ := c.ex C an
  subst ex
  obtain rfl : u = Value.ref a := rx
  refine getmeth_ok I1 ea hc hm l ?_
  refine PySem.W.callWith_K (first := [.ref a]) (h₀ := X.base) I.ok.mod.kin hm.kp (thn (ha.run pos pins s1 σ H1 _ I1 q) fun us s2 ⟨vs, H2, I2, r, q2⟩ => ⟨I2.kIn, ?_⟩) hst hpl
  exact run_fnS (E := WE W) (us := .ref a :: us) (vs := .ref a :: vs) F (hr.mono hk) b (L2N.passAt tk σ) I2 (.cons rfl r) q2
theorem pe_mV0 {pl : Sem Bool} (c : MetV X.prog X.w X.K X.mg X.base k An m sp) (hr : Room j X.A) (hk : k ≤ j) (tk : L2N.Takes X W) (he : PE X o ta)
    (ht : eval (.Call (.Attribute o m apos) [] [] pos) X.env = (eval o X.env >>= fun ov => standAt apos.atName >>= fun _ => holding [ov] (getMethod ov m pl) >>= fun r => callWith pos r.1 r.2 (backTo pos (starEach [] X.env)) (backToKw pos (keywordEach [] X.env))) := by rfl) :
    PE X (.Call (.Attribute o m apos) [] [] pos) (tMetV An m sp W ta tNil) := by
  refine ⟨fun pins s σ H Q I h => ?_⟩
  refine PySem.W.methodCall_KW (pl := pl) (thn (he.run pins s σ H _ I h) fun u s1 ⟨x, H1, I1, rx, a, C, dx, fs, ex, an, ea, l, q⟩ => ?_) ht
  obtain ⟨g, fd, ps, hc, hm, F, b⟩ := c.ex C an
  subst ex
  obtain rfl : u = Value.ref a := rx
  refine getmeth_ok I1 ea hc hm l (PySem.W.callWith_K0 (first := [.ref a]) I1.kIn hm.kp ?_)
  exact run_fnS (E := WE W) (us := [.ref a]) (vs := [.ref a]) F (hr.mono hk) b (L2N.passAt tk σ) I1 (.cons rfl .nil) q
theorem pe_pV (c : PrpV X.prog X.w X.K X.mg X.base k An f sp) (hr : Room j X.A) (hk : k + 1 ≤ j) (he : PE X e ta) (hab : attributeBase e f X.env (eval e X.env) = eval e X.env := by rfl) : PE X (.Attribute e f pos) (tPrpV An sp ta) := by
  refine ⟨fun pins s σ H Q I h => ?_⟩
  refine attr_of hab (thn (he.run pins s σ H _ I h) fun u s1 ⟨x, H1, I1, rx, a, C, dx, fs, ex, an, ea, q⟩ => ?_)
  obtain ⟨p, g, fd, ps, hc, hp, F, b⟩ := c.ex C an
  subst ex
  obtain rfl : u = Value.ref a := rx
  exact getprop_ok I1 ea hc hp F (hr.mono hk) b .nil passN q
theorem run_fnNS {CX : CXT} {E : L2.St → XK} {fa : Addr} {fd : FuncData} {ps : List Str} {g : List Value → List Value → List Value} {pins : List (Addr × Obj)} {σ : L2.St} {H : Hp} {s : Shared} {Q : VK} {us ws : List Value} {vs zs : List V} (F : FnOk X.prog X.w X.K X.mg X.base CX k fa fd ps sp) (hr : Room k X.A) (hb : KBn X.K fd ps n ks g gV) (hx : PassesAt CX X σ (E σ))
    (I : Inv X pins σ H s) (r : Vals vs us) (rz : Vals zs ws) (l1 : vs.length = n) (l2 : zs.length = ks.length) (h : sp (gV vs zs) H Q (E σ)) : wpAny (model X.prog X.w) X.A (call (.ref fa) us (ks.zip ws)) (EP X pins σ Q) X.xe s := by
  have r2 := hb.rel r rz
  refine wpAny_call (codeAny_mono (F.run X.A X.stack s H ⟨us, ks.zip ws⟩ (g us ws) (gV vs zs) Q (E σ) hr I.env0 (hb.to s us ws I.kIn (r.length.symm.trans l1) (rz.length.symm.trans l2)) r2 h) fun r s' hq => ?_)
  cases r with
  | error e => exact hx pins H s e s' I hq
  | ok fl =>
    cases fl with
    | ret u => exact I.after hq
    | next => exact False.elim hq
    | brk => exact False.elim hq
    | cont => exact False.elim hq
theorem pe_mVK {pl : Sem Bool} (c : MetVK X.prog X.w X.K X.mg X.base k An m 1 ks gV sp) (hr : Room j X.A) (hk : k ≤ j) (tk : L2N.Takes X W) (he : PE X o ta) (hkw : PK X kws tkk)
    (hall : (backToKw pos (keywordEach kws X.env)).all (·.1.isSome) = true := by rfl) (hks : (backToKw pos (keywordEach kws X.env)).filterMap (·.1) = ks := by rfl)
    (hpl : ((backTo pos (starEach [] X.env)).any (·.1) || (backToKw pos (keywordEach kws X.env)).any (·.1.isNone)) = false := by rfl)
    (ht : eval (.Call (.Attribute o m apos) [] kws pos) X.env = (eval o X.env >>= fun ov => standAt apos.atName >>= fun _ => holding [ov] (getMethod ov m pl) >>= fun r => callWith pos r.1 r.2 (backTo pos (starEach [] X.env)) (backToKw pos (keywordEach kws X.env))) := by rfl) :
    PE X (.Call (.Attribute o m apos) [] kws pos) (tMetVK An m ks.length sp gV W ta tkk) := by
  refine ⟨fun pins s σ H Q I h => ?_⟩
  refine PySem.W.methodCall_KW (pl := pl) (thn (he.run pins s σ H _ I h) fun u s1 ⟨x, H1, I1, rx, a, C, dx, fs, ex, an, ea, l, q⟩ => ?_) ht
  obtain ⟨g, fd, ps, gg, hc, hm, F, b⟩ := c.ex C an
  subst ex
  obtain rfl : u = Value.ref a := rx
  refine getmeth_ok I1 ea hc hm l ?_
  refine PySem.W.callWith_KW0 (first := [.ref a]) (h₀ := X.base) I.ok.mod.kin hm.kp hall ?_ hpl
  refine thn (hkw.run pos pins s1 σ H1 _ I1 q) fun ws s2 ⟨zs, H2, I2, rz, l2, q2⟩ => ⟨I2.kIn, ?_⟩
  rw [hks]
  exact run_fnNS (E := WE W) (us := [.ref a]) (vs := [.ref a]) F (hr.mono hk) b (L2N.passAt tk σ) I2 (.cons rfl .nil) rz rfl l2 q2
end
/-! ### methods that each class of several has by itself -/
structure MetC (P : Program) (w : World) (K : PySem.W.Frag) (mg : Str → Option Value) (base : Heap) (k : Nat) (Kd : Addr → Nat → Prop) (m : Str) (sp : Addr → Nat → Sp) : Prop where
  ex : ∀ C i, Kd C i → ∃ (f : Addr) (fd : FuncData) (ps : List Str), Cls K C ∧ Meth K C m f ∧ FnOk P w K mg base (L2N.CX P w) k f fd ps (sp C i) ∧ Binds K fd ps []
def tMetC (Kd : Addr → Nat → Prop) (m : Str) (sp : Addr → Nat → Sp) (W : WX) (ta : TE) (t : TA) : TE := fun σ H Q => ta σ H fun x H1 => ∃ a C i dx fs, x = .ref a ∧ Kd C i ∧ H1 a = some (.ins C dx fs) ∧ fs.lookup m = none ∧ t σ H1 fun vs H2 => sp C i (.ref a :: vs) H2 Q (WE W σ)
section
variable {X : Cx} {k j : Nat} {Kd : Addr → Nat → Prop} {m : Str} {sp : Addr → Nat → Sp} {W : WX} {p pos apos : Pos} {e o : Expr} {es : List Expr} {ta : TE} {t : TA}
theorem pe_mC {pl : Sem Bool} (c : MetC X.prog X.w X.K X.mg X.base k Kd m sp) (hr : Room j X.A) (hk : k ≤ j) (tk : L2N.Takes X W) (he : PE X o ta) (ha : PA X (e :: es) t)
    (hst : starEach (e :: es) X.env = (false, eval e X.env) :: starEach es X.env := by rfl) (hpl : (backTo pos (starEach es X.env)).any (·.1) = false := by rfl)
    (ht : eval (.Call (.Attribute o m apos) (e :: es) [] pos) X.env = (eval o X.env >>= fun ov => standAt apos.atName >>= fun _ => holding [ov] (getMethod ov m pl) >>= fun r => callWith pos r.1 r.2 (backTo pos (starEach (e :: es) X.env)) (backToKw pos (keywordEach [] X.env))) := by rfl) :
    PE X (.Call (.Attribute o m apos) (e :: es) [] pos) (tMetC Kd m sp W ta t) := by
  refine ⟨fun pins s σ H Q I h => ?_⟩
  refine PySem.W.methodCall_KW (pl := pl) (thn (he.run pins s σ H _ I h) fun u s1 ⟨x, H1, I1, rx, a, C, i, dx, fs, ex, an, ea, l, q⟩ => ?_) ht
  obtain ⟨g, fd, ps, hc, hm, F, b⟩ := c.ex C i an
  subst ex
  obtain rfl : u = Value.ref a := rx
  refine getmeth_ok I1 ea hc hm l ?_
  refine PySem.W.callWith_K (first := [.ref a]) (h₀ := X.base) I.ok.mod.kin hm.kp (thn (ha.run pos pins s1 σ H1 _ I1 q) fun us s2 ⟨vs, H2, I2, r, q2⟩ => ⟨I2.kIn, ?_⟩) hst hpl
  exact run_fnS (E := WE W) (us := .ref a :: us) (vs := .ref a :: vs) F (hr.mono hk) b (L2N.passAt tk σ) I2 (.cons rfl r) q2
theorem pe_mC0 {pl : Sem Bool} (c : MetC X.prog X.w X.K X.mg X.base k Kd m sp) (hr : Room j X.A) (hk : k ≤ j) (tk : L2N.Takes X W) (he : PE X o ta)
    (ht : eval (.Call (.Attribute o m apos) [] [] pos) X.env = (eval o X.env >>= fun ov => standAt apos.atName >>= fun _ => holding [ov] (getMethod ov m pl) >>= fun r => callWith pos r.1 r.2 (backTo pos (starEach [] X.env)) (backToKw pos (keywordEach [] X.env))) := by rfl) :
    PE X (.Call (.Attribute o m apos) [] [] pos) (tMetC Kd m sp W ta tNil) := by
  refine ⟨fun pins s σ H Q I h => ?_⟩
  refine PySem.W.methodCall_KW (pl := pl) (thn (he.run pins s σ H _ I h) fun u s1 ⟨x, H1, I1, rx, a, C, i, dx, fs, ex, an, ea, l, q⟩ => ?_) ht
  obtain ⟨g, fd, ps, hc, hm, F, b⟩ := c.ex C i an
  subst ex
  obtain rfl : u = Value.ref a := rx
  refine getmeth_ok I1 ea hc hm l (PySem.W.callWith_K0 (first := [.ref a]) I1.kIn hm.kp ?_)
  exact run_fnS (E := WE W) (us := [.ref a]) (vs := [.ref a]) F (hr.mono hk) b (L2N.passAt tk σ) I1 (.cons rfl .nil) q
end
/-! ### what a def with super() asks of the text -/
structure SupF (P : Program) (K : PySem.W.Frag) (mg : Str → Option Value) (x qual : Str) (st : Stmt) (f cc cda D : Addr) (fd : FuncData) : Prop where
  F : FunS K x qual st f cc cda fd
  cd : ∃ (ccl : Value) (cdd : Option Addr) (vs : Array Value) (ccs : Array (Option Value)) (file : Str) (tf : Tok), K.lookup cda = some ⟨ccl, cdd, .fields vs, ccs⟩ ∧ vs[2]? = some (.str file tf) ∧ ((P.main.file : Str) == file) = true
  ce : ∃ (cl : Value) (cld : Option Addr) (csl : Array (Option Value)), K.lookup cc = some ⟨cl, cld, .cell (some (.ref D)), csl⟩
  di : ∃ cdD : ClassData, PySem.W.clsIn K D = some cdD
  sup : mg "super" = none
  top : (P.main.scope.names.lookup ("super" : Str)).isSome = false
theorem SupF.hcc {P : Program} {K : PySem.W.Frag} {mg : Str → Option Value} {x qual : Str} {st : Stmt} {f cc cda D : Addr} {fd : FuncData} (S : SupF P K mg x qual st f cc cda D fd) : ∃ cl cld v csl, K.lookup cc = some ⟨cl, cld, .cell v, csl⟩ := by
  obtain ⟨cl, cld, csl, h⟩ := S.ce
  exact ⟨cl, cld, _, csl, h⟩
theorem SupF.sc {CX : CXT} {P : Program} {w : World} {K : PySem.W.Frag} {mg : Str → Option Value} {base : Heap} {x qual : Str} {st : Stmt} {f cc cda D : Addr} {fd : FuncData} {N : List Str} {A : Around} {out : List Env} {s : Shared} {H : Hp} {E : XK} {sf : Str} {ar : Arg} (S : SupF P K mg x qual st f cc cda D fd)
    (hp : ((defArgs st).posonlyargs ++ (defArgs st).args).head? = some ar) (hn : ar.arg = sf)
    (ks : (ncx CX P w K mg base N (NFs x qual st cc cda) f A out s H E).env.kindOf "super" = some .globalImplicit) (kc : (ncx CX P w K mg base N (NFs x qual st cc cda) f A out s H E).env.kindOf "__class__" = some .free) (ka : (ncx CX P w K mg base N (NFs x qual st cc cda) f A out s H E).env.kindOf sf = some .local) (loc : N[0]? = some sf) :
    SupC (ncx CX P w K mg base N (NFs x qual st cc cda) f A out s H E) (.func (defBody st) (envF (NFs x qual st cc cda) f s.heap.objs.size)) f cc D sf := by
  obtain ⟨oc, od, kV, doc, pm, an, ct, osl, rfl, lk, hcd⟩ := S.F.ex
  obtain ⟨ccl, cdd, vs, ccs, file, tf, c1, c2, c3⟩ := S.cd
  obtain ⟨cl, cld, csl, e1⟩ := S.ce
  obtain ⟨cdD, d1⟩ := S.di
  exact ⟨⟨defBody st, _, oc, od, osl, ar, cda, ccl, cdd, vs, ccs, file, tf, cl, cld, csl, cdD, rfl, rfl, lk, hp, hn, rfl, c1, c2, c3, e1, d1, rfl⟩, ks, kc, ka, S.sup, S.top, loc⟩
end Lp
set_option Elab.async false
set_option linter.all false
set_option maxRecDepth 100000
set_option maxHeartbeats 2000000
namespace Lp
open PySem PySem.Spec PyProof.Rows L2
/-! ### == and != of an instance whose class has no __eq__ -/
theorem int_eq_declines_plain (b : Int) (u : Tok) (l : Addr) (c : Value) (dd : Option Addr) (sl : Array (Option Value)) :
    Meets (Builtin.«int.__eq__» ⟨[.int b u, .ref l], []⟩) (fun _ R s => s.heap.get? l = some { cls := c, dict := dd, data := .plain, slots := sl } ∧ R (.ok (.ret .notImplemented)) s) :=
  .of_wp fun prog w A R s h => by obtain ⟨hp, g, d, tk, os⟩ := s; obtain ⟨hl, h⟩ := h; wp_walk using wpAny_loadPart' hl, wpAny_load hl; exact ⟨_, rfl, h⟩
/-- what the text says of such a class -/
structure NoEq (K : PySem.W.Frag) (C : Addr) : Prop where
  mro : PySem.W.mroIn K C (.type "object") = some true
  eq : PySem.W.findIn K (.ref C) "__eq__" = some (some (.builtin "object.__eq__"))
  ne : PySem.W.findIn K (.ref C) "__ne__" = some (some (.builtin "object.__ne__"))
  sub : PySem.W.subIn K (.ref C) (.type "list") = some false
  obj : PySem.W.subIn K (.ref C) (.type "object") = some true
  non : PySem.W.subIn K (.ref C) (.type "NoneType") = some false
section
variable {M : Model} {prog : Program} {w : World} {A : Around} {E : Value → Shared → Prop} {s : Shared} {K : PySem.W.Frag} {x y C : Addr} {ox oy : Obj} {od od2 : Option Obj}
theorem sub_own {T : String} {bm : List Value} (e : fastBuiltinMro T = some bm) (h : bm.contains (.ref C) = false) : PySem.W.subIn K (.type T) (.ref C) = some false := by
  show (fastBuiltinMro T).map (·.contains (.ref C)) = some false
  rw [e]
  show some (bm.contains (.ref C)) = _
  rw [h]
theorem objEq_no {b : Value} {Q : Value → Shared → Prop} (N : NoEq K C) (X : K.In s.heap) (I : PySem.W.InstAt s.heap x ox C od) (hb : ∀ R : Bool → Shared → Prop, R false s → wpAny (model prog w) A.in1 (isSame (.ref x) b) R E s) (hq : Q .notImplemented s) :
    wpAny (model prog w) A (call (.builtin "object.__eq__") [.ref x, b]) Q E s := by
  refine wpAny_call (codeAny_call_builtin F.cmp_object.eq.plain F.cmpEntry_eq (PySem.W.check_slot F.cmpKind_eq F.cmpSplit_eq (I.type.andThen (PySem.W.looks_mroIn X N.mro)) (F.cmpArgs_eq _ _) ?_))
  unfold Builtin.«object.__eq__»
  repeat (first | with_reducible refine hb _ ?_ | wp_step)
  exact hq
theorem objEq_yes {Q : Value → Shared → Prop} (N : NoEq K C) (X : K.In s.heap) (I : PySem.W.InstAt s.heap x ox C od) (hq : Q (.bool true) s) :
    wpAny (model prog w) A (call (.builtin "object.__eq__") [.ref x, .ref x]) Q E s := by
  refine wpAny_call (codeAny_call_builtin F.cmp_object.eq.plain F.cmpEntry_eq (PySem.W.check_slot F.cmpKind_eq F.cmpSplit_eq (I.type.andThen (PySem.W.looks_mroIn X N.mro)) (F.cmpArgs_eq _ _) ?_))
  have hb : ∀ R : Bool → Shared → Prop, R true s → wpAny (model prog w) A.in1 (isSame (.ref x) (.ref x)) R E s := fun R h => wpAny_of_eq (show isSame (.ref x) (.ref x) = pure true by simp [isSame]) h
  unfold Builtin.«object.__eq__»
  repeat (first | with_reducible refine hb _ ?_ | wp_step)
  exact hq
theorem same_other {R : Bool → Shared → Prop} (ne : x ≠ y) (I : PySem.W.InstAt s.heap x ox C od) (J : PySem.W.InstAt s.heap y oy C od2) (h : R false s) : wpAny M A (isSame (.ref x) (.ref y)) R E s := by
  exact SeqAt.wpAny_isSame_ref_other' ne I.at_ J.at_ (fun z => by have := J.cls; rw [z] at this; cases this) h
theorem try_no {b : Value} {Q : Option Value → Shared → Prop} (N : NoEq K C) (X : K.In s.heap) (I : PySem.W.InstAt s.heap x ox C od) (hb : ∀ R : Bool → Shared → Prop, R false s → wpAny (model prog w) A.in1 (isSame (.ref x) b) R E s) (hq : Q none s) : wpAny (model prog w) A (tryCompare (.ref x) "__eq__" b) Q E s := by
  unfold tryCompare
  exact wpAny_bind (HN.ifBound_objEq X I N.eq (objEq_no N X I hb (wpAny_pure hq)))
theorem rc_no {b tb : Value} {Q : Value → Shared → Prop} (hu : A.units < cLine) (N : NoEq K C) (X : K.In s.heap) (I : PySem.W.InstAt s.heap x ox C od) (tyb : PySem.W.Looks (model prog w) s.heap (typeOf b) tb) (sb : tb = .ref C ∨ PySem.W.subIn K tb (.ref C) = some false)
    (hb : ∀ (A' : Around) (R : Bool → Shared → Prop), R false s → wpAny (model prog w) A' (isSame (.ref x) b) R E s) (two : ∀ Q' : Option Value → Shared → Prop, Q' none s → wpAny (model prog w) A (tryCompare b "__eq__" (.ref x)) Q' E s) (h : Q (.bool false) s) : wpAny (model prog w) A (richCompare .Eq (.ref x) b) Q E s := by
  simp only [richCompare, cmpInfo_Eq, oneThing_ref]
  refine wpAny_holding (wpAny_bind (wpAny_cRoomFor hu ?_))
  refine wpAny_bind (I.type.here (wpAny_bind (tyb.here ?_)))
  have rest : wpAny (model prog w) A (tryCompare (.ref x) "__eq__" b >>= fun r => match r with
      | some v => pure v
      | none => tryCompare b "__eq__" (.ref x) >>= fun r => match r with
        | some v => pure v
        | none => rule "compare.eq-identity" >>= fun _ => isSame (.ref x) b >>= fun r => pure (Value.bool r)) Q E s :=
    wpAny_bind (try_no N X I (hb _) (wpAny_bind (two _ (wpAny_bind (wpAny_rule (wpAny_bind (hb _ _ (wpAny_pure h))))))))
  split
  · rename_i q
    have sb' : PySem.W.subIn K tb (.ref C) = some false := sb.resolve_left fun e => by
      rw [e] at q
      simp at q
    refine wpAny_bind ((PySem.W.looks_subIn X sb').here ?_)
    simp only [Bool.false_eq_true, if_false, Bool.not_false, if_true]
    first
      | exact rest
      | (refine wpAny_bind (m := tryCompare (.ref x) _ b) (try_no N X I (hb _) ?_)
         refine wpAny_bind (m := tryCompare b _ (.ref x)) (two _ ?_)
         exact wpAny_bind (wpAny_rule (wpAny_bind (hb _ _ (wpAny_pure h)))))
  · refine wpAny_bind (wpAny_pure ?_)
    simp only [Bool.false_eq_true, if_false, Bool.not_false, if_true]
    first
      | exact rest
      | (refine wpAny_bind (m := tryCompare (.ref x) _ b) (try_no N X I (hb _) ?_)
         refine wpAny_bind (m := tryCompare b _ (.ref x)) (two _ ?_)
         exact wpAny_bind (wpAny_rule (wpAny_bind (hb _ _ (wpAny_pure h)))))
/-- x == y, two instances of the class -/
theorem rc_two {Q : Value → Shared → Prop} (hu : A.units < cLine) (N : NoEq K C) (X : K.In s.heap) (I : PySem.W.InstAt s.heap x ox C od) (J : PySem.W.InstAt s.heap y oy C od2) (ne : x ≠ y) (h : Q (.bool false) s) : wpAny (model prog w) A (richCompare .Eq (.ref x) (.ref y)) Q E s :=
  rc_no hu N X I J.type (.inl rfl) (fun A' R hr => same_other ne I J hr) (fun Q' hq => try_no N X J (fun R hr => same_other ne.symm J I hr) hq) h
/-- x == x -/
theorem rc_one {Q : Value → Shared → Prop} (hu : A.units < cLine) (N : NoEq K C) (X : K.In s.heap) (I : PySem.W.InstAt s.heap x ox C od) (h : Q (.bool true) s) : wpAny (model prog w) A (richCompare .Eq (.ref x) (.ref x)) Q E s := by
  simp only [richCompare, cmpInfo_Eq, oneThing_ref]
  refine wpAny_holding (wpAny_bind (wpAny_cRoomFor hu ?_))
  refine wpAny_bind (I.type.here (wpAny_bind (I.type.here ?_)))
  split
  · rename_i q
    simp at q
  · refine wpAny_bind (wpAny_pure ?_)
    simp only [Bool.false_eq_true, if_false, Bool.not_false, if_true]
    refine wpAny_bind (m := tryCompare (.ref x) _ (.ref x)) ?_
    unfold tryCompare
    exact wpAny_bind (HN.ifBound_objEq X I N.eq (objEq_yes N X I (wpAny_pure (wpAny_pure h))))
/-- x == i -/
theorem rc_int {i : Int} {t : Tok} {Q : Value → Shared → Prop} (hu : A.units < cLine) (N : NoEq K C) (X : K.In s.heap) (I : PySem.W.InstAt s.heap x ox C od) (hd : ox.data = .plain) (h : Q (.bool false) s) : wpAny (model prog w) A (richCompare .Eq (.ref x) (.int i t)) Q E s := by
  refine rc_no hu N X I (tb := .type "int") (PySem.W.Looks.of_pure (typeIs_int s i t)) (.inr (sub_own (bm := [.type "int", .type "object"]) (by decide +kernel) (by first | rfl | simp))) (fun A' R hr => wpAny_of_eq (rfl : isSame (.ref x) (.int i t) = pure false) hr) (fun Q' hq => ?_) h
  obtain ⟨oc, odi, oda, osl⟩ := ox
  have ha := I.at_
  simp only at hd
  subst hd
  refine wpAny_tryCompare_declines (typeIs_int s i t) F.slot_int_eq_refl (call_meets F.slot_int_eq_refl (typeIs_int s i t) F.entry_int_eq (F.args_int_eq_2 _ _) (int_eq_declines_plain i t x oc odi osl) ⟨ha, ⟨rfl, hq⟩⟩)
theorem list_eq_declines_own (l x : Addr) :
    Meets (Builtin.«list.__eq__» ⟨[.ref l, .ref x], []⟩) (fun _ R s => (∀ M : Model, PySem.W.Looks M s.heap (isInstance (.ref x) (.type "list")) false) ∧ R (.ok (.ret .notImplemented)) s) :=
  .of_wp fun prog w A R s h => by
    obtain ⟨hp, g, d, tk, os⟩ := s
    obtain ⟨hl, h⟩ := h
    have f : ∀ {A : Around} {Q : Bool → Shared → Prop} {E : Value → Shared → Prop}, Q false ⟨hp, g, d, tk, os⟩ → wpAny (model prog w) A (isInstance (.ref x) (.type "list")) Q E ⟨hp, g, d, tk, os⟩ := fun {A Q E} q => (hl _).here q
    wp_walk using f
    exact ⟨_, rfl, h⟩
/-- x == l -/
theorem rc_lst {l : Addr} {items : Array Value} {Q : Value → Shared → Prop} (hu : A.units < cLine) (N : NoEq K C) (X : K.In s.heap) (I : PySem.W.InstAt s.heap x ox C od) (hl : s.heap.IsList l items) (h : Q (.bool false) s) : wpAny (model prog w) A (richCompare .Eq (.ref x) (.ref l)) Q E s := by
  obtain ⟨⟨cls, dd, data, sl⟩, ho, hc, n, hd⟩ := id hl
  simp only at hc hd
  subst hc hd
  have ty : s.TypeIs (.ref l) "list" := ⟨_, ho, rfl⟩
  have ne : x ≠ l := fun e => by
    have h1 := I.at_
    rw [e, ho] at h1
    have h2 := I.cls
    rw [← Option.some.inj h1] at h2
    cases h2
  refine rc_no hu N X I (tb := .type "list") (fun A Q E s' k q => wpAny_typeOf_ref (k _ _ ho) q) (.inr (sub_own (bm := [.type "list", .type "object"]) (by decide +kernel) (by first | rfl | simp))) (fun A' R hr => SeqAt.wpAny_isSame_ref_other' ne I.at_ ho (fun z => absurd (Value.type.inj z) (by decide)) hr) (fun Q' hq => ?_) h
  exact wpAny_tryCompare_declines ty F.slot_list_eq_refl (call_meets F.slot_list_eq_refl ty F.entry_list_eq (F.args_list_eq_2 _ _) (list_eq_declines_own l x) ⟨fun M => I.type.andThen (PySem.W.looks_subIn X N.sub), ⟨rfl, hq⟩⟩)
/-- None == x -/
theorem rc_non {Q : Value → Shared → Prop} (hu : A.units < cLine) (N : NoEq K C) (X : K.In s.heap) (I : PySem.W.InstAt s.heap x ox C od) (h : Q (.bool false) s) : wpAny (model prog w) A (richCompare .Eq .none (.ref x)) Q E s := by
  have ty : s.TypeIs .none "NoneType" := rfl
  simp only [richCompare, cmpInfo_Eq, ty.oneThing_none]
  refine wpAny_holding (wpAny_bind (wpAny_cRoomFor hu ?_))
  refine wpAny_bind (wpAny_typeOf ty (wpAny_bind (I.type.here ?_)))
  split
  · refine wpAny_bind ((PySem.W.looks_subIn X N.non).here ?_)
    simp only [Bool.false_eq_true, if_false, Bool.not_false, if_true]
    refine wpAny_bind (m := tryCompare .none _ (.ref x)) (wpAny_tryCompare_declines ty F.slot_NoneType_eq (call_gives F.slot_NoneType_eq ty F.entry_NoneType_eq (F.args_NoneType_eq_2 _ _) (SeqAt.NoneType___eq___none_ref_0 x) ⟨rfl, ?_⟩))
    refine wpAny_bind (m := tryCompare (.ref x) _ .none) (try_no N X I (fun R hr => wpAny_of_eq (rfl : isSame (.ref x) .none = pure false) hr) ?_)
    exact wpAny_bind (wpAny_rule (wpAny_bind (wpAny_of_eq (rfl : isSame .none (.ref x) = pure false) (wpAny_pure h))))
  · rename_i q
    exact absurd (by simp) q
/-- object.__ne__ -/
theorem objNe_no {b : Value} {Q : Value → Shared → Prop} (hu : A.in1.units < cLine) (N : NoEq K C) (X : K.In s.heap) (I : PySem.W.InstAt s.heap x ox C od) (hb : ∀ (A' : Around) (R : Bool → Shared → Prop), R false s → wpAny (model prog w) A' (isSame (.ref x) b) R E s) (hq : Q .notImplemented s) :
    wpAny (model prog w) A (call (.builtin "object.__ne__") [.ref x, b]) Q E s := by
  have hi : PySem.W.Looks (model prog w) s.heap (isInstance (.ref x) (.type "object")) true := I.type.andThen (PySem.W.looks_subIn X N.obj)
  refine wpAny_call (codeAny_call_builtin (by decide +kernel) F.cmpEntry_ne (PySem.W.check_slot F.cmpKind_ne F.cmpSplit_ne hi (F.cmpArgs_ne _ _) ?_))
  unfold Builtin.«object.__ne__»
  refine wpAny_bind (m := slotArgs "__ne__" 1 _) (wpAny_of_eq (a := ((Value.ref x : Value), [b])) (by first | rfl | (simp only [slotArgs]; rfl)) ?_)
  refine wpAny_bind (wpAny_cRoomFor hu ?_)
  refine wpAny_bind (m := callSpecialIfBound? (.ref x) (Str.ofString "__eq__") [b]) (HN.ifBound_objEq X I N.eq (objEq_no (A := A.in1) N X I (hb _) ?_))
  exact wpAny_pure hq
theorem try_ne {b : Value} {Q : Option Value → Shared → Prop} (hu : A.in1.units < cLine) (N : NoEq K C) (X : K.In s.heap) (I : PySem.W.InstAt s.heap x ox C od) (hb : ∀ (A' : Around) (R : Bool → Shared → Prop), R false s → wpAny (model prog w) A' (isSame (.ref x) b) R E s) (hq : Q none s) : wpAny (model prog w) A (tryCompare (.ref x) "__ne__" b) Q E s := by
  unfold tryCompare
  exact wpAny_bind (ifBound_ne X I N.ne (objNe_no hu N X I hb (wpAny_pure hq)))
/-- x != y -/
theorem rc_ne {Q : Value → Shared → Prop} (hu : A.units < cLine) (hu1 : A.in1.units < cLine) (N : NoEq K C) (X : K.In s.heap) (I : PySem.W.InstAt s.heap x ox C od) (J : PySem.W.InstAt s.heap y oy C od2) (ne : x ≠ y) (h : Q (.bool true) s) : wpAny (model prog w) A (richCompare .NotEq (.ref x) (.ref y)) Q E s := by
  simp only [richCompare, cmpInfo_NotEq, oneThing_ref]
  refine wpAny_holding (wpAny_bind (wpAny_cRoomFor hu ?_))
  refine wpAny_bind (I.type.here (wpAny_bind (J.type.here ?_)))
  split
  · rename_i q
    simp at q
  · refine wpAny_bind (wpAny_pure ?_)
    simp only [Bool.false_eq_true, if_false, Bool.not_false, if_true]
    refine wpAny_bind (m := tryCompare (.ref x) _ (.ref y)) (try_ne hu1 N X I (fun A' R hr => same_other ne I J hr) ?_)
    refine wpAny_bind (m := tryCompare (.ref y) _ (.ref x)) (try_ne hu1 N X J (fun A' R hr => same_other ne.symm J I hr) ?_)
    exact wpAny_bind (wpAny_rule (wpAny_bind (same_other ne I J (wpAny_pure h))))
end
section
variable {X : Cx} {C : Addr}
def rEqI (C : Addr) : R2 := fun x y H Q => (∃ (a b dx dy : Addr) (fs gs : List (Str × V)), x = .ref a ∧ y = .ref b ∧ H a = some (.ins C dx fs) ∧ H b = some (.ins C dy gs) ∧ Q (.bl (decide (a = b))) H) ∨
  (∃ (a dx : Addr) (fs : List (Str × V)), x = .ref a ∧ H a = some (.ins C dx fs) ∧ ((∃ i : Int, y = .int i) ∨ ∃ (l : Addr) (xs : List V), y = .ref l ∧ H l = some (.lst xs)) ∧ Q (.bl false) H) ∨ ∃ (a dx : Addr) (fs : List (Str × V)), x = .non ∧ y = .ref a ∧ H a = some (.ins C dx fs) ∧ Q (.bl false) H
theorem op_eqI (hu : X.A.units < cLine) (N : NoEq X.K C) : OpR X (compareOp .Eq) (rEqI C) := by
  intro pins s σ H x y v u Q I rx ry h
  show wpAny _ X.A (richCompare .Eq _ _) _ _ s
  rcases h with ⟨a, b, dx, dy, fs, gs, rfl, rfl, ha, hb, q⟩ | ⟨a, dx, fs, rfl, ha, hy, q⟩ | ⟨a, dx, fs, rfl, rfl, ha, q⟩
  · cases (show v = Value.ref a from rx)
    cases (show u = Value.ref b from ry)
    obtain ⟨ox, od, J, _⟩ := inst_plain I ha
    obtain ⟨ox2, od2, J2, _⟩ := inst_plain I hb
    by_cases e : a = b
    · subst e
      rw [decide_eq_true rfl] at q
      exact rc_one hu N I.kIn J ⟨.bl true, H, I, rfl, q⟩
    · rw [decide_eq_false e] at q
      exact rc_two hu N I.kIn J J2 e ⟨.bl false, H, I, rfl, q⟩
  · cases (show v = Value.ref a from rx)
    obtain ⟨ox, od, J, hd⟩ := inst_plain I ha
    rcases hy with ⟨i, rfl⟩ | ⟨l, xs, rfl, hl⟩
    · obtain ⟨t, rfl⟩ := ry
      exact rc_int hu N I.kIn J hd ⟨.bl false, H, I, rfl, q⟩
    · cases (show u = Value.ref l from ry)
      obtain ⟨its, rl, pl', hz⟩ := I.list (.of hl)
      exact rc_lst hu N I.kIn J pl'.isList ⟨.bl false, H, I, rfl, q⟩
  · cases rx
    cases (show u = Value.ref a from ry)
    obtain ⟨ox, od, J, _⟩ := inst_plain I ha
    exact rc_non hu N I.kIn J ⟨.bl false, H, I, rfl, q⟩
def rNeI (C : Addr) : R2 := fun x y H Q => ∃ (a b dx dy : Addr) (fs gs : List (Str × V)), x = .ref a ∧ y = .ref b ∧ H a = some (.ins C dx fs) ∧ H b = some (.ins C dy gs) ∧ a ≠ b ∧ Q (.bl true) H
theorem op_neI (hu : X.A.units + 1 < cLine) (N : NoEq X.K C) : OpR X (compareOp .NotEq) (rNeI C) := by
  intro pins s σ H x y v u Q I rx ry h
  show wpAny _ X.A (richCompare .NotEq _ _) _ _ s
  obtain ⟨a, b, dx, dy, fs, gs, rfl, rfl, ha, hb, ne, q⟩ := h
  cases (show v = Value.ref a from rx)
  cases (show u = Value.ref b from ry)
  obtain ⟨ox, od, J, _⟩ := inst_plain I ha
  obtain ⟨ox2, od2, J2, _⟩ := inst_plain I hb
  exact rc_ne (by omega) hu N I.kIn J J2 ne ⟨.bl true, H, I, rfl, q⟩
end
end Lp
set_option Elab.async false
set_option linter.all false
set_option maxRecDepth 100000
set_option maxHeartbeats 2000000
namespace Lp
open PySem PySem.Spec PyProof.Rows L2
/-! ### instances of a class whose __init__ may raise -/
structure MakN (P : Program) (w : World) (K : PySem.W.Frag) (mg : Str → Option Value) (base : Heap) (k : Nat) (x : Str) (C : Addr) (sp : Sp) : Prop where
  ex : ∃ (f : Addr) (fd : FuncData) (ps : List Str), Mk K C f ∧ FnOk P w K mg base (L2N.CX P w) k f fd ps sp ∧ mg x = some (.ref C) ∧ Binds K fd ps []
def tMakeN (C : Addr) (sp : Sp) (W : WX) (t : TA) : TE := fun σ H Q => t σ H fun vs H1 => ∀ x dx, H1 x = none → H1 dx = none → dx ≠ x →
  sp (.ref x :: vs) (upd (upd H1 dx (.own x)) x (.ins C dx [])) (fun v H2 => v = .non ∧ Q (.ref x) H2) (WE W σ)
section
variable {X : Cx} {k j : Nat} {C f : Addr} {x : Str} {sp : Sp} {W : WX} {p pos : Pos} {e : Expr} {es : List Expr} {t : TA} {fd : FuncData} {ps : List Str}
theorem run_makeS {CX : CXT} {E : L2.St → XK} {pins : List (Addr × Obj)} {σ : L2.St} {H : Hp} {s : Shared} {Q : VK} {us : List Value} {vs : List V} (M : Mk X.K C f) (F : FnOk X.prog X.w X.K X.mg X.base CX k f fd ps sp) (hr : Room (k + 1) X.A) (hb : Binds X.K fd ps []) (hx : PassesAt CX X σ (E σ)) (I : Inv X pins σ H s) (r : Vals vs us)
    (h : ∀ x dx, H x = none → H dx = none → dx ≠ x → sp (.ref x :: vs) (upd (upd H dx (.own x)) x (.ins C dx [])) (fun v H2 => v = .non ∧ Q (.ref x) H2) (E σ)) : wpAny (model X.prog X.w) X.A (call (.ref C) us) (EP X pins σ Q) X.xe s := by
  have hq := h (s.heap.objs.size + 1) s.heap.objs.size (I.hok.fresh (Nat.le_succ _)) (I.hok.fresh (Nat.le_refl _)) (Nat.ne_of_lt (Nat.lt_succ_self _))
  have I2 := Inv.made (C := C) I
  have r2 : Vals (V.ref (s.heap.objs.size + 1) :: vs) (Value.ref (s.heap.objs.size + 1) :: us) := .cons rfl r
  have hl : (Value.ref (s.heap.objs.size + 1) :: us).length = ps.length := by
    have e := r2.length
    rw [F.len _ _ _ _ hq] at e
    exact e.symm
  have bd := hb _ (Value.ref (s.heap.objs.size + 1) :: us) I2.kIn (by rw [List.append_nil]; exact hl)
  rw [List.append_nil] at bd
  refine wpAny_call (make_map (f := f) I.kIn M.makes M.init (beq_iff_eq.mp M.fn) (codeAny_mono (F.run _ X.stack _ _ ⟨Value.ref (s.heap.objs.size + 1) :: us, []⟩ (Value.ref (s.heap.objs.size + 1) :: us) _ _ (E σ) (hr.make C us [])
    (I2.env0.make C us []) bd r2 hq) fun r s' hq' => ?_))
  cases r with
  | error e => exact hx pins _ _ e s' I2 hq'
  | ok fl =>
    cases fl with
    | ret u =>
      obtain ⟨v, H', I3, rv, ev, q3⟩ := I2.after hq'
      subst ev
      exact ⟨rv, ⟨V.ref (s.heap.objs.size + 1), H', I3, rfl, q3⟩⟩
    | next => exact False.elim hq'
    | brk => exact False.elim hq'
    | cont => exact False.elim hq'
theorem pe_mkN (c : MakN X.prog X.w X.K X.mg X.base k x C sp) (hr : Room j X.A) (hk : k + 1 ≤ j) (tk : L2N.Takes X W) (hg : Gl X x) (ha : PA X (e :: es) t)
    (hdb : (x == ("__debug__" : Str)) = false := by decide) (he : starEach (e :: es) X.env = (false, eval e X.env) :: starEach es X.env := by rfl) (hpl : (backTo pos (starEach es X.env)).any (·.1) = false := by rfl) :
    PE X (.Call (.Name x p) (e :: es) [] pos) (tMakeN C sp W t) := by
  obtain ⟨f, fd, ps, M, F, hm, hb⟩ := c.ex
  refine ⟨fun pins s σ H Q I h => ?_⟩
  refine wpAny_Call_Name_kw (ld_glob I hg hm ?_ hdb)
  refine PySem.W.callWith_K (h₀ := X.base) I.ok.mod.kin M.kp (thn (ha.run pos pins s σ H _ I h) fun us s1 ⟨vs, H1, I1, r, q⟩ => ⟨I1.kIn, ?_⟩) he hpl
  exact run_makeS (E := WE W) M F (hr.mono hk) hb (L2N.passAt tk σ) I1 r q
end
end Lp
set_option Elab.async false
set_option linter.all false
set_option maxRecDepth 100000
set_option maxHeartbeats 2000000
namespace Lp
open PySem PySem.Spec PyProof.Rows L2
/-! ### methods with a star parameter, which may raise -/
theorem cxUpN {P : Program} {w : World} : StX.CXUp (L2N.CX P w) := by
  rintro outer s H s2 H2 E e s' un kp ho ⟨a, B, H', cls, d, ea, fl, hok, ub, na, os, ag, he⟩
  refine ⟨a, B, H', cls, d, ea, fl, hok, ⟨fun b o q n hb => ub.keep b o (kp b o q) (un.free b o q n (by simp)) hb, fun b o q hb => ub.slot b o (kp b o q) hb, fun b o q n => ub.free b o (kp b o q) (un.free b o q n (by simp)),
    fun b o q hb => ub.there b o (kp b o q) hb, fun b xs q => ub.tups b xs (un.tups b xs q), fun b o xs q => ub.frzs b o xs (un.frzs b o xs q), fun b ps q => ?_⟩, na, os.trans ho, ag, he⟩
  obtain ⟨m1, e1⟩ := un.tbls b ps q
  obtain ⟨m2, e2⟩ := ub.tbls b _ e1
  exact ⟨m1 ++ m2, by rw [e2, Array.append_assoc]⟩
/-- self, and what is left over as a new tuple -/
def SpStar (n : Nat) (sp : Sp) : Sp := fun vs H Q E => ∃ ws rest, vs = ws ++ rest ∧ ws.length = n ∧ rest.length ≤ sizeLine ∧ ∀ p, H p = Option.none → sp (ws ++ [V.ref p]) (upd H p (.tup rest)) Q E
section
variable {P : Program} {w : World} {K : PySem.W.Frag} {mg : Str → Option Value} {base : Heap} {k : Nat} {f : Addr} {sp : Sp}
theorem Fun.star {x qual p1 pv : Str} {st : Stmt} {fd : FuncData} {N : List Str} (F : Fun K x qual st f fd) (S : FnScope N [p1, pv] (defScope st))
    (h0 : ∀ (kV doc pm cdv ct : Value) (an : Option Addr) (a : Value), bindArgs (PySem.W.fnOf x qual (defArgs st) (defBody st) (defScope st) .none kV doc pm an cdv ct) ⟨[a], []⟩ = (newTuple [] >>= fun t => pure [(p1, a), (pv, t)]))
    (h1 : ∀ (kV doc pm cdv ct : Value) (an : Option Addr) (a r : Value) (rs : List Value), bindArgs (PySem.W.fnOf x qual (defArgs st) (defBody st) (defScope st) .none kV doc pm an cdv ct) ⟨a :: r :: rs, []⟩ = (newTuple (r :: rs) >>= fun t => pure [(p1, a), (pv, t)]))
    (hbody : ∀ (cdv : Value) (A : Around) (outer : List Env) (s : Shared) (H : Hp) (vs : List V) (Q : VK) (E : XK), Room k (A.deeper (envOfC qual (defScope st) s.heap.objs.size f cdv)) → sp vs H Q E →
      ∃ t, PSs (cxOf (L2N.CX P w) P w K mg base N qual (defScope st) f cdv A outer s H E) (defBody st) t ∧ t { nx := fun _ H' => Q .non H', rt := Q } (start N vs) H) : FnR P w K mg base (L2N.CX P w) (k + 1) f (SpStar 1 sp) := by
  obtain ⟨⟨oc, od, kV, doc, pm, an, cdv, ct, osl, rfl, lk, hc⟩, _⟩ := F
  exact StX.fn_star (ps := [p1]) lk hc S cxUpN (StX.bind_star1 (B := fun l => bindArgs (PySem.W.fnOf x qual (defArgs st) (defBody st) (defScope st) .none kV doc pm an cdv ct) ⟨l, []⟩) (h0 kV doc pm cdv ct an) (h1 kV doc pm cdv ct an)) (hbody cdv)
structure MetR (P : Program) (w : World) (K : PySem.W.Frag) (mg : Str → Option Value) (base : Heap) (k : Nat) (C : Addr) (m : Str) (sp : Sp) : Prop where
  ex : ∃ f : Addr, Cls K C ∧ Meth K C m f ∧ FnR P w K mg base (L2N.CX P w) k f sp
def tMetR (C : Addr) (m : Str) (sp : Sp) (W : WX) (ta : TE) (t : TA) : TE := fun σ H Q => ta σ H fun x H1 => ∃ a dx fs, x = .ref a ∧ H1 a = some (.ins C dx fs) ∧ fs.lookup m = none ∧ t σ H1 fun vs H2 => sp (.ref a :: vs) H2 Q (WE W σ)
end
section
variable {X : Cx} {k j : Nat} {C : Addr} {m : Str} {sp : Sp} {W : WX} {p pos apos : Pos} {e o : Expr} {es : List Expr} {ta : TE} {t : TA}
theorem run_fnRS {E : L2.St → XK} {pins : List (Addr × Obj)} {σ : L2.St} {H : Hp} {s : Shared} {Q : VK} {us : List Value} {vs : List V} {f : Addr} (F : FnR X.prog X.w X.K X.mg X.base (L2N.CX X.prog X.w) k f sp) (hr : Room k X.A) (hx : PassesAt (L2N.CX X.prog X.w) X σ (E σ)) (I : Inv X pins σ H s) (r : Vals vs us) (h : sp vs H Q (E σ)) :
    wpAny (model X.prog X.w) X.A (call (.ref f) us) (EP X pins σ Q) X.xe s := by
  refine wpAny_call (codeAny_mono (F X.A X.stack s H us vs Q (E σ) hr I.env0 r h) fun r s' hq => ?_)
  cases r with
  | error e => exact hx pins _ _ e s' I hq
  | ok fl =>
    cases fl with
    | ret u => exact I.after hq
    | next => exact False.elim hq
    | brk => exact False.elim hq
    | cont => exact False.elim hq
theorem pe_mR {pl : Sem Bool} (c : MetR X.prog X.w X.K X.mg X.base k C m sp) (hr : Room j X.A) (hk : k ≤ j) (tk : L2N.Takes X W) (he : PE X o ta) (ha : PA X (e :: es) t)
    (hst : starEach (e :: es) X.env = (false, eval e X.env) :: starEach es X.env := by rfl) (hpl : (backTo pos (starEach es X.env)).any (·.1) = false := by rfl)
    (ht : eval (.Call (.Attribute o m apos) (e :: es) [] pos) X.env = (eval o X.env >>= fun ov => standAt apos.atName >>= fun _ => holding [ov] (getMethod ov m pl) >>= fun r => callWith pos r.1 r.2 (backTo pos (starEach (e :: es) X.env)) (backToKw pos (keywordEach [] X.env))) := by rfl) :
    PE X (.Call (.Attribute o m apos) (e :: es) [] pos) (tMetR C m sp W ta t) := by
  refine ⟨fun pins s σ H Q I h => ?_⟩
  refine PySem.W.methodCall_KW (pl := pl) (thn (he.run pins s σ H _ I h) fun u s1 ⟨x, H1, I1, rx, a, dx, fs, ex, ea, l, q⟩ => ?_) ht
  obtain ⟨g, hc, hm, F⟩ := c.ex
  subst ex
  obtain rfl : u = Value.ref a := rx
  refine getmeth_ok I1 ea hc hm l ?_
  refine PySem.W.callWith_K (first := [.ref a]) (h₀ := X.base) I.ok.mod.kin hm.kp (thn (ha.run pos pins s1 σ H1 _ I1 q) fun us s2 ⟨vs, H2, I2, r, q2⟩ => ⟨I2.kIn, ?_⟩) hst hpl
  exact run_fnRS (E := WE W) (us := .ref a :: us) (vs := .ref a :: vs) F (hr.mono hk) (L2N.passAt tk σ) I2 (.cons rfl r) q2
end
end Lp
set_option Elab.async false
set_option linter.all false
set_option maxRecDepth 100000
set_option maxHeartbeats 2000000
namespace HK
open PySem PySem.Spec PyProof.Rows L2 Lp He
/-! ### a head by facts: what is observed of the state behind the top -/
abbrev Adr : Type := PySem.W.Frag → Addr
abbrev FnV : Type := Option (Str × Str × Arguments × FuncBody × Scope × Addr × List Str × Addr)
def fnV (K : PySem.W.Frag) (a : Addr) : FnV := match K.lookup a with
  | some ⟨_, _, .func fd, _⟩ => some (fd.name, fd.qualname, fd.params, fd.body, fd.scope, fd.globals, fd.closure.map (·.1), fd.builtins)
  | _ => none
structure Dk where
  adr : Adr
  name : Str
  qual : Str
  st : Stmt
  clo : List Str := []
def Dk.val (d : Dk) : FnV := some (d.name, d.qual, defArgs d.st, .stmts (defBody d.st), defScope d.st, mainGlobals, d.clo, builtinsNs)
abbrev Al : Type := Bool × List FnV
def obsK (fs : List (PySem.W.Frag → Bool)) (ds : List Dk) (K : PySem.W.Frag) : Al := (fs.all fun f => f K, ds.map fun d => fnV K (d.adr K))
def valK (ds : List Dk) : Al := (true, ds.map Dk.val)
def SaysK (fs : List (PySem.W.Frag → Bool)) (ds : List Dk) (K : PySem.W.Frag) : Prop := obsK fs ds K = valK ds
def down : Nat → List Addr
  | 0 => []
  | n + 1 => n :: down n
def obsKG (n : Nat) (fs : List (PySem.W.Frag → Bool)) (ds : List Dk) (g : Addr → Option Obj) : Al := obsK fs ds (frG g (mainGlobals :: cStatics :: down n))
def hookK (n : Nat) (fs : List (PySem.W.Frag → Bool)) (ds : List Dk) : PySem.W.Hook where
  α := Al
  obs := fun s => obsKG n fs ds s.heap.get?
  val := fun _ => valK ds
  says := fun _ h => ∃ K : PySem.W.Frag, K.In h ∧ SaysK fs ds K
  of := fun _ _ e => ⟨_, frG_in, e⟩
  keeps := fun _ _ _ ⟨K, hK, c⟩ k => ⟨K, PySem.W.Frag.In.keeps hK k, c⟩
theorem obsKG_eq {n : Nat} {fs : List (PySem.W.Frag → Bool)} {ds : List Dk} {g : Addr → Option Obj} {s : Shared} (h : ∀ a, g a = s.heap.get? a) : obsKG n fs ds g = (hookK n fs ds).obs s := by
  have e : g = s.heap.get? := funext h
  rw [e] <;> rfl
section
variable {fs : List (PySem.W.Frag → Bool)} {ds : List Dk} {K : PySem.W.Frag}
theorem SaysK.fact (c : SaysK fs ds K) (i : Nat) {f : PySem.W.Frag → Bool} (h : fs[i]? = some f) : f K = true :=
  List.all_eq_true.mp (show (fs.all fun f => f K) = true from congrArg (fun z : Al => z.1) c) f (List.mem_of_getElem? h)
theorem SaysK.fn (c : SaysK fs ds K) (i : Nat) {d : Dk} (h : ds[i]? = some d) : fnV K (d.adr K) = d.val := by
  have e : ds.map (fun d => fnV K (d.adr K)) = ds.map Dk.val := congrArg (fun z : Al => z.2) c
  have e2 : (ds.map fun d => fnV K (d.adr K))[i]? = (ds.map Dk.val)[i]? := by rw [e]
  rw [List.getElem?_map, List.getElem?_map, h] at e2
  exact Option.some.inj e2
/-! ### defs -/
def funB (K : PySem.W.Frag) (a : Addr) (q : Str) (dvs : List V) : Bool := PySem.W.keepIn K (.ref a) && (match K.lookup a with
  | some ⟨_, _, .func fd, _⟩ => PySem.W.codeIn K fd.code q && dflB K fd.defaults dvs
  | _ => false)
theorem funD_ok {d : Dk} {dvs : List V} (e : fnV K (d.adr K) = d.val) (hc : d.clo = []) (c : funB K (d.adr K) d.qual dvs = true) : ∃ fd, FunD K d.name d.qual (defArgs d.st) (defBody d.st) (defScope d.st) dvs [] (d.adr K) fd := by
  obtain ⟨kp, c2⟩ := ba c
  unfold fnV at e
  cases q : K.lookup (d.adr K) with
  | none =>
    rw [q] at c2
    cases c2
  | some o =>
    obtain ⟨oc, od, dt, osl⟩ := o
    rw [q] at c2 e
    cases dt with
    | func fd =>
      obtain ⟨n1, n2, n3, n4, n5, n6, n7, n8, n9, n10, n11, n12, n13, n14, n15⟩ := fd
      have e2 : (some (n1, n2, n3, n4, n5, n6, n7.map (·.1), n15) : FnV) = some (d.name, d.qual, defArgs d.st, .stmts (defBody d.st), defScope d.st, mainGlobals, d.clo, builtinsNs) := e
      rw [hc] at e2
      simp only [Option.some.injEq, Prod.mk.injEq, List.map_eq_nil_iff] at e2
      obtain ⟨h1, h2, h3, h4, h5, h6, h7, h8⟩ := e2
      subst h1 h2 h3 h4 h5 h6 h7 h8
      have c3 : (PySem.W.codeIn K n13 d.qual && dflB K n8 dvs) = true := c2
      obtain ⟨k1, k2⟩ := ba c3
      exact ⟨_, ⟨oc, od, n8, n9, n10, n11, n12, n13, n14, osl, rfl, q, k1, dflB_ok k2, .inl rfl⟩, kp⟩
    | _ => cases c2
theorem fun_ok {d : Dk} (e : fnV K (d.adr K) = d.val) (hc : d.clo = []) (c : funB K (d.adr K) d.qual [] = true) : ∃ fd, L2.Fun K d.name d.qual d.st (d.adr K) fd := by
  obtain ⟨fd, ⟨oc, od, dV, kV, doc, pm, an, cdv, ct, osl, e, lk, hcd, hd, _⟩, kp⟩ := funD_ok e hc c
  have : dV = .none := by
    rcases hd with ⟨_, h⟩ | ⟨h, _⟩
    · exact h
    · exact absurd rfl h
  subst this
  exact ⟨fd, ⟨oc, od, kV, doc, pm, an, cdv, ct, osl, e, lk, hcd⟩, kp⟩
/-- a def with a cell __class__ -/
def supB (K : PySem.W.Frag) (file : Str) (a : Addr) (q : Str) (D : Addr) : Bool := PySem.W.keepIn K (.ref a) && ((PySem.W.clsIn K D).isSome && (match K.lookup a with
  | some ⟨_, _, .func fd, _⟩ => (match fd.defaults, fd.closure, fd.code with
    | .none, [(_, cc)], .ref cda => PySem.W.codeIn K (.ref cda) q && ((match K.lookup cc with
      | some ⟨_, _, .cell (some (.ref D')), _⟩ => decide (D' = D)
      | _ => false) && (match K.lookup cda with
      | some ⟨_, _, .fields vs, _⟩ => (match (vs[2]? : Option Value) with
        | some (.str f _) => file == f
        | _ => false)
      | _ => false))
    | _, _, _ => false)
  | _ => false))
theorem sup_ok {P : Program} {mg : Str → Option Value} {d : Dk} {D : Addr} (e : fnV K (d.adr K) = d.val) (hc : d.clo = [("__class__" : Str)]) (c : supB K P.main.file (d.adr K) d.qual D = true) (hs : mg "super" = none) (ht : (P.main.scope.names.lookup ("super" : Str)).isSome = false) :
    ∃ cc cda fd, SupF P K mg d.name d.qual d.st (d.adr K) cc cda D fd ∧ Binds K fd [] [] = Binds K fd [] [] ∧ ∃ kV doc pm an ct, fd = PySem.W.fnX d.name d.qual (defArgs d.st) (defBody d.st) (defScope d.st) [("__class__", cc)] .none kV doc pm an (.ref cda) ct := by
  obtain ⟨kp, c1⟩ := ba c
  obtain ⟨hD, c2⟩ := ba c1
  unfold fnV at e
  cases q : K.lookup (d.adr K) with
  | none =>
    rw [q] at c2
    cases c2
  | some o =>
    obtain ⟨oc, od, dt, osl⟩ := o
    rw [q] at c2 e
    cases dt with
    | func fd =>
      obtain ⟨n1, n2, n3, n4, n5, n6, n7, n8, n9, n10, n11, n12, n13, n14, n15⟩ := fd
      have e2 : (some (n1, n2, n3, n4, n5, n6, n7.map (·.1), n15) : FnV) = some (d.name, d.qual, defArgs d.st, .stmts (defBody d.st), defScope d.st, mainGlobals, d.clo, builtinsNs) := e
      rw [hc] at e2
      simp only [Option.some.injEq, Prod.mk.injEq] at e2
      obtain ⟨h1, h2, h3, h4, h5, h6, h7, h8⟩ := e2
      subst h1 h2 h3 h4 h5 h6 h8
      dsimp only at c2
      split at c2
      · rename_i x1 x2 x3 y1 cc cda
        obtain ⟨k1, k2⟩ := ba c2
        obtain ⟨k3, k4⟩ := ba k2
        have hn : y1 = "__class__" := by
          have := h7
          simpa using this
        subst hn
        split at k3
        · rename_i w1 w2 D' w3 hcell
          obtain rfl : D' = D := of_decide_eq_true k3
          split at k4
          · rename_i u1 u2 vs u3 hcd
            split at k4
            · rename_i f tf hv
              obtain ⟨cdD, hcls⟩ := Option.isSome_iff_exists.mp hD
              exact ⟨cc, cda, _, ⟨⟨⟨oc, od, _, _, _, _, _, osl, rfl, q, k1⟩, kp⟩, ⟨_, _, vs, _, f, tf, hcd, hv, k4⟩, ⟨_, _, _, hcell⟩, ⟨cdD, hcls⟩, hs, ht⟩, rfl, _, _, _, _, _, rfl⟩
            · cases k4
          · cases k4
        · cases k3
      · cases c2
    | _ => cases c2
/-! ### properties -/
def propF (K : PySem.W.Frag) (p : Addr) : Addr := match PySem.W.recIn K p "property" with
  | some (.ref f :: _) => f
  | _ => 0
def propB (K : PySem.W.Frag) (C : Addr) (m : Str) : Bool := eqO (PySem.W.findIn K (.ref C) m) (some (some (.ref (ma K C m)))) && (eqO (PySem.W.specialIn K (.ref (ma K C m)) "__get__") (some (some (.builtin "property.__get__"))) && (decide (PySem.W.takesIn K (.ref (ma K C m)) = some true) && (match PySem.W.recIn K (ma K C m) "property" with
  | some (.ref _ :: _) => true
  | _ => false)))
theorem prop_ok {C : Addr} {m : Str} (c : propB K C m = true) : PropOf K C m (ma K C m) (propF K (ma K C m)) := by
  obtain ⟨a, c1⟩ := ba c
  obtain ⟨b, c2⟩ := ba c1
  obtain ⟨t, c3⟩ := ba c2
  split at c3
  · rename_i f rest hr
    refine ⟨eqO_ok a, eqO_ok b, of_decide_eq_true t, rest, ?_⟩
    unfold propF
    rw [hr]
  · cases c3
end
/-- a class's constant, an int -/
def conI (K : PySem.W.Frag) (C : Addr) (m : Str) (i : Int) : Bool := match PySem.W.findCls K (.ref C) (.type "type") m with
  | some (.val (.int j _)) => decide (j = i)
  | _ => false
theorem conI_ok {K : PySem.W.Frag} {C : Addr} {m : Str} {i : Int} (c : conI K C m i = true) : ∃ t : Tok, PySem.W.findCls K (.ref C) (.type "type") m = some (.val (.int i t)) := by
  unfold conI at c
  split at c
  · rename_i j t h
    obtain rfl : j = i := of_decide_eq_true c
    exact ⟨t, h⟩
  · cases c
theorem dec_ok {p : Prop} [Decidable p] (h : decide p = true) : p := of_decide_eq_true h
/-! ### the end -/
theorem walk_ofEG {l : PySem.W.OpenLaw} {n k : Nat} {q : Program} {loose : List Str} {XP : (Str → Option Value) → Heap → Prop} {YP : World → Heap → Prop} {d : DefRec} {CX : CXT} {x : Str}
    (hn : l.most = some n) (hn2 : n ≤ sizeLine) (hdf : d.params.defaults = []) (hr : Room k callerA)
    (F : ∀ (w : World) (mg : Str → Option Value) (fa : Addr) (h : Heap), YP w h → h.Ns mainGlobals mg → mg d.name = some (.ref fa) →
      ∃ (K : PySem.W.Frag) (fd : FuncData) (sp : Sp), K.In h ∧ (∀ (s : Shared) (u : Value), BindsTo s fd ⟨[u], []⟩ [(x, u)]) ∧
        (∀ (H : Hp) (a : Addr) (ns : List Int), ns.length ≤ n → Only H → SqL K H a (ns.map V.int) → sp [.ref a] H (fun v _ => v = .bl true) fun _ _ _ => False) ∧
        ∀ base : Heap, K.In base → base.Ns mainGlobals mg → FnG l.prog w K mg base CX k fa fd [x] sp)
    (hCX : ∀ (H : Hp) (s : Shared) (e : Value) (s' : Shared), CX [] H s (fun _ _ _ => False) e s' → False) :
    PySem.W.WalkO q loose XP YP l.row.toRowW d [] (fun f vs => PySem.call f vs) := by
  refine Att.attach_call hn hdf fun w _ s₁ mg _ fa _ _ _ _ a vs ns G Y _ _ _ hmg hobj hints hlen hg => ?_
  obtain ⟨K, fd, sp, KX, hb, hsp, hF⟩ := F w mg fa _ Y G.T.g hmg
  exact law_callG KX G.T.g G.T.b G.T.builtins G.T.nolimit hg hobj hints (Nat.le_trans hlen hn2) hr hF hb (fun H hO hS => hsp H a ns hlen hO hS) fun H e s' => hCX H s₁ e s'
end HK
set_option Elab.async false
set_option linter.all false
set_option maxRecDepth 100000
set_option maxHeartbeats 1000000
namespace Lp
open PySem PySem.Spec PyProof.Rows L2
/-! ### == of a tuple and a text, or of plain values -/
def rEqTS (K : PySem.W.Frag) : R2 := fun x y H Q => (∃ (a : Addr) (xs : List V) (z : Str), x = .ref a ∧ y = .str z ∧ SqT K H a xs ∧ Q (.bl false) H) ∨ rEq x y H Q
theorem op_eqTS {X : Cx} (hu : X.A.units + 64 < cLine) : OpR X (compareOp .Eq) (rEqTS X.K) := by
  intro pins s σ H x y v u Q I rx ry h
  rcases h with ⟨a, xs, z, rfl, rfl, ht, q⟩ | h
  · cases rx
    obtain ⟨t, rfl⟩ := ry
    obtain ⟨its, r, pl, hz⟩ := I.tuple ht
    exact SeqAt.RcAt.tuple_str z t pl (by omega) _ _ _ _ ⟨.bl false, H, I, rfl, q⟩
  · exact op_eq pins s σ H x y v u Q I rx ry h
section
variable {X : Cx} {k j : Nat} {C : Addr} {m : Str} {sp : Sp} {W : WX} {p pos apos : Pos} {e o : Expr} {es : List Expr} {ta : TE} {t : TA}
theorem pe_mR0 {pl : Sem Bool} (c : MetR X.prog X.w X.K X.mg X.base k C m sp) (hr : Room j X.A) (hk : k ≤ j) (tk : L2N.Takes X W) (he : PE X o ta)
    (ht : eval (.Call (.Attribute o m apos) [] [] pos) X.env = (eval o X.env >>= fun ov => standAt apos.atName >>= fun _ => holding [ov] (getMethod ov m pl) >>= fun r => callWith pos r.1 r.2 (backTo pos (starEach [] X.env)) (backToKw pos (keywordEach [] X.env))) := by rfl) :
    PE X (.Call (.Attribute o m apos) [] [] pos) (tMetR C m sp W ta tNil) := by
  refine ⟨fun pins s σ H Q I h => ?_⟩
  refine PySem.W.methodCall_KW (pl := pl) (thn (he.run pins s σ H _ I h) fun u s1 ⟨x, H1, I1, rx, a, dx, fs, ex, ea, l, q⟩ => ?_) ht
  obtain ⟨g, hc, hm, F⟩ := c.ex
  subst ex
  obtain rfl : u = Value.ref a := rx
  refine getmeth_ok I1 ea hc hm l (PySem.W.callWith_K0 (first := [.ref a]) I1.kIn hm.kp ?_)
  exact run_fnRS (E := WE W) (us := [.ref a]) (vs := [.ref a]) F (hr.mono hk) (L2N.passAt tk σ) I1 (.cons rfl .nil) q
end
end Lp
set_option Elab.async false
set_option linter.all false
set_option maxRecDepth 100000
set_option maxHeartbeats 1000000
namespace HK
open PySem PySem.Spec PyProof.Rows L2 Lp He
/-! ### properties, by written addresses -/
def propB2 (K : PySem.W.Frag) (C : Addr) (m : Str) (p f : Addr) : Bool := eqO (PySem.W.findIn K (.ref C) m) (some (some (.ref p))) && (eqO (PySem.W.specialIn K (.ref p) "__get__") (some (some (.builtin "property.__get__"))) && (decide (PySem.W.takesIn K (.ref p) = some true) && (match PySem.W.recIn K p "property" with
  | some (.ref g :: _) => decide (g = f)
  | _ => false)))
theorem prop_ok2 {K : PySem.W.Frag} {C : Addr} {m : Str} {p f : Addr} (c : propB2 K C m p f = true) : PropOf K C m p f := by
  obtain ⟨a, c1⟩ := ba c
  obtain ⟨b, c2⟩ := ba c1
  obtain ⟨t, c3⟩ := ba c2
  split at c3
  · rename_i g rest hr
    obtain rfl : g = f := of_decide_eq_true c3
    exact ⟨eqO_ok a, eqO_ok b, of_decide_eq_true t, rest, hr⟩
  · cases c3
/-! ### the same, what is looked up often put first -/
def obsKP (pre : List Addr) (n : Nat) (fs : List (PySem.W.Frag → Bool)) (ds : List Dk) (g : Addr → Option Obj) : Al := obsK fs ds (frG g (mainGlobals :: cStatics :: (pre ++ down n)))
def hookP (pre : List Addr) (n : Nat) (fs : List (PySem.W.Frag → Bool)) (ds : List Dk) : PySem.W.Hook where
  α := Al
  obs := fun s => obsKP pre n fs ds s.heap.get?
  val := fun _ => valK ds
  says := fun _ h => ∃ K : PySem.W.Frag, K.In h ∧ SaysK fs ds K
  of := fun _ _ e => ⟨_, frG_in, e⟩
  keeps := fun _ _ _ ⟨K, hK, c⟩ k => ⟨K, PySem.W.Frag.In.keeps hK k, c⟩
theorem obsKP_eq {pre : List Addr} {n : Nat} {fs : List (PySem.W.Frag → Bool)} {ds : List Dk} {g : Addr → Option Obj} {s : Shared} (h : ∀ a, g a = s.heap.get? a) : obsKP pre n fs ds g = (hookP pre n fs ds).obs s := by
  have e : g = s.heap.get? := funext h
  rw [e] <;> rfl
end HK
set_option Elab.async false
set_option linter.all false
set_option maxRecDepth 100000
namespace L25
open PySem PySem.Spec PyProof.Rows L2 Lp
def topS (i : Nat) : Stmt := PySem.Challenge.pw_latepatches_k25_events_tried.main.body.getD i (.Pass ⟨0, 0, 0, 0⟩)
abbrev s_is_integer : Stmt := topS 21
abbrev N_is_integer : List Str := ["value"]
theorem sc_is_integer : FnScope N_is_integer ["value"] (defScope s_is_integer) := ⟨rfl, rfl, rfl, by decide +kernel, rfl, by decide +kernel, by decide +kernel⟩
abbrev s_is_integer_within : Stmt := topS 22
abbrev N_is_integer_within : List Str := ["value", "least", "greatest"]
theorem sc_is_integer_within : FnScope N_is_integer_within ["value", "least", "greatest"] (defScope s_is_integer_within) := ⟨rfl, rfl, rfl, by decide +kernel, rfl, by decide +kernel, by decide +kernel⟩
abbrev s_are_integers : Stmt := topS 23
abbrev N_are_integers : List Str := ["value", "least", "greatest", "most", "item"]
theorem sc_are_integers : FnScope N_are_integers ["value", "least", "greatest", "most"] (defScope s_are_integers) := ⟨rfl, rfl, rfl, by decide +kernel, rfl, by decide +kernel, by decide +kernel⟩
abbrev s_check_number : Stmt := topS 24
abbrev N_check_number : List Str := ["value", "least", "greatest"]
theorem sc_check_number : FnScope N_check_number ["value", "least", "greatest"] (defScope s_check_number) := ⟨rfl, rfl, rfl, by decide +kernel, rfl, by decide +kernel, by decide +kernel⟩
abbrev s_check_settable : Stmt := topS 25
abbrev N_check_settable : List Str := ["value"]
theorem sc_check_settable : FnScope N_check_settable ["value"] (defScope s_check_settable) := ⟨rfl, rfl, rfl, by decide +kernel, rfl, by decide +kernel, by decide +kernel⟩
abbrev s_are_events : Stmt := topS 29
abbrev N_are_events : List Str := ["value"]
theorem sc_are_events : FnScope N_are_events ["value"] (defScope s_are_events) := ⟨rfl, rfl, rfl, by decide +kernel, rfl, by decide +kernel, by decide +kernel⟩
abbrev s_is_history : Stmt := topS 30
abbrev N_is_history : List Str := ["value", "started", "event"]
theorem sc_is_history : FnScope N_is_history ["value"] (defScope s_is_history) := ⟨rfl, rfl, rfl, by decide +kernel, rfl, by decide +kernel, by decide +kernel⟩
abbrev s_law_source : Stmt := topS 38
abbrev N_law_source : List Str := ["cell", "nth"]
theorem sc_law_source : FnScope N_law_source ["cell", "nth"] (defScope s_law_source) := ⟨rfl, rfl, rfl, by decide +kernel, rfl, by decide +kernel, by decide +kernel⟩
abbrev s_law_draw : Stmt := topS 39
abbrev N_law_draw : List Str := ["source", "size", "digit"]
theorem sc_law_draw : FnScope N_law_draw ["source", "size"] (defScope s_law_draw) := ⟨rfl, rfl, rfl, by decide +kernel, rfl, by decide +kernel, by decide +kernel⟩
abbrev s_law_cells : Stmt := topS 40
abbrev N_law_cells : List Str := ["script", "most"]
theorem sc_law_cells : FnScope N_law_cells ["script", "most"] (defScope s_law_cells) := ⟨rfl, rfl, rfl, by decide +kernel, rfl, by decide +kernel, by decide +kernel⟩
abbrev s_law_same : Stmt := topS 41
abbrev N_law_same : List Str := ["found", "expected", "one", "other"]
theorem sc_law_same : FnScope N_law_same ["found", "expected"] (defScope s_law_same) := ⟨rfl, rfl, rfl, by decide +kernel, rfl, by decide +kernel, by decide +kernel⟩
abbrev s_law_later : Stmt := topS 42
abbrev N_law_later : List Str := ["state", "words", "event", "present_here", "done", "kept", "spot", "more", "word", "left"]
theorem sc_law_later : FnScope N_law_later ["state", "words", "event"] (defScope s_law_later) := ⟨rfl, rfl, rfl, by decide +kernel, rfl, by decide +kernel, by decide +kernel⟩
abbrev s_law_due : Stmt := topS 43
abbrev N_law_due : List Str := ["state", "integers"]
theorem sc_law_due : FnScope N_law_due ["state", "integers"] (defScope s_law_due) := ⟨rfl, rfl, rfl, by decide +kernel, rfl, by decide +kernel, by decide +kernel⟩
abbrev s_law_seen : Stmt := topS 44
abbrev N_law_seen : List Str := ["one"]
theorem sc_law_seen : FnScope N_law_seen ["one"] (defScope s_law_seen) := ⟨rfl, rfl, rfl, by decide +kernel, rfl, by decide +kernel, by decide +kernel⟩
abbrev s_law_patches_right : Stmt := topS 45
abbrev N_law_patches_right : List Str := ["some", "state", "words", "integers", "k", "one", "due", "told", "running", "word"]
theorem sc_law_patches_right : FnScope N_law_patches_right ["some", "state", "words", "integers"] (defScope s_law_patches_right) := ⟨rfl, rfl, rfl, by decide +kernel, rfl, by decide +kernel, by decide +kernel⟩
abbrev s_law_made : Stmt := topS 46
abbrev N_law_made : List Str := ["source", "one", "most", "style", "some", "words", "integers", "k", "way", "integer"]
theorem sc_law_made : FnScope N_law_made ["source", "one", "most", "style"] (defScope s_law_made) := ⟨rfl, rfl, rfl, by decide +kernel, rfl, by decide +kernel, by decide +kernel⟩
abbrev s_law_event : Stmt := topS 47
abbrev N_law_event : List Str := ["source", "state", "most", "free", "running", "way", "spot"]
theorem sc_law_event : FnScope N_law_event ["source", "state", "most"] (defScope s_law_event) := ⟨rfl, rfl, rfl, by decide +kernel, rfl, by decide +kernel, by decide +kernel⟩
abbrev s_law_pressed : Stmt := topS 48
abbrev N_law_pressed : List Str := ["some", "event", "told"]
theorem sc_law_pressed : FnScope N_law_pressed ["some", "event"] (defScope s_law_pressed) := ⟨rfl, rfl, rfl, by decide +kernel, rfl, by decide +kernel, by decide +kernel⟩
abbrev s_law_error_name : Stmt := topS 49
abbrev N_law_error_name : List Str := ["caught", "pairs", "names", "odd", "told", "is_one"]
theorem sc_law_error_name : FnScope N_law_error_name ["caught"] (defScope s_law_error_name) := ⟨rfl, rfl, rfl, by decide +kernel, rfl, by decide +kernel, by decide +kernel⟩
abbrev s_law_refused : Stmt := topS 50
abbrev N_law_refused : List Str := ["call", "given", "kept", "told", "e"]
theorem sc_law_refused : FnScope N_law_refused ["call", "given"] (defScope s_law_refused) := ⟨rfl, rfl, rfl, by decide +kernel, rfl, by decide +kernel, by decide +kernel⟩
abbrev s_law_tried : Stmt := topS 51
abbrev N_law_tried : List Str := ["one", "g"]
theorem sc_law_tried : FnScope N_law_tried ["one", "g"] (defScope s_law_tried) := ⟨rfl, rfl, rfl, by decide +kernel, rfl, by decide +kernel, by decide +kernel⟩
abbrev s_law_outcome : Stmt := topS 52
abbrev N_law_outcome : List Str := ["one", "g", "told", "kept", "e"]
theorem sc_law_outcome : FnScope N_law_outcome ["one", "g"] (defScope s_law_outcome) := ⟨rfl, rfl, rfl, by decide +kernel, rfl, by decide +kernel, by decide +kernel⟩
abbrev s_law_line : Stmt := topS 53
abbrev N_law_line : List Str := ["source", "state", "words", "size", "found", "now", "most", "turn", "event"]
theorem sc_law_line : FnScope N_law_line ["source", "state", "words", "size"] (defScope s_law_line) := ⟨rfl, rfl, rfl, by decide +kernel, rfl, by decide +kernel, by decide +kernel⟩
abbrev s_law_holds : Stmt := topS 54
abbrev N_law_holds : List Str := ["source", "script", "one", "state", "some", "words", "integers", "calls", "size", "line", "turn", "later", "due", "event", "further"]
theorem sc_law_holds : FnScope N_law_holds ["source", "script"] (defScope s_law_holds) := ⟨rfl, rfl, rfl, by decide +kernel, rfl, by decide +kernel, by decide +kernel⟩
abbrev s_law : Stmt := topS 55
abbrev N_law : List Str := ["script", "k", "cell", "one", "first", "second", "told"]
theorem sc_law : FnScope N_law ["script"] (defScope s_law) := ⟨rfl, rfl, rfl, by decide +kernel, rfl, by decide +kernel, by decide +kernel⟩
abbrev s_Record_init : Stmt := inClass (topS 32) 0
abbrev N_Record_init : List Str := ["self", "integers", "past", "presents"]
theorem sc_Record_init : FnScope N_Record_init ["self", "integers", "past", "presents"] (defScope s_Record_init) := ⟨rfl, rfl, rfl, by decide +kernel, rfl, by decide +kernel, by decide +kernel⟩
abbrev s_Record_twin : Stmt := inClass (topS 32) 1
abbrev N_Record_twin : List Str := ["self"]
theorem sc_Record_twin : FnScope N_Record_twin ["self"] (defScope s_Record_twin) := ⟨rfl, rfl, rfl, by decide +kernel, rfl, by decide +kernel, by decide +kernel⟩
abbrev s_Record_integer_now : Stmt := inClass (topS 32) 2
abbrev N_Record_integer_now : List Str := ["self"]
theorem sc_Record_integer_now : FnScope N_Record_integer_now ["self"] (defScope s_Record_integer_now) := ⟨rfl, rfl, rfl, by decide +kernel, rfl, by decide +kernel, by decide +kernel⟩
abbrev s_Record_found_by : Stmt := inClass (topS 32) 3
abbrev N_Record_found_by : List Str := ["self", "number"]
theorem sc_Record_found_by : FnScope N_Record_found_by ["self", "number"] (defScope s_Record_found_by) := ⟨rfl, rfl, rfl, by decide +kernel, rfl, by decide +kernel, by decide +kernel⟩
abbrev s_Record_is_running : Stmt := inClass (topS 32) 4
abbrev N_Record_is_running : List Str := ["self", "number"]
theorem sc_Record_is_running : FnScope N_Record_is_running ["self", "number"] (defScope s_Record_is_running) := ⟨rfl, rfl, rfl, by decide +kernel, rfl, by decide +kernel, by decide +kernel⟩
abbrev s_Record_go_on_by : Stmt := inClass (topS 32) 5
abbrev N_Record_go_on_by : List Str := ["self", "event", "present"]
theorem sc_Record_go_on_by : FnScope N_Record_go_on_by ["self", "event", "present"] (defScope s_Record_go_on_by) := ⟨rfl, rfl, rfl, by decide +kernel, rfl, by decide +kernel, by decide +kernel⟩
abbrev s_Record_go_back : Stmt := inClass (topS 32) 6
abbrev N_Record_go_back : List Str := ["self"]
theorem sc_Record_go_back : FnScope N_Record_go_back ["self"] (defScope s_Record_go_back) := ⟨rfl, rfl, rfl, by decide +kernel, rfl, by decide +kernel, by decide +kernel⟩
abbrev s_Patch_init : Stmt := inClass (topS 33) 0
abbrev N_Patch_init : List Str := ["self", "record", "number"]
theorem sc_Patch_init : FnScope N_Patch_init ["self", "record", "number"] (defScope s_Patch_init) := ⟨rfl, rfl, rfl, by decide +kernel, rfl, by decide +kernel, by decide +kernel⟩
abbrev s_Patch_number : Stmt := inClass (topS 33) 1
abbrev N_Patch_number : List Str := ["self"]
theorem sc_Patch_number : FnScope N_Patch_number ["self"] (defScope s_Patch_number) := ⟨rfl, rfl, rfl, by decide +kernel, rfl, by decide +kernel, by decide +kernel⟩
abbrev s_Patch_integer : Stmt := inClass (topS 33) 2
abbrev N_Patch_integer : List Str := ["self"]
theorem sc_Patch_integer : FnScope N_Patch_integer ["self"] (defScope s_Patch_integer) := ⟨rfl, rfl, rfl, by decide +kernel, rfl, by decide +kernel, by decide +kernel⟩
abbrev s_Patch_saved : Stmt := inClass (topS 33) 3
abbrev N_Patch_saved : List Str := ["self"]
theorem sc_Patch_saved : FnScope N_Patch_saved ["self"] (defScope s_Patch_saved) := ⟨rfl, rfl, rfl, by decide +kernel, rfl, by decide +kernel, by decide +kernel⟩
abbrev s_Patch_runs : Stmt := inClass (topS 33) 4
abbrev N_Patch_runs : List Str := ["self"]
theorem sc_Patch_runs : FnScope N_Patch_runs ["self"] (defScope s_Patch_runs) := ⟨rfl, rfl, rfl, by decide +kernel, rfl, by decide +kernel, by decide +kernel⟩
abbrev s_Patch_start : Stmt := inClass (topS 33) 5
abbrev N_Patch_start : List Str := ["self"]
theorem sc_Patch_start : FnScope N_Patch_start ["self"] (defScope s_Patch_start) := ⟨rfl, rfl, rfl, by decide +kernel, rfl, by decide +kernel, by decide +kernel⟩
abbrev s_Patch_stop : Stmt := inClass (topS 33) 6
abbrev N_Patch_stop : List Str := ["self"]
theorem sc_Patch_stop : FnScope N_Patch_stop ["self"] (defScope s_Patch_stop) := ⟨rfl, rfl, rfl, by decide +kernel, rfl, by decide +kernel, by decide +kernel⟩
abbrev s_Patch_left_by_stop : Stmt := inClass (topS 33) 7
abbrev N_Patch_left_by_stop : List Str := ["self", "record"]
theorem sc_Patch_left_by_stop : FnScope N_Patch_left_by_stop ["self", "record"] (defScope s_Patch_left_by_stop) := ⟨rfl, rfl, rfl, by decide +kernel, rfl, by decide +kernel, by decide +kernel⟩
abbrev s_Patch_described : Stmt := inClass (topS 33) 8
abbrev N_Patch_described : List Str := ["self"]
theorem sc_Patch_described : FnScope N_Patch_described ["self"] (defScope s_Patch_described) := ⟨rfl, rfl, rfl, by decide +kernel, rfl, by decide +kernel, by decide +kernel⟩
abbrev s_CarefulPatch_number : Stmt := inClass (topS 34) 0
abbrev N_CarefulPatch_number : List Str := ["self"]
theorem sc_CarefulPatch_number : FnScope N_CarefulPatch_number ["self"] (defScope s_CarefulPatch_number) := ⟨rfl, rfl, rfl, by decide +kernel, rfl, by decide +kernel, by decide +kernel⟩
abbrev s_CarefulPatch_integer : Stmt := inClass (topS 34) 1
abbrev N_CarefulPatch_integer : List Str := ["self"]
theorem sc_CarefulPatch_integer : FnScope N_CarefulPatch_integer ["self"] (defScope s_CarefulPatch_integer) := ⟨rfl, rfl, rfl, by decide +kernel, rfl, by decide +kernel, by decide +kernel⟩
abbrev s_CarefulPatch_saved : Stmt := inClass (topS 34) 2
abbrev N_CarefulPatch_saved : List Str := ["self"]
theorem sc_CarefulPatch_saved : FnScope N_CarefulPatch_saved ["self"] (defScope s_CarefulPatch_saved) := ⟨rfl, rfl, rfl, by decide +kernel, rfl, by decide +kernel, by decide +kernel⟩
abbrev s_CarefulPatch_runs : Stmt := inClass (topS 34) 3
abbrev N_CarefulPatch_runs : List Str := ["self"]
theorem sc_CarefulPatch_runs : FnScope N_CarefulPatch_runs ["self"] (defScope s_CarefulPatch_runs) := ⟨rfl, rfl, rfl, by decide +kernel, rfl, by decide +kernel, by decide +kernel⟩
abbrev s_CarefulPatch_start : Stmt := inClass (topS 34) 4
abbrev N_CarefulPatch_start : List Str := ["self", "__class__"]
theorem sc_CarefulPatch_start : NdefX.NScope N_CarefulPatch_start ["self"] ["__class__"] (defScope s_CarefulPatch_start) := NdefX.nscope_by (by decide +kernel)
abbrev s_CarefulPatch_stop : Stmt := inClass (topS 34) 5
abbrev N_CarefulPatch_stop : List Str := ["self", "__class__"]
theorem sc_CarefulPatch_stop : NdefX.NScope N_CarefulPatch_stop ["self"] ["__class__"] (defScope s_CarefulPatch_stop) := NdefX.nscope_by (by decide +kernel)
abbrev s_CarefulPatch_left_by_stop : Stmt := inClass (topS 34) 6
abbrev N_CarefulPatch_left_by_stop : List Str := ["self", "record", "__class__", "present"]
theorem sc_CarefulPatch_left_by_stop : NdefX.NScope N_CarefulPatch_left_by_stop ["self", "record"] ["__class__"] (defScope s_CarefulPatch_left_by_stop) := NdefX.nscope_by (by decide +kernel)
abbrev s_CarefulPatch_described : Stmt := inClass (topS 34) 7
abbrev N_CarefulPatch_described : List Str := ["self", "__class__"]
theorem sc_CarefulPatch_described : NdefX.NScope N_CarefulPatch_described ["self"] ["__class__"] (defScope s_CarefulPatch_described) := NdefX.nscope_by (by decide +kernel)
abbrev s_StrictPatch_number : Stmt := inClass (topS 35) 0
abbrev N_StrictPatch_number : List Str := ["self"]
theorem sc_StrictPatch_number : FnScope N_StrictPatch_number ["self"] (defScope s_StrictPatch_number) := ⟨rfl, rfl, rfl, by decide +kernel, rfl, by decide +kernel, by decide +kernel⟩
abbrev s_StrictPatch_integer : Stmt := inClass (topS 35) 1
abbrev N_StrictPatch_integer : List Str := ["self"]
theorem sc_StrictPatch_integer : FnScope N_StrictPatch_integer ["self"] (defScope s_StrictPatch_integer) := ⟨rfl, rfl, rfl, by decide +kernel, rfl, by decide +kernel, by decide +kernel⟩
abbrev s_StrictPatch_saved : Stmt := inClass (topS 35) 2
abbrev N_StrictPatch_saved : List Str := ["self"]
theorem sc_StrictPatch_saved : FnScope N_StrictPatch_saved ["self"] (defScope s_StrictPatch_saved) := ⟨rfl, rfl, rfl, by decide +kernel, rfl, by decide +kernel, by decide +kernel⟩
abbrev s_StrictPatch_runs : Stmt := inClass (topS 35) 3
abbrev N_StrictPatch_runs : List Str := ["self"]
theorem sc_StrictPatch_runs : FnScope N_StrictPatch_runs ["self"] (defScope s_StrictPatch_runs) := ⟨rfl, rfl, rfl, by decide +kernel, rfl, by decide +kernel, by decide +kernel⟩
abbrev s_StrictPatch_start : Stmt := inClass (topS 35) 4
abbrev N_StrictPatch_start : List Str := ["self", "__class__"]
theorem sc_StrictPatch_start : NdefX.NScope N_StrictPatch_start ["self"] ["__class__"] (defScope s_StrictPatch_start) := NdefX.nscope_by (by decide +kernel)
abbrev s_StrictPatch_stop : Stmt := inClass (topS 35) 5
abbrev N_StrictPatch_stop : List Str := ["self", "__class__"]
theorem sc_StrictPatch_stop : NdefX.NScope N_StrictPatch_stop ["self"] ["__class__"] (defScope s_StrictPatch_stop) := NdefX.nscope_by (by decide +kernel)
abbrev s_StrictPatch_left_by_stop : Stmt := inClass (topS 35) 6
abbrev N_StrictPatch_left_by_stop : List Str := ["self", "record", "__class__"]
theorem sc_StrictPatch_left_by_stop : NdefX.NScope N_StrictPatch_left_by_stop ["self", "record"] ["__class__"] (defScope s_StrictPatch_left_by_stop) := NdefX.nscope_by (by decide +kernel)
abbrev s_StrictPatch_described : Stmt := inClass (topS 35) 7
abbrev N_StrictPatch_described : List Str := ["self", "__class__"]
theorem sc_StrictPatch_described : NdefX.NScope N_StrictPatch_described ["self"] ["__class__"] (defScope s_StrictPatch_described) := NdefX.nscope_by (by decide +kernel)
abbrev s_Setting_init : Stmt := inClass (topS 36) 1
abbrev N_Setting_init : List Str := ["self", "original"]
theorem sc_Setting_init : FnScope N_Setting_init ["self", "original"] (defScope s_Setting_init) := ⟨rfl, rfl, rfl, by decide +kernel, rfl, by decide +kernel, by decide +kernel⟩
abbrev s_Setting_integer : Stmt := inClass (topS 36) 2
abbrev N_Setting_integer : List Str := ["self"]
theorem sc_Setting_integer : FnScope N_Setting_integer ["self"] (defScope s_Setting_integer) := ⟨rfl, rfl, rfl, by decide +kernel, rfl, by decide +kernel, by decide +kernel⟩
abbrev s_Setting_present : Stmt := inClass (topS 36) 3
abbrev N_Setting_present : List Str := ["self"]
theorem sc_Setting_present : FnScope N_Setting_present ["self"] (defScope s_Setting_present) := ⟨rfl, rfl, rfl, by decide +kernel, rfl, by decide +kernel, by decide +kernel⟩
abbrev s_Setting_events : Stmt := inClass (topS 36) 4
abbrev N_Setting_events : List Str := ["self"]
theorem sc_Setting_events : FnScope N_Setting_events ["self"] (defScope s_Setting_events) := ⟨rfl, rfl, rfl, by decide +kernel, rfl, by decide +kernel, by decide +kernel⟩
abbrev s_Setting_original : Stmt := inClass (topS 36) 5
abbrev N_Setting_original : List Str := ["self"]
theorem sc_Setting_original : FnScope N_Setting_original ["self"] (defScope s_Setting_original) := ⟨rfl, rfl, rfl, by decide +kernel, rfl, by decide +kernel, by decide +kernel⟩
abbrev s_Setting_patch : Stmt := inClass (topS 36) 6
abbrev N_Setting_patch : List Str := ["self", "number"]
theorem sc_Setting_patch : FnScope N_Setting_patch ["self", "number"] (defScope s_Setting_patch) := ⟨rfl, rfl, rfl, by decide +kernel, rfl, by decide +kernel, by decide +kernel⟩
abbrev s_Setting_careful : Stmt := inClass (topS 36) 7
abbrev N_Setting_careful : List Str := ["self", "number"]
theorem sc_Setting_careful : FnScope N_Setting_careful ["self", "number"] (defScope s_Setting_careful) := ⟨rfl, rfl, rfl, by decide +kernel, rfl, by decide +kernel, by decide +kernel⟩
abbrev s_Setting_strict : Stmt := inClass (topS 36) 8
abbrev N_Setting_strict : List Str := ["self", "number"]
theorem sc_Setting_strict : FnScope N_Setting_strict ["self", "number"] (defScope s_Setting_strict) := ⟨rfl, rfl, rfl, by decide +kernel, rfl, by decide +kernel, by decide +kernel⟩
abbrev s_Setting_undo : Stmt := inClass (topS 36) 9
abbrev N_Setting_undo : List Str := ["self"]
theorem sc_Setting_undo : FnScope N_Setting_undo ["self"] (defScope s_Setting_undo) := ⟨rfl, rfl, rfl, by decide +kernel, rfl, by decide +kernel, by decide +kernel⟩
abbrev s_Setting_tried : Stmt := inClass (topS 36) 10
abbrev N_Setting_tried : List Str := ["self", "events", "trial", "event", "present"]
theorem sc_Setting_tried : FnScope N_Setting_tried ["self", "events"] (defScope s_Setting_tried) := ⟨rfl, rfl, rfl, by decide +kernel, rfl, by decide +kernel, by decide +kernel⟩
abbrev s_Setting_len : Stmt := inClass (topS 36) 11
abbrev N_Setting_len : List Str := ["self"]
theorem sc_Setting_len : FnScope N_Setting_len ["self"] (defScope s_Setting_len) := ⟨rfl, rfl, rfl, by decide +kernel, rfl, by decide +kernel, by decide +kernel⟩
abbrev s_Setting_enlist : Stmt := inClass (topS 36) 12
abbrev N_Setting_enlist : List Str := ["self", "integer"]
theorem sc_Setting_enlist : FnScope N_Setting_enlist ["self", "integer"] (defScope s_Setting_enlist) := ⟨rfl, rfl, rfl, by decide +kernel, rfl, by decide +kernel, by decide +kernel⟩
abbrev s_Setting_keep : Stmt := inClass (topS 36) 13
abbrev N_Setting_keep : List Str := ["self", "patch"]
theorem sc_Setting_keep : FnScope N_Setting_keep ["self", "patch"] (defScope s_Setting_keep) := ⟨rfl, rfl, rfl, by decide +kernel, rfl, by decide +kernel, by decide +kernel⟩
abbrev s_Setting_check_next : Stmt := inClass (topS 36) 14
abbrev N_Setting_check_next : List Str := ["self", "record", "event"]
theorem sc_Setting_check_next : FnScope N_Setting_check_next ["self", "record", "event"] (defScope s_Setting_check_next) := ⟨rfl, rfl, rfl, by decide +kernel, rfl, by decide +kernel, by decide +kernel⟩
end L25
set_option Elab.async false
set_option linter.all false
set_option maxRecDepth 100000
namespace L25
open PySem PySem.Spec PyProof.Rows L2 Lp
theorem idx_first {l : List Int} {x : Int} (h : x ∈ l) : l[l.idxOf x]? = some x ∧ ∀ m, m < l.idxOf x → l[m]? ≠ some x := by
  induction l with
  | nil => exact absurd h List.not_mem_nil
  | cons y l ih =>
    by_cases e : y = x
    · subst e
      rw [List.idxOf_cons, beq_self_eq_true]
      exact ⟨rfl, fun m hm => absurd hm (Nat.not_lt_zero _)⟩
    · have b : (y == x) = false := by simpa using e
      rw [List.idxOf_cons, b]
      have hx : x ∈ l := (List.mem_cons.mp h).resolve_left fun z => e z.symm
      obtain ⟨i1, i2⟩ := ih hx
      refine ⟨i1, fun m hm => ?_⟩
      cases m with
      | zero => exact fun z => e (Option.some.inj z)
      | succ m => exact i2 m (Nat.lt_of_succ_lt_succ hm)
theorem erase_ix {l : List Int} {x : Int} (h : x ∈ l) : l.eraseIdx (l.idxOf x) = l.erase x := by
  induction l with
  | nil => exact absurd h List.not_mem_nil
  | cons y l ih =>
    by_cases e : y = x
    · subst e
      rw [List.idxOf_cons, beq_self_eq_true, List.erase_cons_head]
      rfl
    · have b : (y == x) = false := by simpa using e
      have hx : x ∈ l := (List.mem_cons.mp h).resolve_left fun z => e z.symm
      rw [List.idxOf_cons, b, List.erase_cons_tail (by simpa using e)]
      show y :: l.eraseIdx (l.idxOf x) = _
      rw [ih hx]
/-! ### live settings: what the text says of the classes; records -/
abbrev fR (ai ap aq : Addr) : List (Str × V) := [("integers", .ref ai), ("past", .ref ap), ("presents", .ref aq)]
abbrev fP (r : Addr) (n : Int) : List (Str × V) := [("_record", .ref r), ("_number", .int n)]
abbrev fG (r al : Addr) : List (Str × V) := [("_record", .ref r), ("_patches", .ref al)]
theorem ne_ip : ¬ ("integers" : Str) = "past" := by decide +kernel
theorem ne_iq : ¬ ("integers" : Str) = "presents" := by decide +kernel
theorem ne_pq : ¬ ("past" : Str) = "presents" := by decide +kernel
theorem ne_rn : ¬ ("_record" : Str) = "_number" := by decide +kernel
theorem ne_rl : ¬ ("_record" : Str) = "_patches" := by decide +kernel
theorem fR_new (ai ap aq : Addr) : putF "presents" (.ref aq) (putF "past" (.ref ap) (putF "integers" (.ref ai) [])) = fR ai ap aq := by
  show putF "presents" (.ref aq) (if ("integers" : Str) = "past" then _ else (("integers" : Str), V.ref ai) :: putF "past" (.ref ap) []) = _
  rw [if_neg ne_ip]
  show (if ("integers" : Str) = "presents" then _ else (("integers" : Str), V.ref ai) :: (if ("past" : Str) = "presents" then _ else (("past" : Str), V.ref ap) :: putF "presents" (.ref aq) [])) = _
  rw [if_neg ne_iq, if_neg ne_pq]
  rfl
theorem fR_two (ai ap : Addr) : putF "past" (.ref ap) (putF "integers" (.ref ai) []) = [(("integers" : Str), V.ref ai), (("past" : Str), V.ref ap)] := by
  show (if ("integers" : Str) = "past" then _ else (("integers" : Str), V.ref ai) :: putF "past" (.ref ap) []) = _
  rw [if_neg ne_ip]
  rfl
theorem fP_new (r : Addr) (n : Int) : putF "_number" (.int n) (putF "_record" (.ref r) []) = fP r n := by
  show (if ("_record" : Str) = "_number" then _ else (("_record" : Str), V.ref r) :: putF "_number" (.int n) []) = _
  rw [if_neg ne_rn]
  rfl
theorem fG_new (r al : Addr) : putF "_patches" (.ref al) (putF "_record" (.ref r) []) = fG r al := by
  show (if ("_record" : Str) = "_patches" then _ else (("_record" : Str), V.ref r) :: putF "_patches" (.ref al) []) = _
  rw [if_neg ne_rl]
  rfl
structure TxtL (K : PySem.W.Frag) (CR CP CC CS CG : Addr) : Prop where
  cR : Cls K CR
  cP : Cls K CP
  cC : Cls K CC
  cS : Cls K CS
  cG : Cls K CG
  nR1 : NoAttr K CR "integers"
  nR2 : NoAttr K CR "past"
  nR3 : NoAttr K CR "presents"
  nP1 : NoAttr K CP "_record"
  nP2 : NoAttr K CP "_number"
  nC1 : NoAttr K CC "_record"
  nC2 : NoAttr K CC "_number"
  nS1 : NoAttr K CS "_record"
  nS2 : NoAttr K CS "_number"
  nG1 : NoAttr K CG "_record"
  nG2 : NoAttr K CG "_patches"
/-- the classes of patches -/
def Any3 (CP CC CS : Addr) : Addr → Prop := fun C => C = CP ∨ C = CC ∨ C = CS
section
variable {K : PySem.W.Frag} {CR CP CC CS CG C : Addr}
theorem TxtL.c (T : TxtL K CR CP CC CS CG) (h : Any3 CP CC CS C) : Cls K C := by
  rcases h with rfl | rfl | rfl
  · exact T.cP
  · exact T.cC
  · exact T.cS
theorem TxtL.n1 (T : TxtL K CR CP CC CS CG) (h : Any3 CP CC CS C) : NoAttr K C "_record" := by
  rcases h with rfl | rfl | rfl
  · exact T.nP1
  · exact T.nC1
  · exact T.nS1
theorem TxtL.n2 (T : TxtL K CR CP CC CS CG) (h : Any3 CP CC CS C) : NoAttr K C "_number" := by
  rcases h with rfl | rfl | rfl
  · exact T.nP2
  · exact T.nC2
  · exact T.nS2
end
/-- an error's class, as the text has it -/
structure Er (K : PySem.W.Frag) (mg : Str → Option Value) (x : Str) (C : Addr) : Prop where
  c : mg x = some (.ref C)
  x : PySem.W.excIn K C [.type "ValueError", .type "Exception", .type "BaseException", .type "object"] "ValueError.__new__" = true
  k : PySem.W.keepIn K (.ref C) = true
  b : PySem.W.subIn K (.ref C) (.type "BaseException") = some true
  t : PySem.W.typeIn K (.ref C) = some (.type "type")
/-! ### the integers, the events, the values present -/
def lastI (S : List Int) : Int := S.getLast?.getD 0
def vI (I : List Int) (c : Int) : Int := (I[c.toNat]?).getD 0
def fbI (P S : List Int) (n : Int) : Int := (S[P.idxOf n]?).getD 0
def fbV (P S : List Int) (n : Int) : V := if n ∈ P then .int (fbI P S n) else .non
structure Wf (I P S : List Int) : Prop where
  len : S.length = P.length + 1
  rng : ∀ c ∈ S, 0 ≤ c ∧ c < (I.length : Int)
  p : P.length ≤ 1000
  i : I.length ≤ 1000
theorem atI_vI {I : List Int} {c : Int} (h : 0 ≤ c ∧ c < (I.length : Int)) : atI (I.map V.int) c = some (.int (vI I c)) := by
  obtain ⟨j, rfl⟩ : ∃ j : Nat, c = (j : Int) := ⟨c.toNat, by omega⟩
  have hj : j < I.length := by omega
  refine atI_nat ?_
  have e : vI I (j : Int) = I[j] := by
    show (I[(j : Int).toNat]?).getD 0 = _
    rw [Int.toNat_natCast, List.getElem?_eq_getElem hj]
    rfl
  rw [e, List.getElem?_map, List.getElem?_eq_getElem hj]
  rfl
theorem last_snoc {S : List Int} (h : S ≠ []) : S = S.dropLast ++ [lastI S] := by
  have e := (List.dropLast_concat_getLast h).symm
  have e2 : lastI S = S.getLast h := by
    show (S.getLast?).getD 0 = _
    rw [List.getLast?_eq_some_getLast h]
    rfl
  rw [e2]
  exact e
theorem atI_lastI {S : List Int} (h : S ≠ []) : atI (S.map V.int) (-1) = some (.int (lastI S)) := by
  have e : S.map V.int = S.dropLast.map V.int ++ [V.int (lastI S)] := by
    rw [show [V.int (lastI S)] = [lastI S].map V.int from rfl, ← List.map_append, ← last_snoc h]
  rw [e]
  exact at_last
theorem lastI_snoc (S : List Int) (c : Int) : lastI (S ++ [c]) = c := by
  show ((S ++ [c]).getLast?).getD 0 = _
  rw [List.getLast?_append]
  rfl
theorem Wf.ne {I P S : List Int} (w : Wf I P S) : S ≠ [] := fun z => by
  have := w.len
  rw [z] at this
  exact absurd this (Nat.succ_ne_zero _).symm
theorem Wf.last {I P S : List Int} (w : Wf I P S) : 0 ≤ lastI S ∧ lastI S < (I.length : Int) := w.rng _ (by
  have e := last_snoc w.ne
  rw [e, lastI_snoc]
  simp)
theorem Wf.at {I P S : List Int} {n : Int} (w : Wf I P S) (h : n ∈ P) : S[P.idxOf n]? = some (fbI P S n) := by
  have hl : P.idxOf n < S.length := by
    have := List.idxOf_lt_length_iff.mpr h
    have := w.len
    omega
  show _ = some ((S[P.idxOf n]?).getD 0)
  rw [List.getElem?_eq_getElem hl]
  rfl
theorem Wf.fb {I P S : List Int} {n : Int} (w : Wf I P S) (h : n ∈ P) : 0 ≤ fbI P S n ∧ fbI P S n < (I.length : Int) := w.rng _ (List.mem_of_getElem? (w.at h))
/-- a record in the heap -/
structure Rec (CR : Addr) (H : Hp) (r ai ap aq : Addr) (I P S : List Int) : Prop where
  r : ∃ dr, H r = some (.ins CR dr (fR ai ap aq))
  i : H ai = some (.lst (I.map .int))
  p : H ap = some (.lst (P.map .int))
  q : H aq = some (.lst (S.map .int))
  ip : ai ≠ ap
  iq : ai ≠ aq
  pq : ap ≠ aq
theorem Rec.same {CR : Addr} {H H' : Hp} {r ai ap aq : Addr} {I P S : List Int} (h : Rec CR H r ai ap aq I P S) (s : Same H H') : Rec CR H' r ai ap aq I P S := by
  obtain ⟨⟨dr, e⟩, b, c, d, x, y, z⟩ := h
  exact ⟨⟨dr, s _ _ e⟩, s _ _ b, s _ _ c, s _ _ d, x, y, z⟩
theorem lk1 (ai ap aq : Addr) : (fR ai ap aq).lookup ("integers" : Str) = some (.ref ai) := by rfl
theorem lk2 (ai ap aq : Addr) : (fR ai ap aq).lookup ("past" : Str) = some (.ref ap) := by rfl
theorem lk3 (ai ap aq : Addr) : (fR ai ap aq).lookup ("presents" : Str) = some (.ref aq) := by rfl
theorem lp1 (r : Addr) (n : Int) : (fP r n).lookup ("_record" : Str) = some (.ref r) := by rfl
theorem lp2 (r : Addr) (n : Int) : (fP r n).lookup ("_number" : Str) = some (.int n) := by rfl
theorem lg1 (r al : Addr) : (fG r al).lookup ("_record" : Str) = some (.ref r) := by rfl
theorem lg2 (r al : Addr) : (fG r al).lookup ("_patches" : Str) = some (.ref al) := by rfl
theorem lk_none {l : List (Str × V)} {m : Str} (h : (l.all fun p => !(m == p.1)) = true) : l.lookup m = none := by
  induction l with
  | nil => rfl
  | cons p l ih =>
    obtain ⟨a, v⟩ := p
    rw [List.all_cons, Bool.and_eq_true] at h
    have h1 : (m == a) = false := by simpa using h.1
    show (match m == a with | true => some v | false => List.lookup m l) = none
    rw [h1]
    exact ih h.2
theorem lkR {m : Str} (ai ap aq : Addr) (h : ((["integers", "past", "presents"] : List Str).all fun p => !(m == p)) = true) : (fR ai ap aq).lookup m = none := lk_none h
theorem lkP {m : Str} (r : Addr) (n : Int) (h : ((["_record", "_number"] : List Str).all fun p => !(m == p)) = true) : (fP r n).lookup m = none := lk_none h
theorem lkG {m : Str} (r al : Addr) (h : ((["_record", "_patches"] : List Str).all fun p => !(m == p)) = true) : (fG r al).lookup m = none := lk_none h
section
variable {P : Program} {w : World} {K : PySem.W.Frag} {mg : Str → Option Value} {base : Heap} {CR CP CC CS CG : Addr}
def spRInit (K : PySem.W.Frag) (CR : Addr) : Sp := fun vs H Q _ => ∃ (r dr a b c : Addr) (I P S : List Int), vs = [.ref r, .ref a, .ref b, .ref c] ∧ H r = some (.ins CR dr []) ∧ H a = some (.lst (I.map .int)) ∧ H b = some (.lst (P.map .int)) ∧ H c = some (.lst (S.map .int)) ∧
  I.length ≤ 1000 ∧ P.length ≤ 1000 ∧ S.length ≤ 2000 ∧ ∀ ai ap aq H', Rec CR H' r ai ap aq I P S → Bt r H H' → H ai = none → H ap = none → H aq = none → Q .non H'
theorem ok_Record_init {f : Addr} {fd : FuncData} (F : Fun K "__init__" "Record.__init__" s_Record_init f fd) (B : NoB mg) (T : TxtL K CR CP CC CS CG) : FnOk P w K mg base CX0 1 f fd ["self", "integers", "past", "presents"] (spRInit K CR) := by
  refine F.ok sc_Record_init (fun vs H Q E h => ?_) (fun cdv A outer s H vs Q E hr h => ?_)
  · obtain ⟨r, dr, a, b, c, I, P, S, rfl, _⟩ := h
    rfl
  · obtain ⟨r, dr, a, b, c, I, P, S, rfl, hR, ha, hb, hc, l1, l2, l3, q⟩ := h
    refine ⟨_, (pss_cons (ps_fld (pv 0) (pe_callTy call_list_of (by rfl) B.list (by decide +kernel) (pa_cons (pv 1) pa_nil)) rfl)
        (pss_cons (ps_fld (pv 0) (pe_callTy call_list_of (by rfl) B.list (by decide +kernel) (pa_cons (pv 2) pa_nil)) rfl)
        (pss_one (ps_fld (pv 0) (pe_callTy call_list_of (by rfl) B.list (by decide +kernel) (pa_cons (pv 3) pa_nil)) rfl)))), ?_⟩
    refine ⟨_, rfl, a, _, rfl, .inl (.of ha), fun ai n1 => ?_⟩
    have s1 := same_new (o := .lst (I.map V.int)) n1
    have e1 : (upd H ai (.lst (I.map V.int))) ai = some (.lst (I.map V.int)) := upd_same
    have r1 := s1 _ _ hR
    have b1 := s1 _ _ hb
    have c1 := s1 _ _ hc
    have n1r : ai ≠ r := fun z => by rw [z, hR] at n1; cases n1
    have B1 : Bt r H (upd H ai (.lst (I.map V.int))) := .of s1
    generalize upd H ai (.lst (I.map V.int)) = H1 at e1 r1 b1 c1 B1 s1 ⊢
    refine ⟨_, rfl, r, CR, dr, _, rfl, r1, T.cR, T.nR1, (by show 0 < 1000; decide), ?_⟩
    have ne_b : b ≠ r := fun z => by rw [z, r1] at b1; cases b1
    have ne_c : c ≠ r := fun z => by rw [z, r1] at c1; cases c1
    have B2 := B1.trans (.at_ r H1 (.ins CR dr (putF "integers" (.ref ai) [])))
    have r2 : (upd H1 r (.ins CR dr (putF "integers" (.ref ai) []))) r = some (.ins CR dr (putF "integers" (.ref ai) [])) := upd_same
    have e2 : (upd H1 r (.ins CR dr (putF "integers" (.ref ai) []))) ai = some (.lst (I.map V.int)) := by rw [upd_ne n1r]; exact e1
    have b2 : (upd H1 r (.ins CR dr (putF "integers" (.ref ai) []))) b = some (.lst (P.map V.int)) := by rw [upd_ne ne_b]; exact b1
    have c2 : (upd H1 r (.ins CR dr (putF "integers" (.ref ai) []))) c = some (.lst (S.map V.int)) := by rw [upd_ne ne_c]; exact c1
    generalize upd H1 r (.ins CR dr (putF "integers" (.ref ai) [])) = H2 at B2 r2 e2 b2 c2 ⊢
    refine ⟨_, rfl, b, _, rfl, .inl (.of b2), fun ap n2 => ?_⟩
    have s3 := same_new (o := .lst (P.map V.int)) n2
    have p3 : (upd H2 ap (.lst (P.map V.int))) ap = some (.lst (P.map V.int)) := upd_same
    have r3 := s3 _ _ r2
    have e3 := s3 _ _ e2
    have c3 := s3 _ _ c2
    have n2r : ap ≠ r := fun z => by rw [z, r2] at n2; cases n2
    have n2i : ai ≠ ap := fun z => by rw [← z, e2] at n2; cases n2
    have n2H : H ap = none := by
      cases z : H ap with
      | none => rfl
      | some o => rw [B2 _ _ n2r z] at n2; cases n2
    have B3 := B2.trans (.of s3)
    generalize upd H2 ap (.lst (P.map V.int)) = H3 at p3 r3 e3 c3 B3 ⊢
    refine ⟨_, rfl, r, CR, dr, _, rfl, r3, T.cR, T.nR2, (by show 1 < 1000; decide), ?_⟩
    have B4 := B3.trans (.at_ r H3 (.ins CR dr (putF "past" (.ref ap) (putF "integers" (.ref ai) []))))
    have r4 : (upd H3 r (.ins CR dr (putF "past" (.ref ap) (putF "integers" (.ref ai) [])))) r = some (.ins CR dr (putF "past" (.ref ap) (putF "integers" (.ref ai) []))) := upd_same
    have e4 : (upd H3 r (.ins CR dr (putF "past" (.ref ap) (putF "integers" (.ref ai) [])))) ai = some (.lst (I.map V.int)) := by rw [upd_ne n1r]; exact e3
    have p4 : (upd H3 r (.ins CR dr (putF "past" (.ref ap) (putF "integers" (.ref ai) [])))) ap = some (.lst (P.map V.int)) := by rw [upd_ne n2r]; exact p3
    have c4 : (upd H3 r (.ins CR dr (putF "past" (.ref ap) (putF "integers" (.ref ai) [])))) c = some (.lst (S.map V.int)) := by rw [upd_ne ne_c]; exact c3
    generalize upd H3 r (.ins CR dr (putF "past" (.ref ap) (putF "integers" (.ref ai) []))) = H4 at B4 r4 e4 p4 c4 ⊢
    refine ⟨_, rfl, c, _, rfl, .inl (.of c4), fun aq n3 => ?_⟩
    have s5 := same_new (o := .lst (S.map V.int)) n3
    have q5 : (upd H4 aq (.lst (S.map V.int))) aq = some (.lst (S.map V.int)) := upd_same
    have r5 := s5 _ _ r4
    have e5 := s5 _ _ e4
    have p5 := s5 _ _ p4
    have n3r : aq ≠ r := fun z => by rw [z, r4] at n3; cases n3
    have n3i : ai ≠ aq := fun z => by rw [← z, e4] at n3; cases n3
    have n3p : ap ≠ aq := fun z => by rw [← z, p4] at n3; cases n3
    have n3H : H aq = none := by
      cases z : H aq with
      | none => rfl
      | some o => rw [B4 _ _ n3r z] at n3; cases n3
    have B5 := B4.trans (.of s5)
    generalize upd H4 aq (.lst (S.map V.int)) = H5 at q5 r5 e5 p5 B5 ⊢
    refine ⟨_, rfl, r, CR, dr, _, rfl, r5, T.cR, T.nR3, (by rw [fR_two]; show 2 < 1000; decide), ?_⟩
    rw [fR_new]
    exact q ai ap aq _ ⟨⟨dr, upd_same⟩, by rw [upd_ne n1r]; exact e5, by rw [upd_ne n2r]; exact p5, by rw [upd_ne n3r]; exact q5, n2i, n3i, n3p⟩ (B5.trans (.at_ _ _ _)) n1 n2H n3H
def spNow (CR : Addr) : Sp := fun vs H Q _ => ∃ (r ai ap aq : Addr) (I P S : List Int), vs = [.ref r] ∧ Rec CR H r ai ap aq I P S ∧ Wf I P S ∧ Q (.int (vI I (lastI S))) H
theorem ok_Record_integer_now {f : Addr} {fd : FuncData} (F : Fun K "integer_now" "Record.integer_now" s_Record_integer_now f fd) (T : TxtL K CR CP CC CS CG) : FnOk P w K mg base (L2N.CX P w) 1 f fd ["self"] (spNow CR) := by
  refine F.okN sc_Record_integer_now (fun vs H Q E h => ?_) (fun cdv A outer s H vs Q E hr h => ?_)
  · obtain ⟨r, ai, ap, aq, I, P, S, rfl, _⟩ := h
    rfl
  · obtain ⟨r, ai, ap, aq, I, P, S, rfl, ⟨⟨dr, hR⟩, hi, hp, hq, _⟩, W, q⟩ := h
    refine ⟨_, (pss_one (ps_ret (pe_ix ix_list (pe_fld (pv 0) rfl) (pe_ix ix_list (pe_fld (pv 0) rfl) (pe_un un_neg pe_int) (fun _ _ => rfl)) (fun _ _ => rfl)))), ?_⟩
    refine ⟨_, rfl, r, CR, dr, _, _, rfl, hR, T.cR, T.nR1, lk1 _ _ _, _, rfl, r, CR, dr, _, _, rfl, hR, T.cR, T.nR3, lk3 _ _ _, _, rfl, aq, _, _, _, rfl, rfl, .of hq, atI_lastI W.ne, ?_⟩
    exact ⟨ai, _, _, _, rfl, rfl, .of hi, atI_vI W.last, q⟩
def spFound (CR : Addr) : Sp := fun vs H Q _ => ∃ (r ai ap aq : Addr) (I P S : List Int) (n : Int), vs = [.ref r, .int n] ∧ Rec CR H r ai ap aq I P S ∧ Wf I P S ∧ Q (fbV P S n) H
theorem ok_Record_found_by {f : Addr} {fd : FuncData} (F : Fun K "found_by" "Record.found_by" s_Record_found_by f fd) (T : TxtL K CR CP CC CS CG) : FnOk P w K mg base (L2N.CX P w) 1 f fd ["self", "number"] (spFound CR) := by
  refine F.okN sc_Record_found_by (fun vs H Q E h => ?_) (fun cdv A outer s H vs Q E hr h => ?_)
  · obtain ⟨r, ai, ap, aq, I, P, S, n, rfl, _⟩ := h
    rfl
  · obtain ⟨r, ai, ap, aq, I, P, S, n, rfl, ⟨⟨dr, hR⟩, hi, hp, hq, _⟩, W, q⟩ := h
    refine ⟨_, (pss_one (ps_ret (pe_ifExp (pt_cmpR op_in_seq (pv 1) (pe_fld (pv 0) rfl) (by rfl)) (pe_ix ix_list (pe_fld (pv 0) rfl) (pe_bm PySem.F.plainAttrs_list PySem.F.slot_list_index PySem.F.type_list_index mt_index (pe_fld (pv 0) rfl) (pa_cons (pv 1) pa_nil)) (fun _ _ => rfl)) pe_non))), ?_⟩
    refine ⟨_, rfl, _, rfl, r, CR, dr, _, _, rfl, hR, T.cR, T.nR2, lk2 _ _ _, ap, _, rfl, .inl (.of hp), rfl, flatI _, ?_⟩
    show ∃ b, V.bl (inV (.int n) (P.map V.int)) = V.bl b ∧ _
    refine ⟨decide (n ∈ P), by rw [inVI], ?_⟩
    unfold fbV at q
    by_cases hn : n ∈ P
    · rw [decide_eq_true hn]
      rw [if_pos hn] at q
      obtain ⟨i1, i2⟩ := idx_first hn
      refine iteT ⟨_, rfl, r, CR, dr, _, _, rfl, hR, T.cR, T.nR3, lk3 _ _ _, _, rfl, r, CR, dr, _, _, rfl, hR, T.cR, T.nR2, lk2 _ _ _, .inl ⟨rfl, _, .of hp⟩, _, rfl, ap, _, .int n, P.idxOf n, .int n, rfl, rfl, .of hp, rfl, flatI _, by rw [List.getElem?_map, i1]; rfl, beq_self_eq_true n, fun m z hm hz => ?_, ?_⟩
      · obtain ⟨x, rfl, hx⟩ := get_int hz
        show (x == n) = false
        have : x ≠ n := fun e => i2 m hm (e ▸ hx)
        simpa using this
      · exact ⟨aq, _, _, _, rfl, rfl, .of hq, atI_nat (by rw [List.getElem?_map, W.at hn]; rfl), q⟩
    · rw [decide_eq_false hn]
      rw [if_neg hn] at q
      exact iteF q
def spIsRun (CR : Addr) : Sp := fun vs H Q _ => ∃ (r ai ap aq : Addr) (I P S : List Int) (n : Int), vs = [.ref r, .int n] ∧ Rec CR H r ai ap aq I P S ∧ Q (.bl (decide (n ∈ P ∧ -n ∉ P))) H
theorem ok_Record_is_running {f : Addr} {fd : FuncData} (F : Fun K "is_running" "Record.is_running" s_Record_is_running f fd) (T : TxtL K CR CP CC CS CG) : FnOk P w K mg base (L2N.CX P w) 1 f fd ["self", "number"] (spIsRun CR) := by
  refine F.okN sc_Record_is_running (fun vs H Q E h => ?_) (fun cdv A outer s H vs Q E hr h => ?_)
  · obtain ⟨r, ai, ap, aq, I, P, S, n, rfl, _⟩ := h
    rfl
  · obtain ⟨r, ai, ap, aq, I, P, S, n, rfl, ⟨⟨dr, hR⟩, hi, hp, hq, _⟩, q⟩ := h
    refine ⟨_, (pss_one (ps_ret (pe_and (pe_cmpR op_in_seq (pv 1) (pe_fld (pv 0) rfl) (by rfl)) (pe_one (pe_cmpR op_notIn_seq (pe_un un_neg (pv 1)) (pe_fld (pv 0) rfl) (by rfl)))))), ?_⟩
    refine ⟨_, rfl, _, rfl, r, CR, dr, _, _, rfl, hR, T.cR, T.nR2, lk2 _ _ _, ap, _, rfl, .inl (.of hp), rfl, flatI _, decide (n ∈ P), by show V.bl (inV (.int n) (P.map V.int)) = _; rw [inVI], ?_⟩
    by_cases hn : n ∈ P
    · rw [decide_eq_true hn]
      refine iteT ⟨_, rfl, _, rfl, _, rfl, r, CR, dr, _, _, rfl, hR, T.cR, T.nR2, lk2 _ _ _, ap, _, rfl, .inl (.of hp), rfl, flatI _, ?_⟩
      show Q (.bl (!inV (.int (-n)) (P.map V.int))) H
      rw [inVI]
      have e : (!decide (-n ∈ P)) = decide (n ∈ P ∧ -n ∉ P) := by
        by_cases h : -n ∈ P
        · rw [decide_eq_true h, decide_eq_false (fun z => z.2 h)]
          rfl
        · rw [decide_eq_false h, decide_eq_true ⟨hn, h⟩]
          rfl
      rw [e]
      exact q
    · rw [decide_eq_false hn]
      have e : decide (n ∈ P ∧ -n ∉ P) = false := decide_eq_false fun z => hn z.1
      rw [e] at q
      exact iteF q
def spGoOn (CR : Addr) : Sp := fun vs H Q _ => ∃ (r ai ap aq : Addr) (I P S : List Int) (e c : Int), vs = [.ref r, .int e, .int c] ∧ Rec CR H r ai ap aq I P S ∧ P.length ≤ 1000 ∧ S.length ≤ 2000 ∧ Q .non (upd (upd H ap (.lst ((P ++ [e]).map .int))) aq (.lst ((S ++ [c]).map .int)))
theorem snocI (P : List Int) (e : Int) : P.map V.int ++ [V.int e] = (P ++ [e]).map V.int := by rw [List.map_append]; rfl
theorem ok_Record_go_on_by {f : Addr} {fd : FuncData} (F : Fun K "go_on_by" "Record.go_on_by" s_Record_go_on_by f fd) (T : TxtL K CR CP CC CS CG) : FnOk P w K mg base (L2N.CX P w) 1 f fd ["self", "event", "present"] (spGoOn CR) := by
  refine F.okN sc_Record_go_on_by (fun vs H Q E h => ?_) (fun cdv A outer s H vs Q E hr h => ?_)
  · obtain ⟨r, ai, ap, aq, I, P, S, e, c, rfl, _⟩ := h
    rfl
  · obtain ⟨r, ai, ap, aq, I, P, S, e, c, rfl, ⟨⟨dr, hR⟩, hi, hp, hq, ip, iq, pq⟩, l1, l2, q⟩ := h
    refine ⟨_, (pss_cons (ps_expr (pe_bm PySem.F.plainAttrs_list PySem.F.slot_list_append PySem.F.type_list_append mt_append (pe_fld (pv 0) rfl) (pa_cons (pv 1) pa_nil)))
        (pss_one (ps_expr (pe_bm PySem.F.plainAttrs_list PySem.F.slot_list_append PySem.F.type_list_append mt_append (pe_fld (pv 0) rfl) (pa_cons (pv 2) pa_nil))))), ?_⟩
    have nr : r ≠ ap := fun z => by rw [z, hp] at hR; cases hR
    refine ⟨_, rfl, r, CR, dr, _, _, rfl, hR, T.cR, T.nR2, lk2 _ _ _, .inl ⟨rfl, _, .of hp⟩, _, rfl, ap, _, _, rfl, rfl, hp, zl (by rw [List.length_map]; omega), ?_⟩
    rw [snocI]
    refine ⟨_, rfl, r, CR, dr, _, _, rfl, by rw [upd_ne nr]; exact hR, T.cR, T.nR3, lk3 _ _ _, .inl ⟨rfl, _, .of (by rw [upd_ne pq.symm]; exact hq)⟩, _, rfl, aq, _, _, rfl, rfl, by rw [upd_ne pq.symm]; exact hq, zl (by rw [List.length_map]; omega), ?_⟩
    rw [snocI]
    exact q
def spGoBack (CR : Addr) : Sp := fun vs H Q _ => ∃ (r ai ap aq : Addr) (I P S : List Int), vs = [.ref r] ∧ Rec CR H r ai ap aq I P S ∧ P ≠ [] ∧ S ≠ [] ∧ Q .non (upd (upd H ap (.lst (P.dropLast.map .int))) aq (.lst (S.dropLast.map .int)))
theorem pop_get {P : List Int} (h : P ≠ []) : (P.map V.int)[(P.map V.int).length - 1]? = some (.int (lastI P)) := by
  have e : P.map V.int = P.dropLast.map V.int ++ [V.int (lastI P)] := by
    rw [show [V.int (lastI P)] = [lastI P].map V.int from rfl, ← List.map_append, ← last_snoc h]
  rw [e, List.length_append, List.length_singleton, Nat.add_sub_cancel, List.getElem?_append_right (Nat.le_refl _), Nat.sub_self]
  rfl
theorem ok_Record_go_back {f : Addr} {fd : FuncData} (F : Fun K "go_back" "Record.go_back" s_Record_go_back f fd) (T : TxtL K CR CP CC CS CG) : FnOk P w K mg base (L2N.CX P w) 1 f fd ["self"] (spGoBack CR) := by
  refine F.okN sc_Record_go_back (fun vs H Q E h => ?_) (fun cdv A outer s H vs Q E hr h => ?_)
  · obtain ⟨r, ai, ap, aq, I, P, S, rfl, _⟩ := h
    rfl
  · obtain ⟨r, ai, ap, aq, I, P, S, rfl, ⟨⟨dr, hR⟩, hi, hp, hq, ip, iq, pq⟩, n1, n2, q⟩ := h
    refine ⟨_, (pss_cons (ps_expr (pe_bm0 PySem.F.plainAttrs_list PySem.F.slot_list_pop PySem.F.type_list_pop mt_pop (pe_fld (pv 0) rfl)))
        (pss_one (ps_expr (pe_bm0 PySem.F.plainAttrs_list PySem.F.slot_list_pop PySem.F.type_list_pop mt_pop (pe_fld (pv 0) rfl))))), ?_⟩
    have nr : r ≠ ap := fun z => by rw [z, hp] at hR; cases hR
    refine ⟨_, rfl, r, CR, dr, _, _, rfl, hR, T.cR, T.nR2, lk2 _ _ _, .inl ⟨rfl, _, .of hp⟩, ap, _, _, rfl, rfl, hp, pop_get n1, ?_⟩
    rw [← List.map_dropLast]
    refine ⟨_, rfl, r, CR, dr, _, _, rfl, by rw [upd_ne nr]; exact hR, T.cR, T.nR3, lk3 _ _ _, .inl ⟨rfl, _, .of (by rw [upd_ne pq.symm]; exact hq)⟩, aq, _, _, rfl, rfl, by rw [upd_ne pq.symm]; exact hq, pop_get n2, ?_⟩
    rw [← List.map_dropLast]
    exact q
end
end L25
set_option Elab.async false
set_option linter.all false
set_option maxRecDepth 100000
namespace L25
open PySem PySem.Spec PyProof.Rows L2 Lp
/-! ### patches: their properties -/
/-- the classes of patches, with the kind of each -/
def Kind3 (CP CC CS : Addr) : Addr → Nat → Prop := fun C i => (C = CP ∧ i = 0) ∨ (C = CC ∧ i = 1) ∨ (C = CS ∧ i = 2)
theorem Kind3.any {CP CC CS C : Addr} {i : Nat} (h : Kind3 CP CC CS C i) : Any3 CP CC CS C := by
  rcases h with ⟨h, _⟩ | ⟨h, _⟩ | ⟨h, _⟩
  · exact .inl h
  · exact .inr (.inl h)
  · exact .inr (.inr h)
theorem Rec.ins {CR : Addr} {H : Hp} {r ai ap aq : Addr} {I P S : List Int} (h : Rec CR H r ai ap aq I P S) : ∃ dr, H r = some (.ins CR dr (fR ai ap aq)) := h.r
section
variable {P : Program} {w : World} {K : PySem.W.Frag} {mg : Str → Option Value} {base : Heap} {CR CP CC CS CG : Addr}
def spPInit (CP CC CS : Addr) : Sp := fun vs H Q _ => ∃ (p dp r C : Addr) (n : Int), vs = [.ref p, .ref r, .int n] ∧ Any3 CP CC CS C ∧ H p = some (.ins C dp []) ∧ Q .non (upd H p (.ins C dp (fP r n)))
theorem ok_Patch_init {f : Addr} {fd : FuncData} (F : Fun K "__init__" "Patch.__init__" s_Patch_init f fd) (T : TxtL K CR CP CC CS CG) : FnOk P w K mg base CX0 1 f fd ["self", "record", "number"] (spPInit CP CC CS) := by
  refine F.ok sc_Patch_init (fun vs H Q E h => ?_) (fun cdv A outer s H vs Q E hr h => ?_)
  · obtain ⟨p, dp, r, C, n, rfl, _⟩ := h
    rfl
  · obtain ⟨p, dp, r, C, n, rfl, hC, hp, q⟩ := h
    refine ⟨_, (pss_cons (ps_fld (pv 0) (pv 1) rfl)
        (pss_one (ps_fld (pv 0) (pv 2) rfl))), ?_⟩
    refine ⟨_, rfl, _, rfl, p, C, dp, _, rfl, hp, T.c hC, T.n1 hC, (by show 0 < 1000; decide), ?_⟩
    refine ⟨_, rfl, _, rfl, p, C, dp, _, rfl, upd_same, T.c hC, T.n2 hC, (by show 1 < 1000; decide), ?_⟩
    rw [fP_new, upd_upd]
    exact q
def spNumber (CP CC CS : Addr) : Sp := fun vs H Q _ => ∃ (p dp r C : Addr) (n : Int), vs = [.ref p] ∧ Any3 CP CC CS C ∧ H p = some (.ins C dp (fP r n)) ∧ Q (.int n) H
def spInteger (CR CP CC CS : Addr) : Sp := fun vs H Q _ => ∃ (p dp r C ai ap aq : Addr) (n : Int) (I P S : List Int), vs = [.ref p] ∧ Any3 CP CC CS C ∧ H p = some (.ins C dp (fP r n)) ∧ Rec CR H r ai ap aq I P S ∧ 0 ≤ n ∧ n < (I.length : Int) ∧ Q (.int (vI I n)) H
def spSaved (CR CP CC CS : Addr) : Sp := fun vs H Q _ => ∃ (p dp r C ai ap aq : Addr) (n : Int) (I P S : List Int), vs = [.ref p] ∧ Any3 CP CC CS C ∧ H p = some (.ins C dp (fP r n)) ∧ Rec CR H r ai ap aq I P S ∧ Wf I P S ∧ Q (fbV P S n) H
def spRuns (CR CP CC CS : Addr) : Sp := fun vs H Q _ => ∃ (p dp r C ai ap aq : Addr) (n : Int) (I P S : List Int), vs = [.ref p] ∧ Any3 CP CC CS C ∧ H p = some (.ins C dp (fP r n)) ∧ Rec CR H r ai ap aq I P S ∧ Q (.bl (decide (n ∈ P ∧ -n ∉ P))) H
theorem ok_Patch_number {f : Addr} {fd : FuncData} (F : Fun K "number" "Patch.number" s_Patch_number f fd) (T : TxtL K CR CP CC CS CG) : FnOk P w K mg base (L2N.CX P w) 1 f fd ["self"] (spNumber CP CC CS) := by
  refine F.okN sc_Patch_number (fun vs H Q E h => ?_) (fun cdv A outer s H vs Q E hr h => ?_)
  · obtain ⟨p, dp, r, C, n, rfl, _⟩ := h
    rfl
  · obtain ⟨p, dp, r, C, n, rfl, hC, hp, q⟩ := h
    refine ⟨_, (pss_one (ps_ret (pe_fld (pv 0) rfl))), ?_⟩
    exact ⟨_, rfl, p, C, dp, _, _, rfl, hp, T.c hC, T.n2 hC, lp2 _ _, q⟩
theorem ok_Patch_integer {f : Addr} {fd : FuncData} (F : Fun K "integer" "Patch.integer" s_Patch_integer f fd) (T : TxtL K CR CP CC CS CG) : FnOk P w K mg base (L2N.CX P w) 1 f fd ["self"] (spInteger CR CP CC CS) := by
  refine F.okN sc_Patch_integer (fun vs H Q E h => ?_) (fun cdv A outer s H vs Q E hr h => ?_)
  · obtain ⟨p, dp, r, C, ai, ap, aq, n, I, P, S, rfl, _⟩ := h
    rfl
  · obtain ⟨p, dp, r, C, ai, ap, aq, n, I, P, S, rfl, hC, hp, R, n0, n1, q⟩ := h
    obtain ⟨dr, hR⟩ := R.ins
    refine ⟨_, (pss_one (ps_ret (pe_ix ix_list (pe_fld (pe_fld (pv 0) rfl) rfl) (pe_fld (pv 0) rfl) (fun _ _ => rfl)))), ?_⟩
    refine ⟨_, rfl, p, C, dp, _, _, rfl, hp, T.c hC, T.n1 hC, lp1 _ _, r, CR, dr, _, _, rfl, hR, T.cR, T.nR1, lk1 _ _ _, _, rfl, p, C, dp, _, _, rfl, hp, T.c hC, T.n2 hC, lp2 _ _, ?_⟩
    exact ⟨ai, _, _, _, rfl, rfl, .of R.i, atI_vI ⟨n0, n1⟩, q⟩
theorem ok_Patch_saved {f : Addr} {fd : FuncData} (F : Fun K "saved" "Patch.saved" s_Patch_saved f fd) (T : TxtL K CR CP CC CS CG) (T_Record_found_by : MetV P w K mg base 1 (Is CR) "found_by" (spFound CR)) : FnOk P w K mg base (L2N.CX P w) 2 f fd ["self"] (spSaved CR CP CC CS) := by
  refine F.okN sc_Patch_saved (fun vs H Q E h => ?_) (fun cdv A outer s H vs Q E hr h => ?_)
  · obtain ⟨p, dp, r, C, ai, ap, aq, n, I, P, S, rfl, _⟩ := h
    rfl
  · obtain ⟨p, dp, r, C, ai, ap, aq, n, I, P, S, rfl, hC, hp, R, W, q⟩ := h
    obtain ⟨dr, hR⟩ := R.ins
    refine ⟨_, (pss_one (ps_ret (pe_mV T_Record_found_by hr (by decide) (L2N.takes_of rfl rfl rfl rfl) (pe_fld (pv 0) rfl) (pa_cons (pe_fld (pv 0) rfl) pa_nil)))), ?_⟩
    exact ⟨_, rfl, p, C, dp, _, _, rfl, hp, T.c hC, T.n1 hC, lp1 _ _, r, CR, dr, _, rfl, rfl, hR, lkR _ _ _ (by decide +kernel), _, rfl, p, C, dp, _, _, rfl, hp, T.c hC, T.n2 hC, lp2 _ _, r, ai, ap, aq, I, P, S, n, rfl, R, W, q⟩
theorem ok_Patch_runs {f : Addr} {fd : FuncData} (F : Fun K "runs" "Patch.runs" s_Patch_runs f fd) (T : TxtL K CR CP CC CS CG) (T_Record_is_running : MetV P w K mg base 1 (Is CR) "is_running" (spIsRun CR)) : FnOk P w K mg base (L2N.CX P w) 2 f fd ["self"] (spRuns CR CP CC CS) := by
  refine F.okN sc_Patch_runs (fun vs H Q E h => ?_) (fun cdv A outer s H vs Q E hr h => ?_)
  · obtain ⟨p, dp, r, C, ai, ap, aq, n, I, P, S, rfl, _⟩ := h
    rfl
  · obtain ⟨p, dp, r, C, ai, ap, aq, n, I, P, S, rfl, hC, hp, R, q⟩ := h
    obtain ⟨dr, hR⟩ := R.ins
    refine ⟨_, (pss_one (ps_ret (pe_mV T_Record_is_running hr (by decide) (L2N.takes_of rfl rfl rfl rfl) (pe_fld (pv 0) rfl) (pa_cons (pe_fld (pv 0) rfl) pa_nil)))), ?_⟩
    exact ⟨_, rfl, p, C, dp, _, _, rfl, hp, T.c hC, T.n1 hC, lp1 _ _, r, CR, dr, _, rfl, rfl, hR, lkR _ _ _ (by decide +kernel), _, rfl, p, C, dp, _, _, rfl, hp, T.c hC, T.n2 hC, lp2 _ _, r, ai, ap, aq, I, P, S, n, rfl, R, q⟩
theorem ok_CarefulPatch_number {f : Addr} {fd : FuncData} (F : Fun K "number" "CarefulPatch.number" s_CarefulPatch_number f fd) (T : TxtL K CR CP CC CS CG) : FnOk P w K mg base (L2N.CX P w) 1 f fd ["self"] (spNumber CP CC CS) := by
  refine F.okN sc_CarefulPatch_number (fun vs H Q E h => ?_) (fun cdv A outer s H vs Q E hr h => ?_)
  · obtain ⟨p, dp, r, C, n, rfl, _⟩ := h
    rfl
  · obtain ⟨p, dp, r, C, n, rfl, hC, hp, q⟩ := h
    refine ⟨_, (pss_one (ps_ret (pe_fld (pv 0) rfl))), ?_⟩
    exact ⟨_, rfl, p, C, dp, _, _, rfl, hp, T.c hC, T.n2 hC, lp2 _ _, q⟩
theorem ok_CarefulPatch_integer {f : Addr} {fd : FuncData} (F : Fun K "integer" "CarefulPatch.integer" s_CarefulPatch_integer f fd) (T : TxtL K CR CP CC CS CG) : FnOk P w K mg base (L2N.CX P w) 1 f fd ["self"] (spInteger CR CP CC CS) := by
  refine F.okN sc_CarefulPatch_integer (fun vs H Q E h => ?_) (fun cdv A outer s H vs Q E hr h => ?_)
  · obtain ⟨p, dp, r, C, ai, ap, aq, n, I, P, S, rfl, _⟩ := h
    rfl
  · obtain ⟨p, dp, r, C, ai, ap, aq, n, I, P, S, rfl, hC, hp, R, n0, n1, q⟩ := h
    obtain ⟨dr, hR⟩ := R.ins
    refine ⟨_, (pss_one (ps_ret (pe_ix ix_list (pe_fld (pe_fld (pv 0) rfl) rfl) (pe_fld (pv 0) rfl) (fun _ _ => rfl)))), ?_⟩
    refine ⟨_, rfl, p, C, dp, _, _, rfl, hp, T.c hC, T.n1 hC, lp1 _ _, r, CR, dr, _, _, rfl, hR, T.cR, T.nR1, lk1 _ _ _, _, rfl, p, C, dp, _, _, rfl, hp, T.c hC, T.n2 hC, lp2 _ _, ?_⟩
    exact ⟨ai, _, _, _, rfl, rfl, .of R.i, atI_vI ⟨n0, n1⟩, q⟩
theorem ok_CarefulPatch_saved {f : Addr} {fd : FuncData} (F : Fun K "saved" "CarefulPatch.saved" s_CarefulPatch_saved f fd) (T : TxtL K CR CP CC CS CG) (T_Record_found_by : MetV P w K mg base 1 (Is CR) "found_by" (spFound CR)) : FnOk P w K mg base (L2N.CX P w) 2 f fd ["self"] (spSaved CR CP CC CS) := by
  refine F.okN sc_CarefulPatch_saved (fun vs H Q E h => ?_) (fun cdv A outer s H vs Q E hr h => ?_)
  · obtain ⟨p, dp, r, C, ai, ap, aq, n, I, P, S, rfl, _⟩ := h
    rfl
  · obtain ⟨p, dp, r, C, ai, ap, aq, n, I, P, S, rfl, hC, hp, R, W, q⟩ := h
    obtain ⟨dr, hR⟩ := R.ins
    refine ⟨_, (pss_one (ps_ret (pe_mV T_Record_found_by hr (by decide) (L2N.takes_of rfl rfl rfl rfl) (pe_fld (pv 0) rfl) (pa_cons (pe_fld (pv 0) rfl) pa_nil)))), ?_⟩
    exact ⟨_, rfl, p, C, dp, _, _, rfl, hp, T.c hC, T.n1 hC, lp1 _ _, r, CR, dr, _, rfl, rfl, hR, lkR _ _ _ (by decide +kernel), _, rfl, p, C, dp, _, _, rfl, hp, T.c hC, T.n2 hC, lp2 _ _, r, ai, ap, aq, I, P, S, n, rfl, R, W, q⟩
theorem ok_CarefulPatch_runs {f : Addr} {fd : FuncData} (F : Fun K "runs" "CarefulPatch.runs" s_CarefulPatch_runs f fd) (T : TxtL K CR CP CC CS CG) (T_Record_is_running : MetV P w K mg base 1 (Is CR) "is_running" (spIsRun CR)) : FnOk P w K mg base (L2N.CX P w) 2 f fd ["self"] (spRuns CR CP CC CS) := by
  refine F.okN sc_CarefulPatch_runs (fun vs H Q E h => ?_) (fun cdv A outer s H vs Q E hr h => ?_)
  · obtain ⟨p, dp, r, C, ai, ap, aq, n, I, P, S, rfl, _⟩ := h
    rfl
  · obtain ⟨p, dp, r, C, ai, ap, aq, n, I, P, S, rfl, hC, hp, R, q⟩ := h
    obtain ⟨dr, hR⟩ := R.ins
    refine ⟨_, (pss_one (ps_ret (pe_mV T_Record_is_running hr (by decide) (L2N.takes_of rfl rfl rfl rfl) (pe_fld (pv 0) rfl) (pa_cons (pe_fld (pv 0) rfl) pa_nil)))), ?_⟩
    exact ⟨_, rfl, p, C, dp, _, _, rfl, hp, T.c hC, T.n1 hC, lp1 _ _, r, CR, dr, _, rfl, rfl, hR, lkR _ _ _ (by decide +kernel), _, rfl, p, C, dp, _, _, rfl, hp, T.c hC, T.n2 hC, lp2 _ _, r, ai, ap, aq, I, P, S, n, rfl, R, q⟩
theorem ok_StrictPatch_number {f : Addr} {fd : FuncData} (F : Fun K "number" "StrictPatch.number" s_StrictPatch_number f fd) (T : TxtL K CR CP CC CS CG) : FnOk P w K mg base (L2N.CX P w) 1 f fd ["self"] (spNumber CP CC CS) := by
  refine F.okN sc_StrictPatch_number (fun vs H Q E h => ?_) (fun cdv A outer s H vs Q E hr h => ?_)
  · obtain ⟨p, dp, r, C, n, rfl, _⟩ := h
    rfl
  · obtain ⟨p, dp, r, C, n, rfl, hC, hp, q⟩ := h
    refine ⟨_, (pss_one (ps_ret (pe_fld (pv 0) rfl))), ?_⟩
    exact ⟨_, rfl, p, C, dp, _, _, rfl, hp, T.c hC, T.n2 hC, lp2 _ _, q⟩
theorem ok_StrictPatch_integer {f : Addr} {fd : FuncData} (F : Fun K "integer" "StrictPatch.integer" s_StrictPatch_integer f fd) (T : TxtL K CR CP CC CS CG) : FnOk P w K mg base (L2N.CX P w) 1 f fd ["self"] (spInteger CR CP CC CS) := by
  refine F.okN sc_StrictPatch_integer (fun vs H Q E h => ?_) (fun cdv A outer s H vs Q E hr h => ?_)
  · obtain ⟨p, dp, r, C, ai, ap, aq, n, I, P, S, rfl, _⟩ := h
    rfl
  · obtain ⟨p, dp, r, C, ai, ap, aq, n, I, P, S, rfl, hC, hp, R, n0, n1, q⟩ := h
    obtain ⟨dr, hR⟩ := R.ins
    refine ⟨_, (pss_one (ps_ret (pe_ix ix_list (pe_fld (pe_fld (pv 0) rfl) rfl) (pe_fld (pv 0) rfl) (fun _ _ => rfl)))), ?_⟩
    refine ⟨_, rfl, p, C, dp, _, _, rfl, hp, T.c hC, T.n1 hC, lp1 _ _, r, CR, dr, _, _, rfl, hR, T.cR, T.nR1, lk1 _ _ _, _, rfl, p, C, dp, _, _, rfl, hp, T.c hC, T.n2 hC, lp2 _ _, ?_⟩
    exact ⟨ai, _, _, _, rfl, rfl, .of R.i, atI_vI ⟨n0, n1⟩, q⟩
theorem ok_StrictPatch_saved {f : Addr} {fd : FuncData} (F : Fun K "saved" "StrictPatch.saved" s_StrictPatch_saved f fd) (T : TxtL K CR CP CC CS CG) (T_Record_found_by : MetV P w K mg base 1 (Is CR) "found_by" (spFound CR)) : FnOk P w K mg base (L2N.CX P w) 2 f fd ["self"] (spSaved CR CP CC CS) := by
  refine F.okN sc_StrictPatch_saved (fun vs H Q E h => ?_) (fun cdv A outer s H vs Q E hr h => ?_)
  · obtain ⟨p, dp, r, C, ai, ap, aq, n, I, P, S, rfl, _⟩ := h
    rfl
  · obtain ⟨p, dp, r, C, ai, ap, aq, n, I, P, S, rfl, hC, hp, R, W, q⟩ := h
    obtain ⟨dr, hR⟩ := R.ins
    refine ⟨_, (pss_one (ps_ret (pe_mV T_Record_found_by hr (by decide) (L2N.takes_of rfl rfl rfl rfl) (pe_fld (pv 0) rfl) (pa_cons (pe_fld (pv 0) rfl) pa_nil)))), ?_⟩
    exact ⟨_, rfl, p, C, dp, _, _, rfl, hp, T.c hC, T.n1 hC, lp1 _ _, r, CR, dr, _, rfl, rfl, hR, lkR _ _ _ (by decide +kernel), _, rfl, p, C, dp, _, _, rfl, hp, T.c hC, T.n2 hC, lp2 _ _, r, ai, ap, aq, I, P, S, n, rfl, R, W, q⟩
theorem ok_StrictPatch_runs {f : Addr} {fd : FuncData} (F : Fun K "runs" "StrictPatch.runs" s_StrictPatch_runs f fd) (T : TxtL K CR CP CC CS CG) (T_Record_is_running : MetV P w K mg base 1 (Is CR) "is_running" (spIsRun CR)) : FnOk P w K mg base (L2N.CX P w) 2 f fd ["self"] (spRuns CR CP CC CS) := by
  refine F.okN sc_StrictPatch_runs (fun vs H Q E h => ?_) (fun cdv A outer s H vs Q E hr h => ?_)
  · obtain ⟨p, dp, r, C, ai, ap, aq, n, I, P, S, rfl, _⟩ := h
    rfl
  · obtain ⟨p, dp, r, C, ai, ap, aq, n, I, P, S, rfl, hC, hp, R, q⟩ := h
    obtain ⟨dr, hR⟩ := R.ins
    refine ⟨_, (pss_one (ps_ret (pe_mV T_Record_is_running hr (by decide) (L2N.takes_of rfl rfl rfl rfl) (pe_fld (pv 0) rfl) (pa_cons (pe_fld (pv 0) rfl) pa_nil)))), ?_⟩
    exact ⟨_, rfl, p, C, dp, _, _, rfl, hp, T.c hC, T.n1 hC, lp1 _ _, r, CR, dr, _, rfl, rfl, hR, lkR _ _ _ (by decide +kernel), _, rfl, p, C, dp, _, _, rfl, hp, T.c hC, T.n2 hC, lp2 _ _, r, ai, ap, aq, I, P, S, n, rfl, R, q⟩
/-! ### what a stop leaves -/
def leftK (k : Nat) (P S : List Int) (n : Int) : Option Int := if k = 0 then some (fbI P S n) else if lastI S = n then some (fbI P S n) else if k = 1 then some (lastI S) else none
def spLeft (CR eO : Addr) : Addr → Nat → Sp := fun C k vs H Q E => ∃ (p dp r r' ai ap aq : Addr) (n : Int) (I P S : List Int), vs = [.ref p, .ref r] ∧ H p = some (.ins C dp (fP r' n)) ∧ Rec CR H r ai ap aq I P S ∧ Wf I P S ∧ n ∈ P ∧
  (∀ c, leftK k P S n = some c → Q (.int c) H) ∧ (leftK k P S n = none → E (.ref eO) none H)
/-- .. by the method of the class Patch, for patches of all classes -/
def spLeftP (CR CP CC CS : Addr) : Sp := fun vs H Q _ => ∃ (p dp r r' C ai ap aq : Addr) (n : Int) (I P S : List Int), vs = [.ref p, .ref r] ∧ Any3 CP CC CS C ∧ H p = some (.ins C dp (fP r' n)) ∧ Rec CR H r ai ap aq I P S ∧ Wf I P S ∧ n ∈ P ∧ Q (.int (fbI P S n)) H
theorem ok_Patch_left_by_stop {f : Addr} {fd : FuncData} (F : Fun K "left_by_stop" "Patch.left_by_stop" s_Patch_left_by_stop f fd) (T : TxtL K CR CP CC CS CG) (T_Record_found_by : MetV P w K mg base 1 (Is CR) "found_by" (spFound CR)) : FnOk P w K mg base (L2N.CX P w) 2 f fd ["self", "record"] (spLeftP CR CP CC CS) := by
  refine F.okN sc_Patch_left_by_stop (fun vs H Q E h => ?_) (fun cdv A outer s H vs Q E hr h => ?_)
  · obtain ⟨p, dp, r, r', C, ai, ap, aq, n, I, P, S, rfl, _⟩ := h
    rfl
  · obtain ⟨p, dp, r, r', C, ai, ap, aq, n, I, P, S, rfl, hC, hp, R, W, hn, q⟩ := h
    obtain ⟨dr, hR⟩ := R.ins
    refine ⟨_, (pss_one (ps_ret (pe_mV T_Record_found_by hr (by decide) (L2N.takes_of rfl rfl rfl rfl) (pv 1) (pa_cons (pe_fld (pv 0) rfl) pa_nil)))), ?_⟩
    refine ⟨_, rfl, r, CR, dr, _, rfl, rfl, hR, lkR _ _ _ (by decide +kernel), _, rfl, p, C, dp, _, _, rfl, hp, T.c hC, T.n2 hC, lp2 _ _, r, ai, ap, aq, I, P, S, n, rfl, R, W, ?_⟩
    unfold fbV
    rw [if_pos hn]
    exact q
theorem ok_CarefulPatch_left_by_stop {eO f g cc cda : Addr} {fd gd : FuncData} (Z : SupF P K mg "left_by_stop" "CarefulPatch.left_by_stop" s_CarefulPatch_left_by_stop f cc cda CC fd) (T : TxtL K CR CP CC CS CG) (SM : SupM K CC "left_by_stop" g) (FF : FnOk P w K mg base (L2N.CX P w) 2 g gd ["self", "record"] (spLeftP CR CP CC CS)) (bb : Binds K gd ["self", "record"] []) :
    FnOk P w K mg base (L2N.CX P w) 3 f fd ["self", "record"] (spLeft CR eO CC 1) := by
  refine fnok_sup Z.F sc_CarefulPatch_left_by_stop Z.hcc (fun vs H Q E h => ?_) (fun A out s H vs Q E hr h => ?_)
  · obtain ⟨p, dp, r, r', ai, ap, aq, n, I, U, S, rfl, _⟩ := h
    rfl
  · obtain ⟨p, dp, r, r', ai, ap, aq, n, I, U, S, rfl, hp, R, W, hn, q, x⟩ := h
    obtain ⟨dr, hR⟩ := R.ins
    have hC : Any3 CP CC CS CC := .inr (.inl rfl)
    have SC := Z.sc (CX := L2N.CX P w) (w := w) (base := base) (N := N_CarefulPatch_left_by_stop) (A := A) (out := out) (s := s) (H := H) (E := E) (sf := "self") rfl rfl rfl rfl rfl rfl
    refine ⟨_, (pssa_cons (PSa.of (ps_set (i := 3) sc_CarefulPatch_left_by_stop.nd rfl (Or.inl rfl) (pe_ix ix_list (pe_fld (pv 1) rfl) (pe_un un_neg pe_int) (fun _ _ => rfl)))) (pssa_one (psa_ret (pea_ifExp (pt_cmpR op_eq (pv 3) (pe_fld (pv 0) rfl) (nomark _)) (pea_sup SC SM FF bb hr (L2N.passes_call (L2N.takes_of rfl rfl rfl rfl) fun _ _ _ _ h => h) (pa_cons (pv 1) pa_nil)) (PEa.of (pv 3)))))), ?_⟩
    refine ⟨_, rfl, r, CR, dr, _, _, rfl, hR, T.cR, T.nR3, lk3 _ _ _, _, rfl, aq, _, _, _, rfl, rfl, .of R.q, atI_lastI W.ne, ?_⟩
    refine ⟨_, rfl, _, rfl, p, CC, dp, _, _, rfl, hp, T.c hC, T.n2 hC, lp2 _ _, rfl, decide (lastI S = n), congrArg V.bl (decide_eq_decide.mpr ⟨fun z => V.int.inj z, fun z => congrArg V.int z⟩), ?_⟩
    by_cases e : lastI S = n
    · rw [decide_eq_true e]
      refine iteT ⟨p, dp, _, rfl, hp, _, rfl, p, dp, r, r', CC, ai, ap, aq, n, I, U, S, rfl, hC, hp, R, W, hn, q _ ?_⟩
      unfold leftK
      rw [if_neg (by decide), if_pos e]
    · rw [decide_eq_false e]
      refine iteF ⟨_, rfl, q _ ?_⟩
      unfold leftK
      rw [if_neg (by decide), if_neg e, if_pos rfl]
theorem ok_StrictPatch_left_by_stop {eO f g cc cda : Addr} {fd gd : FuncData} (Z : SupF P K mg "left_by_stop" "StrictPatch.left_by_stop" s_StrictPatch_left_by_stop f cc cda CS fd) (RO : Er K mg "OutOfOrderError" eO) (T : TxtL K CR CP CC CS CG) (SM : SupM K CS "left_by_stop" g) (FF : FnOk P w K mg base (L2N.CX P w) 2 g gd ["self", "record"] (spLeftP CR CP CC CS)) (bb : Binds K gd ["self", "record"] []) :
    FnOk P w K mg base (L2N.CX P w) 3 f fd ["self", "record"] (spLeft CR eO CS 2) := by
  refine fnok_sup Z.F sc_StrictPatch_left_by_stop Z.hcc (fun vs H Q E h => ?_) (fun A out s H vs Q E hr h => ?_)
  · obtain ⟨p, dp, r, r', ai, ap, aq, n, I, U, S, rfl, _⟩ := h
    rfl
  · obtain ⟨p, dp, r, r', ai, ap, aq, n, I, U, S, rfl, hp, R, W, hn, q, x⟩ := h
    obtain ⟨dr, hR⟩ := R.ins
    have hC : Any3 CP CC CS CS := .inr (.inr rfl)
    have SC := Z.sc (CX := L2N.CX P w) (w := w) (base := base) (N := N_StrictPatch_left_by_stop) (A := A) (out := out) (s := s) (H := H) (E := E) (sf := "self") rfl rfl rfl rfl rfl rfl
    refine ⟨_, (pssa_cons (PSa.of (ps_if (pt_cmpR op_ne (pe_ix ix_list (pe_fld (pv 1) rfl) (pe_un un_neg pe_int) (fun _ _ => rfl)) (pe_fld (pv 0) rfl) (nomark _)) (pss_one (L2N.ps_raise rfl (L2N.takes_of rfl rfl rfl rfl) (L2N.pmk_own PySem.F.excBase_ValueError RO.x RO.c RO.k (raises_own RO.b RO.t) rfl))) pss_nil)) (pssa_one (psa_ret (pea_sup SC SM FF bb hr (L2N.passes_call (L2N.takes_of rfl rfl rfl rfl) fun _ _ _ _ h => h) (pa_cons (pv 1) pa_nil))))), ?_⟩
    refine ⟨_, rfl, r, CR, dr, _, _, rfl, hR, T.cR, T.nR3, lk3 _ _ _, _, rfl, aq, _, _, _, rfl, rfl, .of R.q, atI_lastI W.ne, ?_⟩
    refine ⟨_, rfl, p, CS, dp, _, _, rfl, hp, T.c hC, T.n2 hC, lp2 _ _, rfl, !decide (lastI S = n), congrArg (fun b => V.bl (!b)) (decide_eq_decide.mpr ⟨fun z => V.int.inj z, fun z => congrArg V.int z⟩), ?_⟩
    by_cases e : lastI S = n
    · rw [decide_eq_true e]
      refine iteF ⟨p, dp, _, rfl, hp, _, rfl, p, dp, r, r', CS, ai, ap, aq, n, I, U, S, rfl, hC, hp, R, W, hn, q _ ?_⟩
      unfold leftK
      rw [if_neg (by decide), if_pos e]
    · rw [decide_eq_false e]
      refine iteT (x ?_)
      unfold leftK
      rw [if_neg (by decide), if_neg e, if_neg (by decide)]
end
end L25
set_option Elab.async false
set_option linter.all false
set_option maxRecDepth 100000
namespace L25
open PySem PySem.Spec PyProof.Rows L2 Lp
/-! ### patches: start, stop, described -/
theorem Rec.go {CR : Addr} {H : Hp} {r ai ap aq : Addr} {I P S P' S' : List Int} (h : Rec CR H r ai ap aq I P S) : Rec CR (upd (upd H ap (.lst (P'.map .int))) aq (.lst (S'.map .int))) r ai ap aq I P' S' := by
  obtain ⟨⟨dr, hR⟩, hi, hp, hq, ip, iq, pq⟩ := h
  have rp : r ≠ ap := fun z => by rw [z, hp] at hR; cases hR
  have rq : r ≠ aq := fun z => by rw [z, hq] at hR; cases hR
  exact ⟨⟨dr, by rw [upd_ne rq, upd_ne rp]; exact hR⟩, by rw [upd_ne iq, upd_ne ip]; exact hi, by rw [upd_ne pq, upd_same], upd_same, ip, iq, pq⟩
theorem Wf.go {I P S : List Int} {e c : Int} (w : Wf I P S) (h : 0 ≤ c ∧ c < (I.length : Int)) (l : P.length < 1000) : Wf I (P ++ [e]) (S ++ [c]) := by
  refine ⟨by rw [List.length_append, List.length_append, w.len]; rfl, fun x hx => ?_, by rw [List.length_append]; exact l, w.i⟩
  rcases List.mem_append.mp hx with hx | hx
  · exact w.rng x hx
  · rw [List.mem_singleton.mp hx]
    exact h
theorem leftK_rng {I P S : List Int} {n c : Int} {k : Nat} (w : Wf I P S) (h : n ∈ P) (e : leftK k P S n = some c) : 0 ≤ c ∧ c < (I.length : Int) := by
  unfold leftK at e
  split at e
  · rw [← Option.some.inj e]
    exact w.fb h
  · split at e
    · rw [← Option.some.inj e]
      exact w.fb h
    · split at e
      · rw [← Option.some.inj e]
        exact w.last
      · cases e
/-- a patch is told -/
def nameP (n : Int) : Str := ("patch " : Str) ++ Str.ofString (toString n)
def wordK (k : Nat) : List V := if k = 1 then [.str "careful"] else if k = 2 then [.str "strict"] else []
theorem small_log {n : Int} (h : n.natAbs < 100000) : n.natAbs.log2 < 1920 := Nat.lt_of_lt_of_le (PySem.Flt.log2_lt_of (by decide) (show n.natAbs < 2 ^ 20 by omega)) (by decide)
theorem small_len {n : Int} (h : n.natAbs < 100000) : (Str.ofString (toString n)).length ≤ 6 := by
  have z := PySem.int_text_length_le10 (a := n) (k := 5) (by decide) h
  rw [PySem.ofString_length]
  omega
section
variable {P : Program} {w : World} {K : PySem.W.Frag} {mg : Str → Option Value} {base : Heap} {CR CP CC CS CG eS eR eO : Addr}
def spStartP (CR CP CC CS eS : Addr) : Sp := fun vs H Q E => ∃ (p dp r C ai ap aq : Addr) (n : Int) (I U S : List Int), vs = [.ref p] ∧ Any3 CP CC CS C ∧ H p = some (.ins C dp (fP r n)) ∧ Rec CR H r ai ap aq I U S ∧ Wf I U S ∧ 0 ≤ n ∧ n < (I.length : Int) ∧ U.length < 1000 ∧
  (n ∉ U → Q (.int (vI I n)) (upd (upd H ap (.lst ((U ++ [n]).map .int))) aq (.lst ((S ++ [n]).map .int)))) ∧ (n ∈ U → E (.ref eS) none H)
theorem ok_Patch_start {f : Addr} {fd : FuncData} (F : Fun K "start" "Patch.start" s_Patch_start f fd) (T : TxtL K CR CP CC CS CG) (RS : Er K mg "StartedError" eS) (T_AnyPatch_saved : PrpV P w K mg base 2 (Any3 CP CC CS) "saved" (spSaved CR CP CC CS)) (T_Record_go_on_by : MetV P w K mg base 1 (Is CR) "go_on_by" (spGoOn CR)) (T_Record_integer_now : MetV P w K mg base 1 (Is CR) "integer_now" (spNow CR)) :
    FnOk P w K mg base (L2N.CX P w) 4 f fd ["self"] (spStartP CR CP CC CS eS) := by
  refine F.okN sc_Patch_start (fun vs H Q E h => ?_) (fun cdv A outer s H vs Q E hr h => ?_)
  · obtain ⟨p, dp, r, C, ai, ap, aq, n, I, U, S, rfl, _⟩ := h
    rfl
  · obtain ⟨p, dp, r, C, ai, ap, aq, n, I, U, S, rfl, hC, hp, R, W, n0, n1, hl, q, x⟩ := h
    obtain ⟨dr, hR⟩ := R.ins
    refine ⟨_, (pss_cons (ps_if (pt_cmpR op_notN (pe_pV T_AnyPatch_saved hr (by decide) (pv 0)) pe_non (nomark _)) (pss_one (L2N.ps_raise rfl (L2N.takes_of rfl rfl rfl rfl) (L2N.pmk_own PySem.F.excBase_ValueError RS.x RS.c RS.k (raises_own RS.b RS.t) rfl))) pss_nil)
        (pss_cons (ps_expr (pe_mV T_Record_go_on_by hr (by decide) (L2N.takes_of rfl rfl rfl rfl) (pe_fld (pv 0) rfl) (pa_cons (pe_fld (pv 0) rfl) (pa_cons (pe_fld (pv 0) rfl) pa_nil))))
        (pss_one (ps_ret (pe_mV0 T_Record_integer_now hr (by decide) (L2N.takes_of rfl rfl rfl rfl) (pe_fld (pv 0) rfl)))))), ?_⟩
    by_cases hn : n ∈ U
    · refine ⟨_, rfl, p, C, dp, _, rfl, hC, hp, p, dp, r, C, ai, ap, aq, n, I, U, S, rfl, hC, hp, R, W, rfl, true, ?_, x hn⟩
      unfold fbV
      rw [if_pos hn]
      exact nT (fun z => nomatch z)
    · refine ⟨_, rfl, p, C, dp, _, rfl, hC, hp, p, dp, r, C, ai, ap, aq, n, I, U, S, rfl, hC, hp, R, W, rfl, false, ?_, ?_⟩
      · unfold fbV
        rw [if_neg hn]
        exact nF rfl
      · have l2 : S.length ≤ 2000 := by have := W.len; omega
        refine ⟨_, rfl, p, C, dp, _, _, rfl, hp, T.c hC, T.n1 hC, lp1 _ _, r, CR, dr, _, rfl, rfl, hR, lkR _ _ _ (by decide +kernel), _, rfl, p, C, dp, _, _, rfl, hp, T.c hC, T.n2 hC, lp2 _ _, _, rfl, p, C, dp, _, _, rfl, hp, T.c hC, T.n2 hC, lp2 _ _, r, ai, ap, aq, I, U, S, n, n, rfl, R, by omega, l2, ?_⟩
        have R2 := R.go (P' := U ++ [n]) (S' := S ++ [n])
        have W2 : Wf I (U ++ [n]) (S ++ [n]) := W.go ⟨n0, n1⟩ hl
        have q2 := q hn
        have hp2 : (upd (upd H ap (.lst ((U ++ [n]).map .int))) aq (.lst ((S ++ [n]).map .int))) p = some (.ins C dp (fP r n)) := by
          rw [upd_ne (fun z => by rw [z, R.q] at hp; cases hp), upd_ne (fun z => by rw [z, R.p] at hp; cases hp)]
          exact hp
        generalize upd (upd H ap (.lst ((U ++ [n]).map .int))) aq (.lst ((S ++ [n]).map .int)) = H2 at R2 q2 hp2 ⊢
        obtain ⟨dr2, hR2⟩ := R2.ins
        refine ⟨_, rfl, p, C, dp, _, _, rfl, hp2, T.c hC, T.n1 hC, lp1 _ _, r, CR, dr2, _, rfl, rfl, hR2, lkR _ _ _ (by decide +kernel), r, ai, ap, aq, I, U ++ [n], S ++ [n], rfl, R2, W2, ?_⟩
        rw [lastI_snoc]
        exact q2
def spStartC (CR eS : Addr) : Addr → Nat → Sp := fun C _ vs H Q E => ∃ (p dp r ai ap aq : Addr) (n : Int) (I U S : List Int), vs = [.ref p] ∧ H p = some (.ins C dp (fP r n)) ∧ Rec CR H r ai ap aq I U S ∧ Wf I U S ∧ 0 ≤ n ∧ n < (I.length : Int) ∧ U.length < 1000 ∧
  (n ∉ U → Q (.int (vI I n)) (upd (upd H ap (.lst ((U ++ [n]).map .int))) aq (.lst ((S ++ [n]).map .int)))) ∧ (n ∈ U → E (.ref eS) none H)
def spStopK (CR eR eO : Addr) (C : Addr) (k : Nat) : Sp := fun vs H Q E => ∃ (p dp r ai ap aq : Addr) (n : Int) (I U S : List Int), vs = [.ref p] ∧ H p = some (.ins C dp (fP r n)) ∧ Rec CR H r ai ap aq I U S ∧ Wf I U S ∧ U.length < 1000 ∧
  (n ∈ U → -n ∉ U → ∀ c, leftK k U S n = some c → Q (.int (vI I c)) (upd (upd H ap (.lst ((U ++ [-n]).map .int))) aq (.lst ((S ++ [c]).map .int)))) ∧ (n ∈ U → -n ∉ U → leftK k U S n = none → E (.ref eO) none H) ∧ (¬ (n ∈ U ∧ -n ∉ U) → E (.ref eR) none H)
def spStopP (CR CP CC CS eR eO : Addr) : Sp := fun vs H Q E => ∃ C k, Kind3 CP CC CS C k ∧ spStopK CR eR eO C k vs H Q E
theorem ok_Patch_stop {f : Addr} {fd : FuncData} (F : Fun K "stop" "Patch.stop" s_Patch_stop f fd) (T : TxtL K CR CP CC CS CG) (RR : Er K mg "NotRunningError" eR) (T_AnyPatch_runs : PrpV P w K mg base 2 (Any3 CP CC CS) "runs" (spRuns CR CP CC CS)) (T_AnyPatch_left_by_stop : MetC P w K mg base 3 (Kind3 CP CC CS) "left_by_stop" (spLeft CR eO)) (T_Record_go_on_by : MetV P w K mg base 1 (Is CR) "go_on_by" (spGoOn CR)) (T_Record_integer_now : MetV P w K mg base 1 (Is CR) "integer_now" (spNow CR)) :
    FnOk P w K mg base (L2N.CX P w) 4 f fd ["self"] (spStopP CR CP CC CS eR eO) := by
  refine F.okN sc_Patch_stop (fun vs H Q E h => ?_) (fun cdv A outer s H vs Q E hr h => ?_)
  · obtain ⟨C, k, _, p, dp, r, ai, ap, aq, n, I, U, S, rfl, _⟩ := h
    rfl
  · obtain ⟨C, k, hK, p, dp, r, ai, ap, aq, n, I, U, S, rfl, hp, R, W, hl, q, x1, x2⟩ := h
    have hC := hK.any
    obtain ⟨dr, hR⟩ := R.ins
    refine ⟨_, (pss_cons (ps_if (pt_not (pt_val (pe_pV T_AnyPatch_runs hr (by decide) (pv 0)))) (pss_one (L2N.ps_raise rfl (L2N.takes_of rfl rfl rfl rfl) (L2N.pmk_own PySem.F.excBase_ValueError RR.x RR.c RR.k (raises_own RR.b RR.t) rfl))) pss_nil)
        (pss_cons (ps_expr (pe_mV T_Record_go_on_by hr (by decide) (L2N.takes_of rfl rfl rfl rfl) (pe_fld (pv 0) rfl) (pa_cons (pe_un un_neg (pe_fld (pv 0) rfl)) (pa_cons (pe_mC T_AnyPatch_left_by_stop hr (by decide) (L2N.takes_of rfl rfl rfl rfl) (pv 0) (pa_cons (pe_fld (pv 0) rfl) pa_nil)) pa_nil))))
        (pss_one (ps_ret (pe_mV0 T_Record_integer_now hr (by decide) (L2N.takes_of rfl rfl rfl rfl) (pe_fld (pv 0) rfl)))))), ?_⟩
    refine ⟨_, rfl, p, C, dp, _, rfl, hC, hp, p, dp, r, C, ai, ap, aq, n, I, U, S, rfl, hC, hp, R, _, rfl, ?_⟩
    by_cases hn : n ∈ U ∧ -n ∉ U
    · rw [decide_eq_true hn]
      refine iteF ?_
      have l2 : S.length ≤ 2000 := by have := W.len; omega
      cases hL : leftK k U S n with
      | none =>
        exact ⟨_, rfl, p, C, dp, _, _, rfl, hp, T.c hC, T.n1 hC, lp1 _ _, r, CR, dr, _, rfl, rfl, hR, lkR _ _ _ (by decide +kernel), _, rfl, p, C, dp, _, _, rfl, hp, T.c hC, T.n2 hC, lp2 _ _, _, rfl, _, rfl, p, C, k, dp, _, rfl, hK, hp, lkP _ _ (by decide +kernel), _, rfl, p, C, dp, _, _, rfl, hp, T.c hC, T.n1 hC, lp1 _ _,
          p, dp, r, r, ai, ap, aq, n, I, U, S, rfl, hp, R, W, hn.1, fun c e => absurd (hL.symm.trans e) (fun z => nomatch z), fun _ => x1 hn.1 hn.2 hL⟩
      | some c =>
        refine ⟨_, rfl, p, C, dp, _, _, rfl, hp, T.c hC, T.n1 hC, lp1 _ _, r, CR, dr, _, rfl, rfl, hR, lkR _ _ _ (by decide +kernel), _, rfl, p, C, dp, _, _, rfl, hp, T.c hC, T.n2 hC, lp2 _ _, _, rfl, _, rfl, p, C, k, dp, _, rfl, hK, hp, lkP _ _ (by decide +kernel), _, rfl, p, C, dp, _, _, rfl, hp, T.c hC, T.n1 hC, lp1 _ _,
          p, dp, r, r, ai, ap, aq, n, I, U, S, rfl, hp, R, W, hn.1, fun c' e => ?_, fun e => absurd (hL.symm.trans e) (fun z => nomatch z)⟩
        obtain rfl : c = c' := Option.some.inj (hL.symm.trans e)
        have q2 := q hn.1 hn.2 c hL
        have rg := leftK_rng W hn.1 hL
        refine ⟨r, ai, ap, aq, I, U, S, -n, c, rfl, R, by omega, l2, ?_⟩
        have R2 := R.go (P' := U ++ [-n]) (S' := S ++ [c])
        have W2 : Wf I (U ++ [-n]) (S ++ [c]) := W.go rg hl
        have hp2 : (upd (upd H ap (.lst ((U ++ [-n]).map .int))) aq (.lst ((S ++ [c]).map .int))) p = some (.ins C dp (fP r n)) := by
          rw [upd_ne (fun z => by rw [z, R.q] at hp; cases hp), upd_ne (fun z => by rw [z, R.p] at hp; cases hp)]
          exact hp
        generalize upd (upd H ap (.lst ((U ++ [-n]).map .int))) aq (.lst ((S ++ [c]).map .int)) = H2 at R2 q2 hp2 ⊢
        obtain ⟨dr2, hR2⟩ := R2.ins
        refine ⟨_, rfl, p, C, dp, _, _, rfl, hp2, T.c hC, T.n1 hC, lp1 _ _, r, CR, dr2, _, rfl, rfl, hR2, lkR _ _ _ (by decide +kernel), r, ai, ap, aq, I, U ++ [-n], S ++ [c], rfl, R2, W2, ?_⟩
        rw [lastI_snoc]
        exact q2
    · rw [decide_eq_false hn]
      exact iteT (x2 hn)
def spDescP (CP CC CS : Addr) : Sp := fun vs H Q _ => ∃ (p dp r C : Addr) (n : Int), vs = [.ref p] ∧ Any3 CP CC CS C ∧ H p = some (.ins C dp (fP r n)) ∧ n.natAbs < 100000 ∧ ∀ q, H q = none → Q (.ref q) (upd H q (.lst [.str (nameP n)]))
theorem ok_Patch_described {f : Addr} {fd : FuncData} (F : Fun K "described" "Patch.described" s_Patch_described f fd) (T : TxtL K CR CP CC CS CG) : FnOk P w K mg base (L2N.CX P w) 1 f fd ["self"] (spDescP CP CC CS) := by
  refine F.okN sc_Patch_described (fun vs H Q E h => ?_) (fun cdv A outer s H vs Q E hr h => ?_)
  · obtain ⟨p, dp, r, C, n, rfl, _⟩ := h
    rfl
  · obtain ⟨p, dp, r, C, n, rfl, hC, hp, hn, q⟩ := h
    refine ⟨_, (pss_one (ps_ret (pe_lst (pa_cons (pe_joined (.cons pe_str (.cons (pe_fmt (pe_fld (pv 0) rfl)) .nil))) pa_nil)))), ?_⟩
    have l6 := small_len hn
    have e0 : (Str.empty ++ ("patch " : Str)) = ("patch " : Str) := Str.ext' (by simp [Str.cps_append, Str.empty])
    have z6 : ("patch " : Str).length = 6 := by decide +kernel
    refine ⟨_, rfl, by rw [e0, z6]; decide, _, rfl, p, C, dp, _, _, rfl, hp, T.c hC, T.n2 hC, lp2 _ _, .inr ⟨n, rfl, small_log hn, _, rfl, ?_, by show 1 ≤ sizeLine; decide, fun y ny => ?_⟩⟩
    · rw [e0, Str.length_append, z6, sizeLine_eq]
      omega
    · rw [e0]
      exact q y ny
def spDesc : Addr → Nat → Sp := fun C k vs H Q _ => ∃ (p dp r : Addr) (n : Int), vs = [.ref p] ∧ H p = some (.ins C dp (fP r n)) ∧ n.natAbs < 100000 ∧ ∀ q H', Same H H' → H q = none → H' q = some (.lst (.str (nameP n) :: wordK k)) → Q (.ref q) H'

theorem ok_CarefulPatch_start {f g cc cda : Addr} {fd gd : FuncData} (Z : SupF P K mg "start" "CarefulPatch.start" s_CarefulPatch_start f cc cda CC fd) (SM : SupM K CC "start" g) (FF : FnOk P w K mg base (L2N.CX P w) 4 g gd ["self"] (spStartP CR CP CC CS eS)) (bb : Binds K gd ["self"] []) :
    FnOk P w K mg base (L2N.CX P w) 5 f fd ["self"] (spStartC CR eS CC 1) := by
  refine fnok_sup Z.F sc_CarefulPatch_start Z.hcc (fun vs H Q E h => ?_) (fun A out s H vs Q E hr h => ?_)
  · obtain ⟨p, dp, r, ai, ap, aq, n, I, U, S, rfl, _⟩ := h
    rfl
  · obtain ⟨p, dp, r, ai, ap, aq, n, I, U, S, rfl, hp, R, W, n0, n1, hl, q, x⟩ := h
    have hC : Any3 CP CC CS CC := .inr (.inl rfl)
    have SC := Z.sc (CX := L2N.CX P w) (w := w) (base := base) (N := N_CarefulPatch_start) (A := A) (out := out) (s := s) (H := H) (E := E) (sf := "self") rfl rfl rfl rfl rfl rfl
    refine ⟨_, (pssa_one (psa_ret (pea_sup0 SC SM FF bb hr (L2N.passes_call (L2N.takes_of rfl rfl rfl rfl) fun _ _ _ _ h => h)))), ?_⟩
    exact ⟨p, dp, _, rfl, hp, p, dp, r, CC, ai, ap, aq, n, I, U, S, rfl, hC, hp, R, W, n0, n1, hl, q, x⟩
theorem ok_CarefulPatch_stop {f g cc cda : Addr} {fd gd : FuncData} (Z : SupF P K mg "stop" "CarefulPatch.stop" s_CarefulPatch_stop f cc cda CC fd) (SM : SupM K CC "stop" g) (FF : FnOk P w K mg base (L2N.CX P w) 4 g gd ["self"] (spStopP CR CP CC CS eR eO)) (bb : Binds K gd ["self"] []) :
    FnOk P w K mg base (L2N.CX P w) 5 f fd ["self"] (spStopK CR eR eO CC 1) := by
  refine fnok_sup Z.F sc_CarefulPatch_stop Z.hcc (fun vs H Q E h => ?_) (fun A out s H vs Q E hr h => ?_)
  · obtain ⟨p, dp, r, ai, ap, aq, n, I, U, S, rfl, _⟩ := h
    rfl
  · have h0 := h
    obtain ⟨p, dp, r, ai, ap, aq, n, I, U, S, rfl, hp, _⟩ := h0
    have hK : Kind3 CP CC CS CC 1 := .inr (.inl ⟨rfl, rfl⟩)
    have SC := Z.sc (CX := L2N.CX P w) (w := w) (base := base) (N := N_CarefulPatch_stop) (A := A) (out := out) (s := s) (H := H) (E := E) (sf := "self") rfl rfl rfl rfl rfl rfl
    refine ⟨_, (pssa_one (psa_ret (pea_sup0 SC SM FF bb hr (L2N.passes_call (L2N.takes_of rfl rfl rfl rfl) fun _ _ _ _ h => h)))), ?_⟩
    exact ⟨p, dp, _, rfl, hp, CC, 1, hK, h⟩
theorem ok_CarefulPatch_described {f g cc cda : Addr} {fd gd : FuncData} (Z : SupF P K mg "described" "CarefulPatch.described" s_CarefulPatch_described f cc cda CC fd) (SM : SupM K CC "described" g) (FF : FnOk P w K mg base (L2N.CX P w) 1 g gd ["self"] (spDescP CP CC CS)) (bb : Binds K gd ["self"] []) :
    FnOk P w K mg base (L2N.CX P w) 2 f fd ["self"] (spDesc CC 1) := by
  refine fnok_sup Z.F sc_CarefulPatch_described Z.hcc (fun vs H Q E h => ?_) (fun A out s H vs Q E hr h => ?_)
  · obtain ⟨p, dp, r, n, rfl, _⟩ := h
    rfl
  · obtain ⟨p, dp, r, n, rfl, hp, hn, q⟩ := h
    have hC : Any3 CP CC CS CC := .inr (.inl rfl)
    have SC := Z.sc (CX := L2N.CX P w) (w := w) (base := base) (N := N_CarefulPatch_described) (A := A) (out := out) (s := s) (H := H) (E := E) (sf := "self") rfl rfl rfl rfl rfl rfl
    refine ⟨_, (pssa_one (psa_ret (pea_opl op_cat (pea_sup0 SC SM FF bb hr (L2N.passes_call (L2N.takes_of rfl rfl rfl rfl) fun _ _ _ _ h => h)) (pe_lst (pa_cons pe_str pa_nil))))), ?_⟩
    refine ⟨p, dp, _, rfl, hp, p, dp, r, CC, n, rfl, hC, hp, hn, fun y ny => ?_⟩
    have s1 := same_new (o := .lst [.str (nameP n)]) ny
    have e1 : (upd H y (.lst [.str (nameP n)])) y = some (.lst [.str (nameP n)]) := upd_same
    generalize upd H y (.lst [.str (nameP n)]) = H1 at s1 e1 ⊢
    refine ⟨by show 1 ≤ sizeLine; decide, fun z nz => ?_⟩
    have s2 := same_new (o := .lst [.str "careful"]) nz
    refine ⟨y, z, _, _, rfl, rfl, s2 _ _ e1, upd_same, by show 1 + 1 ≤ sizeLine; decide, fun u nu => ?_⟩
    have nH : H u = none := by
      cases zz : H u with
      | none => rfl
      | some ob => rw [s2 _ _ (s1 _ _ zz)] at nu; cases nu
    exact q u _ ((s1.trans s2).trans (same_new nu)) nH upd_same
theorem ok_StrictPatch_start {f g cc cda : Addr} {fd gd : FuncData} (Z : SupF P K mg "start" "StrictPatch.start" s_StrictPatch_start f cc cda CS fd) (SM : SupM K CS "start" g) (FF : FnOk P w K mg base (L2N.CX P w) 4 g gd ["self"] (spStartP CR CP CC CS eS)) (bb : Binds K gd ["self"] []) :
    FnOk P w K mg base (L2N.CX P w) 5 f fd ["self"] (spStartC CR eS CS 2) := by
  refine fnok_sup Z.F sc_StrictPatch_start Z.hcc (fun vs H Q E h => ?_) (fun A out s H vs Q E hr h => ?_)
  · obtain ⟨p, dp, r, ai, ap, aq, n, I, U, S, rfl, _⟩ := h
    rfl
  · obtain ⟨p, dp, r, ai, ap, aq, n, I, U, S, rfl, hp, R, W, n0, n1, hl, q, x⟩ := h
    have hC : Any3 CP CC CS CS := .inr (.inr rfl)
    have SC := Z.sc (CX := L2N.CX P w) (w := w) (base := base) (N := N_StrictPatch_start) (A := A) (out := out) (s := s) (H := H) (E := E) (sf := "self") rfl rfl rfl rfl rfl rfl
    refine ⟨_, (pssa_one (psa_ret (pea_sup0 SC SM FF bb hr (L2N.passes_call (L2N.takes_of rfl rfl rfl rfl) fun _ _ _ _ h => h)))), ?_⟩
    exact ⟨p, dp, _, rfl, hp, p, dp, r, CS, ai, ap, aq, n, I, U, S, rfl, hC, hp, R, W, n0, n1, hl, q, x⟩
theorem ok_StrictPatch_stop {f g cc cda : Addr} {fd gd : FuncData} (Z : SupF P K mg "stop" "StrictPatch.stop" s_StrictPatch_stop f cc cda CS fd) (SM : SupM K CS "stop" g) (FF : FnOk P w K mg base (L2N.CX P w) 4 g gd ["self"] (spStopP CR CP CC CS eR eO)) (bb : Binds K gd ["self"] []) :
    FnOk P w K mg base (L2N.CX P w) 5 f fd ["self"] (spStopK CR eR eO CS 2) := by
  refine fnok_sup Z.F sc_StrictPatch_stop Z.hcc (fun vs H Q E h => ?_) (fun A out s H vs Q E hr h => ?_)
  · obtain ⟨p, dp, r, ai, ap, aq, n, I, U, S, rfl, _⟩ := h
    rfl
  · have h0 := h
    obtain ⟨p, dp, r, ai, ap, aq, n, I, U, S, rfl, hp, _⟩ := h0
    have hK : Kind3 CP CC CS CS 2 := .inr (.inr ⟨rfl, rfl⟩)
    have SC := Z.sc (CX := L2N.CX P w) (w := w) (base := base) (N := N_StrictPatch_stop) (A := A) (out := out) (s := s) (H := H) (E := E) (sf := "self") rfl rfl rfl rfl rfl rfl
    refine ⟨_, (pssa_one (psa_ret (pea_sup0 SC SM FF bb hr (L2N.passes_call (L2N.takes_of rfl rfl rfl rfl) fun _ _ _ _ h => h)))), ?_⟩
    exact ⟨p, dp, _, rfl, hp, CS, 2, hK, h⟩
theorem ok_StrictPatch_described {f g cc cda : Addr} {fd gd : FuncData} (Z : SupF P K mg "described" "StrictPatch.described" s_StrictPatch_described f cc cda CS fd) (SM : SupM K CS "described" g) (FF : FnOk P w K mg base (L2N.CX P w) 1 g gd ["self"] (spDescP CP CC CS)) (bb : Binds K gd ["self"] []) :
    FnOk P w K mg base (L2N.CX P w) 2 f fd ["self"] (spDesc CS 2) := by
  refine fnok_sup Z.F sc_StrictPatch_described Z.hcc (fun vs H Q E h => ?_) (fun A out s H vs Q E hr h => ?_)
  · obtain ⟨p, dp, r, n, rfl, _⟩ := h
    rfl
  · obtain ⟨p, dp, r, n, rfl, hp, hn, q⟩ := h
    have hC : Any3 CP CC CS CS := .inr (.inr rfl)
    have SC := Z.sc (CX := L2N.CX P w) (w := w) (base := base) (N := N_StrictPatch_described) (A := A) (out := out) (s := s) (H := H) (E := E) (sf := "self") rfl rfl rfl rfl rfl rfl
    refine ⟨_, (pssa_one (psa_ret (pea_opl op_cat (pea_sup0 SC SM FF bb hr (L2N.passes_call (L2N.takes_of rfl rfl rfl rfl) fun _ _ _ _ h => h)) (pe_lst (pa_cons pe_str pa_nil))))), ?_⟩
    refine ⟨p, dp, _, rfl, hp, p, dp, r, CS, n, rfl, hC, hp, hn, fun y ny => ?_⟩
    have s1 := same_new (o := .lst [.str (nameP n)]) ny
    have e1 : (upd H y (.lst [.str (nameP n)])) y = some (.lst [.str (nameP n)]) := upd_same
    generalize upd H y (.lst [.str (nameP n)]) = H1 at s1 e1 ⊢
    refine ⟨by show 1 ≤ sizeLine; decide, fun z nz => ?_⟩
    have s2 := same_new (o := .lst [.str "strict"]) nz
    refine ⟨y, z, _, _, rfl, rfl, s2 _ _ e1, upd_same, by show 1 + 1 ≤ sizeLine; decide, fun u nu => ?_⟩
    have nH : H u = none := by
      cases zz : H u with
      | none => rfl
      | some ob => rw [s2 _ _ (s1 _ _ zz)] at nu; cases nu
    exact q u _ ((s1.trans s2).trans (same_new nu)) nH upd_same
end
end L25
set_option Elab.async false
set_option linter.all false
set_option maxRecDepth 100000
namespace L25
open PySem PySem.Spec PyProof.Rows L2 Lp
theorem eqvT {xs ys : List Int} (h : xs = ys) : V.bl (PyData.eqv (dI xs) (dI ys)) = V.bl true := by rw [eqv_ints, decide_eq_true h]
theorem eqvF {xs ys : List Int} (h : ¬ xs = ys) : V.bl (PyData.eqv (dI xs) (dI ys)) = V.bl false := by rw [eqv_ints, decide_eq_false h]
theorem neqT {xs ys : List Int} (h : ¬ xs = ys) : V.bl (!PyData.eqv (dI xs) (dI ys)) = V.bl true := by rw [eqv_ints, decide_eq_false h]; rfl
theorem neqF {xs ys : List Int} (h : xs = ys) : V.bl (!PyData.eqv (dI xs) (dI ys)) = V.bl false := by rw [eqv_ints, decide_eq_true h]; rfl
section
variable {P : Program} {w : World} {K : PySem.W.Frag} {mg : Str → Option Value} {base : Heap}
abbrev T30 : Int := 1000000000000000000000000000000
def spIsInt : Sp := fun vs H Q _ => ∃ i : Int, vs = [.int i] ∧ Q (.bl true) H
theorem ok_is_integer {f : Addr} {fd : FuncData} (F : Fun K "is_integer" "is_integer" s_is_integer f fd) (B : NoB mg) : FnOk P w K mg base CX0 1 f fd ["value"] spIsInt := by
  refine F.ok sc_is_integer (fun vs H Q E h => ?_) (fun cdv A outer s H vs Q E hr h => ?_)
  · obtain ⟨i, rfl, _⟩ := h
    rfl
  · obtain ⟨i, rfl, q⟩ := h
    refine ⟨_, (pss_one (ps_ret (pe_and (pe_callB call_isi (by rfl) B.isinstance (by decide +kernel) (pa_cons (pv 0) (pa_cons (pe_bltn (v := .ty "int") (by rfl) B.int boot_int rfl) pa_nil))) (pe_one (pe_not (pe_callB call_isi (by rfl) B.isinstance (by decide +kernel) (pa_cons (pv 0) (pa_cons (pe_bltn (v := .ty "bool") (by rfl) B.bool boot_bool rfl) pa_nil)))))))), ?_⟩
    refine ⟨_, rfl, _, _, _, _, true, rfl, .ty _, .base (.int i), kit_ty (by decide +kernel), true, rfl, iteT ?_⟩
    exact ⟨_, rfl, _, _, _, _, false, rfl, .ty _, .base (.int i), kit_ty (by decide +kernel), false, rfl, q⟩
def spWithin : Sp := fun vs H Q _ => ∃ i lo hi : Int, vs = [.int i, .int lo, .int hi] ∧ lo ≤ i ∧ i ≤ hi ∧ Q (.bl true) H
theorem ok_is_integer_within {f : Addr} {fd : FuncData} (F : Fun K "is_integer_within" "is_integer_within" s_is_integer_within f fd) (T_is_integer : Cal P w K mg base 1 "is_integer" spIsInt) : FnOk P w K mg base CX0 2 f fd ["value", "least", "greatest"] spWithin := by
  refine F.ok sc_is_integer_within (fun vs H Q E h => ?_) (fun cdv A outer s H vs Q E hr h => ?_)
  · obtain ⟨i, lo, hi, rfl, _⟩ := h
    rfl
  · obtain ⟨i, lo, hi, rfl, h1, h2, q⟩ := h
    refine ⟨_, (pss_one (ps_ret (pe_and (pe_c T_is_integer hr (by decide) (by rfl) (pa_cons (pv 0) pa_nil)) (pe_one (pe_chain op_le op_le (pv 1) (pv 0) (pv 2)))))), ?_⟩
    refine ⟨_, rfl, i, rfl, true, rfl, iteT ?_⟩
    refine ⟨_, rfl, _, rfl, _, _, rfl, rfl, _, rfl, ?_⟩
    rw [decide_eq_true h1]
    refine iteT ⟨_, rfl, _, _, rfl, rfl, ?_⟩
    dsimp only
    rw [decide_eq_true h2]
    exact q
def spCheckN : Sp := fun vs H Q _ => ∃ i lo hi : Int, vs = [.int i, .int lo, .int hi] ∧ lo ≤ i ∧ i ≤ hi ∧ Q .non H
theorem ok_check_number {f : Addr} {fd : FuncData} (F : Fun K "check_number" "check_number" s_check_number f fd) (T_is_integer_within : Cal P w K mg base 2 "is_integer_within" spWithin) : FnOk P w K mg base CX0 3 f fd ["value", "least", "greatest"] spCheckN := by
  refine F.ok sc_check_number (fun vs H Q E h => ?_) (fun cdv A outer s H vs Q E hr h => ?_)
  · obtain ⟨i, lo, hi, rfl, _⟩ := h
    rfl
  · obtain ⟨i, lo, hi, rfl, h1, h2, q⟩ := h
    refine ⟨_, (pss_one (ps_if (pt_not (pt_val (pe_c T_is_integer_within hr (by decide) (by rfl) (pa_cons (pv 0) (pa_cons (pv 1) (pa_cons (pv 2) pa_nil)))))) (pss_one ps_never) pss_nil)), ?_⟩
    exact ⟨_, rfl, _, rfl, _, rfl, i, lo, hi, rfl, h1, h2, _, rfl, iteF q⟩
/-- an integer that may be set -/
def Ok30 (i : Int) : Prop := -T30 ≤ i ∧ i ≤ T30
def spSettable : Sp := fun vs H Q _ => ∃ i : Int, vs = [.int i] ∧ Ok30 i ∧ Q .non H
theorem ok_check_settable {f : Addr} {fd : FuncData} (F : Fun K "check_settable" "check_settable" s_check_settable f fd) {t1 : Tok} (T_g_FARTHEST : mg "FARTHEST" = some (.int T30 t1)) (T_check_number : Cal P w K mg base 3 "check_number" spCheckN) : FnOk P w K mg base CX0 4 f fd ["value"] spSettable := by
  refine F.ok sc_check_settable (fun vs H Q E h => ?_) (fun cdv A outer s H vs Q E hr h => ?_)
  · obtain ⟨i, rfl, _⟩ := h
    rfl
  · obtain ⟨i, rfl, ⟨h1, h2⟩, q⟩ := h
    refine ⟨_, (pss_one (ps_expr (pe_c T_check_number hr (by decide) (by rfl) (pa_cons (pv 0) (pa_cons (pe_un un_neg (pe_glob (v := .int 1000000000000000000000000000000) (by rfl) T_g_FARTHEST ⟨_, rfl⟩)) (pa_cons (pe_glob (v := .int 1000000000000000000000000000000) (by rfl) T_g_FARTHEST ⟨_, rfl⟩) pa_nil)))))), ?_⟩
    exact ⟨_, rfl, _, rfl, i, -T30, T30, rfl, h1, h2, q⟩
end
/-! ### settings -/
structure SetAt (CG : Addr) (H : Hp) (g r al : Addr) (ps : List Addr) : Prop where
  g : ∃ dg, H g = some (.ins CG dg (fG r al))
  l : H al = some (.lst (ps.map .ref))
theorem SetAt.same {CG : Addr} {H H' : Hp} {g r al : Addr} {ps : List Addr} (h : SetAt CG H g r al ps) (s : Same H H') : SetAt CG H' g r al ps := by
  obtain ⟨⟨dg, e⟩, b⟩ := h
  exact ⟨⟨dg, s _ _ e⟩, s _ _ b⟩
theorem Rec.upd {CR : Addr} {H : Hp} {r ai ap aq x : Addr} {I P S : List Int} {o : HO} (h : Rec CR H r ai ap aq I P S) (n1 : x ≠ r) (n2 : x ≠ ai) (n3 : x ≠ ap) (n4 : x ≠ aq) : Rec CR (upd H x o) r ai ap aq I P S := by
  obtain ⟨⟨dr, e⟩, b, c, d, z, z1, z2⟩ := h
  exact ⟨⟨dr, by rw [upd_ne n1.symm]; exact e⟩, by rw [upd_ne n2.symm]; exact b, by rw [upd_ne n3.symm]; exact c, by rw [upd_ne n4.symm]; exact d, z, z1, z2⟩
theorem Rec.more {CR : Addr} {H : Hp} {r ai ap aq : Addr} {I I' P S : List Int} (h : Rec CR H r ai ap aq I P S) : Rec CR (L2.upd H ai (.lst (I'.map .int))) r ai ap aq I' P S := by
  obtain ⟨⟨dr, hR⟩, hi, hp, hq, ip, iq, pq⟩ := h
  have ri : r ≠ ai := fun z => by rw [z, hi] at hR; cases hR
  exact ⟨⟨dr, by rw [upd_ne ri]; exact hR⟩, upd_same, by rw [upd_ne ip.symm]; exact hp, by rw [upd_ne iq.symm]; exact hq, ip, iq, pq⟩
section
variable {P : Program} {w : World} {K : PySem.W.Frag} {mg : Str → Option Value} {base : Heap} {CR CP CC CS CG eF eE : Addr}
def spGInit (CR CG : Addr) : Sp := fun vs H Q _ => ∃ (g dg : Addr) (i : Int), vs = [.ref g, .int i] ∧ Ok30 i ∧ H g = some (.ins CG dg []) ∧
  ∀ r ai ap aq al H', SetAt CG H' g r al [] → Rec CR H' r ai ap aq [i] [] [0] → Bt g H H' → H r = none → H ai = none → H ap = none → H aq = none → H al = none → al ≠ ai → al ≠ ap → al ≠ aq → Q .non H'
theorem ok_Setting_init {f : Addr} {fd : FuncData} (F : FunD K "__init__" "Setting.__init__" (defArgs s_Setting_init) (defBody s_Setting_init) (defScope s_Setting_init) [.int 0] [] f fd) (T : TxtL K CR CP CC CS CG) (T_check_settable : CalN P w K mg base 4 "check_settable" spSettable) (T_mk_Record : Mak P w K mg base 1 "Record" CR (spRInit K CR)) :
    FnOk P w K mg base (L2N.CX P w) 5 f fd ["self", "original"] (spGInit CR CG) := by
  refine FunD.ok F sc_Setting_init (fun vs H Q E h => ?_) (fun cdv A outer s H vs Q E hr h => ?_)
  · obtain ⟨g, dg, i, rfl, _⟩ := h
    rfl
  · obtain ⟨g, dg, i, rfl, hi, hg, q⟩ := h
    refine ⟨_, (pss_cons (ps_expr (pe_cn T_check_settable hr (by decide) (L2N.takes_of rfl rfl rfl rfl) (by rfl) (pa_cons (pv 1) pa_nil)))
        (pss_cons (ps_fld (pv 0) (pe_mk T_mk_Record hr (by decide) (by rfl) (pa_cons (pe_lst (pa_cons (pv 1) pa_nil)) (pa_cons (pe_lst pa_nil) (pa_cons (pe_lst (pa_cons pe_int pa_nil)) pa_nil)))) rfl)
        (pss_one (ps_fld (pv 0) (pe_lst pa_nil) rfl)))), ?_⟩
    refine ⟨_, rfl, i, rfl, hi, ?_⟩
    refine ⟨_, rfl, by show 1 ≤ sizeLine; decide, fun a na => ?_⟩
    have s1 := same_new (o := .lst [.int i]) na
    have a1 : (upd H a (.lst [.int i])) a = some (.lst ([i].map .int)) := upd_same
    generalize upd H a (.lst [.int i]) = H1 at s1 a1 ⊢
    refine ⟨Nat.zero_le _, fun b nb => ?_⟩
    have s2 := s1.trans (same_new (o := .lst []) nb)
    have a2 := same_new (o := .lst []) nb _ _ a1
    have b2 : (upd H1 b (.lst [])) b = some (.lst (([] : List Int).map .int)) := upd_same
    generalize upd H1 b (.lst []) = H2 at s2 a2 b2 ⊢
    refine ⟨by show 1 ≤ sizeLine; decide, fun c nc => ?_⟩
    have s3 := s2.trans (same_new (o := .lst [.int 0]) nc)
    have a3 := same_new (o := .lst [.int 0]) nc _ _ a2
    have b3 := same_new (o := .lst [.int 0]) nc _ _ b2
    have c3 : (upd H2 c (.lst [.int 0])) c = some (.lst (([0] : List Int).map .int)) := upd_same
    generalize upd H2 c (.lst [.int 0]) = H3 at s3 a3 b3 c3 ⊢
    intro r dr nr ndr ne
    have s4 := s3.trans (same_new (o := .own r) ndr)
    have nr4 : (upd H3 dr (.own r)) r = none := by rw [upd_ne ne.symm]; exact nr
    have s5 := s4.trans (same_new (o := .ins CR dr []) nr4)
    have t5 : Same H3 (upd (upd H3 dr (.own r)) r (.ins CR dr [])) := (same_new ndr).trans (same_new nr4)
    have r5 : (upd (upd H3 dr (.own r)) r (.ins CR dr [])) r = some (.ins CR dr []) := upd_same
    have nrH : H r = none := s3.free nr
    generalize upd (upd H3 dr (.own r)) r (.ins CR dr []) = H5 at s5 t5 r5 ⊢
    refine ⟨r, dr, a, b, c, [i], [], [0], rfl, r5, t5 _ _ a3, t5 _ _ b3, t5 _ _ c3, by show 1 ≤ 1000; decide, Nat.zero_le _, by show 1 ≤ 2000; decide, fun ai ap aq H6 R B6 n1 n2 n3 => ⟨rfl, ?_⟩⟩
    have gr : g ≠ r := fun z => by rw [z, nrH] at hg; cases hg
    have B7 : Same H H6 := fun y o e => B6 y o (fun z => by rw [z, nrH] at e; cases e) (s5 _ _ e)
    have hg6 := B7 _ _ hg
    refine ⟨_, rfl, g, CG, dg, _, rfl, hg6, T.cG, T.nG1, (by show 0 < 1000; decide), ?_⟩
    have ng : ∀ {z : Addr}, H z = none → g ≠ z := fun {z} n e => by rw [e, n] at hg; cases hg
    have R7 : Rec CR (upd H6 g (.ins CG dg (putF "_record" (.ref r) []))) r ai ap aq [i] [] [0] := R.upd gr (ng (s5.free n1)) (ng (s5.free n2)) (ng (s5.free n3))
    have g7 : (upd H6 g (.ins CG dg (putF "_record" (.ref r) []))) g = some (.ins CG dg (putF "_record" (.ref r) [])) := upd_same
    have B8 : Bt g H (upd H6 g (.ins CG dg (putF "_record" (.ref r) []))) := (Bt.of B7).trans (.at_ _ _ _)
    generalize upd H6 g (.ins CG dg (putF "_record" (.ref r) [])) = H7 at R7 g7 B8 ⊢
    refine ⟨Nat.zero_le _, fun al nal => ?_⟩
    have s8 := same_new (o := .lst []) nal
    have l8 : (upd H7 al (.lst [])) al = some (.lst (([] : List Addr).map .ref)) := upd_same
    have gl : g ≠ al := fun z => by rw [← z, g7] at nal; cases nal
    have nalH : H al = none := by
      cases z : H al with
      | none => rfl
      | some o => rw [B8 _ _ (fun e => gl e.symm) z] at nal; cases nal
    have la : al ≠ ai := fun z => by rw [z, R7.i] at nal; cases nal
    have lp : al ≠ ap := fun z => by rw [z, R7.p] at nal; cases nal
    have lq : al ≠ aq := fun z => by rw [z, R7.q] at nal; cases nal
    have R8 := R7.same s8
    have g8 := s8 _ _ g7
    have B9 := B8.trans (.of s8)
    generalize upd H7 al (.lst []) = H8 at R8 l8 g8 B9 ⊢
    refine ⟨_, rfl, g, CG, dg, _, rfl, g8, T.cG, T.nG2, (by show 1 < 1000; decide), ?_⟩
    rw [fG_new]
    have al_g : al ≠ g := fun z => gl z.symm
    exact q r ai ap aq al _ ⟨⟨dg, upd_same⟩, by rw [upd_ne al_g]; exact l8⟩ (R8.upd gr (ng (s5.free n1)) (ng (s5.free n2)) (ng (s5.free n3))) (B9.trans (.at_ _ _ _)) nrH (s5.free n1) (s5.free n2) (s5.free n3) nalH la lp lq
/-! ### what a setting tells -/
def spGInt (CR CG : Addr) : Sp := fun vs H Q _ => ∃ (g r al ai ap aq : Addr) (ps : List Addr) (I U S : List Int), vs = [.ref g] ∧ SetAt CG H g r al ps ∧ Rec CR H r ai ap aq I U S ∧ Wf I U S ∧ Q (.int (vI I (lastI S))) H
theorem ok_Setting_integer {f : Addr} {fd : FuncData} (F : Fun K "integer" "Setting.integer" s_Setting_integer f fd) (T : TxtL K CR CP CC CS CG) (T_Record_integer_now : MetV P w K mg base 1 (Is CR) "integer_now" (spNow CR)) : FnOk P w K mg base (L2N.CX P w) 2 f fd ["self"] (spGInt CR CG) := by
  refine F.okN sc_Setting_integer (fun vs H Q E h => ?_) (fun cdv A outer s H vs Q E hr h => ?_)
  · obtain ⟨g, r, al, ai, ap, aq, ps, I, U, S, rfl, _⟩ := h
    rfl
  · obtain ⟨g, r, al, ai, ap, aq, ps, I, U, S, rfl, ⟨⟨dg, hg⟩, hl⟩, R, W, q⟩ := h
    obtain ⟨dr, hR⟩ := R.ins
    refine ⟨_, (pss_one (ps_ret (pe_mV0 T_Record_integer_now hr (by decide) (L2N.takes_of rfl rfl rfl rfl) (pe_fld (pv 0) rfl)))), ?_⟩
    exact ⟨_, rfl, g, CG, dg, _, _, rfl, hg, T.cG, T.nG1, lg1 _ _, r, CR, dr, _, rfl, rfl, hR, lkR _ _ _ (by decide +kernel), r, ai, ap, aq, I, U, S, rfl, R, W, q⟩
def spGPres (CR CG : Addr) : Sp := fun vs H Q _ => ∃ (g r al ai ap aq : Addr) (ps : List Addr) (I U S : List Int), vs = [.ref g] ∧ SetAt CG H g r al ps ∧ Rec CR H r ai ap aq I U S ∧ Wf I U S ∧ Q (.int (lastI S)) H
theorem ok_Setting_present {f : Addr} {fd : FuncData} (F : Fun K "present" "Setting.present" s_Setting_present f fd) (T : TxtL K CR CP CC CS CG) : FnOk P w K mg base (L2N.CX P w) 1 f fd ["self"] (spGPres CR CG) := by
  refine F.okN sc_Setting_present (fun vs H Q E h => ?_) (fun cdv A outer s H vs Q E hr h => ?_)
  · obtain ⟨g, r, al, ai, ap, aq, ps, I, U, S, rfl, _⟩ := h
    rfl
  · obtain ⟨g, r, al, ai, ap, aq, ps, I, U, S, rfl, ⟨⟨dg, hg⟩, hl⟩, R, W, q⟩ := h
    obtain ⟨dr, hR⟩ := R.ins
    refine ⟨_, (pss_one (ps_ret (pe_ix ix_list (pe_fld (pe_fld (pv 0) rfl) rfl) (pe_un un_neg pe_int) (fun _ _ => rfl)))), ?_⟩
    exact ⟨_, rfl, g, CG, dg, _, _, rfl, hg, T.cG, T.nG1, lg1 _ _, r, CR, dr, _, _, rfl, hR, T.cR, T.nR3, lk3 _ _ _, _, rfl, aq, _, _, _, rfl, rfl, .of R.q, atI_lastI W.ne, q⟩
def spGOrig (CR CG : Addr) : Sp := fun vs H Q _ => ∃ (g r al ai ap aq : Addr) (ps : List Addr) (I U S : List Int), vs = [.ref g] ∧ SetAt CG H g r al ps ∧ Rec CR H r ai ap aq I U S ∧ Wf I U S ∧ Q (.bl (decide (lastI S = 0))) H
theorem ok_Setting_original {f : Addr} {fd : FuncData} (F : Fun K "original" "Setting.original" s_Setting_original f fd) (T : TxtL K CR CP CC CS CG) : FnOk P w K mg base (L2N.CX P w) 1 f fd ["self"] (spGOrig CR CG) := by
  refine F.okN sc_Setting_original (fun vs H Q E h => ?_) (fun cdv A outer s H vs Q E hr h => ?_)
  · obtain ⟨g, r, al, ai, ap, aq, ps, I, U, S, rfl, _⟩ := h
    rfl
  · obtain ⟨g, r, al, ai, ap, aq, ps, I, U, S, rfl, ⟨⟨dg, hg⟩, hl⟩, R, W, q⟩ := h
    obtain ⟨dr, hR⟩ := R.ins
    refine ⟨_, (pss_one (ps_ret (pe_cmpR op_eq (pe_ix ix_list (pe_fld (pe_fld (pv 0) rfl) rfl) (pe_un un_neg pe_int) (fun _ _ => rfl)) pe_int (nomark _)))), ?_⟩
    refine ⟨_, rfl, g, CG, dg, _, _, rfl, hg, T.cG, T.nG1, lg1 _ _, r, CR, dr, _, _, rfl, hR, T.cR, T.nR3, lk3 _ _ _, _, rfl, aq, _, _, _, rfl, rfl, .of R.q, atI_lastI W.ne, rfl, ?_⟩
    have e : decide (V.int (lastI S) = V.int 0) = decide (lastI S = 0) := decide_eq_decide.mpr ⟨fun z => V.int.inj z, fun z => congrArg V.int z⟩
    show Q (.bl (decide (V.int (lastI S) = V.int 0))) H
    rw [e]
    exact q
def spGEvents (CR CG : Addr) : Sp := fun vs H Q _ => ∃ (g r al ai ap aq : Addr) (ps : List Addr) (I U S : List Int), vs = [.ref g] ∧ SetAt CG H g r al ps ∧ Rec CR H r ai ap aq I U S ∧ ∀ q, H q = none → Q (.ref q) (upd H q (.lst (U.map .int)))
theorem ok_Setting_events {f : Addr} {fd : FuncData} (F : Fun K "events" "Setting.events" s_Setting_events f fd) (B : NoB mg) (T : TxtL K CR CP CC CS CG) : FnOk P w K mg base (L2N.CX P w) 1 f fd ["self"] (spGEvents CR CG) := by
  refine F.okN sc_Setting_events (fun vs H Q E h => ?_) (fun cdv A outer s H vs Q E hr h => ?_)
  · obtain ⟨g, r, al, ai, ap, aq, ps, I, U, S, rfl, _⟩ := h
    rfl
  · obtain ⟨g, r, al, ai, ap, aq, ps, I, U, S, rfl, ⟨⟨dg, hg⟩, hl⟩, R, q⟩ := h
    obtain ⟨dr, hR⟩ := R.ins
    refine ⟨_, (pss_one (ps_ret (pe_callTy call_list_of (by rfl) B.list (by decide +kernel) (pa_cons (pe_fld (pe_fld (pv 0) rfl) rfl) pa_nil)))), ?_⟩
    exact ⟨_, rfl, g, CG, dg, _, _, rfl, hg, T.cG, T.nG1, lg1 _ _, r, CR, dr, _, _, rfl, hR, T.cR, T.nR2, lk2 _ _ _, ap, _, rfl, .inl (.of R.p), fun y ny => q y ny⟩
def spGLen (CR CG : Addr) : Sp := fun vs H Q _ => ∃ (g r al ai ap aq : Addr) (ps : List Addr) (I U S : List Int), vs = [.ref g] ∧ SetAt CG H g r al ps ∧ Rec CR H r ai ap aq I U S ∧ Q (.int ((U.length : Nat) : Int)) H
theorem ok_Setting_len {f : Addr} {fd : FuncData} (F : Fun K "__len__" "Setting.__len__" s_Setting_len f fd) (B : NoB mg) (T : TxtL K CR CP CC CS CG) : FnOk P w K mg base CX0 1 f fd ["self"] (spGLen CR CG) := by
  refine F.ok sc_Setting_len (fun vs H Q E h => ?_) (fun cdv A outer s H vs Q E hr h => ?_)
  · obtain ⟨g, r, al, ai, ap, aq, ps, I, U, S, rfl, _⟩ := h
    rfl
  · obtain ⟨g, r, al, ai, ap, aq, ps, I, U, S, rfl, ⟨⟨dg, hg⟩, hl⟩, R, q⟩ := h
    obtain ⟨dr, hR⟩ := R.ins
    refine ⟨_, (pss_one (ps_ret (pe_callB call_len_seq (by rfl) B.len PySem.boot_len (pa_cons (pe_fld (pe_fld (pv 0) rfl) rfl) pa_nil)))), ?_⟩
    refine ⟨_, rfl, g, CG, dg, _, _, rfl, hg, T.cG, T.nG1, lg1 _ _, r, CR, dr, _, _, rfl, hR, T.cR, T.nR2, lk2 _ _ _, ap, _, rfl, .inl (.of R.p), ?_⟩
    rw [List.length_map]
    exact q
theorem lenG {H : Hp} {g r al ai ap aq : Addr} {ps : List Addr} {I U S : List Int} {Q : VK} (G : SetAt CG H g r al ps) (R : Rec CR H r ai ap aq I U S) (l : U.length ≤ 1000) (q : Q (.int ((U.length : Nat) : Int)) H) : rLenO CG (spGLen CR CG) [.ref g] H Q := by
  obtain ⟨dg, hg⟩ := G.g
  exact ⟨g, dg, _, rfl, hg, g, r, al, ai, ap, aq, ps, I, U, S, rfl, G, R, _, rfl, by omega, by omega, q⟩
/-! ### patches made -/
def spEnlist (CR CG eF : Addr) : Sp := fun vs H Q E => ∃ (g r al ai ap aq : Addr) (ps : List Addr) (I U S : List Int) (i : Int), vs = [.ref g, .int i] ∧ SetAt CG H g r al ps ∧ Rec CR H r ai ap aq I U S ∧ Ok30 i ∧ I.length ≤ 1000 ∧ ps.length ≤ 100 ∧ al ≠ ai ∧
  (ps.length < 100 → Q (.int ((ps.length : Int) + 1)) (upd H ai (.lst ((I ++ [i]).map .int)))) ∧ (ps.length = 100 → E (.ref eF) none H)
theorem ok_Setting_enlist {f : Addr} {fd : FuncData} (F : Fun K "_enlist" "Setting._enlist" s_Setting_enlist f fd) (B : NoB mg) (T : TxtL K CR CP CC CS CG) (RF : Er K mg "FullError" eF) (T_c_Setting : mg "Setting" = some (.ref CG)) {mc u : Value} (cr : ClX.CRead K CG mc) (cv : ClX.CVal K CG mc "MOST" (.int 100) u) (T_check_settable : CalN P w K mg base 4 "check_settable" spSettable) :
    FnOk P w K mg base (L2N.CX P w) 5 f fd ["self", "integer"] (spEnlist CR CG eF) := by
  refine F.okN sc_Setting_enlist (fun vs H Q E h => ?_) (fun cdv A outer s H vs Q E hr h => ?_)
  · obtain ⟨g, r, al, ai, ap, aq, ps, I, U, S, i, rfl, _⟩ := h
    rfl
  · obtain ⟨g, r, al, ai, ap, aq, ps, I, U, S, i, rfl, ⟨⟨dg, hg⟩, hl⟩, R, hi, li, lp, la, q, x⟩ := h
    obtain ⟨dr, hR⟩ := R.ins
    refine ⟨_, (pss_cons (ps_expr (pe_cn T_check_settable hr (by decide) (L2N.takes_of rfl rfl rfl rfl) (by rfl) (pa_cons (pv 1) pa_nil)))
        (pss_cons (ps_if (pt_cmpR op_eq (pe_callB call_len_seq (by rfl) B.len PySem.boot_len (pa_cons (pe_fld (pv 0) rfl) pa_nil)) (ClX.pe_cval (pe_glob (v := .ref CG) (by rfl) T_c_Setting rfl)) (nomark _)) (pss_one (L2N.ps_raise rfl (L2N.takes_of rfl rfl rfl rfl) (L2N.pmk_own PySem.F.excBase_ValueError RF.x RF.c RF.k (raises_own RF.b RF.t) rfl))) pss_nil)
        (pss_cons (ps_expr (pe_bm PySem.F.plainAttrs_list PySem.F.slot_list_append PySem.F.type_list_append mt_append (pe_fld (pe_fld (pv 0) rfl) rfl) (pa_cons (pv 1) pa_nil)))
        (pss_one (ps_ret (pe_op op_add (pe_callB call_len_seq (by rfl) B.len PySem.boot_len (pa_cons (pe_fld (pv 0) rfl) pa_nil)) pe_int)))))), ?_⟩
    refine ⟨_, rfl, i, rfl, hi, ?_⟩
    refine ⟨_, rfl, g, CG, dg, _, _, rfl, hg, T.cG, T.nG2, lg2 _ _, al, _, rfl, .inl (.of hl), CG, mc, _, u, rfl, cr, cv, rfl, decide (ps.length = 100), ?_, ?_⟩
    · rw [List.length_map]
      exact congrArg V.bl (decide_eq_decide.mpr ⟨fun z => by have := V.int.inj z; omega, fun z => by rw [z]; rfl⟩)
    · by_cases e : ps.length = 100
      · rw [decide_eq_true e]
        exact iteT (x e)
      · rw [decide_eq_false e]
        refine iteF ?_
        refine ⟨_, rfl, g, CG, dg, _, _, rfl, hg, T.cG, T.nG1, lg1 _ _, r, CR, dr, _, _, rfl, hR, T.cR, T.nR1, lk1 _ _ _, .inl ⟨rfl, _, .of R.i⟩, _, rfl, ai, _, _, rfl, rfl, R.i, zl (by rw [List.length_map]; omega), ?_⟩
        rw [snocI]
        have gi : g ≠ ai := fun z => by rw [z, R.i] at hg; cases hg
        have q2 := q (by omega)
        refine ⟨_, rfl, g, CG, dg, _, _, rfl, by rw [upd_ne gi]; exact hg, T.cG, T.nG2, lg2 _ _, al, _, rfl, .inl (.of (by rw [upd_ne la]; exact hl)), _, _, rfl, rfl, ?_⟩
        rw [List.length_map]
        exact q2
def spKeep (CG : Addr) : Sp := fun vs H Q _ => ∃ (g r al p : Addr) (ps : List Addr), vs = [.ref g, .ref p] ∧ SetAt CG H g r al ps ∧ ps.length ≤ 1000 ∧ Q (.ref p) (upd H al (.lst ((ps ++ [p]).map .ref)))
theorem ok_Setting_keep {f : Addr} {fd : FuncData} (F : Fun K "_keep" "Setting._keep" s_Setting_keep f fd) (T : TxtL K CR CP CC CS CG) : FnOk P w K mg base (L2N.CX P w) 1 f fd ["self", "patch"] (spKeep CG) := by
  refine F.okN sc_Setting_keep (fun vs H Q E h => ?_) (fun cdv A outer s H vs Q E hr h => ?_)
  · obtain ⟨g, r, al, p, ps, rfl, _⟩ := h
    rfl
  · obtain ⟨g, r, al, p, ps, rfl, ⟨⟨dg, hg⟩, hl⟩, lp, q⟩ := h
    refine ⟨_, (pss_cons (ps_expr (pe_bm PySem.F.plainAttrs_list PySem.F.slot_list_append PySem.F.type_list_append mt_append (pe_fld (pv 0) rfl) (pa_cons (pv 1) pa_nil)))
        (pss_one (ps_ret (pv 1)))), ?_⟩
    refine ⟨_, rfl, g, CG, dg, _, _, rfl, hg, T.cG, T.nG2, lg2 _ _, .inl ⟨rfl, _, .of hl⟩, _, rfl, al, _, _, rfl, rfl, hl, zl (by rw [List.length_map]; omega), ?_⟩
    have e : ps.map V.ref ++ [V.ref p] = (ps ++ [p]).map V.ref := by rw [List.map_append]; rfl
    rw [e]
    exact ⟨_, rfl, q⟩
/-- a patch is made; by the class C -/
def spMake (CR CG eF C : Addr) : Sp := fun vs H Q E => ∃ (g r al ai ap aq : Addr) (ps : List Addr) (I U S : List Int) (i : Int), vs = [.ref g, .int i] ∧ SetAt CG H g r al ps ∧ Rec CR H r ai ap aq I U S ∧ Ok30 i ∧ I.length ≤ 1000 ∧ ps.length ≤ 100 ∧ al ≠ ai ∧ al ≠ ap ∧ al ≠ aq ∧
  (ps.length < 100 → ∀ p dp H', H p = none → H' p = some (.ins C dp (fP r ((ps.length : Int) + 1))) → SetAt CG H' g r al (ps ++ [p]) → Rec CR H' r ai ap aq (I ++ [i]) U S → (∀ b o, b ≠ ai → b ≠ al → H b = some o → H' b = some o) → Q (.ref p) H') ∧ (ps.length = 100 → E (.ref eF) none H)
theorem ok_Setting_patch {f : Addr} {fd : FuncData} (F : Fun K "patch" "Setting.patch" s_Setting_patch f fd) (T : TxtL K CR CP CC CS CG) (T_mk_Patch : Mak P w K mg base 1 "Patch" CP (spPInit CP CC CS)) (T_Setting_enlist : MetV P w K mg base 5 (Is CG) "_enlist" (spEnlist CR CG eF)) (T_Setting_keep : MetV P w K mg base 1 (Is CG) "_keep" (spKeep CG)) :
    FnOk P w K mg base (L2N.CX P w) 6 f fd ["self", "number"] (spMake CR CG eF CP) := by
  refine F.okN sc_Setting_patch (fun vs H Q E h => ?_) (fun cdv A outer s H vs Q E hr h => ?_)
  · obtain ⟨g, r, al, ai, ap, aq, ps, I, U, S, i, rfl, _⟩ := h
    rfl
  · obtain ⟨g, r, al, ai, ap, aq, ps, I, U, S, i, rfl, G, R, hi, li, lp, la, lb, lc, q, x⟩ := h
    obtain ⟨dg, hg⟩ := G.g
    have hC : Any3 CP CC CS CP := .inl rfl
    refine ⟨_, (pss_one (ps_ret (pe_mV T_Setting_keep hr (by decide) (L2N.takes_of rfl rfl rfl rfl) (pv 0) (pa_cons (pe_mk T_mk_Patch hr (by decide) (by rfl) (pa_cons (pe_fld (pv 0) rfl) (pa_cons (pe_mV T_Setting_enlist hr (by decide) (L2N.takes_of rfl rfl rfl rfl) (pv 0) (pa_cons (pv 1) pa_nil)) pa_nil))) pa_nil)))), ?_⟩
    refine ⟨_, rfl, g, CG, dg, _, rfl, rfl, hg, lkG _ _ (by decide +kernel), _, rfl, g, CG, dg, _, _, rfl, hg, T.cG, T.nG1, lg1 _ _, _, rfl, g, CG, dg, _, rfl, rfl, hg, lkG _ _ (by decide +kernel), _, rfl, g, r, al, ai, ap, aq, ps, I, U, S, i, rfl, G, R, hi, li, lp, la, fun l => ?_, x⟩
    have gi : g ≠ ai := fun z => by rw [z, R.i] at hg; cases hg
    have R1 : Rec CR (upd H ai (.lst ((I ++ [i]).map .int))) r ai ap aq (I ++ [i]) U S := R.more
    have G1 : SetAt CG (upd H ai (.lst ((I ++ [i]).map .int))) g r al ps := ⟨⟨dg, by rw [upd_ne gi]; exact hg⟩, by rw [upd_ne la]; exact G.l⟩
    have k1 : ∀ b o, b ≠ ai → H b = some o → (upd H ai (.lst ((I ++ [i]).map .int))) b = some o := fun b o n e => by rw [upd_ne n]; exact e
    have fr : ∀ b, (upd H ai (.lst ((I ++ [i]).map .int))) b = none → H b = none := fun b e => by
      by_cases z : b = ai
      · rw [z, upd_same] at e; cases e
      · rw [upd_ne z] at e; exact e
    generalize upd H ai (.lst ((I ++ [i]).map .int)) = H1 at R1 G1 k1 fr ⊢
    intro p dp np ndp ne
    have s1 : Same H1 (upd (upd H1 dp (.own p)) p (.ins CP dp [])) := (same_new ndp).trans (same_new (by rw [upd_ne ne.symm]; exact np))
    have p1 : (upd (upd H1 dp (.own p)) p (.ins CP dp [])) p = some (.ins CP dp []) := upd_same
    have R2 := R1.same s1
    have G2 := G1.same s1
    generalize upd (upd H1 dp (.own p)) p (.ins CP dp []) = H2 at s1 p1 R2 G2 ⊢
    refine ⟨p, dp, r, CP, _, rfl, hC, p1, rfl, ?_⟩
    have pn : ∀ {z : Addr} {o : HO}, H1 z = some o → z ≠ p := fun {z o} e n => by rw [n, np] at e; cases e
    obtain ⟨dg1, hg1⟩ := G1.g
    obtain ⟨dr1, hr1⟩ := R1.ins
    have s2 : Same H1 (upd H2 p (.ins CP dp (fP r ((ps.length : Int) + 1)))) := fun b o e => by rw [upd_ne (pn e)]; exact s1 _ _ e
    have p2 : (upd H2 p (.ins CP dp (fP r ((ps.length : Int) + 1)))) p = some (.ins CP dp (fP r ((ps.length : Int) + 1))) := upd_same
    generalize upd H2 p (.ins CP dp (fP r ((ps.length : Int) + 1))) = H3 at s2 p2 ⊢
    refine ⟨g, r, al, p, ps, rfl, G1.same s2, by omega, ?_⟩
    have lpn : al ≠ p := pn G1.l
    have R3 := (R1.same s2).upd (o := .lst ((ps ++ [p]).map .ref)) (x := al) (fun z => by have := G1.l; rw [z, hr1] at this; cases this) la lb lc
    have gl : g ≠ al := fun z => by have := G1.l; rw [← z, hg1] at this; cases this
    exact q l p dp _ (fr p np) (by rw [upd_ne lpn.symm]; exact p2) ⟨⟨dg1, by rw [upd_ne gl]; exact s2 _ _ hg1⟩, upd_same⟩ R3 fun b o n1 n2 e => by rw [upd_ne n2]; exact s2 _ _ (k1 b o n1 e)
theorem ok_Setting_careful {f : Addr} {fd : FuncData} (F : Fun K "careful" "Setting.careful" s_Setting_careful f fd) (T : TxtL K CR CP CC CS CG) (T_mk_CarefulPatch : Mak P w K mg base 1 "CarefulPatch" CC (spPInit CP CC CS)) (T_Setting_enlist : MetV P w K mg base 5 (Is CG) "_enlist" (spEnlist CR CG eF)) (T_Setting_keep : MetV P w K mg base 1 (Is CG) "_keep" (spKeep CG)) :
    FnOk P w K mg base (L2N.CX P w) 6 f fd ["self", "number"] (spMake CR CG eF CC) := by
  refine F.okN sc_Setting_careful (fun vs H Q E h => ?_) (fun cdv A outer s H vs Q E hr h => ?_)
  · obtain ⟨g, r, al, ai, ap, aq, ps, I, U, S, i, rfl, _⟩ := h
    rfl
  · obtain ⟨g, r, al, ai, ap, aq, ps, I, U, S, i, rfl, G, R, hi, li, lp, la, lb, lc, q, x⟩ := h
    obtain ⟨dg, hg⟩ := G.g
    have hC : Any3 CP CC CS CC := .inr (.inl rfl)
    refine ⟨_, (pss_one (ps_ret (pe_mV T_Setting_keep hr (by decide) (L2N.takes_of rfl rfl rfl rfl) (pv 0) (pa_cons (pe_mk T_mk_CarefulPatch hr (by decide) (by rfl) (pa_cons (pe_fld (pv 0) rfl) (pa_cons (pe_mV T_Setting_enlist hr (by decide) (L2N.takes_of rfl rfl rfl rfl) (pv 0) (pa_cons (pv 1) pa_nil)) pa_nil))) pa_nil)))), ?_⟩
    refine ⟨_, rfl, g, CG, dg, _, rfl, rfl, hg, lkG _ _ (by decide +kernel), _, rfl, g, CG, dg, _, _, rfl, hg, T.cG, T.nG1, lg1 _ _, _, rfl, g, CG, dg, _, rfl, rfl, hg, lkG _ _ (by decide +kernel), _, rfl, g, r, al, ai, ap, aq, ps, I, U, S, i, rfl, G, R, hi, li, lp, la, fun l => ?_, x⟩
    have gi : g ≠ ai := fun z => by rw [z, R.i] at hg; cases hg
    have R1 : Rec CR (upd H ai (.lst ((I ++ [i]).map .int))) r ai ap aq (I ++ [i]) U S := R.more
    have G1 : SetAt CG (upd H ai (.lst ((I ++ [i]).map .int))) g r al ps := ⟨⟨dg, by rw [upd_ne gi]; exact hg⟩, by rw [upd_ne la]; exact G.l⟩
    have k1 : ∀ b o, b ≠ ai → H b = some o → (upd H ai (.lst ((I ++ [i]).map .int))) b = some o := fun b o n e => by rw [upd_ne n]; exact e
    have fr : ∀ b, (upd H ai (.lst ((I ++ [i]).map .int))) b = none → H b = none := fun b e => by
      by_cases z : b = ai
      · rw [z, upd_same] at e; cases e
      · rw [upd_ne z] at e; exact e
    generalize upd H ai (.lst ((I ++ [i]).map .int)) = H1 at R1 G1 k1 fr ⊢
    intro p dp np ndp ne
    have s1 : Same H1 (upd (upd H1 dp (.own p)) p (.ins CC dp [])) := (same_new ndp).trans (same_new (by rw [upd_ne ne.symm]; exact np))
    have p1 : (upd (upd H1 dp (.own p)) p (.ins CC dp [])) p = some (.ins CC dp []) := upd_same
    have R2 := R1.same s1
    have G2 := G1.same s1
    generalize upd (upd H1 dp (.own p)) p (.ins CC dp []) = H2 at s1 p1 R2 G2 ⊢
    refine ⟨p, dp, r, CC, _, rfl, hC, p1, rfl, ?_⟩
    have pn : ∀ {z : Addr} {o : HO}, H1 z = some o → z ≠ p := fun {z o} e n => by rw [n, np] at e; cases e
    obtain ⟨dg1, hg1⟩ := G1.g
    obtain ⟨dr1, hr1⟩ := R1.ins
    have s2 : Same H1 (upd H2 p (.ins CC dp (fP r ((ps.length : Int) + 1)))) := fun b o e => by rw [upd_ne (pn e)]; exact s1 _ _ e
    have p2 : (upd H2 p (.ins CC dp (fP r ((ps.length : Int) + 1)))) p = some (.ins CC dp (fP r ((ps.length : Int) + 1))) := upd_same
    generalize upd H2 p (.ins CC dp (fP r ((ps.length : Int) + 1))) = H3 at s2 p2 ⊢
    refine ⟨g, r, al, p, ps, rfl, G1.same s2, by omega, ?_⟩
    have lpn : al ≠ p := pn G1.l
    have R3 := (R1.same s2).upd (o := .lst ((ps ++ [p]).map .ref)) (x := al) (fun z => by have := G1.l; rw [z, hr1] at this; cases this) la lb lc
    have gl : g ≠ al := fun z => by have := G1.l; rw [← z, hg1] at this; cases this
    exact q l p dp _ (fr p np) (by rw [upd_ne lpn.symm]; exact p2) ⟨⟨dg1, by rw [upd_ne gl]; exact s2 _ _ hg1⟩, upd_same⟩ R3 fun b o n1 n2 e => by rw [upd_ne n2]; exact s2 _ _ (k1 b o n1 e)
theorem ok_Setting_strict {f : Addr} {fd : FuncData} (F : Fun K "strict" "Setting.strict" s_Setting_strict f fd) (T : TxtL K CR CP CC CS CG) (T_mk_StrictPatch : Mak P w K mg base 1 "StrictPatch" CS (spPInit CP CC CS)) (T_Setting_enlist : MetV P w K mg base 5 (Is CG) "_enlist" (spEnlist CR CG eF)) (T_Setting_keep : MetV P w K mg base 1 (Is CG) "_keep" (spKeep CG)) :
    FnOk P w K mg base (L2N.CX P w) 6 f fd ["self", "number"] (spMake CR CG eF CS) := by
  refine F.okN sc_Setting_strict (fun vs H Q E h => ?_) (fun cdv A outer s H vs Q E hr h => ?_)
  · obtain ⟨g, r, al, ai, ap, aq, ps, I, U, S, i, rfl, _⟩ := h
    rfl
  · obtain ⟨g, r, al, ai, ap, aq, ps, I, U, S, i, rfl, G, R, hi, li, lp, la, lb, lc, q, x⟩ := h
    obtain ⟨dg, hg⟩ := G.g
    have hC : Any3 CP CC CS CS := .inr (.inr rfl)
    refine ⟨_, (pss_one (ps_ret (pe_mV T_Setting_keep hr (by decide) (L2N.takes_of rfl rfl rfl rfl) (pv 0) (pa_cons (pe_mk T_mk_StrictPatch hr (by decide) (by rfl) (pa_cons (pe_fld (pv 0) rfl) (pa_cons (pe_mV T_Setting_enlist hr (by decide) (L2N.takes_of rfl rfl rfl rfl) (pv 0) (pa_cons (pv 1) pa_nil)) pa_nil))) pa_nil)))), ?_⟩
    refine ⟨_, rfl, g, CG, dg, _, rfl, rfl, hg, lkG _ _ (by decide +kernel), _, rfl, g, CG, dg, _, _, rfl, hg, T.cG, T.nG1, lg1 _ _, _, rfl, g, CG, dg, _, rfl, rfl, hg, lkG _ _ (by decide +kernel), _, rfl, g, r, al, ai, ap, aq, ps, I, U, S, i, rfl, G, R, hi, li, lp, la, fun l => ?_, x⟩
    have gi : g ≠ ai := fun z => by rw [z, R.i] at hg; cases hg
    have R1 : Rec CR (upd H ai (.lst ((I ++ [i]).map .int))) r ai ap aq (I ++ [i]) U S := R.more
    have G1 : SetAt CG (upd H ai (.lst ((I ++ [i]).map .int))) g r al ps := ⟨⟨dg, by rw [upd_ne gi]; exact hg⟩, by rw [upd_ne la]; exact G.l⟩
    have k1 : ∀ b o, b ≠ ai → H b = some o → (upd H ai (.lst ((I ++ [i]).map .int))) b = some o := fun b o n e => by rw [upd_ne n]; exact e
    have fr : ∀ b, (upd H ai (.lst ((I ++ [i]).map .int))) b = none → H b = none := fun b e => by
      by_cases z : b = ai
      · rw [z, upd_same] at e; cases e
      · rw [upd_ne z] at e; exact e
    generalize upd H ai (.lst ((I ++ [i]).map .int)) = H1 at R1 G1 k1 fr ⊢
    intro p dp np ndp ne
    have s1 : Same H1 (upd (upd H1 dp (.own p)) p (.ins CS dp [])) := (same_new ndp).trans (same_new (by rw [upd_ne ne.symm]; exact np))
    have p1 : (upd (upd H1 dp (.own p)) p (.ins CS dp [])) p = some (.ins CS dp []) := upd_same
    have R2 := R1.same s1
    have G2 := G1.same s1
    generalize upd (upd H1 dp (.own p)) p (.ins CS dp []) = H2 at s1 p1 R2 G2 ⊢
    refine ⟨p, dp, r, CS, _, rfl, hC, p1, rfl, ?_⟩
    have pn : ∀ {z : Addr} {o : HO}, H1 z = some o → z ≠ p := fun {z o} e n => by rw [n, np] at e; cases e
    obtain ⟨dg1, hg1⟩ := G1.g
    obtain ⟨dr1, hr1⟩ := R1.ins
    have s2 : Same H1 (upd H2 p (.ins CS dp (fP r ((ps.length : Int) + 1)))) := fun b o e => by rw [upd_ne (pn e)]; exact s1 _ _ e
    have p2 : (upd H2 p (.ins CS dp (fP r ((ps.length : Int) + 1)))) p = some (.ins CS dp (fP r ((ps.length : Int) + 1))) := upd_same
    generalize upd H2 p (.ins CS dp (fP r ((ps.length : Int) + 1))) = H3 at s2 p2 ⊢
    refine ⟨g, r, al, p, ps, rfl, G1.same s2, by omega, ?_⟩
    have lpn : al ≠ p := pn G1.l
    have R3 := (R1.same s2).upd (o := .lst ((ps ++ [p]).map .ref)) (x := al) (fun z => by have := G1.l; rw [z, hr1] at this; cases this) la lb lc
    have gl : g ≠ al := fun z => by have := G1.l; rw [← z, hg1] at this; cases this
    exact q l p dp _ (fr p np) (by rw [upd_ne lpn.symm]; exact p2) ⟨⟨dg1, by rw [upd_ne gl]; exact s2 _ _ hg1⟩, upd_same⟩ R3 fun b o n1 n2 e => by rw [upd_ne n2]; exact s2 _ _ (k1 b o n1 e)
def spUndo (CR CG eE : Addr) : Sp := fun vs H Q E => ∃ (g r al ai ap aq : Addr) (ps : List Addr) (I U S : List Int), vs = [.ref g] ∧ SetAt CG H g r al ps ∧ Rec CR H r ai ap aq I U S ∧ Wf I U S ∧
  (U ≠ [] → ∀ H', (∀ b o, b ≠ ap → b ≠ aq → H b = some o → H' b = some o) → H' ap = some (.lst (U.dropLast.map .int)) → H' aq = some (.lst (S.dropLast.map .int)) → Q .non H') ∧ (U = [] → ∀ H', Same H H' → E (.ref eE) none H')
theorem ok_Setting_undo {f : Addr} {fd : FuncData} (F : Fun K "undo" "Setting.undo" s_Setting_undo f fd) (T : TxtL K CR CP CC CS CG) (RE : Er K mg "EmptyHistoryError" eE) (T_Record_go_back : MetV P w K mg base 1 (Is CR) "go_back" (spGoBack CR)) : FnOk P w K mg base (L2N.CX P w) 2 f fd ["self"] (spUndo CR CG eE) := by
  refine F.okN sc_Setting_undo (fun vs H Q E h => ?_) (fun cdv A outer s H vs Q E hr h => ?_)
  · obtain ⟨g, r, al, ai, ap, aq, ps, I, U, S, rfl, _⟩ := h
    rfl
  · obtain ⟨g, r, al, ai, ap, aq, ps, I, U, S, rfl, ⟨⟨dg, hg⟩, hl⟩, R, W, q, x⟩ := h
    obtain ⟨dr, hR⟩ := R.ins
    have hu64 := hr.units
    refine ⟨_, (pss_cons (ps_if (pt_cmpR (op_eqD hu64) (pe_fld (pe_fld (pv 0) rfl) rfl) (pe_lst pa_nil) (nomark _)) (pss_one (L2N.ps_raise rfl (L2N.takes_of rfl rfl rfl rfl) (L2N.pmk_own PySem.F.excBase_ValueError RE.x RE.c RE.k (raises_own RE.b RE.t) rfl))) pss_nil)
        (pss_one (ps_expr (pe_mV0 T_Record_go_back hr (by decide) (L2N.takes_of rfl rfl rfl rfl) (pe_fld (pv 0) rfl))))), ?_⟩
    refine ⟨_, rfl, g, CG, dg, _, _, rfl, hg, T.cG, T.nG1, lg1 _ _, r, CR, dr, _, _, rfl, hR, T.cR, T.nR2, lk2 _ _ _, Nat.zero_le _, fun z nz => ?_⟩
    have s1 := same_new (o := .lst []) nz
    have z1 : (upd H z (.lst [])) z = some (.lst (([] : List Int).map .int)) := upd_same
    generalize upd H z (.lst []) = H1 at s1 z1 ⊢
    refine ⟨dI U, dI [], dp_ints (.of (s1 _ _ R.p)), dp_ints (ns := []) (.of z1), shaped_ints _, shaped_ints _, ?_⟩
    by_cases e : U = []
    · exact ⟨true, eqvT e, x e _ s1⟩
    · refine ⟨false, eqvF e, ?_⟩
      refine ⟨_, rfl, g, CG, dg, _, _, rfl, s1 _ _ hg, T.cG, T.nG1, lg1 _ _, r, CR, dr, _, rfl, rfl, s1 _ _ hR, lkR _ _ _ (by decide +kernel), r, ai, ap, aq, I, U, S, rfl, R.same s1, e, W.ne, ?_⟩
      exact q e _ (fun b o n1 n2 eb => by rw [upd_ne n2, upd_ne n1]; exact s1 _ _ eb) (by rw [upd_ne R.pq, upd_same]) upd_same
end
end L25
set_option Elab.async false
set_option linter.all false
set_option maxRecDepth 100000
namespace L25
open PySem PySem.Spec PyProof.Rows L2 Lp
section
variable {P : Program} {w : World} {K : PySem.W.Frag} {mg : Str → Option Value} {base : Heap}
/-! ### _law_same (None first) of equal data -/
/-- data of at most so many levels, its lists of a size -/
def okD : Nat → PyData → Prop
  | _, .none => True
  | _, .bool _ => True
  | _, .int _ => True
  | _, .str _ => True
  | n + 1, .list ds => ds.length < 100000 ∧ ∀ x ∈ ds, okD n x
  | _, _ => False
def spEqD (K : PySem.W.Frag) (n : Nat) : Sp := fun vs H Q _ => ∃ (r e : V) (d : PyData), vs = [r, e] ∧ Dp K H r d ∧ Dp K H e d ∧ okD n d ∧ (∀ H', Same H H' → Q (.bl true) H')

theorem same_int {cdv : Value} {f : Addr} {A : Around} {outer : List Env} {s : Shared} {H : Hp} {Q : VK} {E : XK} {k : Nat} (B : NoB mg) (i : Int) (hr : Room k (A.deeper (envOfC "_law_same" (defScope s_law_same) s.heap.objs.size f cdv))) (q : ∀ H', Same H H' → Q (.bl true) H') :
    ∃ t, PSs (cxOf CX0 P w K mg base N_law_same "_law_same" (defScope s_law_same) f cdv A outer s H E).nox (defBody s_law_same) t ∧ t { nx := fun _ H' => Q .non H', rt := Q } (start N_law_same [.int i, .int i]) H := by
  refine ⟨_, (pss_cons (ps_if (pt_cmpR op_isN (pv 1) pe_non (nomark _)) (pss_one (ps_ret (pe_cmpR op_isN (pv 0) pe_non (nomark _)))) pss_nil)
        (pss_cons (ps_if (pt_val (pe_callB call_isiT (by rfl) B.isinstance (by decide +kernel) (pa_cons (pv 1) (pa_cons (pe_tup (pa_cons (pe_bltn (v := .ty "list") (by rfl) B.list boot_list rfl) (pa_cons (pe_bltn (v := .ty "tuple") (by rfl) B.tuple boot_tuple rfl) pa_nil))) pa_nil)))) (pss_cons ps_never (pss_cons ps_never (pss_one ps_never))) pss_nil)
        (pss_one (ps_ret (pe_and (pe_cmpR op_eq (pe_callB call_isi (by rfl) B.isinstance (by decide +kernel) (pa_cons (pv 0) (pa_cons (pe_bltn (v := .ty "bool") (by rfl) B.bool boot_bool rfl) pa_nil))) (pe_callB call_isi (by rfl) B.isinstance (by decide +kernel) (pa_cons (pv 1) (pa_cons (pe_bltn (v := .ty "bool") (by rfl) B.bool boot_bool rfl) pa_nil))) (nomark _)) (pe_one (pe_cmpR op_eq (pv 0) (pv 1) (nomark _)))))))), ?_⟩
  refine ⟨_, rfl, rfl, false, dF (fun z => nomatch z), ?_⟩
  refine ⟨_, rfl, by show 2 ≤ sizeLine; decide, fun T nT => ?_⟩
  have s2 := same_new (o := .tup [.ty "list", .ty "tuple"]) nT
  refine ⟨_, T, _, _, _, false, rfl, upd_same, .cons (.ty _) (.cons (.ty _) .nil), .base (.int i), kitA (kit_ty (by decide +kernel)) (kit_ty (by decide +kernel)), false, rfl, ?_⟩
  refine ⟨_, rfl, _, _, _, _, false, rfl, .ty _, .base (.int i), kit_ty (by decide +kernel), _, rfl, _, _, _, _, false, rfl, .ty _, .base (.int i), kit_ty (by decide +kernel), rfl, true, dT rfl, ?_⟩
  refine ⟨_, rfl, _, rfl, rfl, ?_⟩
  rw [decide_eq_true rfl]
  exact q _ s2
theorem same_str {cdv : Value} {f : Addr} {A : Around} {outer : List Env} {s : Shared} {H : Hp} {Q : VK} {E : XK} {k : Nat} (B : NoB mg) (i : Str) (hr : Room k (A.deeper (envOfC "_law_same" (defScope s_law_same) s.heap.objs.size f cdv))) (q : ∀ H', Same H H' → Q (.bl true) H') :
    ∃ t, PSs (cxOf CX0 P w K mg base N_law_same "_law_same" (defScope s_law_same) f cdv A outer s H E).nox (defBody s_law_same) t ∧ t { nx := fun _ H' => Q .non H', rt := Q } (start N_law_same [.str i, .str i]) H := by
  refine ⟨_, (pss_cons (ps_if (pt_cmpR op_isN (pv 1) pe_non (nomark _)) (pss_one (ps_ret (pe_cmpR op_isN (pv 0) pe_non (nomark _)))) pss_nil)
        (pss_cons (ps_if (pt_val (pe_callB call_isiT (by rfl) B.isinstance (by decide +kernel) (pa_cons (pv 1) (pa_cons (pe_tup (pa_cons (pe_bltn (v := .ty "list") (by rfl) B.list boot_list rfl) (pa_cons (pe_bltn (v := .ty "tuple") (by rfl) B.tuple boot_tuple rfl) pa_nil))) pa_nil)))) (pss_cons ps_never (pss_cons ps_never (pss_one ps_never))) pss_nil)
        (pss_one (ps_ret (pe_and (pe_cmpR op_eq (pe_callB call_isi (by rfl) B.isinstance (by decide +kernel) (pa_cons (pv 0) (pa_cons (pe_bltn (v := .ty "bool") (by rfl) B.bool boot_bool rfl) pa_nil))) (pe_callB call_isi (by rfl) B.isinstance (by decide +kernel) (pa_cons (pv 1) (pa_cons (pe_bltn (v := .ty "bool") (by rfl) B.bool boot_bool rfl) pa_nil))) (nomark _)) (pe_one (pe_cmpR op_eq (pv 0) (pv 1) (nomark _)))))))), ?_⟩
  refine ⟨_, rfl, rfl, false, dF (fun z => nomatch z), ?_⟩
  refine ⟨_, rfl, by show 2 ≤ sizeLine; decide, fun T nT => ?_⟩
  have s2 := same_new (o := .tup [.ty "list", .ty "tuple"]) nT
  refine ⟨_, T, _, _, _, false, rfl, upd_same, .cons (.ty _) (.cons (.ty _) .nil), .base (.str i), kitA (kit_ty (by decide +kernel)) (kit_ty (by decide +kernel)), false, rfl, ?_⟩
  refine ⟨_, rfl, _, _, _, _, false, rfl, .ty _, .base (.str i), kit_ty (by decide +kernel), _, rfl, _, _, _, _, false, rfl, .ty _, .base (.str i), kit_ty (by decide +kernel), rfl, true, dT rfl, ?_⟩
  refine ⟨_, rfl, _, rfl, rfl, ?_⟩
  rw [decide_eq_true rfl]
  exact q _ s2
theorem same_bl {cdv : Value} {f : Addr} {A : Around} {outer : List Env} {s : Shared} {H : Hp} {Q : VK} {E : XK} {k : Nat} (B : NoB mg) (i : Bool) (hr : Room k (A.deeper (envOfC "_law_same" (defScope s_law_same) s.heap.objs.size f cdv))) (q : ∀ H', Same H H' → Q (.bl true) H') :
    ∃ t, PSs (cxOf CX0 P w K mg base N_law_same "_law_same" (defScope s_law_same) f cdv A outer s H E).nox (defBody s_law_same) t ∧ t { nx := fun _ H' => Q .non H', rt := Q } (start N_law_same [.bl i, .bl i]) H := by
  refine ⟨_, (pss_cons (ps_if (pt_cmpR op_isN (pv 1) pe_non (nomark _)) (pss_one (ps_ret (pe_cmpR op_isN (pv 0) pe_non (nomark _)))) pss_nil)
        (pss_cons (ps_if (pt_val (pe_callB call_isiT (by rfl) B.isinstance (by decide +kernel) (pa_cons (pv 1) (pa_cons (pe_tup (pa_cons (pe_bltn (v := .ty "list") (by rfl) B.list boot_list rfl) (pa_cons (pe_bltn (v := .ty "tuple") (by rfl) B.tuple boot_tuple rfl) pa_nil))) pa_nil)))) (pss_cons ps_never (pss_cons ps_never (pss_one ps_never))) pss_nil)
        (pss_one (ps_ret (pe_and (pe_cmpR op_eq (pe_callB call_isi (by rfl) B.isinstance (by decide +kernel) (pa_cons (pv 0) (pa_cons (pe_bltn (v := .ty "bool") (by rfl) B.bool boot_bool rfl) pa_nil))) (pe_callB call_isi (by rfl) B.isinstance (by decide +kernel) (pa_cons (pv 1) (pa_cons (pe_bltn (v := .ty "bool") (by rfl) B.bool boot_bool rfl) pa_nil))) (nomark _)) (pe_one (pe_cmpR op_eq (pv 0) (pv 1) (nomark _)))))))), ?_⟩
  refine ⟨_, rfl, rfl, false, dF (fun z => nomatch z), ?_⟩
  refine ⟨_, rfl, by show 2 ≤ sizeLine; decide, fun T nT => ?_⟩
  have s2 := same_new (o := .tup [.ty "list", .ty "tuple"]) nT
  refine ⟨_, T, _, _, _, false, rfl, upd_same, .cons (.ty _) (.cons (.ty _) .nil), .base (.bl i), kitA (kit_ty (by decide +kernel)) (kit_ty (by decide +kernel)), false, rfl, ?_⟩
  refine ⟨_, rfl, _, _, _, _, true, rfl, .ty _, .base (.bl i), kit_ty (by decide +kernel), _, rfl, _, _, _, _, true, rfl, .ty _, .base (.bl i), kit_ty (by decide +kernel), rfl, true, dT rfl, ?_⟩
  refine ⟨_, rfl, _, rfl, rfl, ?_⟩
  rw [decide_eq_true rfl]
  exact q _ s2
theorem same_non {cdv : Value} {f : Addr} {A : Around} {outer : List Env} {s : Shared} {H : Hp} {Q : VK} {E : XK} {k : Nat} (B : NoB mg) (hr : Room k (A.deeper (envOfC "_law_same" (defScope s_law_same) s.heap.objs.size f cdv))) (q : ∀ H', Same H H' → Q (.bl true) H') :
    ∃ t, PSs (cxOf CX0 P w K mg base N_law_same "_law_same" (defScope s_law_same) f cdv A outer s H E).nox (defBody s_law_same) t ∧ t { nx := fun _ H' => Q .non H', rt := Q } (start N_law_same [.non, .non]) H := by
  refine ⟨_, (pss_cons (ps_if (pt_cmpR op_isN (pv 1) pe_non (nomark _)) (pss_one (ps_ret (pe_cmpR op_isN (pv 0) pe_non (nomark _)))) pss_nil)
        (pss_cons (ps_if (pt_val (pe_callB call_isiT (by rfl) B.isinstance (by decide +kernel) (pa_cons (pv 1) (pa_cons (pe_tup (pa_cons (pe_bltn (v := .ty "list") (by rfl) B.list boot_list rfl) (pa_cons (pe_bltn (v := .ty "tuple") (by rfl) B.tuple boot_tuple rfl) pa_nil))) pa_nil)))) (pss_cons ps_never (pss_cons ps_never (pss_one ps_never))) pss_nil)
        (pss_one (ps_ret (pe_and (pe_cmpR op_eq (pe_callB call_isi (by rfl) B.isinstance (by decide +kernel) (pa_cons (pv 0) (pa_cons (pe_bltn (v := .ty "bool") (by rfl) B.bool boot_bool rfl) pa_nil))) (pe_callB call_isi (by rfl) B.isinstance (by decide +kernel) (pa_cons (pv 1) (pa_cons (pe_bltn (v := .ty "bool") (by rfl) B.bool boot_bool rfl) pa_nil))) (nomark _)) (pe_one (pe_cmpR op_eq (pv 0) (pv 1) (nomark _)))))))), ?_⟩
  refine ⟨_, rfl, rfl, true, dT rfl, ?_⟩
  refine ⟨_, rfl, rfl, ?_⟩
  rw [decide_eq_true rfl]
  exact q _ (.refl _)
theorem ok_law_same_0 {f : Addr} {fd : FuncData} (F : Fun K "_law_same" "_law_same" s_law_same f fd) (B : NoB mg) : FnOk P w K mg base CX0 1 f fd ["found", "expected"] (spEqD K 0) := by
  refine F.ok sc_law_same (fun vs H Q E h => ?_) (fun cdv A outer s H vs Q E hr h => ?_)
  · obtain ⟨r, e, d, rfl, _⟩ := h
    rfl
  · obtain ⟨r, e, d, rfl, h1, h2, hd, q⟩ := h
    cases h1 with
    | non =>
      cases h2
      exact same_non B hr q
    | bl b =>
      cases h2
      exact same_bl B b hr q
    | int i =>
      cases h2
      exact same_int B i hr q
    | str x =>
      cases h2
      exact same_str B x hr q
    | @lst a xs ds hs ha => exact hd.elim
    | @tup a xs ds hs ha => exact hd.elim
theorem ok_law_same_step {f : Addr} {fd : FuncData} (F : Fun K "_law_same" "_law_same" s_law_same f fd) (B : NoB mg) (n : Nat) (T_law_same : Cal P w K mg base n "_law_same" (spEqD K (n - 1))) : FnOk P w K mg base CX0 (n + 1) f fd ["found", "expected"] (spEqD K n) := by
  refine F.ok sc_law_same (fun vs H Q E h => ?_) (fun cdv A outer s H vs Q E hr h => ?_)
  · obtain ⟨r, e, d, rfl, _⟩ := h
    rfl
  · obtain ⟨r, e, d, rfl, h1, h2, hd, q⟩ := h
    cases h1 with
    | non =>
      cases h2
      exact same_non B hr q
    | bl b =>
      cases h2
      exact same_bl B b hr q
    | int i =>
      cases h2
      exact same_int B i hr q
    | str x =>
      cases h2
      exact same_str B x hr q
    | @lst a xs ds hs ha =>
      cases h2 with
      | @lst b ys _ hs2 ha2 =>
      obtain ⟨dsl, dsm⟩ : ds.length < 100000 ∧ ∀ x ∈ ds, okD (n - 1) x := by
        cases n with
        | zero => exact hd.elim
        | succ m => exact hd
      have l1 := dpAll_len ha
      have l2 := dpAll_len ha2
      refine ⟨_, (pss_cons (ps_if (pt_cmpR op_isN (pv 1) pe_non (nomark _)) (pss_one (ps_ret (pe_cmpR op_isN (pv 0) pe_non (nomark _)))) pss_nil)
        (pss_cons (ps_if (pt_val (pe_callB call_isiT (by rfl) B.isinstance (by decide +kernel) (pa_cons (pv 1) (pa_cons (pe_tup (pa_cons (pe_bltn (v := .ty "list") (by rfl) B.list boot_list rfl) (pa_cons (pe_bltn (v := .ty "tuple") (by rfl) B.tuple boot_tuple rfl) pa_nil))) pa_nil)))) (pss_cons (ps_if (PW.pt (pw_or (pt_not (pt_val (pe_callB call_isiT (by rfl) B.isinstance (by decide +kernel) (pa_cons (pv 0) (pa_cons (pe_tup (pa_cons (pe_bltn (v := .ty "list") (by rfl) B.list boot_list rfl) (pa_cons (pe_bltn (v := .ty "tuple") (by rfl) B.tuple boot_tuple rfl) pa_nil))) pa_nil))))) (pw_or1 (pt_cmpR op_ne (pe_callB call_isi (by rfl) B.isinstance (by decide +kernel) (pa_cons (pv 0) (pa_cons (pe_bltn (v := .ty "list") (by rfl) B.list boot_list rfl) pa_nil))) (pe_callB call_isi (by rfl) B.isinstance (by decide +kernel) (pa_cons (pv 1) (pa_cons (pe_bltn (v := .ty "list") (by rfl) B.list boot_list rfl) pa_nil))) (nomark _))))) (pss_one (ps_ret pe_bl)) pss_nil)
          (pss_cons (ps_if (pt_cmpR op_ne (pe_callB call_len_seq (by rfl) B.len PySem.boot_len (pa_cons (pv 0) pa_nil)) (pe_callB call_len_seq (by rfl) B.len PySem.boot_len (pa_cons (pv 1) pa_nil)) (nomark _)) (pss_one (ps_ret pe_bl)) pss_nil)
          (pss_one (ps_ret (pe_callB (cr_all rfl) (by rfl) B.all (by decide +kernel) (pa_cons (pe_lc (own := [("one", 2), ("other", 3)]) (g := _) (tt := tYes) rfl sc_law_same.nd (RZ.pi_zipA (by rfl) B.zip (pa_cons (pv 0) (pa_cons (pv 1) pa_nil))) (blkOk_by (own := [("one", 2), ("other", 3)]) (N := N_law_same) (sc := defScope s_law_same) (by decide +kernel)) (fun _ _ _ _ _ => (k_tup (K := K) (n := 2) rfl rfl (pgs_cons (pg_name (i := 2) sc_law_same.nd rfl (Or.inl rfl)) (pgs_cons (pg_name (i := 3) sc_law_same.nd rfl (Or.inl rfl)) pgs_nil)))) (fun _ _ _ _ _ => pts_nil) (fun _ _ _ _ _ => (pe_c T_law_same hr (Nat.le_refl _) (by rfl) (pa_cons (pv 2) (pa_cons (pv 3) pa_nil))))) pa_nil)))))) pss_nil)
        (pss_one (ps_ret (pe_and (pe_cmpR op_eq (pe_callB call_isi (by rfl) B.isinstance (by decide +kernel) (pa_cons (pv 0) (pa_cons (pe_bltn (v := .ty "bool") (by rfl) B.bool boot_bool rfl) pa_nil))) (pe_callB call_isi (by rfl) B.isinstance (by decide +kernel) (pa_cons (pv 1) (pa_cons (pe_bltn (v := .ty "bool") (by rfl) B.bool boot_bool rfl) pa_nil))) (nomark _)) (pe_one (pe_cmpR op_eq (pv 0) (pv 1) (nomark _)))))))), ?_⟩
      have el : ∀ {K : PySem.W.Frag}, PySem.W.kitOne K (.type "list") (.type "list") = some true := kit_ty (by decide +kernel)
      refine ⟨_, rfl, rfl, false, dF (fun z => nomatch z), ?_⟩
      refine ⟨_, rfl, by show 2 ≤ sizeLine; decide, fun T nT => ?_⟩
      have s1 := same_new (o := .tup [.ty "list", .ty "tuple"]) nT
      refine ⟨_, T, _, _, _, true, rfl, upd_same, .cons (.ty _) (.cons (.ty _) .nil), tyx_l (s1.seq hs2), kitT el, true, rfl, ?_⟩
      refine ⟨_, rfl, by show 2 ≤ sizeLine; decide, fun T2 nT2 => ?_⟩
      have s2 := s1.trans (same_new (o := .tup [.ty "list", .ty "tuple"]) nT2)
      refine ⟨_, T2, _, _, _, true, rfl, upd_same, .cons (.ty _) (.cons (.ty _) .nil), tyx_l (s2.seq hs), kitT el, true, rfl, ?_⟩
      refine ⟨_, rfl, _, _, _, _, true, rfl, .ty _, tyx_l (s2.seq hs), el, _, rfl, _, _, _, _, true, rfl, .ty _, tyx_l (s2.seq hs2), el, rfl, false, nF rfl, ?_⟩
      refine ⟨_, rfl, a, _, rfl, .inl (s2.seq hs), _, rfl, b, _, rfl, .inl (s2.seq hs2), rfl, false, nF (by rw [l1, l2]), ?_⟩
      refine ⟨_, rfl, _, rfl, a, b, xs, ys, rfl, .inl ⟨s2.seq hs, s2.seq hs2, fun D nD => lc_zipL (l1.trans l2.symm) (LcP (upd (upd H T (.tup [.ty "list", .ty "tuple"])) T2 (.tup [.ty "list", .ty "tuple"])) D fun i => (List.replicate i true).map V.bl) (.init nD rfl) (fun i H' _ p => ⟨p.2.1.seq (s2.seq hs), p.2.1.seq (s2.seq hs2)⟩) (fun i x y T3 H' hx hy nT3 p => ?_) (fun H' p => ?_)⟩⟩
      · obtain ⟨d1, e1, p1⟩ := dpAll_get ha hx
        obtain ⟨d2, e2, p2⟩ := dpAll_get ha2 hy
        rw [e1] at e2
        cases e2
        have s3 : Same H (upd H' T3 (.tup [x, y])) := (s2.trans p.2.1).trans (same_new nT3)
        have dd : okD (n - 1) d1 := dsm d1 (List.mem_of_getElem? e1)
        refine ⟨T3, _, rfl, .of upd_same, rfl, _, _, rfl, _, _, rfl, rfl, rfl, ?_⟩
        refine ⟨_, rfl, _, rfl, x, y, d1, rfl, dp_same s3 p1, dp_same s3 p2, dd, fun H4 s4 => ?_⟩
        refine p.put ((same_new nT3).trans s4) ?_ (by have := lt_get hx; rw [List.length_map, List.length_replicate]; omega)
        show (List.replicate (i + 1) true).map V.bl = _
        rw [List.replicate_succ', List.map_append]
        rfl
      · refine ⟨D, _, rfl, .of p.2.2, ?_⟩
        have e : (List.replicate xs.length true).all id = true := by
          rw [List.all_eq_true]
          intro z hz
          exact (List.eq_of_mem_replicate hz)
        rw [e]
        exact q _ (s2.trans p.2.1)
    | @tup a xs ds hs ha =>
      cases n with
      | zero => exact hd.elim
      | succ m => exact hd.elim
theorem ok_law_same_D {f : Addr} {fd : FuncData} (F : Fun K "_law_same" "_law_same" s_law_same f fd) (B : NoB mg) (hm : mg "_law_same" = some (.ref f)) (b : Binds K fd ["found", "expected"] []) : ∀ n : Nat, FnOk P w K mg base CX0 (n + 1) f fd ["found", "expected"] (spEqD K n)
  | 0 => ok_law_same_0 F B
  | n + 1 => ok_law_same_step F B (n + 1) ⟨f, fd, _, ok_law_same_D F B hm b n, hm, F.kp, b⟩
end
end L25
set_option Elab.async false
set_option linter.all false
set_option maxRecDepth 100000
namespace L25
open PySem PySem.Spec PyProof.Rows L2 Lp
/-! ### the states of the law -/
def kept (U S : List Int) : List (L2.Key × V) := (U.filter fun e => decide (0 < e)).map fun s => (Sum.inl s, V.int (fbI U S s))
def LSt (H : Hp) (t : Addr) (U S : List Int) : Prop := ∃ ad ak, H t = some (.tup [.int (lastI S), .ref ad, .ref ak]) ∧ H ad = some (.lst (U.map .int)) ∧ H ak = some (.dK (kept U S))
theorem LSt.keep {H H' : Hp} {t : Addr} {U S : List Int} (h : LSt H t U S) (s : Same H H') : LSt H' t U S := by
  obtain ⟨ad, ak, a, b, c⟩ := h
  exact ⟨ad, ak, s _ _ a, s _ _ b, s _ _ c⟩
/-- .. whose list of events is one of those told by F -/
def LStN (F : Addr → Prop) (H : Hp) (t : Addr) (U S : List Int) : Prop := ∃ ad ak, F ad ∧ H t = some (.tup [.int (lastI S), .ref ad, .ref ak]) ∧ H ad = some (.lst (U.map .int)) ∧ H ak = some (.dK (kept U S))
theorem LStN.st {F : Addr → Prop} {H : Hp} {t : Addr} {U S : List Int} (h : LStN F H t U S) : LSt H t U S := by
  obtain ⟨ad, ak, _, h⟩ := h
  exact ⟨ad, ak, h⟩
theorem LStN.imp {F G : Addr → Prop} {H : Hp} {t : Addr} {U S : List Int} (h : LStN F H t U S) (i : ∀ b, F b → G b) : LStN G H t U S := by
  obtain ⟨ad, ak, f, h⟩ := h
  exact ⟨ad, ak, i _ f, h⟩
def wordV (k : Nat) : V := if k = 1 then .str "careful" else if k = 2 then .str "strict" else .str "patch"
/-- what a start or a stop leaves, none if it can't be done -/
def nxt (ks : List Nat) (U S : List Int) (e : Int) : Option Int := if 0 < e then (if e ∈ U then none else some e) else if (-e) ∉ U ∨ e ∈ U then none else leftK (ks.getD ((-e).toNat - 1) 0) U S (-e)
theorem valV_map {f : Int → V} {n : Int} : ∀ l : List Int, valV (l.map fun s => ((Sum.inl s : L2.Key), f s)) (Sum.inl n) = if n ∈ l then some (f n) else none
  | [] => rfl
  | s :: r => by
    have ih := valV_map (f := f) (n := n) r
    unfold valV at ih ⊢
    rw [List.map_cons, List.find?_cons]
    by_cases e : s = n
    · subst e
      rw [decide_eq_true rfl, if_pos List.mem_cons_self]
      rfl
    · have e2 : ¬ ((Sum.inl s : L2.Key) = Sum.inl n) := fun z => e (Sum.inl.inj z)
      rw [decide_eq_false e2]
      show ((r.map fun s => ((Sum.inl s : L2.Key), f s)).find? fun kv => decide (kv.1 = Sum.inl n)).map (·.2) = _
      rw [ih]
      by_cases m : n ∈ r
      · rw [if_pos m, if_pos (List.mem_cons_of_mem _ m)]
      · rw [if_neg m, if_neg (fun z => (List.mem_cons.mp z).elim (fun q => e q.symm) m)]
theorem valV_kept {U S : List Int} {n : Int} (h : 0 < n) : valV (kept U S) (Sum.inl n) = if n ∈ U then some (.int (fbI U S n)) else none := by
  unfold kept
  rw [valV_map]
  by_cases m : n ∈ U
  · rw [if_pos m, if_pos (List.mem_filter.mpr ⟨m, decide_eq_true h⟩)]
  · rw [if_neg m, if_neg (fun z => m (List.mem_filter.mp z).1)]
theorem fbI_app {U S r q : List Int} {n : Int} (hl : S.length = U.length + 1) (h : n ∈ U) : fbI (U ++ r) (S ++ q) n = fbI U S n := by
  unfold fbI
  have hi := List.idxOf_lt_length_iff.mpr h
  rw [List.idxOf_append, if_pos h, List.getElem?_append_left (by omega)]
theorem fbI_new {U S q : List Int} {n : Int} (hl : S.length = U.length + 1) (h : n ∉ U) : fbI (U ++ [n]) (S ++ q) n = lastI S := by
  unfold fbI
  have hi : (U ++ [n]).idxOf n = U.length := by
    rw [List.idxOf_append, if_neg h, List.idxOf_cons_self, Nat.zero_add]
  have ne : S ≠ [] := fun z => by rw [z] at hl; cases hl
  rw [hi, List.getElem?_append_left (by omega)]
  show _ = (S.getLast?).getD 0
  rw [List.getLast?_eq_getElem?, hl]
  rfl
theorem kept_app {U S r q : List Int} (hl : S.length = U.length + 1) : (U.filter fun e => decide (0 < e)).map (fun s => ((Sum.inl s : L2.Key), V.int (fbI (U ++ r) (S ++ q) s))) = kept U S :=
  List.map_congr_left fun s hs => by rw [fbI_app hl (List.mem_filter.mp hs).1]
theorem kept_start {U S : List Int} {n c : Int} (hl : S.length = U.length + 1) (h : 0 < n) (hn : n ∉ U) : kept (U ++ [n]) (S ++ [c]) = kept U S ++ [(Sum.inl n, .int (lastI S))] := by
  show ((U ++ [n]).filter fun e => decide (0 < e)).map _ = _
  rw [List.filter_append, List.map_append, kept_app hl, List.filter_cons_of_pos (by simpa using h)]
  show kept U S ++ [(Sum.inl n, V.int (fbI (U ++ [n]) (S ++ [c]) n))] = _
  rw [fbI_new hl hn]
theorem kept_stop {U S : List Int} {e c : Int} (hl : S.length = U.length + 1) (h : e < 0) : kept (U ++ [e]) (S ++ [c]) = kept U S := by
  show ((U ++ [e]).filter fun e => decide (0 < e)).map _ = _
  rw [List.filter_append, List.map_append, kept_app hl, List.filter_cons_of_neg (by simp; omega)]
  show kept U S ++ [] = _
  rw [List.append_nil]
theorem kept_len (U S : List Int) : (kept U S).length ≤ U.length := by
  unfold kept
  rw [List.length_map]
  exact List.length_filter_le _ _
theorem put_new {kvs : List (L2.Key × V)} {k : L2.Key} {v : V} (h : valV kvs k = none) : putK kvs k v = kvs ++ [(k, v)] := by
  unfold putK
  have e : (kvs.any fun kv => decide (kv.1 = k)) = false := by
    cases e : (kvs.any fun kv => decide (kv.1 = k)) with
    | false => rfl
    | true =>
      obtain ⟨p, hp, e⟩ := List.any_eq_true.mp e
      unfold valV at h
      cases z : kvs.find? fun kv => decide (kv.1 = k) with
      | none => exact absurd e (List.find?_eq_none.mp z p hp)
      | some y => rw [z] at h; cases h
  rw [e, if_neg (fun z => nomatch z)]
theorem dgI {H : Hp} {ak : Addr} {U S : List Int} {n : Int} (hk : H ak = some (.dK (kept U S))) (h : 0 < n) : DGet H ak (.int n) (if n ∈ U then some (.int (fbI U S n)) else none) := .inl ⟨_, Sum.inl n, .of hk, rfl, (valV_kept h).symm⟩
section
variable {P : Program} {w : World} {K : PySem.W.Frag} {mg : Str → Option Value} {base : Heap} {CR CP CC CS CG eF eE eS eR eO : Addr}
theorem abs_pos {e : Int} (h : 0 < e) : (if e < 0 then -e else e) = e := if_neg (by omega)
theorem abs_neg {e : Int} (h : e < 0) : (if e < 0 then -e else e) = -e := if_pos h
theorem wordV_at {ks : List Nat} {j : Nat} (h : j < ks.length) : atI (ks.map wordV) (j : Int) = some (wordV (ks.getD j 0)) := by
  refine atI_nat ?_
  rw [List.getElem?_map, List.getElem?_eq_getElem h, List.getD_eq_getElem?_getD, List.getElem?_eq_getElem h]
  rfl
theorem word_scal (k : Nat) (s : Str) : scal (wordV k) (.str s) = true := by
  unfold wordV
  split
  · rfl
  · split <;> rfl
theorem word_strict {k : Nat} (h : k < 3) : decide (wordV k = .str "strict") = decide (k = 2) := by
  have h1 : ¬ (V.str "careful" = V.str "strict") := fun z => absurd (V.str.inj z) (by decide +kernel)
  have h2 : ¬ (V.str "patch" = V.str "strict") := fun z => absurd (V.str.inj z) (by decide +kernel)
  unfold wordV
  match k, h with
  | 0, _ => rw [if_neg (by decide), if_neg (by decide), decide_eq_false h2]; rfl
  | 1, _ => rw [if_pos rfl, decide_eq_false h1]; rfl
  | 2, _ => rw [if_neg (by decide), if_pos rfl, decide_eq_true rfl]; rfl
theorem word_careful {k : Nat} (h : k < 3) : decide (wordV k = .str "careful") = decide (k = 1) := by
  have h1 : ¬ (V.str "strict" = V.str "careful") := fun z => absurd (V.str.inj z) (by decide +kernel)
  have h2 : ¬ (V.str "patch" = V.str "careful") := fun z => absurd (V.str.inj z) (by decide +kernel)
  unfold wordV
  match k, h with
  | 0, _ => rw [if_neg (by decide), if_neg (by decide), decide_eq_false h2]; rfl
  | 1, _ => rw [if_pos rfl, decide_eq_true rfl]; rfl
  | 2, _ => rw [if_neg (by decide), if_pos rfl, decide_eq_false h1]; rfl
def spLater (K : PySem.W.Frag) : Sp := fun vs H Q _ => ∃ (t wl : Addr) (e : Int) (ks : List Nat) (U S : List Int), vs = [.ref t, .ref wl, .int e] ∧ LSt H t U S ∧ SqL K H wl (ks.map wordV) ∧ (∀ k ∈ ks, k < 3) ∧ S.length = U.length + 1 ∧ e ≠ 0 ∧ e.natAbs ≤ ks.length ∧ U.length ≤ 1000 ∧
  (nxt ks U S e = none → ∀ s : Str, Q (.str s) H) ∧ (∀ c, nxt ks U S e = some c → ∀ t' H', Same H H' → H t' = none → LStN (fun b => H b = none) H' t' (U ++ [e]) (S ++ [c]) → Q (.ref t') H')
theorem ok_law_later {f : Addr} {fd : FuncData} (F : Fun K "_law_later" "_law_later" s_law_later f fd) (B : NoB mg) (T_z_dict : mg "dict" = none) : FnOk P w K mg base CX0 1 f fd ["state", "words", "event"] (spLater K) := by
  refine F.ok sc_law_later (fun vs H Q E h => ?_) (fun cdv A outer s H vs Q E hr h => ?_)
  · obtain ⟨t, wl, e, ks, U, S, rfl, _⟩ := h
    rfl
  · obtain ⟨t, wl, e, ks, U, S, rfl, ⟨ad, ak, ht, hd, hk⟩, hw, k3, hl, e0, el, ul, qn, qs⟩ := h
    have hu := hu_of hr
    refine ⟨_, (pss_cons (ps_asg (pv 0) (pg_tup rfl (pgs_cons (pg_name (i := 3) sc_law_later.nd rfl (Or.inl rfl)) (pgs_cons (pg_name (i := 4) sc_law_later.nd rfl (Or.inl rfl)) (pgs_cons (pg_name (i := 5) sc_law_later.nd rfl (Or.inl rfl)) pgs_nil)))))
        (pss_cons (ps_set (i := 6) sc_law_later.nd rfl (Or.inl rfl) (pe_callB call_abs (by rfl) B.abs (by decide +kernel) (pa_cons (pv 2) pa_nil)))
        (pss_cons (ps_if (PW.pt (pw_and (pt_cmpR op_gt (pv 2) pe_int (nomark _)) (pw_and1 (pt_cmp (pc_din hu (pv 6) (pv 5)))))) (pss_one (ps_ret pe_str)) pss_nil)
        (pss_cons (ps_if (pt_cmpR op_gt (pv 2) pe_int (nomark _)) (pss_cons (ps_set (i := 7) sc_law_later.nd rfl (Or.inl rfl) (pe_callTy call_dictD (by rfl) T_z_dict (by decide +kernel) (pa_cons (pv 5) pa_nil)))
          (pss_cons (ps_dput hu (pv 7) (pv 6) (pv 3) rfl)
          (pss_one (ps_ret (pe_tup (pa_cons (pv 6) (pa_cons (pe_op op_cat (pv 4) (pe_lst (pa_cons (pv 6) pa_nil))) (pa_cons (pv 7) pa_nil)))))))) pss_nil)
        (pss_cons (ps_if (PW.pt (pw_or (pt_cmp (pc_dnotin hu (pv 6) (pv 5))) (pw_or1 (pt_cmpR op_in_seq (pv 2) (pv 4) (by rfl))))) (pss_one (ps_ret pe_str)) pss_nil)
        (pss_cons (ps_set (i := 8) sc_law_later.nd rfl (Or.inl rfl) (pe_ix ix_list (pv 1) (pe_op op_sub (pv 6) pe_int) (fun _ _ => rfl)))
        (pss_cons (ps_if (PW.pt (pw_and (pt_cmpR op_eq (pv 8) pe_str (nomark _)) (pw_and1 (pt_cmpR op_ne (pv 3) (pv 6) (nomark _))))) (pss_one (ps_ret pe_str)) pss_nil)
        (pss_cons (ps_set (i := 9) sc_law_later.nd rfl (Or.inl rfl) (pe_ifExp (PW.pt (pw_and (pt_cmpR op_eq (pv 8) pe_str (nomark _)) (pw_and1 (pt_cmpR op_ne (pv 3) (pv 6) (nomark _))))) (pv 3) (pe_dget hu (pv 5) (pv 6) (fun _ _ => rfl))))
        (pss_one (ps_ret (pe_tup (pa_cons (pv 9) (pa_cons (pe_op op_cat (pv 4) (pe_lst (pa_cons (pv 2) pa_nil))) (pa_cons (pv 5) pa_nil)))))))))))))), ?_⟩
    refine ⟨_, rfl, t, _, rfl, .of ht, rfl, _, _, rfl, _, _, rfl, _, _, rfl, rfl, ?_⟩
    by_cases hp : 0 < e
    · refine ⟨_, rfl, e, rfl, ?_⟩
      rw [abs_pos hp]
      refine ⟨_, rfl, _, _, rfl, rfl, true, dT hp, ?_⟩
      unfold nxt at qn qs
      rw [if_pos hp] at qn
      by_cases m : e ∈ U
      · rw [if_pos m] at qn
        refine ⟨_, rfl, _, rfl, ak, _, rfl, dgI hk hp, true, by rw [if_pos m]; rfl, ?_⟩
        exact qn rfl _
      · refine ⟨_, rfl, _, rfl, ak, _, rfl, dgI hk hp, false, by rw [if_neg m]; rfl, ?_⟩
        have qs2 := qs e (by rw [if_pos hp, if_neg m])
        refine ⟨_, rfl, _, _, rfl, rfl, true, dT hp, ?_⟩
        refine ⟨_, rfl, ak, _, rfl, .of hk, fun d nd => ?_⟩
        have s1 := same_new (o := .dK (kept U S)) nd
        have d1 : (upd H d (.dK (kept U S))) d = some (.dK (kept U S)) := upd_same
        generalize upd H d (.dK (kept U S)) = H1 at s1 d1 ⊢
        have en : putK (kept U S) (Sum.inl e) (V.int (lastI S)) = kept (U ++ [e]) (S ++ [e]) := by
          rw [put_new (by rw [valV_kept hp, if_neg m]), kept_start hl hp m]
        refine ⟨_, rfl, _, rfl, _, rfl, d, _, rfl, .inl ⟨_, Sum.inl e, d1, rfl, (by have := kept_len U S; exact zl (by omega)), rfl⟩, ?_⟩
        rw [en]
        have s2 : Same H (upd H1 d (.dK (kept (U ++ [e]) (S ++ [e])))) := Lp.Same.mut s1 nd
        have d2 : (upd H1 d (.dK (kept (U ++ [e]) (S ++ [e])))) d = some (.dK (kept (U ++ [e]) (S ++ [e]))) := upd_same
        generalize upd H1 d (.dK (kept (U ++ [e]) (S ++ [e]))) = H2 at s2 d2 ⊢
        refine ⟨_, rfl, _, rfl, _, rfl, by show 1 ≤ sizeLine; decide, fun z nz => ?_⟩
        have s3 := s2.trans (same_new (o := .lst [.int e]) nz)
        have d3 := same_new (o := .lst [.int e]) nz _ _ d2
        have z3 : (upd H2 z (.lst [.int e])) z = some (.lst [.int e]) := upd_same
        generalize upd H2 z (.lst [.int e]) = H3 at s3 d3 z3 ⊢
        refine ⟨ad, z, _, _, rfl, rfl, s3 _ _ hd, z3, by rw [List.length_map]; exact zs (by simp; omega), fun y ny => ?_⟩
        rw [snocI]
        have s4 := s3.trans (same_new (o := .lst ((U ++ [e]).map .int)) ny)
        have d4 := same_new (o := .lst ((U ++ [e]).map .int)) ny _ _ d3
        have y4 : (upd H3 y (.lst ((U ++ [e]).map .int))) y = some (.lst ((U ++ [e]).map .int)) := upd_same
        generalize upd H3 y (.lst ((U ++ [e]).map .int)) = H4 at s4 d4 y4 ⊢
        refine ⟨_, rfl, by show 3 ≤ sizeLine; decide, fun T nT => ?_⟩
        have st := same_new (o := .tup [.int e, .ref y, .ref d]) nT
        exact qs2 T _ (s4.trans st) (s4.free nT) ⟨y, d, s3.free ny, by rw [lastI_snoc]; exact upd_same, st _ _ y4, st _ _ d4⟩
    · have hn : e < 0 := by omega
      have hm : 0 < -e := by omega
      refine ⟨_, rfl, e, rfl, ?_⟩
      rw [abs_neg hn]
      refine ⟨_, rfl, _, _, rfl, rfl, false, dF hp, ?_⟩
      refine ⟨_, rfl, _, _, rfl, rfl, false, dF hp, ?_⟩
      unfold nxt at qn qs
      rw [if_neg hp] at qn
      by_cases m : -e ∈ U
      · refine ⟨_, rfl, _, rfl, ak, _, rfl, dgI hk hm, false, by rw [if_pos m]; rfl, ?_⟩
        by_cases m2 : e ∈ U
        · refine ⟨_, rfl, _, rfl, ad, _, rfl, .inl (.of hd), rfl, flatI _, true, by show V.bl (inV (.int e) (U.map V.int)) = _; rw [inVI, decide_eq_true m2], ?_⟩
          rw [if_pos (.inr m2)] at qn
          exact qn rfl _
        · refine ⟨_, rfl, _, rfl, ad, _, rfl, .inl (.of hd), rfl, flatI _, false, by show V.bl (inV (.int e) (U.map V.int)) = _; rw [inVI, decide_eq_false m2], ?_⟩
          have nn : ¬ (-e ∉ U ∨ e ∈ U) := fun z => z.elim (fun q => q m) m2
          rw [if_neg nn] at qn
          have j1 : (-e).toNat - 1 < ks.length := by omega
          have ej : (-e) - 1 = (((-e).toNat - 1 : Nat) : Int) := by omega
          have hkk : ks.getD ((-e).toNat - 1) 0 < 3 := k3 _ (by rw [List.getD_eq_getElem?_getD, List.getElem?_eq_getElem j1]; exact List.getElem_mem j1)
          refine ⟨_, rfl, _, rfl, _, _, rfl, rfl, wl, _, _, _, rfl, rfl, hw, (by rw [ej]; exact wordV_at j1), ?_⟩
          have qs2 := fun c hc => qs c (by rw [if_neg hp, if_neg nn]; exact hc)
          generalize ks.getD ((-e).toNat - 1) 0 = k at qn qs2 hkk ⊢
          have els : decide (V.int (lastI S) = V.int (-e)) = decide (lastI S = -e) := decide_eq_decide.mpr ⟨fun z => V.int.inj z, fun z => congrArg V.int z⟩
          have fin : ∀ c, leftK k U S (-e) = some c → ∀ H1, Same H H1 → ∀ z, H1 z = none → ∀ y, (upd H1 z (.lst [.int e])) y = none → ∀ T, (upd (upd H1 z (.lst [.int e])) y (.lst (U.map .int ++ [.int e]))) T = none → Q (.ref T) (upd (upd (upd H1 z (.lst [.int e])) y (.lst (U.map .int ++ [.int e]))) T (.tup [.int c, .ref y, .ref ak])) := fun c hc H1 s1 z nz y ny T nT => by
            have s2 := same_new (o := .lst [.int e]) nz
            have s3 := same_new (o := .lst (U.map .int ++ [.int e])) ny
            have s4 := same_new (o := .tup [.int c, .ref y, .ref ak]) nT
            refine qs2 c hc T _ (((s1.trans s2).trans s3).trans s4) (((s1.trans s2).trans s3).free nT) ⟨y, ak, (s1.trans s2).free ny, by rw [lastI_snoc]; exact upd_same, s4 _ _ (by rw [upd_same, snocI]), ?_⟩
            rw [kept_stop hl hn]
            exact s4 _ _ (s3 _ _ (s2 _ _ (s1 _ _ hk)))
          have len3 : (U.map V.int).length + 1 ≤ sizeLine := by rw [List.length_map]; exact zs (by omega)
          by_cases l : lastI S = -e
          · refine ⟨_, rfl, word_scal k _, decide (k = 2), congrArg V.bl (word_strict hkk), ?_⟩
            have nx : leftK k U S (-e) = some (fbI U S (-e)) := by
              unfold leftK
              by_cases k0 : k = 0
              · rw [if_pos k0]
              · rw [if_neg k0, if_pos l]
            by_cases k2 : k = 2
            · rw [decide_eq_true k2]
              refine ⟨_, rfl, _, rfl, rfl, false, by rw [els, decide_eq_true l]; rfl, ?_⟩
              refine ⟨_, rfl, word_scal k _, decide (k = 1), congrArg V.bl (word_careful hkk), ?_⟩
              rw [decide_eq_false (by omega)]
              refine ⟨_, rfl, _, rfl, ak, _, rfl, by have := dgI (S := S) hk hm; rw [if_pos m] at this; exact this, ?_⟩
              refine ⟨_, rfl, _, rfl, _, rfl, by show 1 ≤ sizeLine; decide, fun z nz => ⟨ad, z, _, _, rfl, rfl, same_new nz _ _ hd, upd_same, len3, fun y ny => ⟨_, rfl, by show 3 ≤ sizeLine; decide, fun T nT => ?_⟩⟩⟩
              exact fin _ nx H (.refl _) z nz y ny T nT
            · rw [decide_eq_false k2]
              refine ⟨_, rfl, word_scal k _, decide (k = 1), congrArg V.bl (word_careful hkk), ?_⟩
              by_cases k1 : k = 1
              · rw [decide_eq_true k1]
                refine ⟨_, rfl, _, rfl, rfl, false, by rw [els, decide_eq_true l]; rfl, ?_⟩
                refine ⟨_, rfl, _, rfl, ak, _, rfl, by have := dgI (S := S) hk hm; rw [if_pos m] at this; exact this, ?_⟩
                refine ⟨_, rfl, _, rfl, _, rfl, by show 1 ≤ sizeLine; decide, fun z nz => ⟨ad, z, _, _, rfl, rfl, same_new nz _ _ hd, upd_same, len3, fun y ny => ⟨_, rfl, by show 3 ≤ sizeLine; decide, fun T nT => ?_⟩⟩⟩
                exact fin _ nx H (.refl _) z nz y ny T nT
              · rw [decide_eq_false k1]
                refine ⟨_, rfl, _, rfl, ak, _, rfl, by have := dgI (S := S) hk hm; rw [if_pos m] at this; exact this, ?_⟩
                refine ⟨_, rfl, _, rfl, _, rfl, by show 1 ≤ sizeLine; decide, fun z nz => ⟨ad, z, _, _, rfl, rfl, same_new nz _ _ hd, upd_same, len3, fun y ny => ⟨_, rfl, by show 3 ≤ sizeLine; decide, fun T nT => ?_⟩⟩⟩
                exact fin _ nx H (.refl _) z nz y ny T nT
          · refine ⟨_, rfl, word_scal k _, decide (k = 2), congrArg V.bl (word_strict hkk), ?_⟩
            by_cases k2 : k = 2
            · rw [decide_eq_true k2]
              refine ⟨_, rfl, _, rfl, rfl, true, by rw [els, decide_eq_false l]; rfl, ?_⟩
              refine qn ?_ _
              unfold leftK
              rw [if_neg (by omega), if_neg l, if_neg (by omega)]
            · rw [decide_eq_false k2]
              refine ⟨_, rfl, word_scal k _, decide (k = 1), congrArg V.bl (word_careful hkk), ?_⟩
              by_cases k1 : k = 1
              · rw [decide_eq_true k1]
                refine ⟨_, rfl, _, rfl, rfl, true, by rw [els, decide_eq_false l]; rfl, ?_⟩
                refine ⟨_, rfl, ?_⟩
                refine ⟨_, rfl, _, rfl, _, rfl, by show 1 ≤ sizeLine; decide, fun z nz => ⟨ad, z, _, _, rfl, rfl, same_new nz _ _ hd, upd_same, len3, fun y ny => ⟨_, rfl, by show 3 ≤ sizeLine; decide, fun T nT => ?_⟩⟩⟩
                exact fin _ (by unfold leftK; rw [if_neg (by omega), if_neg l, if_pos k1]) H (.refl _) z nz y ny T nT
              · rw [decide_eq_false k1]
                refine ⟨_, rfl, _, rfl, ak, _, rfl, by have := dgI (S := S) hk hm; rw [if_pos m] at this; exact this, ?_⟩
                refine ⟨_, rfl, _, rfl, _, rfl, by show 1 ≤ sizeLine; decide, fun z nz => ⟨ad, z, _, _, rfl, rfl, same_new nz _ _ hd, upd_same, len3, fun y ny => ⟨_, rfl, by show 3 ≤ sizeLine; decide, fun T nT => ?_⟩⟩⟩
                exact fin _ (by unfold leftK; rw [if_pos (by omega)]) H (.refl _) z nz y ny T nT
      · rw [if_pos (.inl m)] at qn
        refine ⟨_, rfl, _, rfl, ak, _, rfl, dgI hk hm, true, by rw [if_neg m]; rfl, ?_⟩
        exact qn rfl _
end
end L25
set_option Elab.async false
set_option linter.all false
set_option maxRecDepth 100000
namespace L25
open PySem PySem.Spec PyProof.Rows L2 Lp
/-! ### a setting with its patches -/
structure Liv (CR CP CC CS CG : Addr) (H : Hp) (g r al ai ap aq : Addr) (ps : List Addr) (ks : List Nat) (I U S : List Int) : Prop where
  set : SetAt CG H g r al ps
  rc : Rec CR H r ai ap aq I U S
  wf : Wf I U S
  la : al ≠ ai
  lp : al ≠ ap
  lq : al ≠ aq
  il : I.length = ps.length + 1
  kl : ks.length = ps.length
  pat : ∀ (j : Nat) (p : Addr) (k : Nat), ps[j]? = some p → ks[j]? = some k → ∃ C dp, Kind3 CP CC CS C k ∧ H p = some (.ins C dp (fP r ((j : Int) + 1)))
section
variable {CR CP CC CS CG : Addr} {H H' : Hp} {g r al ai ap aq : Addr} {ps : List Addr} {ks : List Nat} {I U S U' S' : List Int}
theorem Liv.same (h : Liv CR CP CC CS CG H g r al ai ap aq ps ks I U S) (s : Same H H') : Liv CR CP CC CS CG H' g r al ai ap aq ps ks I U S :=
  ⟨h.set.same s, h.rc.same s, h.wf, h.la, h.lp, h.lq, h.il, h.kl, fun j p k e1 e2 => by
    obtain ⟨C, dp, a, b⟩ := h.pat j p k e1 e2
    exact ⟨C, dp, a, s _ _ b⟩⟩
/-- all but the record's events and values is as it was -/
theorem Liv.to (h : Liv CR CP CC CS CG H g r al ai ap aq ps ks I U S) (k : ∀ b o, b ≠ ap → b ≠ aq → H b = some o → H' b = some o) (hp : H' ap = some (.lst (U'.map .int))) (hq : H' aq = some (.lst (S'.map .int))) (w : Wf I U' S') :
    Liv CR CP CC CS CG H' g r al ai ap aq ps ks I U' S' := by
  obtain ⟨⟨⟨dg, hg⟩, hl⟩, ⟨⟨dr, hR⟩, hi, p0, q0, ip, iq, pq⟩, _, la, lp, lq, il, kl, pat⟩ := h
  have ni : ∀ {b : Addr} {C d : Addr} {fs : List (Str × V)}, H b = some (.ins C d fs) → b ≠ ap ∧ b ≠ aq := fun {b C d fs} e => ⟨fun z => (by rw [z, p0] at e; cases e), fun z => (by rw [z, q0] at e; cases e)⟩
  exact ⟨⟨⟨dg, k _ _ (ni hg).1 (ni hg).2 hg⟩, k _ _ lp lq hl⟩, ⟨⟨dr, k _ _ (ni hR).1 (ni hR).2 hR⟩, k _ _ ip iq hi, hp, hq, ip, iq, pq⟩, w, la, lp, lq, il, kl, fun j p k' e1 e2 => by
    obtain ⟨C, dp, a, b⟩ := pat j p k' e1 e2
    exact ⟨C, dp, a, k _ _ (ni b).1 (ni b).2 b⟩⟩
theorem Liv.step (h : Liv CR CP CC CS CG H g r al ai ap aq ps ks I U S) {e c : Int} (l : U.length < 1000) (hc : 0 ≤ c ∧ c < (I.length : Int)) :
    Liv CR CP CC CS CG (upd (upd H ap (.lst ((U ++ [e]).map .int))) aq (.lst ((S ++ [c]).map .int))) g r al ai ap aq ps ks I (U ++ [e]) (S ++ [c]) :=
  h.to (fun b o n1 n2 eb => by rw [upd_ne n2, upd_ne n1]; exact eb) (by rw [upd_ne h.rc.pq, upd_same]) upd_same (h.wf.go hc l)
theorem Liv.nx (h : Liv CR CP CC CS CG H g r al ai ap aq ps ks I U S) {e c : Int} (hn : nxt ks U S e = some c) (he : e.natAbs ≤ ps.length) : 0 ≤ c ∧ c < (I.length : Int) := by
  unfold nxt at hn
  have il := h.il
  split at hn
  · split at hn
    · cases hn
    · have := Option.some.inj hn
      omega
  · split at hn
    · cases hn
    · rename_i z
      exact leftK_rng h.wf (Classical.not_not.mp fun q => z (.inl q)) hn
/-- the patch of a number -/
theorem Liv.at (h : Liv CR CP CC CS CG H g r al ai ap aq ps ks I U S) {n : Int} (h1 : 1 ≤ n) (h2 : n ≤ (ps.length : Int)) : ∃ p C dp, ps[n.toNat - 1]? = some p ∧ atI (ps.map V.ref) (n - 1) = some (.ref p) ∧ Kind3 CP CC CS C (ks.getD (n.toNat - 1) 0) ∧ H p = some (.ins C dp (fP r n)) := by
  have j1 : n.toNat - 1 < ps.length := by omega
  have j2 : n.toNat - 1 < ks.length := by have := h.kl; omega
  obtain ⟨C, dp, hK, hp⟩ := h.pat _ _ _ (List.getElem?_eq_getElem j1) (List.getElem?_eq_getElem j2)
  refine ⟨ps[n.toNat - 1], C, dp, List.getElem?_eq_getElem j1, ?_, ?_, ?_⟩
  · have e : n - 1 = ((n.toNat - 1 : Nat) : Int) := by omega
    rw [e]
    exact atI_nat (by rw [List.getElem?_map, List.getElem?_eq_getElem j1]; rfl)
  · rw [List.getD_eq_getElem?_getD, List.getElem?_eq_getElem j2]
    exact hK
  · have e : ((n.toNat - 1 : Nat) : Int) + 1 = n := by omega
    rw [e] at hp
    exact hp
end
/-- which error each clause takes -/
structure Ex3 (K : PySem.W.Frag) (eS eR eO : Addr) : Prop where
  ss : PySem.W.exmOne K (.ref eS) (.ref eS) = some true
  rs : PySem.W.exmOne K (.ref eR) (.ref eS) = some false
  rr : PySem.W.exmOne K (.ref eR) (.ref eR) = some true
  os : PySem.W.exmOne K (.ref eO) (.ref eS) = some false
  or_ : PySem.W.exmOne K (.ref eO) (.ref eR) = some false
  oo : PySem.W.exmOne K (.ref eO) (.ref eO) = some true
def dueD (I U S : List Int) : PyData := .list [.int (vI I (lastI S)), .int (lastI S), dI U, .bool (decide (lastI S = 0)), .int ((U.length : Nat) : Int)]
section
variable {P : Program} {w : World} {K : PySem.W.Frag} {mg : Str → Option Value} {base : Heap} {CR CP CC CS CG eF eE eS eR eO : Addr}
def spDue (K : PySem.W.Frag) : Sp := fun vs H Q _ => ∃ (t il : Addr) (I U S : List Int), vs = [.ref t, .ref il] ∧ LSt H t U S ∧ SqL K H il (I.map .int) ∧ 0 ≤ lastI S ∧ lastI S < (I.length : Int) ∧ U.length ≤ 1000 ∧ ∀ q H', Same H H' → Dp K H' (.ref q) (dueD I U S) → Q (.ref q) H'
theorem ok_law_due {f : Addr} {fd : FuncData} (F : Fun K "_law_due" "_law_due" s_law_due f fd) (B : NoB mg) : FnOk P w K mg base CX0 1 f fd ["state", "integers"] (spDue K) := by
  refine F.ok sc_law_due (fun vs H Q E h => ?_) (fun cdv A outer s H vs Q E hr h => ?_)
  · obtain ⟨t, il, I, U, S, rfl, _⟩ := h
    rfl
  · obtain ⟨t, il, I, U, S, rfl, ⟨ad, ak, ht, hd, hk⟩, hI, l0, l1, ul, q⟩ := h
    refine ⟨_, (pss_one (ps_ret (pe_lst (pa_cons (pe_ix ix_list (pv 1) (pe_ix ix_tup (pv 0) pe_int (fun _ _ => rfl)) (fun _ _ => rfl)) (pa_cons (pe_ix ix_tup (pv 0) pe_int (fun _ _ => rfl)) (pa_cons (pe_ix ix_tup (pv 0) pe_int (fun _ _ => rfl)) (pa_cons (pe_cmpR op_eq (pe_ix ix_tup (pv 0) pe_int (fun _ _ => rfl)) pe_int (nomark _)) (pa_cons (pe_callB call_len_seq (by rfl) B.len PySem.boot_len (pa_cons (pe_ix ix_tup (pv 0) pe_int (fun _ _ => rfl)) pa_nil)) pa_nil)))))))), ?_⟩
    have hT : SqT K H t [.int (lastI S), .ref ad, .ref ak] := .of ht
    refine ⟨_, rfl, _, rfl, t, _, _, _, rfl, rfl, hT, at0, il, _, _, _, rfl, rfl, hI, atI_vI ⟨l0, l1⟩, ?_⟩
    refine ⟨_, rfl, t, _, _, _, rfl, rfl, hT, at0, _, rfl, t, _, _, _, rfl, rfl, hT, at1, _, rfl, t, _, _, _, rfl, rfl, hT, at0, rfl, ?_⟩
    refine ⟨_, rfl, t, _, _, _, rfl, rfl, hT, at1, ad, _, rfl, .inl (.of hd), ?_⟩
    refine ⟨by show 5 ≤ sizeLine; decide, fun z nz => ?_⟩
    have e : decide (V.int (lastI S) = V.int 0) = decide (lastI S = 0) := decide_eq_decide.mpr ⟨fun z => V.int.inj z, fun z => congrArg V.int z⟩
    refine q z _ (same_new nz) ?_
    refine .lst (.of upd_same) (.cons (.int _) (.cons (.int _) (.cons (dp_ints (.of (same_new nz _ _ hd))) (.cons ?_ (.cons ?_ .nil)))))
    · show Dp _ _ (.bl (decide (V.int (lastI S) = V.int 0))) _
      rw [e]
      exact .bl _
    · rw [List.length_map]
      exact .int _
def spSeen (K : PySem.W.Frag) (CR CP CC CS CG : Addr) : Sp := fun vs H Q _ => ∃ (g r al ai ap aq : Addr) (ps : List Addr) (ks : List Nat) (I U S : List Int), vs = [.ref g] ∧ Liv CR CP CC CS CG H g r al ai ap aq ps ks I U S ∧ ∀ q H', Same H H' → Dp K H' (.ref q) (dueD I U S) → Q (.ref q) H'
theorem ok_law_seen {f : Addr} {fd : FuncData} (F : Fun K "_law_seen" "_law_seen" s_law_seen f fd) (B : NoB mg) (T_Setting_integer : PrpV P w K mg base 2 (Is CG) "integer" (spGInt CR CG)) (T_Setting_present : PrpV P w K mg base 1 (Is CG) "present" (spGPres CR CG)) (T_Setting_events : PrpV P w K mg base 1 (Is CG) "events" (spGEvents CR CG)) (T_Setting_original : PrpV P w K mg base 1 (Is CG) "original" (spGOrig CR CG)) (T_Setting_len : Met P w K mg base 1 CG "__len__" (spGLen CR CG)) :
    FnOk P w K mg base CX0 4 f fd ["one"] (spSeen K CR CP CC CS CG) := by
  refine F.ok sc_law_seen (fun vs H Q E h => ?_) (fun cdv A outer s H vs Q E hr h => ?_)
  · obtain ⟨g, r, al, ai, ap, aq, ps, ks, I, U, S, rfl, _⟩ := h
    rfl
  · obtain ⟨g, r, al, ai, ap, aq, ps, ks, I, U, S, rfl, L, q⟩ := h
    obtain ⟨dg, hg⟩ := L.set.g
    refine ⟨_, (pss_one (ps_ret (pe_lst (pa_cons (pe_pV T_Setting_integer hr (by decide) (pv 0)) (pa_cons (pe_pV T_Setting_present hr (by decide) (pv 0)) (pa_cons (pe_pV T_Setting_events hr (by decide) (pv 0)) (pa_cons (pe_pV T_Setting_original hr (by decide) (pv 0)) (pa_cons (pe_callB (call_lenO T_Setting_len hr (by decide)) (by rfl) B.len PySem.boot_len (pa_cons (pv 0) pa_nil)) pa_nil)))))))), ?_⟩
    refine ⟨_, rfl, g, CG, dg, _, rfl, rfl, hg, g, r, al, ai, ap, aq, ps, I, U, S, rfl, L.set, L.rc, L.wf, ?_⟩
    refine ⟨_, rfl, g, CG, dg, _, rfl, rfl, hg, g, r, al, ai, ap, aq, ps, I, U, S, rfl, L.set, L.rc, L.wf, ?_⟩
    refine ⟨_, rfl, g, CG, dg, _, rfl, rfl, hg, g, r, al, ai, ap, aq, ps, I, U, S, rfl, L.set, L.rc, fun y ny => ?_⟩
    have s1 := same_new (o := .lst (U.map .int)) ny
    have y1 : (upd H y (.lst (U.map .int))) y = some (.lst (U.map .int)) := upd_same
    have L1 := L.same s1
    generalize upd H y (.lst (U.map .int)) = H1 at s1 y1 L1 ⊢
    refine ⟨_, rfl, g, CG, dg, _, rfl, rfl, s1 _ _ hg, g, r, al, ai, ap, aq, ps, I, U, S, rfl, L1.set, L1.rc, L1.wf, ?_⟩
    have ul := L1.wf.p
    refine ⟨_, rfl, g, dg, _, rfl, s1 _ _ hg, g, r, al, ai, ap, aq, ps, I, U, S, rfl, L1.set, L1.rc, _, rfl, by omega, by omega, ?_⟩
    refine ⟨by show 5 ≤ sizeLine; decide, fun z nz => ?_⟩
    exact q z _ (s1.trans (same_new nz)) (.lst (.of upd_same) (.cons (.int _) (.cons (.int _) (.cons (dp_ints (.of (same_new nz _ _ y1))) (.cons (.bl _) (.cons (.int _) .nil))))))
def spPressed (K : PySem.W.Frag) (CR CP CC CS CG : Addr) : Sp := fun vs H Q _ => ∃ (sl g r al ai ap aq : Addr) (ps : List Addr) (ks : List Nat) (I U S : List Int) (e : Int), vs = [.ref sl, .int e] ∧ SqL K H sl (ps.map V.ref) ∧ Liv CR CP CC CS CG H g r al ai ap aq ps ks I U S ∧ e ≠ 0 ∧ e.natAbs ≤ ps.length ∧ U.length < 1000 ∧
  (∀ c, nxt ks U S e = some c → Q (.int (vI I c)) (upd (upd H ap (.lst ((U ++ [e]).map .int))) aq (.lst ((S ++ [c]).map .int)))) ∧ (0 < e → e ∈ U → Q (.str "started") H) ∧ (e < 0 → ¬ (-e ∈ U ∧ e ∉ U) → Q (.str "running") H) ∧ (e < 0 → -e ∈ U → e ∉ U → nxt ks U S e = none → Q (.str "order") H)
theorem ok_law_pressed {f : Addr} {fd : FuncData} (F : Fun K "_law_pressed" "_law_pressed" s_law_pressed f fd) (B : NoB mg) (RS : Er K mg "StartedError" eS) (RR : Er K mg "NotRunningError" eR) (RO : Er K mg "OutOfOrderError" eO) (X3 : Ex3 K eS eR eO)
    (T_AnyPatch_start : MetC P w K mg base 5 (Kind3 CP CC CS) "start" (spStartC CR eS)) (T_AnyPatch_stop : MetC P w K mg base 5 (Kind3 CP CC CS) "stop" (spStopK CR eR eO)) : FnOk P w K mg base CX0 6 f fd ["some", "event"] (spPressed K CR CP CC CS CG) := by
  refine F.ok sc_law_pressed (fun vs H Q E h => ?_) (fun cdv A outer s H vs Q E hr h => ?_)
  · obtain ⟨sl, g, r, al, ai, ap, aq, ps, ks, I, U, S, e, rfl, _⟩ := h
    rfl
  · obtain ⟨sl, g, r, al, ai, ap, aq, ps, ks, I, U, S, e, rfl, hS, L, e0, el, ul, q, q1, q2, q3⟩ := h
    refine ⟨_, (pss_cons (ps_set (i := 2) sc_law_pressed.nd rfl (Or.inl rfl) pe_str)
        (pss_cons (L2N.ps_try_many rfl rfl takesN (fun W pn xe tk _ => (pss_one (ps_set (i := 2) sc_law_pressed.nd rfl (Or.inl rfl) (pe_ifExp (pt_cmpR op_gt (pv 1) pe_int (nomark _)) (pe_mC0 T_AnyPatch_start hr (by decide) tk (pe_ix (k_ix (K := K) rfl) (pv 0) (pe_op op_sub (pe_callB call_abs (by rfl) B.abs (by decide +kernel) (pa_cons (pv 1) pa_nil)) pe_int) (fun _ _ => rfl))) (pe_mC0 T_AnyPatch_stop hr (by decide) tk (pe_ix (k_ix (K := K) rfl) (pv 0) (pe_op op_sub (pe_callB call_abs (by rfl) B.abs (by decide +kernel) (pa_cons (pv 1) pa_nil)) pe_int) (fun _ _ => rfl))))))) (.cons ⟨rfl, by decide, .inl RS.c⟩ (fun a oe cls d pn _ _ => pss_one (ps_ret pe_str)) (.cons ⟨rfl, by decide, .inl RR.c⟩ (fun a oe cls d pn _ _ => pss_one (ps_ret pe_str)) (.cons ⟨rfl, by decide, .inl RO.c⟩ (fun a oe cls d pn _ _ => pss_one (ps_ret pe_str)) .nil))))
        (pss_one (ps_ret (pv 2))))), ?_⟩
    have il := L.il
    unfold nxt at q q3
    by_cases hp : 0 < e
    · obtain ⟨p, C, dp, _, e2, hK, hpp⟩ := L.at (n := e) (by omega) (by omega)
      refine ⟨_, rfl, _, _, rfl, rfl, true, dT hp, ?_⟩
      refine ⟨_, rfl, _, rfl, e, rfl, ?_⟩
      rw [abs_pos hp]
      refine ⟨_, _, rfl, rfl, sl, _, _, _, rfl, rfl, hS, e2, p, C, _, dp, _, rfl, hK, hpp, lkP _ _ (by decide +kernel), p, dp, r, ai, ap, aq, e, I, U, S, rfl, hpp, L.rc, L.wf, by omega, by omega, ul, fun hn => ?_, fun hn => ?_⟩
      · exact ⟨_, rfl, q e (by rw [if_pos hp, if_neg hn])⟩
      · exact ⟨true, X3.ss, fun _ a ha => q1 hp hn, fun z => absurd z.symm Bool.false_ne_true⟩
    · have hn : e < 0 := by omega
      obtain ⟨p, C, dp, _, e2, hK, hpp⟩ := L.at (n := -e) (by omega) (by omega)
      refine ⟨_, rfl, _, _, rfl, rfl, false, dF hp, ?_⟩
      refine ⟨_, rfl, _, rfl, e, rfl, ?_⟩
      rw [abs_neg hn]
      refine ⟨_, _, rfl, rfl, sl, _, _, _, rfl, rfl, hS, e2, p, C, _, dp, _, rfl, hK, hpp, lkP _ _ (by decide +kernel), p, dp, r, ai, ap, aq, -e, I, U, S, rfl, hpp, L.rc, L.wf, ul, fun m1 m2 c hc => ?_, fun m1 m2 hc => ?_, fun m => ?_⟩
      · rw [Int.neg_neg] at m2
        refine ⟨_, rfl, ?_⟩
        have := q c (by rw [if_neg hp, if_neg (fun z => z.elim (fun q => q m1) m2)]; exact hc)
        rw [Int.neg_neg]
        exact this
      · rw [Int.neg_neg] at m2
        exact ⟨false, X3.os, fun z => absurd z Bool.false_ne_true, fun _ => ⟨false, X3.or_, fun z => absurd z Bool.false_ne_true, fun _ => ⟨true, X3.oo, fun _ a ha => q3 hn m1 m2 (by rw [if_neg hp, if_neg (fun z => z.elim (fun q => q m1) m2)]; exact hc), fun z => absurd z.symm Bool.false_ne_true⟩⟩⟩
      · rw [Int.neg_neg] at m
        exact ⟨false, X3.rs, fun z => absurd z Bool.false_ne_true, fun _ => ⟨true, X3.rr, fun _ a ha => q2 hn m, fun z => absurd z.symm Bool.false_ne_true⟩⟩
end
end L25
set_option Elab.async false
set_option linter.all false
set_option maxRecDepth 100000
namespace L25
open PySem PySem.Spec PyProof.Rows L2 Lp
section
variable {P : Program} {w : World} {K : PySem.W.Frag} {mg : Str → Option Value} {base : Heap} {CO CH : Addr}
/-! ### draws -/
def Src (H : Hp) (a : Addr) (n : Nat) : Prop := ∃ x y z : Int, H a = some (.lst [.int x, .int y, .int z]) ∧ 0 ≤ y ∧ y < 2 ^ 400 ∧ 0 ≤ z ∧ z ≤ (n : Int)
theorem Src.mono {H : Hp} {a : Addr} {n m : Nat} (h : Src H a n) (l : n ≤ m) : Src H a m := by
  obtain ⟨x, y, z, h1, h2, h3, h4, h5⟩ := h
  exact ⟨x, y, z, h1, h2, h3, h4, by omega⟩
theorem Src.bt {H H' : Hp} {a b : Addr} {n : Nat} (h : Src H a n) (x : Bt b H H') (e : a ≠ b) : Src H' a n := by
  obtain ⟨p, y, z, h1, h2⟩ := h
  exact ⟨p, y, z, x _ _ e h1, h2⟩
theorem Src.same {H H' : Hp} {a : Addr} {n : Nat} (h : Src H a n) (x : Same H H') : Src H' a n := by
  obtain ⟨p, y, z, h1, h2⟩ := h
  exact ⟨p, y, z, x _ _ h1, h2⟩
theorem Src.new {H : Hp} {a p : Addr} {n : Nat} {o : HO} (h : Src H a n) (e : H p = none) : Src (upd H p o) a n := h.same (same_new e)
theorem Src.ne {H : Hp} {a p : Addr} {n : Nat} (h : Src H a n) (e : H p = none) : p ≠ a := fun z => by
  obtain ⟨_, _, _, h1, _⟩ := h
  rw [← z, e] at h1
  cases h1
theorem Src.upd {H : Hp} {a p : Addr} {n : Nat} {o : HO} (h : Src H a n) (e : p ≠ a) : Src (upd H p o) a n := by
  obtain ⟨x, y, z, h1, h2⟩ := h
  exact ⟨x, y, z, by rw [upd_ne e.symm]; exact h1, h2⟩
def spDraw : Sp := fun vs H Q _ => ∃ (a : Addr) (m : Int) (n : Nat), vs = [.ref a, .int m] ∧ Src H a n ∧ n ≤ 1000000 ∧ 1 ≤ m ∧ m ≤ 1000000000 ∧ ∀ r H', 0 ≤ r → r < m → Src H' a (n + 1) → Bt a H H' → Q (.int r) H'
theorem lt_pow {i : Int} {n : Nat} (h0 : 0 ≤ i) (h : i < 2 ^ n) : i.natAbs < 2 ^ n := by
  have e : ((i.natAbs : Nat) : Int) = i := Int.natAbs_of_nonneg h0
  have h' : ((i.natAbs : Nat) : Int) < ((2 ^ n : Nat) : Int) := by
    rw [e]
    simpa using h
  exact Int.ofNat_lt.mp h'
theorem ok_law_draw {f : Addr} {fd : FuncData} (F : Fun K "_law_draw" "_law_draw" s_law_draw f fd) : FnOk P w K mg base CX0 1 f fd ["source", "size"] spDraw := by
  refine F.ok sc_law_draw (fun vs H Q E h => ?_) (fun cdv A outer s H vs Q E hr h => ?_)
  · obtain ⟨a, m, n, rfl, _⟩ := h
    rfl
  · obtain ⟨a, m, n, rfl, ⟨x, y, z, ha, y0, y1, z0, z1⟩, hn, m0, m1, q⟩ := h
    refine ⟨_, (pss_cons (ps_if (pt_cmpR op_gt (pe_ix ix_list (pv 0) pe_int (fun _ _ => rfl)) pe_int (nomark _)) (pss_cons (ps_set (i := 2) sc_law_draw.nd rfl (Or.inl rfl) (pe_op op_mod (pe_ix ix_list (pv 0) pe_int (fun _ _ => rfl)) (pv 1)))
          (pss_cons (ps_asg (pe_op op_fdivW (pe_ix ix_list (pv 0) pe_int (fun _ _ => rfl)) (pv 1)) (pg_sub (pv 0) pe_int set_list))
          (pss_one (ps_ret (pv 2))))) pss_nil)
        (pss_cons (ps_asg (pe_op op_add (pe_ix ix_list (pv 0) pe_int (fun _ _ => rfl)) pe_int) (pg_sub (pv 0) pe_int set_list))
        (pss_cons (ps_asg (pe_op op_mod (pe_op op_add (pe_op op_add (pe_op op_powW (pe_ix ix_list (pv 0) pe_int (fun _ _ => rfl)) pe_int) (pe_op op_mulW pe_int (pe_ix ix_list (pv 0) pe_int (fun _ _ => rfl)))) pe_int) (pe_op op_add (pe_op op_powW pe_int pe_int) pe_int)) (pg_sub (pv 0) pe_int set_list))
        (pss_one (ps_ret (pe_op op_mod (pe_op op_fdivW (pe_ix ix_list (pv 0) pe_int (fun _ _ => rfl)) (pe_op op_powW pe_int pe_int)) (pv 1))))))), ?_⟩
    have hS : SqL K H a [.int x, .int y, .int z] := .of ha
    by_cases hx : 0 < x
    · refine ⟨_, rfl, a, _, 0, _, rfl, rfl, hS, at0, _, _, rfl, rfl, true, dT hx, ?_⟩
      refine ⟨_, rfl, a, _, 0, _, rfl, rfl, hS, at0, _, rfl, _, _, rfl, rfl, (by show (0 : Int) < m; omega), ?_⟩
      refine ⟨_, rfl, a, _, 0, _, rfl, rfl, hS, at0, _, rfl, _, _, rfl, rfl, wide_div (b := 30) (by omega) (lt_pow (by omega) (by omega)) (by decide) (by decide), ?_⟩
      refine ⟨_, rfl, a, _, 0, 0, rfl, rfl, ha, rfl, _, rfl, ?_⟩
      exact q _ _ (Int.emod_nonneg _ (by omega)) (Int.emod_lt_of_pos _ (by omega)) ⟨_, _, _, upd_same, y0, y1, z0, by omega⟩ (.at_ _ _ _)
    · refine ⟨_, rfl, a, _, 0, _, rfl, rfl, hS, at0, _, _, rfl, rfl, false, dF hx, ?_⟩
      refine ⟨_, rfl, a, _, 2, _, rfl, rfl, hS, at2, _, _, rfl, rfl, _, rfl, a, _, 2, 2, rfl, rfl, ha, rfl, ?_⟩
      have hS2 : SqL K (upd H a (.lst [.int x, .int y, .int (z + 1)])) a [.int x, .int y, .int (z + 1)] := .of upd_same
      have c1 : CPowW y 3 := powW_ok (n := 400) (lt_pow y0 y1) (by decide) (by decide)
      have p1 : CPowW 10 33 := powW_ok (n := 4) (by decide) (by decide) (by decide)
      have p2 : CPowW 10 8 := powW_ok (n := 4) (by decide) (by decide) (by decide)
      have k1 : (10 : Int) ^ (33 : Int).toNat + 61 = 1000000000000000000000000000000061 := by decide +kernel
      have k2 : (10 : Int) ^ (8 : Int).toNat = 100000000 := by decide +kernel
      have n1 : (0 : Int) < 10 ^ (33 : Int).toNat + 61 := by rw [k1]; decide
      refine ⟨_, rfl, a, _, 1, _, rfl, rfl, hS2, at1, _, _, rfl, rfl, c1, _, rfl, a, _, 2, _, rfl, rfl, hS2, at2, _, _, rfl, rfl, wide_mul (a := 30) (b := 30) (by decide) (lt_pow (by omega) (by omega)) (by decide) (by decide) (by decide), _, _, rfl, rfl, _, _, rfl, rfl, _, _, rfl, rfl, p1, _, _, rfl, rfl, _, _, rfl, rfl, n1, ?_⟩
      generalize y ^ (3 : Int).toNat + 961748941 * (z + 1) + 5 = big
      have b0 : 0 ≤ big % (10 ^ (33 : Int).toNat + 61) := Int.emod_nonneg _ (Int.ne_of_gt n1)
      have b1 : big % (10 ^ (33 : Int).toNat + 61) < 2 ^ 400 := by
        have := Int.emod_lt_of_pos big n1
        rw [k1] at this
        rw [k1]
        omega
      refine ⟨_, rfl, a, _, 1, 1, rfl, rfl, upd_same, rfl, ?_⟩
      refine ⟨_, rfl, a, _, 1, _, rfl, rfl, .of upd_same, at1, _, _, rfl, rfl, p2, _, _, rfl, rfl, by rw [k2]; exact wide_div (b := 30) (by decide) (by decide) (by decide) (by decide), _, rfl, _, _, rfl, rfl, (by show (0 : Int) < m; omega), ?_⟩
      refine q _ _ (Int.emod_nonneg _ (by omega)) (Int.emod_lt_of_pos _ (by omega)) ⟨x, _, z + 1, upd_same, b0, b1, by omega, by omega⟩ ?_
      exact (Lp.Bt.at_ _ _ _).trans (.at_ _ _ _)
def spSource : Sp := fun vs H Q _ => ∃ (c : Int) (k : Nat), vs = [.int c, .int (k : Int)] ∧ k ≤ 1000 ∧ ∀ H' p, Same H H' → H p = none → Src H' p 0 → Q (.ref p) H'
theorem ok_law_source {f : Addr} {fd : FuncData} (F : Fun K "_law_source" "_law_source" s_law_source f fd) (B : NoB mg) : FnOk P w K mg base CX0 1 f fd ["cell", "nth"] spSource := by
  refine F.ok sc_law_source (fun vs H Q E h => ?_) (fun cdv A outer s H vs Q E hr h => ?_)
  · obtain ⟨c, k, rfl, _⟩ := h
    rfl
  · obtain ⟨c, k, rfl, hk, q⟩ := h
    refine ⟨_, (pss_one (ps_ret (pe_lst (pa_cons (pe_callB (call_max2 rfl) (by rfl) B.max (by decide +kernel) (pa_cons pe_int (pa_cons (pe_op op_sub (pv 0) (pe_op op_powW pe_int pe_int)) pa_nil))) (pa_cons (pe_op op_add (pe_op op_add (pe_op op_powW (pe_op op_mod (pv 0) (pe_op op_add (pe_op op_powW pe_int pe_int) pe_int)) pe_int) (pe_op op_mulW pe_int (pv 1))) pe_int) (pa_cons pe_int pa_nil)))))), ?_⟩
    have p1 : CPowW 10 18 := powW_ok (n := 4) (by decide) (by decide) (by decide)
    have p2 : CPowW 10 38 := powW_ok (n := 4) (by decide) (by decide) (by decide)
    have e : (10 : Int) ^ (38 : Int).toNat + 133 = 100000000000000000000000000000000000133 := by decide +kernel
    have m0 : (0 : Int) < 10 ^ (38 : Int).toNat + 133 := by rw [e]; decide
    have r0 := Int.emod_nonneg c (Int.ne_of_gt m0)
    have r1 := Int.emod_lt_of_pos c m0
    have r2 : c % (10 ^ (38 : Int).toNat + 133) < 100000000000000000000000000000000000133 := by
      rw [e] at r1
      rw [e]
      exact r1
    have c3 : CPowW (c % (10 ^ (38 : Int).toNat + 133)) 3 := powW_ok (n := 200) (lt_pow r0 (by omega)) (by decide) (by decide)
    refine ⟨_, rfl, _, _, rfl, rfl, p1, _, _, rfl, rfl, _, _, rfl, _, rfl, _, _, rfl, rfl, p2, _, _, rfl, rfl, _, _, rfl, rfl, m0, _, _, rfl, rfl, c3, _, rfl, _, _, rfl, rfl, wide_mul (a := 30) (b := 30) (by decide) (lt_pow (by omega) (by omega)) (by decide) (by decide) (by decide), _, _, rfl, rfl, _, _, rfl, rfl, by show 3 ≤ sizeLine; decide, fun p np => q _ p (same_new np) np ?_⟩
    have cube : ∀ u : Int, 0 ≤ u → u < 100000000000000000000000000000000000133 → 0 ≤ u ^ (3 : Int).toNat ∧ u ^ (3 : Int).toNat < 2 ^ 390 := fun u u0 u1 => by
      have e3 : u ^ (3 : Int).toNat = u * u * u := by
        show u ^ 3 = _
        rw [Int.pow_succ, Int.pow_succ, Int.pow_succ, Int.pow_zero, Int.one_mul]
      rw [e3]
      have a1 : 0 ≤ u * u := Int.mul_nonneg u0 u0
      have a2 : u * u ≤ 2 ^ 260 := Int.le_trans (Int.mul_le_mul (c := 2 ^ 130) (d := 2 ^ 130) (by omega) (by omega) u0 (by decide)) (by decide)
      exact ⟨Int.mul_nonneg a1 u0, Int.lt_of_le_of_lt (Int.mul_le_mul (c := 2 ^ 260) (d := 100000000000000000000000000000000000133) a2 (by omega) u0 (by decide)) (by decide)⟩
    obtain ⟨q0, q1⟩ := cube _ r0 r2
    exact ⟨_, _, _, upd_same, by omega, by omega, Int.le_refl _, Int.le_refl _⟩
end
end L25
set_option Elab.async false
set_option linter.all false
set_option maxRecDepth 100000
namespace L25
open PySem PySem.Spec PyProof.Rows L2 Lp
section
variable {P : Program} {w : World} {K : PySem.W.Frag} {mg : Str → Option Value} {base : Heap} {CR CP CC CS CG eF eE eS eR eO : Addr}
/-! ### events drawn -/
theorem same_lock {H H' : Hp} {d : Addr} {kv : List (L2.Key × V)} {od : Obj} (hd : H d = some (.dK kv)) (s : Same (upd H d (.frz od (.dK kv))) H') : Same H (upd H' d (.dK kv)) := fun b o h => by
  by_cases e : b = d
  · subst e
    rw [hd] at h
    cases h
    exact upd_same
  · rw [upd_ne e]
    exact s b o (by rw [upd_ne e]; exact h)
theorem bt_lock {H : Hp} {d D : Addr} (nD : H D = none) {o : HO} {u : HO} (hd : H d = some u) : D ≠ d := fun z => by rw [z, hd] at nD; cases nD
theorem atI_ints {l : List Int} {j : Int} (h0 : 0 ≤ j) (h1 : j < (l.length : Int)) : ∃ x, x ∈ l ∧ atI (l.map V.int) j = some (.int x) := by
  obtain ⟨n, rfl⟩ : ∃ n : Nat, j = (n : Int) := ⟨j.toNat, by omega⟩
  have hn : n < l.length := by omega
  exact ⟨l[n], List.getElem_mem hn, atI_nat (by rw [List.getElem?_map, List.getElem?_eq_getElem hn]; rfl)⟩
theorem at_dn {j : Int} {a b c : V} (h0 : 0 ≤ j) (h1 : j < 3) : ∃ x, (x = a ∨ x = b ∨ x = c) ∧ atI [a, b, c] j = some x := by
  have : j = 0 ∨ j = 1 ∨ j = 2 := by omega
  rcases this with rfl | rfl | rfl
  · exact ⟨a, .inl rfl, at0⟩
  · exact ⟨b, .inr (.inl rfl), at1⟩
  · exact ⟨c, .inr (.inr rfl), at2⟩
/-- one of three draws from a list -/
def spEvent : Sp := fun vs H Q _ => ∃ (src t : Addr) (m n : Nat) (U S : List Int), vs = [.ref src, .ref t, .int (m : Int)] ∧ Src H src n ∧ n + 5 ≤ 1000000 ∧ LSt H t U S ∧ m ≤ 100 ∧ U.length ≤ 1000 ∧ (∀ x ∈ U, x.natAbs ≤ m) ∧
  ∀ e H', (e : Int).natAbs ≤ m → Src H' src (n + 5) → Bt src H H' → Q (.int e) H'
theorem ok_law_event {f : Addr} {fd : FuncData} (F : Fun K "_law_event" "_law_event" s_law_event f fd) (B : NoB mg) (T_law_draw : Cal P w K mg base 1 "_law_draw" spDraw) : FnOk P w K mg base CX0 2 f fd ["source", "state", "most"] spEvent := by
  refine F.ok sc_law_event (fun vs H Q E h => ?_) (fun cdv A outer s H vs Q E hr h => ?_)
  · obtain ⟨src, t, m, n, U, S, rfl, _⟩ := h
    rfl
  · obtain ⟨src, t, m, n, U, S, rfl, hs, hn, ⟨ad, ak, ht, hd, hk⟩, hm, ul, hU, q⟩ := h
    have hu := hu_of hr
    have hu64 := hr.units
    refine ⟨_, (pss_cons (ps_setLc (i := 3) (own := [("spot", 6)]) (g := gName 6) (tt := _) rfl sc_law_event.nd rfl rfl (sw_true rfl rfl rfl (by decide +kernel)) (pi_range2 rfl B.range (pa_cons pe_int (pa_cons (pe_op op_add (pv 2) pe_int) pa_nil))) (blkOk_by (own := [("spot", 6)]) (N := N_law_event) (sc := defScope s_law_event) (by decide +kernel)) (fun _ _ _ _ _ => (pg_name (i := 6) sc_law_event.nd rfl (Or.inl rfl))) (fun _ _ _ _ _ => (pts_one (pt_cmp (pc_dnotin hu (pv 6) (pe_ix (k_ixT (K := K) rfl) (pv 1) pe_int (fun _ _ => rfl)))))) (fun _ _ _ _ _ => (pv 6)))
        (pss_cons (ps_lock (ps_setLc (i := 4) (own := [("spot", 6)]) (g := gName 6) (tt := _) rfl sc_law_event.nd rfl rfl (sw_true rfl rfl rfl (by decide +kernel)) (pi_keys (pe_ix ix_tup (pv 1) pe_int (fun _ _ => rfl))) (blkOk_by (own := [("spot", 6)]) (N := N_law_event) (sc := defScope s_law_event) (by decide +kernel)) (fun _ _ _ _ _ => (pg_name (i := 6) sc_law_event.nd rfl (Or.inl rfl))) (fun _ _ _ _ _ => (pts_one (pt_cmpR (k_notin (K := K) rfl) (pe_op op_sub pe_int (pv 6)) (pe_ix (k_ixT (K := K) rfl) (pv 1) pe_int (fun _ _ => rfl)) (by rfl)))) (fun _ _ _ _ _ => (pv 6))))
        (pss_cons (ps_set (i := 5) sc_law_event.nd rfl (Or.inl rfl) (pe_c T_law_draw hr (by decide) (by rfl) (pa_cons (pv 0) (pa_cons pe_int pa_nil))))
        (pss_cons (ps_if (PW.pt (pw_and (pt_cmpR (op_neD hu64) (pv 3) (pe_lst pa_nil) (nomark _)) (pw_and1 (PW.pt (pw_or (pt_cmpR op_lt (pv 5) pe_int (nomark _)) (pw_or1 (pt_cmpR (op_eqD hu64) (pv 4) (pe_lst pa_nil) (nomark _)))))))) (pss_one (ps_ret (pe_ix ix_list (pe_lst (pa_cons (pe_ix ix_list (pv 3) pe_int (fun _ _ => rfl)) (pa_cons (pe_ix ix_list (pv 3) (pe_un un_neg pe_int) (fun _ _ => rfl)) (pa_cons (pe_ix ix_list (pv 3) (pe_c T_law_draw hr (by decide) (by rfl) (pa_cons (pv 0) (pa_cons (pe_callB call_len_seq (by rfl) B.len PySem.boot_len (pa_cons (pv 3) pa_nil)) pa_nil))) (fun _ _ => rfl)) pa_nil)))) (pe_c T_law_draw hr (by decide) (by rfl) (pa_cons (pv 0) (pa_cons pe_int pa_nil))) (fun _ _ => rfl)))) pss_nil)
        (pss_cons (ps_if (pt_cmpR (op_eqD hu64) (pv 4) (pe_lst pa_nil) (nomark _)) (pss_one (ps_ret pe_int)) pss_nil)
        (pss_one (ps_ret (pe_op op_sub pe_int (pe_ix ix_list (pe_lst (pa_cons (pe_ix ix_list (pv 4) pe_int (fun _ _ => rfl)) (pa_cons (pe_ix ix_list (pv 4) (pe_un un_neg pe_int) (fun _ _ => rfl)) (pa_cons (pe_ix ix_list (pv 4) (pe_c T_law_draw hr (by decide) (by rfl) (pa_cons (pv 0) (pa_cons (pe_callB call_len_seq (by rfl) B.len PySem.boot_len (pa_cons (pv 4) pa_nil)) pa_nil))) (fun _ _ => rfl)) pa_nil)))) (pe_c T_law_draw hr (by decide) (by rfl) (pa_cons (pv 0) (pa_cons pe_int pa_nil))) (fun _ _ => rfl)))))))))), ?_⟩
    refine ⟨_, rfl, _, _, rfl, rfl, _, _, rfl, ⟨by decide, by decide, by omega, by omega⟩, fun D nD => ?_⟩
    have e1 : ((m : Int) + 1 - 1).toNat = m := by omega
    refine lc_range (lo := 1) (n := ((m : Int) + 1 - 1).toNat) (fun i H' => ∃ ac : List Int, H' D = some (.lst (ac.map V.int)) ∧ ac.length ≤ i ∧ (∀ k ∈ ac, 1 ≤ k ∧ k ≤ (m : Int)) ∧ Same H H') ⟨[], upd_same, Nat.le_refl _, (fun k hk => nomatch hk), same_new nD⟩ (fun i H' hi h => ?_) (fun H1 h => ?_)
    · obtain ⟨ac, hD, li, hac, sm⟩ := h
      refine ⟨rfl, ?_⟩
      refine ⟨_, rfl, _, rfl, t, _, _, _, rfl, rfl, .of (sm _ _ ht), at2, ak, _, rfl, dgI (sm _ _ hk) (by omega), ?_⟩
      by_cases c1 : (1 + (i : Int)) ∈ U
      · refine ⟨false, by rw [if_pos c1]; rfl, ?_⟩
        exact ⟨ac, hD, Nat.le_succ_of_le li, hac, sm⟩
      · refine ⟨true, by rw [if_neg c1]; rfl, ?_⟩
        refine ⟨_, rfl, _, hD, zl (by rw [List.length_map]; omega), ac ++ [1 + (i : Int)], by rw [upd_same, snocI], by rw [List.length_append]; exact Nat.succ_le_succ li, fun k hk => ?_, fun b o e => ?_⟩
        · rcases List.mem_append.mp hk with hk | hk
          · exact hac k hk
          · rw [List.mem_singleton.mp hk]
            omega
        · rw [upd_ne (ne_of_none e nD)]
          exact sm b o e
    obtain ⟨fr, hfr, flen, hf, s1⟩ := h
    rw [e1] at flen
    have nDH : H D = none := nD
    -- running
    refine ⟨ak, _, s1 _ _ hk, trivial, fun od => ?_⟩
    have hk1 := s1 _ _ hk
    have na : ∀ {b : Addr} {o : HO}, H b = some o → (∀ kv, o ≠ .dK kv) → b ≠ ak := fun {b o} e n z => by rw [z, hk] at e; exact n _ (Option.some.inj e).symm
    have tk : t ≠ ak := na ht (fun kv z => nomatch z)
    have dk : ad ≠ ak := na hd (fun kv z => nomatch z)
    have Dk : D ≠ ak := fun z => by rw [z, hk] at nDH; cases nDH
    refine ⟨_, rfl, t, _, _, _, rfl, rfl, .of (by rw [upd_ne tk]; exact s1 _ _ ht), at2, ak, od, rfl, .inl ⟨_, upd_same, fun D2 nD2 => ?_⟩⟩
    have t2 : (upd H1 ak (.frz od (.dK (kept U S)))) t = some (.tup [.int (lastI S), .ref ad, .ref ak]) := by rw [upd_ne tk]; exact s1 _ _ ht
    have d2 : (upd H1 ak (.frz od (.dK (kept U S)))) ad = some (.lst (U.map .int)) := by rw [upd_ne dk]; exact s1 _ _ hd
    refine lc_it walk_keys (fun i H' => ∃ ac : List Int, H' D2 = some (.lst (ac.map V.int)) ∧ ac.length ≤ i ∧ (∀ k ∈ ac, 1 ≤ k ∧ k ≤ (m : Int)) ∧ Same (upd H1 ak (.frz od (.dK (kept U S)))) H') ⟨[], upd_same, Nat.le_refl _, (fun k hk => nomatch hk), same_new nD2⟩ (fun i H'' _ pp => by obtain ⟨_, _, _, _, sm⟩ := pp; exact sm _ _ upd_same) (fun i x H'' H3' hi pp hy => ?_) (fun H7 p7 => ?_)
    · obtain ⟨rfl, kk, vv, hkk, rfl⟩ := hy
      obtain ⟨ac, hD2, li, hac, sm⟩ := pp
      have kl := kept_len U S
      obtain ⟨s, rfl, hsU, s0⟩ : ∃ s : Int, kk = Sum.inl s ∧ s ∈ U ∧ 0 < s := by
        unfold kept at hkk
        rw [List.getElem?_map] at hkk
        cases z : (U.filter fun e => decide (0 < e))[i]? with
        | none => rw [z] at hkk; cases hkk
        | some s =>
          rw [z] at hkk
          have := List.mem_filter.mp (List.mem_of_getElem? z)
          exact ⟨s, (Prod.mk.inj (Option.some.inj hkk)).1.symm, this.1, of_decide_eq_true this.2⟩
      refine ⟨rfl, ?_⟩
      refine ⟨_, rfl, _, _, rfl, rfl, _, rfl, t, _, _, _, rfl, rfl, .of (sm _ _ t2), at1, ad, _, rfl, .inl (.of (sm _ _ d2)), rfl, flatI U, ?_⟩
      by_cases c2 : (0 : Int) - s ∈ U
      · refine ⟨false, notInF c2, ?_⟩
        exact ⟨ac, hD2, Nat.le_succ_of_le li, hac, sm⟩
      · refine ⟨true, notInT c2, ?_⟩
        refine ⟨_, rfl, _, hD2, zl (by rw [List.length_map]; omega), ac ++ [s], by rw [upd_same, ← snocI]; rfl, by rw [List.length_append]; exact Nat.succ_le_succ li, fun k hk => ?_, fun b o e => ?_⟩
        · rcases List.mem_append.mp hk with hk | hk
          · exact hac k hk
          · rw [List.mem_singleton.mp hk]
            have := hU s hsU
            omega
        · rw [upd_ne (ne_of_none e nD2)]
          exact sm b o e
    obtain ⟨ru, hru, rlen, hru1, s7⟩ := p7
    refine ⟨s7 _ _ upd_same, ?_⟩
    have s8 := same_lock hk1 s7
    have nD2k : D2 ≠ ak := (ne_of_none upd_same nD2).symm
    have r8 : (upd H7 ak (.dK (kept U S))) D2 = some (.lst (ru.map V.int)) := by rw [upd_ne nD2k]; exact hru
    have f8 := s8 _ _ hfr
    have s18 := s1.trans s8
    have nD2H1 : H1 D2 = none := by
      rw [upd_ne nD2k] at nD2
      exact nD2
    generalize upd H7 ak (.dK (kept U S)) = H8 at r8 f8 s18 ⊢
    have nds : src ≠ D := fun z => (hs.ne nDH) z.symm
    have nd2s : src ≠ D2 := fun z => ((hs.same s1).ne nD2H1) z.symm
    clear s8 s7 hru t2 d2 e1
    -- the draw of the way
    refine ⟨_, rfl, src, 5, n, rfl, hs.same s18, by omega, by decide, by decide, fun way H9 w0 w1 hs9 b9 => ?_⟩
    have f9 := b9 _ _ nds.symm f8
    have r9 := b9 _ _ nd2s.symm r8
    have b09 : Bt src H H9 := (Bt.of s18).trans b9
    have ends : ∀ (l : List Int), l ≠ [] → ∃ a b, a ∈ l ∧ b ∈ l ∧ atI (l.map V.int) 0 = some (.int a) ∧ atI (l.map V.int) (-1) = some (.int b) := fun l hl => by
      obtain ⟨a, m1, e1⟩ := atI_ints (l := l) (j := 0) (Int.le_refl _) (by have := List.length_pos_iff.mpr hl; omega)
      refine ⟨a, lastI l, m1, ?_, e1, atI_lastI hl⟩
      rw [last_snoc hl, lastI_snoc]
      exact List.mem_append_right _ List.mem_cons_self
    have bnd : ∀ {l : List Int} {x : Int}, x ∈ l → (∀ k ∈ l, 1 ≤ k ∧ k ≤ (m : Int)) → x.natAbs ≤ m := fun {l x} hx h => by
      have := h x hx
      omega
    have rlen1 : ru.length ≤ 1000 := by have := kept_len U S; omega
    -- the last choice
    by_cases c : fr ≠ [] ∧ (way < 2 ∨ ru = [])
    · obtain ⟨c1, c2⟩ := c
      obtain ⟨xa, xb, ma, mb, ea, eb⟩ := ends fr c1
      have flp : 1 ≤ fr.length := List.length_pos_iff.mpr c1
      refine ⟨_, rfl, Nat.zero_le _, fun z nz => ?_⟩
      have s10 := same_new (o := .lst []) nz
      have z10 : (upd H9 z (.lst [])) z = some (.lst (([] : List Int).map .int)) := upd_same
      generalize upd H9 z (.lst []) = H10 at s10 z10 ⊢
      refine ⟨dI fr, dI [], dp_ints (.of (s10 _ _ f9)), dp_ints (ns := []) (.of z10), shaped_ints _, shaped_ints _, true, neqT c1, ?_⟩
      by_cases w2 : way < 2
      · refine ⟨_, rfl, _, _, rfl, rfl, true, dT w2, ?_⟩
        have hs11 := hs9.same s10
        have f11 := s10 _ _ f9
        have b11 := b09.trans (.of s10)
        generalize H10 = H11 at hs11 f11 b11 ⊢
        refine ⟨_, rfl, D, _, _, _, rfl, rfl, .of f11, ea, ?_⟩
        refine ⟨_, rfl, _, rfl, D, _, _, _, rfl, rfl, .of f11, eb, ?_⟩
        refine ⟨_, rfl, _, rfl, _, rfl, D, _, rfl, .inl (.of f11), src, _, _, rfl, hs11, by omega, by rw [List.length_map]; omega, by rw [List.length_map]; omega, fun j1 H12 j0 j1' hs12 b12 => ?_⟩
        rw [List.length_map] at j1'
        obtain ⟨xc, mc, ec⟩ := atI_ints (l := fr) j0 j1'
        have f12 := b12 _ _ nds.symm f11
        refine ⟨D, _, _, _, rfl, rfl, .of f12, ec, ?_⟩
        refine ⟨by show 3 ≤ sizeLine; decide, fun L nL => ?_⟩
        have sL := same_new (o := .lst [.int xa, .int xb, .int xc]) nL
        have nLs : L ≠ src := hs12.ne nL
        refine ⟨_, rfl, src, 3, _, rfl, hs12.same sL, by omega, by decide, by decide, fun j2 H13 k0 k1 hs13 b13 => ?_⟩
        obtain ⟨x, hx, ex⟩ := at_dn (a := .int xa) (b := .int xb) (c := .int xc) k0 k1
        refine ⟨L, _, _, _, rfl, rfl, .of (b13 _ _ nLs upd_same), ex, ?_⟩
        have bf := ((b11.trans b12).trans (.of sL)).trans b13
        rcases hx with rfl | rfl | rfl
        · exact q _ _ (bnd ma hf) (hs13.mono (by omega)) bf
        · exact q _ _ (bnd mb hf) (hs13.mono (by omega)) bf
        · exact q _ _ (bnd mc hf) (hs13.mono (by omega)) bf
      · have c3 : ru = [] := c2.resolve_left w2
        refine ⟨_, rfl, _, _, rfl, rfl, false, dF w2, ?_⟩
        refine ⟨_, rfl, Nat.zero_le _, fun z2 nz2 => ?_⟩
        have s10b := s10.trans (same_new (o := .lst []) nz2)
        have z10b : (upd H10 z2 (.lst [])) z2 = some (.lst (([] : List Int).map .int)) := upd_same
        generalize upd H10 z2 (.lst []) = H11 at s10b z10b ⊢
        refine ⟨dI ru, dI [], dp_ints (.of (s10b _ _ r9)), dp_ints (ns := []) (.of z10b), shaped_ints _, shaped_ints _, true, eqvT c3, ?_⟩
        have hs11 := hs9.same s10b
        have f11 := s10b _ _ f9
        have b11 := b09.trans (.of s10b)
        refine ⟨_, rfl, D, _, _, _, rfl, rfl, .of f11, ea, ?_⟩
        refine ⟨_, rfl, _, rfl, D, _, _, _, rfl, rfl, .of f11, eb, ?_⟩
        refine ⟨_, rfl, _, rfl, _, rfl, D, _, rfl, .inl (.of f11), src, _, _, rfl, hs11, by omega, by rw [List.length_map]; omega, by rw [List.length_map]; omega, fun j1 H12 j0 j1' hs12 b12 => ?_⟩
        rw [List.length_map] at j1'
        obtain ⟨xc, mc, ec⟩ := atI_ints (l := fr) j0 j1'
        have f12 := b12 _ _ nds.symm f11
        refine ⟨D, _, _, _, rfl, rfl, .of f12, ec, ?_⟩
        refine ⟨by show 3 ≤ sizeLine; decide, fun L nL => ?_⟩
        have sL := same_new (o := .lst [.int xa, .int xb, .int xc]) nL
        have nLs : L ≠ src := hs12.ne nL
        refine ⟨_, rfl, src, 3, _, rfl, hs12.same sL, by omega, by decide, by decide, fun j2 H13 k0 k1 hs13 b13 => ?_⟩
        obtain ⟨x, hx, ex⟩ := at_dn (a := .int xa) (b := .int xb) (c := .int xc) k0 k1
        refine ⟨L, _, _, _, rfl, rfl, .of (b13 _ _ nLs upd_same), ex, ?_⟩
        have bf := ((b11.trans b12).trans (.of sL)).trans b13
        rcases hx with rfl | rfl | rfl
        · exact q _ _ (bnd ma hf) (hs13.mono (by omega)) bf
        · exact q _ _ (bnd mb hf) (hs13.mono (by omega)) bf
        · exact q _ _ (bnd mc hf) (hs13.mono (by omega)) bf
    · -- not a start
      refine ⟨_, rfl, Nat.zero_le _, fun z nz => ?_⟩
      have s10 := same_new (o := .lst []) nz
      have z10 : (upd H9 z (.lst [])) z = some (.lst (([] : List Int).map .int)) := upd_same
      generalize upd H9 z (.lst []) = H10 at s10 z10 ⊢
      by_cases c1 : fr = []
      · refine ⟨dI fr, dI [], dp_ints (.of (s10 _ _ f9)), dp_ints (ns := []) (.of z10), shaped_ints _, shaped_ints _, false, neqF c1, ?_⟩
        refine ⟨_, rfl, Nat.zero_le _, fun z3 nz3 => ?_⟩
        have s11 := s10.trans (same_new (o := .lst []) nz3)
        have z11 : (upd H10 z3 (.lst [])) z3 = some (.lst (([] : List Int).map .int)) := upd_same
        generalize upd H10 z3 (.lst []) = H11 at s11 z11 ⊢
        refine ⟨dI ru, dI [], dp_ints (.of (s11 _ _ r9)), dp_ints (ns := []) (.of z11), shaped_ints _, shaped_ints _, ?_⟩
        by_cases c3 : ru = []
        · exact ⟨true, eqvT c3, q 0 _ (Nat.zero_le _) ((hs9.same s11).mono (by omega)) (b09.trans (.of s11))⟩
        · refine ⟨false, eqvF c3, ?_⟩
          obtain ⟨xa, xb, ma, mb, ea, eb⟩ := ends ru c3
          have rlp : 1 ≤ ru.length := List.length_pos_iff.mpr c3
          have hs11 := hs9.same s11
          have r11 := s11 _ _ r9
          have b11 := b09.trans (.of s11)
          refine ⟨_, rfl, D2, _, _, _, rfl, rfl, .of r11, ea, ?_⟩
          refine ⟨_, rfl, _, rfl, D2, _, _, _, rfl, rfl, .of r11, eb, ?_⟩
          refine ⟨_, rfl, _, rfl, _, rfl, D2, _, rfl, .inl (.of r11), src, _, _, rfl, hs11, by omega, by rw [List.length_map]; omega, by rw [List.length_map]; omega, fun j1 H12 j0 j1' hs12 b12 => ?_⟩
          rw [List.length_map] at j1'
          obtain ⟨xc, mc, ec⟩ := atI_ints (l := ru) j0 j1'
          have r12 := b12 _ _ nd2s.symm r11
          refine ⟨D2, _, _, _, rfl, rfl, .of r12, ec, ?_⟩
          refine ⟨by show 3 ≤ sizeLine; decide, fun L nL => ?_⟩
          have sL := same_new (o := .lst [.int xa, .int xb, .int xc]) nL
          have nLs : L ≠ src := hs12.ne nL
          refine ⟨_, rfl, src, 3, _, rfl, hs12.same sL, by omega, by decide, by decide, fun j2 H13 k0 k1 hs13 b13 => ?_⟩
          obtain ⟨x, hx, ex⟩ := at_dn (a := .int xa) (b := .int xb) (c := .int xc) k0 k1
          refine ⟨L, _, _, _, rfl, rfl, .of (b13 _ _ nLs upd_same), ex, ?_⟩
          have bf := ((b11.trans b12).trans (.of sL)).trans b13
          have neg : ∀ {x : Int}, x ∈ ru → ((0 : Int) - x).natAbs ≤ m := fun {x} hx => by
            have := bnd hx hru1
            omega
          rcases hx with rfl | rfl | rfl
          · exact ⟨_, _, rfl, rfl, q _ _ (neg ma) (hs13.mono (by omega)) bf⟩
          · exact ⟨_, _, rfl, rfl, q _ _ (neg mb) (hs13.mono (by omega)) bf⟩
          · exact ⟨_, _, rfl, rfl, q _ _ (neg mc) (hs13.mono (by omega)) bf⟩
      · have w2 : ¬ way < 2 := fun z => c ⟨c1, .inl z⟩
        have c3 : ru ≠ [] := fun z => c ⟨c1, .inr z⟩
        refine ⟨dI fr, dI [], dp_ints (.of (s10 _ _ f9)), dp_ints (ns := []) (.of z10), shaped_ints _, shaped_ints _, true, neqT c1, ?_⟩
        refine ⟨_, rfl, _, _, rfl, rfl, false, dF w2, ?_⟩
        refine ⟨_, rfl, Nat.zero_le _, fun z2 nz2 => ?_⟩
        have s10b := s10.trans (same_new (o := .lst []) nz2)
        have z10b : (upd H10 z2 (.lst [])) z2 = some (.lst (([] : List Int).map .int)) := upd_same
        generalize upd H10 z2 (.lst []) = H10b at s10b z10b ⊢
        refine ⟨dI ru, dI [], dp_ints (.of (s10b _ _ r9)), dp_ints (ns := []) (.of z10b), shaped_ints _, shaped_ints _, false, eqvF c3, ?_⟩
        refine ⟨_, rfl, Nat.zero_le _, fun z3 nz3 => ?_⟩
        have s11 := s10b.trans (same_new (o := .lst []) nz3)
        have z11 : (upd H10b z3 (.lst [])) z3 = some (.lst (([] : List Int).map .int)) := upd_same
        generalize upd H10b z3 (.lst []) = H11 at s11 z11 ⊢
        refine ⟨dI ru, dI [], dp_ints (.of (s11 _ _ r9)), dp_ints (ns := []) (.of z11), shaped_ints _, shaped_ints _, false, eqvF c3, ?_⟩
        obtain ⟨xa, xb, ma, mb, ea, eb⟩ := ends ru c3
        have rlp : 1 ≤ ru.length := List.length_pos_iff.mpr c3
        have hs11 := hs9.same s11
        have r11 := s11 _ _ r9
        have b11 := b09.trans (.of s11)
        refine ⟨_, rfl, D2, _, _, _, rfl, rfl, .of r11, ea, ?_⟩
        refine ⟨_, rfl, _, rfl, D2, _, _, _, rfl, rfl, .of r11, eb, ?_⟩
        refine ⟨_, rfl, _, rfl, _, rfl, D2, _, rfl, .inl (.of r11), src, _, _, rfl, hs11, by omega, by rw [List.length_map]; omega, by rw [List.length_map]; omega, fun j1 H12 j0 j1' hs12 b12 => ?_⟩
        rw [List.length_map] at j1'
        obtain ⟨xc, mc, ec⟩ := atI_ints (l := ru) j0 j1'
        have r12 := b12 _ _ nd2s.symm r11
        refine ⟨D2, _, _, _, rfl, rfl, .of r12, ec, ?_⟩
        refine ⟨by show 3 ≤ sizeLine; decide, fun L nL => ?_⟩
        have sL := same_new (o := .lst [.int xa, .int xb, .int xc]) nL
        have nLs : L ≠ src := hs12.ne nL
        refine ⟨_, rfl, src, 3, _, rfl, hs12.same sL, by omega, by decide, by decide, fun j2 H13 k0 k1 hs13 b13 => ?_⟩
        obtain ⟨x, hx, ex⟩ := at_dn (a := .int xa) (b := .int xb) (c := .int xc) k0 k1
        refine ⟨L, _, _, _, rfl, rfl, .of (b13 _ _ nLs upd_same), ex, ?_⟩
        have bf := ((b11.trans b12).trans (.of sL)).trans b13
        have neg : ∀ {x : Int}, x ∈ ru → ((0 : Int) - x).natAbs ≤ m := fun {x} hx => by
          have := bnd hx hru1
          omega
        rcases hx with rfl | rfl | rfl
        · exact ⟨_, _, rfl, rfl, q _ _ (neg ma) (hs13.mono (by omega)) bf⟩
        · exact ⟨_, _, rfl, rfl, q _ _ (neg mb) (hs13.mono (by omega)) bf⟩
        · exact ⟨_, _, rfl, rfl, q _ _ (neg mc) (hs13.mono (by omega)) bf⟩
end
end L25
set_option Elab.async false
set_option linter.all false
set_option maxRecDepth 100000
namespace L25
open PySem PySem.Spec PyProof.Rows L2 Lp
section
variable {CR CP CC CS CG : Addr} {H H' : Hp} {g r al ai ap aq : Addr} {ps : List Addr} {ks : List Nat} {I U S : List Int}
/-- a source is drawn from -/
theorem Liv.bt (h : Liv CR CP CC CS CG H g r al ai ap aq ps ks I U S) {src : Addr} {n : Nat} (hs : Src H src n) (b : Bt src H H') (n1 : src ≠ al) (n2 : src ≠ ai) (n3 : src ≠ ap) (n4 : src ≠ aq) : Liv CR CP CC CS CG H' g r al ai ap aq ps ks I U S := by
  obtain ⟨⟨⟨dg, hg⟩, hl⟩, ⟨⟨dr, hR⟩, hi, p0, q0, ip, iq, pq⟩, w, la, lp, lq, il, kl, pat⟩ := h
  obtain ⟨x, y, z, hx, _⟩ := hs
  have ni : ∀ {b : Addr} {C d : Addr} {fs : List (Str × V)}, H b = some (.ins C d fs) → b ≠ src := fun {b C d fs} e z => by rw [z, hx] at e; cases e
  exact ⟨⟨⟨dg, b _ _ (ni hg) hg⟩, b _ _ n1.symm hl⟩, ⟨⟨dr, b _ _ (ni hR) hR⟩, b _ _ n2.symm hi, b _ _ n3.symm p0, b _ _ n4.symm q0, ip, iq, pq⟩, w, la, lp, lq, il, kl, fun j p k' e1 e2 => by
    obtain ⟨C, dp, a, e⟩ := pat j p k' e1 e2
    exact ⟨C, dp, a, b _ _ (ni e) e⟩⟩
/-- another patch -/
theorem Liv.make (h : Liv CR CP CC CS CG H g r al ai ap aq ps ks I [] [0]) {p dp C : Addr} {k : Nat} {i : Int} (hp : H' p = some (.ins C dp (fP r ((ps.length : Int) + 1)))) (G : SetAt CG H' g r al (ps ++ [p])) (R : Rec CR H' r ai ap aq (I ++ [i]) [] [0]) (hK : Kind3 CP CC CS C k) (l : ps.length < 100)
    (keep : ∀ b o, b ≠ ai → b ≠ al → H b = some o → H' b = some o) : Liv CR CP CC CS CG H' g r al ai ap aq (ps ++ [p]) (ks ++ [k]) (I ++ [i]) [] [0] := by
  have il := h.il
  have kl := h.kl
  refine ⟨G, R, ⟨rfl, fun c hc => ?_, Nat.zero_le _, by rw [List.length_append]; show I.length + 1 ≤ 1000; omega⟩, h.la, h.lp, h.lq, by rw [List.length_append, List.length_append, il]; rfl, by rw [List.length_append, List.length_append, kl]; rfl, fun j q k' e1 e2 => ?_⟩
  · rw [List.mem_singleton.mp hc, List.length_append]
    exact ⟨Int.le_refl _, by show (0 : Int) < ((I.length + 1 : Nat) : Int); omega⟩
  · by_cases e : j < ps.length
    · rw [List.getElem?_append_left e] at e1
      rw [List.getElem?_append_left (by omega)] at e2
      obtain ⟨C', dp', a, b⟩ := h.pat j q k' e1 e2
      have ni : q ≠ ai ∧ q ≠ al := ⟨fun z => (by rw [z, h.rc.i] at b; cases b), fun z => (by rw [z, h.set.l] at b; cases b)⟩
      exact ⟨C', dp', a, keep _ _ ni.1 ni.2 b⟩
    · have ej : j = ps.length := by
        have := lt_get e1
        rw [List.length_append] at this
        have : j < ps.length + 1 := this
        omega
      subst ej
      rw [List.getElem?_append_right (Nat.le_refl _), Nat.sub_self] at e1
      rw [List.getElem?_append_right (by omega)] at e2
      have e3 : ps.length - ks.length = 0 := by omega
      rw [e3] at e2
      cases e1
      cases e2
      exact ⟨C, dp, hK, hp⟩
end
theorem at_st {s w : Int} (h0 : 0 ≤ s) (h1 : s ≤ 3) (w0 : 0 ≤ w) (w1 : w < 3) : ∃ k : Nat, k < 3 ∧ (s < 3 → (k : Int) = s) ∧ atI [V.int 0, .int 1, .int 2, .int w] s = some (.int (k : Int)) := by
  have : s = 0 ∨ s = 1 ∨ s = 2 ∨ s = 3 := by omega
  rcases this with rfl | rfl | rfl | rfl
  · exact ⟨0, by decide, fun _ => rfl, at0⟩
  · exact ⟨1, by decide, fun _ => rfl, at1⟩
  · exact ⟨2, by decide, fun _ => rfl, at2⟩
  · exact ⟨w.toNat, by omega, fun z => absurd z (by decide), (atI_nat (j := 3) rfl).trans (by rw [show ((w.toNat : Nat) : Int) = w by omega])⟩
theorem at_four {j a b c d : Int} {q : Int → Prop} (h0 : 0 ≤ j) (h1 : j < 4) (ha : q a) (hb : q b) (hc : q c) (hd : q d) : ∃ x, q x ∧ atI [V.int a, .int b, .int c, .int d] j = some (.int x) := by
  have : j = 0 ∨ j = 1 ∨ j = 2 ∨ j = 3 := by omega
  rcases this with rfl | rfl | rfl | rfl
  · exact ⟨a, ha, at0⟩
  · exact ⟨b, hb, at1⟩
  · exact ⟨c, hc, at2⟩
  · exact ⟨d, hd, atI_nat (j := 3) rfl⟩
theorem at_word {k : Nat} (h : k < 3) : atI [V.str "patch", .str "careful", .str "strict"] (k : Int) = some (wordV k) := by
  match k, h with
  | 0, _ => exact at0
  | 1, _ => exact at1
  | 2, _ => exact at2
section
variable {P : Program} {w : World} {K : PySem.W.Frag} {mg : Str → Option Value} {base : Heap} {CR CP CC CS CG eF eE eS eR eO : Addr}
/-! ### patches made -/
def spMade (CR CP CC CS CG : Addr) : Sp := fun vs H Q _ => ∃ (src g r al ai ap aq : Addr) (n m : Nat) (s i0 : Int), vs = [.ref src, .ref g, .int (m : Int), .int s] ∧ Src H src n ∧ n + 6 * m ≤ 900000 ∧ m ≤ 100 ∧ 0 ≤ s ∧ s ≤ 3 ∧ Liv CR CP CC CS CG H g r al ai ap aq [] [] [i0] [] [0] ∧ src ≠ al ∧ src ≠ ai ∧ src ≠ ap ∧ src ≠ aq ∧
  ∀ t a b c ps ks I H', H' t = some (.tup [.ref a, .ref b, .ref c]) → H' a = some (.lst (ps.map .ref)) → H' b = some (.lst (ks.map wordV)) → H' c = some (.lst (I.map .int)) → Liv CR CP CC CS CG H' g r al ai ap aq ps ks I [] [0] → ps.length = m → (∀ k ∈ ks, k < 3) → (s < 3 → ∀ k ∈ ks, (k : Int) = s) → I[0]? = some i0 →
    Src H' src (n + 6 * m) → (∀ x o, x ≠ src → x ≠ ai → x ≠ al → H x = some o → H' x = some o) → H t = none → H a = none → H b = none → H c = none → Q (.ref t) H'
theorem ok_law_made {f : Addr} {fd : FuncData} (F : Fun K "_law_made" "_law_made" s_law_made f fd) (B : NoB mg) (T_law_draw : Cal P w K mg base 1 "_law_draw" spDraw) (T_Setting_integer : PrpV P w K mg base 2 (Is CG) "integer" (spGInt CR CG)) (T_Setting_patch : MetV P w K mg base 6 (Is CG) "patch" (spMake CR CG eF CP)) (T_Setting_careful : MetV P w K mg base 6 (Is CG) "careful" (spMake CR CG eF CC)) (T_K_Setting_strict : MetVK P w K mg base 6 (Is CG) "strict" 1 ["number"] (fun a b => a ++ b) (spMake CR CG eF CS)) :
    FnOk P w K mg base CX0 7 f fd ["source", "one", "most", "style"] (spMade CR CP CC CS CG) := by
  refine F.ok sc_law_made (fun vs H Q E h => ?_) (fun cdv A outer s H vs Q E hr h => ?_)
  · obtain ⟨src, g, r, al, ai, ap, aq, n, m, s, i0, rfl, _⟩ := h
    rfl
  · obtain ⟨src, g, r, al, ai, ap, aq, n, m, s, i0, rfl, hs, hn, hm, s0, s3, L, d1, d2, d3, d4, q⟩ := h
    refine ⟨_, (pss_cons (ps_par3 (i := 4) (j := 5) (l := 6) (by rfl) sc_law_made.nd rfl rfl rfl (by decide) (by decide) (by decide) rfl rfl rfl (pa_cons (pe_lst pa_nil) (pa_cons (pe_lst pa_nil) (pa_cons (pe_lst (pa_cons (pe_pV T_Setting_integer hr (by decide) (pv 1)) pa_nil)) pa_nil))) (by rfl))
        (pss_cons (ps_for PassesOwn.never rfl (pi_range1 rfl B.range (pa_cons (pv 2) pa_nil)) (pg_name (i := 7) sc_law_made.nd rfl (Or.inl rfl))
          (pss_cons (ps_set (i := 8) sc_law_made.nd rfl (Or.inl rfl) (pe_ix ix_list (pe_lst (pa_cons pe_int (pa_cons pe_int (pa_cons pe_int (pa_cons (pe_c T_law_draw hr (by decide) (by rfl) (pa_cons (pv 0) (pa_cons pe_int pa_nil))) pa_nil))))) (pv 3) (fun _ _ => rfl)))
          (pss_cons (ps_set (i := 9) sc_law_made.nd rfl (Or.inl rfl) (pe_lst (pa_cons (pe_c T_law_draw hr (by decide) (by rfl) (pa_cons (pv 0) (pa_cons pe_int pa_nil))) (pa_cons (pe_op op_sub (pe_op op_powW pe_int pe_int) (pe_c T_law_draw hr (by decide) (by rfl) (pa_cons (pv 0) (pa_cons pe_int pa_nil)))) (pa_cons (pe_op op_sub pe_int (pe_c T_law_draw hr (by decide) (by rfl) (pa_cons (pv 0) (pa_cons (pe_op op_powW pe_int pe_int) pa_nil)))) (pa_cons (pe_op op_add (pv 7) pe_int) pa_nil))))))
          (pss_cons (ps_set (i := 9) sc_law_made.nd rfl (Or.inl rfl) (pe_ix ix_list (pv 9) (pe_c T_law_draw hr (by decide) (by rfl) (pa_cons (pv 0) (pa_cons pe_int pa_nil))) (fun _ _ => rfl)))
          (Evl.pss_cut (ps_if (pt_cmpR op_eq (pv 8) pe_int (nomark _)) (pss_one (ps_expr (pe_bm PySem.F.plainAttrs_list PySem.F.slot_list_append PySem.F.type_list_append mt_append (pv 4) (pa_cons (pe_mV T_Setting_patch hr (by decide) takesN (pv 1) (pa_cons (pv 9) pa_nil)) pa_nil)))) (pss_one (ps_if (pt_cmpR op_eq (pv 8) pe_int (nomark _)) (pss_one (ps_expr (pe_bm PySem.F.plainAttrs_list PySem.F.slot_list_append PySem.F.type_list_append mt_append (pv 4) (pa_cons (pe_mV T_Setting_careful hr (by decide) takesN (pv 1) (pa_cons (pv 9) pa_nil)) pa_nil)))) (pss_one (ps_expr (pe_bm PySem.F.plainAttrs_list PySem.F.slot_list_append PySem.F.type_list_append mt_append (pv 4) (pa_cons (pe_mVK T_K_Setting_strict hr (by decide) takesN (pv 1) (pk_cons (pv 9) pk_nil)) pa_nil)))))))
          (pss_cons (ps_expr (pe_bm PySem.F.plainAttrs_list PySem.F.slot_list_append PySem.F.type_list_append mt_append (pv 5) (pa_cons (pe_ix ix_list (pe_lst (pa_cons pe_str (pa_cons pe_str (pa_cons pe_str pa_nil)))) (pv 8) (fun _ _ => rfl)) pa_nil)))
          (pss_one (ps_expr (pe_bm PySem.F.plainAttrs_list PySem.F.slot_list_append PySem.F.type_list_append mt_append (pv 6) (pa_cons (pv 9) pa_nil))))))))))
        (pss_one (ps_ret (pe_tup (pa_cons (pv 4) (pa_cons (pv 5) (pa_cons (pv 6) pa_nil)))))))), ?_⟩
    obtain ⟨dg, hg⟩ := L.set.g
    refine ⟨Nat.zero_le _, fun a na => ?_⟩
    have sa := same_new (o := .lst []) na
    have a1 : (upd H a (.lst [])) a = some (.lst (([] : List Addr).map .ref)) := upd_same
    generalize upd H a (.lst []) = H1 at sa a1 ⊢
    refine ⟨Nat.zero_le _, fun b nb => ?_⟩
    have sb := sa.trans (same_new (o := .lst []) nb)
    have a2 := same_new (o := .lst []) nb _ _ a1
    have b2 : (upd H1 b (.lst [])) b = some (.lst (([] : List Nat).map wordV)) := upd_same
    have nbH := sa.free nb
    generalize upd H1 b (.lst []) = H2 at sb a2 b2 ⊢
    have L2' := L.same sb
    refine ⟨_, rfl, g, CG, dg, _, rfl, rfl, sb _ _ hg, g, r, al, ai, ap, aq, [], [i0], [], [0], rfl, L2'.set, L2'.rc, L2'.wf, ?_⟩
    refine ⟨by show 1 ≤ sizeLine; decide, fun c nc => ?_⟩
    have e0 : vI [i0] (lastI [0]) = i0 := rfl
    rw [e0]
    have sc := sb.trans (same_new (o := .lst [.int i0]) nc)
    have a3 := same_new (o := .lst [.int i0]) nc _ _ a2
    have b3 := same_new (o := .lst [.int i0]) nc _ _ b2
    have c3 : (upd H2 c (.lst [.int i0])) c = some (.lst ([i0].map .int)) := upd_same
    have ncH := sb.free nc
    generalize upd H2 c (.lst [.int i0]) = H3 at sc a3 b3 c3 ⊢
    have nab : a ≠ b := fun z => by rw [← z] at nb; rw [a1] at nb; cases nb
    have nac : a ≠ c := fun z => by rw [← z] at nc; rw [a2] at nc; cases nc
    have nbc : b ≠ c := fun z => by rw [← z] at nc; rw [b2] at nc; cases nc
    have fresh : ∀ {z x : Addr} {o : HO}, H z = none → H x = some o → z ≠ x := fun {z x o} h1 h2 e => by rw [e, h2] at h1; cases h1
    obtain ⟨sx, sy, sz, hsx, _⟩ := id hs
    have hal := L.set.l
    have hai := L.rc.i
    have L3 := L.same sc
    have nax : ∀ {x : Addr} {o : HO}, H x = some o → a ≠ x := fun {x o} e => fresh na e
    have nbx : ∀ {x : Addr} {o : HO}, H x = some o → b ≠ x := fun {x o} e => fresh nbH e
    have ncx : ∀ {x : Addr} {o : HO}, H x = some o → c ≠ x := fun {x o} e => fresh ncH e
    have hap := L.rc.p
    have haq := L.rc.q
    refine ⟨_, _, _, rfl, _, rfl, _, rfl, by omega, by omega, ?_⟩
    have Iat : ∀ {ps : List Addr} {ks : List Nat} {I : List Int} {H' : Hp}, Liv CR CP CC CS CG H' g r al ai ap aq ps ks I [] [0] → ∃ dg, H' g = some (.ins CG dg (fG r al)) := fun {ps ks I H'} h => h.set.g
    refine for_range (lo := 0) (n := ((m : Int)).toNat) (fun i σ H' => (∃ y7 y8 y9, σ = [some (.ref src), some (.ref g), some (.int (m : Int)), some (.int s), some (.ref a), some (.ref b), some (.ref c), y7, y8, y9]) ∧ ∃ (ps : List Addr) (ks : List Nat) (I : List Int), ps.length = i ∧ Liv CR CP CC CS CG H' g r al ai ap aq ps ks I [] [0] ∧ H' a = some (.lst (ps.map .ref)) ∧ H' b = some (.lst (ks.map wordV)) ∧ H' c = some (.lst (I.map .int)) ∧
      (∀ k ∈ ks, k < 3 ∧ (s < 3 → (k : Int) = s)) ∧ I[0]? = some i0 ∧ Src H' src (n + 6 * i) ∧ (∀ x o, x ≠ src → x ≠ ai → x ≠ al → H x = some o → H' x = some o)) ⟨⟨_, _, _, rfl⟩, [], [], [i0], rfl, L3, a3, b3, c3, (fun k hk => nomatch hk), rfl, hs.same sc, fun x o _ _ _ e => sc _ _ e⟩ (fun i σ H4 hi h => ?_) (fun σ H4 h => ?_)
    · obtain ⟨⟨y7, y8, y9, rfl⟩, ps, ks, I, pl, L4, a4, b4, c4, hks, hI, hs4, kp⟩ := h
      have im : i < m := by omega
      have kl := L4.kl
      have il := L4.il
      -- the way
      refine ⟨_, rfl, src, 3, _, rfl, hs4, by omega, by decide, by decide, fun r1 H5 r10 r11 hs5 b5 => ?_⟩
      have L5 := L4.bt hs4 b5 d1 d2 d3 d4
      have nas := nax hsx
      have nbs := nbx hsx
      have ncs := ncx hsx
      have a5 := b5 _ _ nas a4
      have b5' := b5 _ _ nbs b4
      have c5 := b5 _ _ ncs c4
      have kp5 : ∀ x o, x ≠ src → x ≠ ai → x ≠ al → H x = some o → H5 x = some o := fun x o n1 n2 n3 e => b5 _ _ n1 (kp x o n1 n2 n3 e)
      refine ⟨by show 4 ≤ sizeLine; decide, fun z nz => ?_⟩
      have s6 := same_new (o := .lst [.int 0, .int 1, .int 2, .int r1]) nz
      obtain ⟨k, k3, ks', ek⟩ := at_st s0 s3 r10 r11
      refine ⟨_, rfl, z, _, s, _, rfl, rfl, .of upd_same, ek, ?_⟩
      have L6 := L5.same s6
      have hs6 := hs5.same s6
      have a6 := s6 _ _ a5
      have b6 := s6 _ _ b5'
      have c6 := s6 _ _ c5
      have kp6 : ∀ x o, x ≠ src → x ≠ ai → x ≠ al → H x = some o → (upd H5 z (.lst [.int 0, .int 1, .int 2, .int r1])) x = some o := fun x o n1 n2 n3 e => s6 _ _ (kp5 x o n1 n2 n3 e)
      generalize upd H5 z (.lst [.int 0, .int 1, .int 2, .int r1]) = H6 at L6 hs6 a6 b6 c6 kp6 ⊢
      clear kp5 L5 a5 b5' c5 s6 hs5 b5 kp L4 a4 b4 c4 hs4
      -- the integer
      have p1 : CPowW 10 30 := powW_ok (n := 4) (by decide) (by decide) (by decide)
      have p2 : CPowW 10 9 := powW_ok (n := 4) (by decide) (by decide) (by decide)
      have e30 : (10 : Int) ^ (30 : Int).toNat = T30 := by decide +kernel
      have e9 : (10 : Int) ^ (9 : Int).toNat = 1000000000 := by decide +kernel
      have draw : ∀ (H6 H7 : Hp) (k6 : Nat), Src H6 src k6 → Bt src H6 H7 → Liv CR CP CC CS CG H6 g r al ai ap aq ps ks I [] [0] ∧ H6 a = some (.lst (ps.map .ref)) ∧ H6 b = some (.lst (ks.map wordV)) ∧ H6 c = some (.lst (I.map .int)) ∧ (∀ x o, x ≠ src → x ≠ ai → x ≠ al → H x = some o → H6 x = some o) →
          Liv CR CP CC CS CG H7 g r al ai ap aq ps ks I [] [0] ∧ H7 a = some (.lst (ps.map .ref)) ∧ H7 b = some (.lst (ks.map wordV)) ∧ H7 c = some (.lst (I.map .int)) ∧ (∀ x o, x ≠ src → x ≠ ai → x ≠ al → H x = some o → H7 x = some o) := fun H6 H7 k6 h b ⟨l, e1, e2, e3, kp⟩ => ⟨l.bt h b d1 d2 d3 d4, b _ _ nas e1, b _ _ nbs e2, b _ _ ncs e3, fun x o n1 n2 n3 e => b _ _ n1 (kp x o n1 n2 n3 e)⟩
      have W6 := And.intro L6 (And.intro a6 (And.intro b6 (And.intro c6 kp6)))
      clear L6 a6 b6 c6 kp6
      refine ⟨_, rfl, src, 5, _, rfl, hs6, by omega, by decide, by decide, fun v1 H7 v10 v11 hs7 b7 => ?_⟩
      have W7 := draw _ _ _ hs6 b7 W6
      refine ⟨_, _, rfl, rfl, p1, _, rfl, src, 9, _, rfl, hs7, by omega, by decide, by decide, fun v2 H8 v20 v21 hs8 b8 => ?_⟩
      have W8 := draw _ _ _ hs7 b8 W7
      refine ⟨_, _, rfl, rfl, ?_⟩
      rw [e30]
      refine ⟨_, rfl, _, _, rfl, rfl, p2, src, _, _, rfl, hs8, by omega, by rw [e9]; decide, by rw [e9]; decide, fun v3 H9 v30 v31 hs9 b9 => ?_⟩
      rw [e9] at v31
      have W9 := draw _ _ _ hs8 b9 W8
      refine ⟨_, _, rfl, rfl, ?_⟩
      refine ⟨_, rfl, _, _, rfl, rfl, by show 4 ≤ sizeLine; decide, fun z2 nz2 => ?_⟩
      have s10 := same_new (o := .lst [.int v1, .int (T30 - v2), .int (0 - v3), .int (0 + (i : Int) + 1)]) nz2
      have z10 : (upd H9 z2 (.lst [.int v1, .int (T30 - v2), .int (0 - v3), .int (0 + (i : Int) + 1)])) z2 = some (.lst [.int v1, .int (T30 - v2), .int (0 - v3), .int (0 + (i : Int) + 1)]) := upd_same
      have hs10 := hs9.same s10
      have nz2s : z2 ≠ src := hs9.ne nz2
      have W10 : Liv CR CP CC CS CG (upd H9 z2 (.lst [.int v1, .int (T30 - v2), .int (0 - v3), .int (0 + (i : Int) + 1)])) g r al ai ap aq ps ks I [] [0] ∧ (upd H9 z2 (.lst [.int v1, .int (T30 - v2), .int (0 - v3), .int (0 + (i : Int) + 1)])) a = some (.lst (ps.map .ref)) ∧ (upd H9 z2 (.lst [.int v1, .int (T30 - v2), .int (0 - v3), .int (0 + (i : Int) + 1)])) b = some (.lst (ks.map wordV)) ∧ (upd H9 z2 (.lst [.int v1, .int (T30 - v2), .int (0 - v3), .int (0 + (i : Int) + 1)])) c = some (.lst (I.map .int)) ∧ (∀ x o, x ≠ src → x ≠ ai → x ≠ al → H x = some o → (upd H9 z2 (.lst [.int v1, .int (T30 - v2), .int (0 - v3), .int (0 + (i : Int) + 1)])) x = some o) :=
        ⟨W9.1.same s10, s10 _ _ W9.2.1, s10 _ _ W9.2.2.1, s10 _ _ W9.2.2.2.1, fun x o n1 n2 n3 e => s10 _ _ (W9.2.2.2.2 x o n1 n2 n3 e)⟩
      generalize upd H9 z2 (.lst [.int v1, .int (T30 - v2), .int (0 - v3), .int (0 + (i : Int) + 1)]) = H10 at s10 z10 hs10 W10 ⊢
      refine ⟨_, rfl, _, rfl, src, 4, _, rfl, hs10, by omega, by decide, by decide, fun v4 H11 v40 v41 hs11 b11 => ?_⟩
      have W11 := draw _ _ _ hs10 b11 W10
      have t30 : T30 = 1000000000000000000000000000000 := rfl
      obtain ⟨v, hv, ev⟩ := at_four (q := Ok30) (a := v1) (b := T30 - v2) (c := 0 - v3) (d := 0 + (i : Int) + 1) v40 v41 ⟨by show -T30 ≤ v1; omega, by show v1 ≤ T30; omega⟩ ⟨by show -T30 ≤ T30 - v2; omega, by show T30 - v2 ≤ T30; omega⟩ ⟨by show -T30 ≤ 0 - v3; omega, by show 0 - v3 ≤ T30; omega⟩ ⟨by show -T30 ≤ 0 + (i : Int) + 1; omega, by show 0 + (i : Int) + 1 ≤ T30; omega⟩
      refine ⟨z2, _, _, _, rfl, rfl, .of (b11 _ _ nz2s z10), ev, ?_⟩
      clear s10 z10 hs10 W10 W9 W8 W7 W6 draw b11 b9 b8 b7 hs9 hs8 hs7 hs6
      obtain ⟨L11, a11, b11, c11, kp11⟩ := W11
      -- made
      obtain ⟨dg', hg'⟩ := L11.set.g
      have nai : a ≠ ai := nax hai
      have nal : a ≠ al := nax hal
      have nbi : b ≠ ai := nbx hai
      have nbl : b ≠ al := nbx hal
      have nci : c ≠ ai := ncx hai
      have ncl : c ≠ al := ncx hal
      refine ⟨fun σ' H' => σ' = [some (.ref src), some (.ref g), some (.int (m : Int)), some (.int s), some (.ref a), some (.ref b), some (.ref c), some (.int (0 + (i : Int))), some (.int (k : Int)), some (.int v)] ∧ ∃ p, Liv CR CP CC CS CG H' g r al ai ap aq (ps ++ [p]) (ks ++ [k]) (I ++ [v]) [] [0] ∧ H' a = some (.lst ((ps ++ [p]).map .ref)) ∧ H' b = some (.lst (ks.map wordV)) ∧ H' c = some (.lst (I.map .int)) ∧ Src H' src (n + 6 * i + 5) ∧ (∀ x o, x ≠ src → x ≠ ai → x ≠ al → H x = some o → H' x = some o), ?_, fun σ' H' h => ?_⟩
      · have made : ∀ C, Kind3 CP CC CS C k → ∀ p dp H', H11 p = none → H' p = some (.ins C dp (fP r ((ps.length : Int) + 1))) → SetAt CG H' g r al (ps ++ [p]) → Rec CR H' r ai ap aq (I ++ [v]) [] [0] → (∀ b o, b ≠ ai → b ≠ al → H11 b = some o → H' b = some o) →
            H' a = some (.lst (ps.map .ref)) ∧ ∀ H'', H'' = upd H' a (.lst (ps.map V.ref ++ [V.ref p])) → ∃ p, Liv CR CP CC CS CG H'' g r al ai ap aq (ps ++ [p]) (ks ++ [k]) (I ++ [v]) [] [0] ∧ H'' a = some (.lst ((ps ++ [p]).map .ref)) ∧ H'' b = some (.lst (ks.map wordV)) ∧ H'' c = some (.lst (I.map .int)) ∧ Src H'' src (n + 6 * i + 5) ∧ (∀ x o, x ≠ src → x ≠ ai → x ≠ al → H x = some o → H'' x = some o) := fun C hK p dp H' np hp G R keep => by
          have aH := keep _ _ nai nal a11
          refine ⟨aH, fun H'' e => ⟨p, ?_⟩⟩
          have er : ps.map V.ref ++ [V.ref p] = (ps ++ [p]).map V.ref := by rw [List.map_append]; rfl
          rw [er] at e
          subst e
          have LM := L11.make hp G R hK (by omega) keep
          have nra : ∀ {y : Addr} {o : HO}, H' y = some o → (∀ l, o ≠ .lst l) → y ≠ a := fun {y o} e n z => by rw [z, aH] at e; exact n _ (Option.some.inj e).symm
          obtain ⟨⟨⟨dgM, hgM⟩, hlM⟩, ⟨⟨drM, hRM⟩, hiM, hpM, hqM, ip, iq, pq⟩, w, la, lp, lq, il', kl', pat⟩ := LM
          have nap : a ≠ ap := nax hap
          have naq : a ≠ aq := nax haq
          refine ⟨⟨⟨⟨dgM, by rw [upd_ne (nra hgM fun l z => nomatch z)]; exact hgM⟩, by rw [upd_ne nal.symm]; exact hlM⟩, ⟨⟨drM, by rw [upd_ne (nra hRM fun l z => nomatch z)]; exact hRM⟩, by rw [upd_ne nai.symm]; exact hiM, by rw [upd_ne nap.symm]; exact hpM, by rw [upd_ne naq.symm]; exact hqM, ip, iq, pq⟩, w, la, lp, lq, il', kl', fun j q k' e1 e2 => ?_⟩, upd_same, by rw [upd_ne nab.symm]; exact keep _ _ nbi nbl b11, by rw [upd_ne nac.symm]; exact keep _ _ nci ncl c11, ?_, fun x o n1 n2 n3 e => ?_⟩
          · obtain ⟨C', dp', k1, k2⟩ := pat j q k' e1 e2
            exact ⟨C', dp', k1, by rw [upd_ne (nra k2 fun l z => nomatch z)]; exact k2⟩
          · obtain ⟨u1, u2, u3, h1, h2⟩ := hs11
            exact ⟨u1, u2, u3, by rw [upd_ne nas.symm]; exact keep _ _ d2 d1 h1, h2⟩
          · have xa : x ≠ a := fun z => by rw [z, na] at e; cases e
            rw [upd_ne xa]
            exact keep _ _ n2 n3 (kp11 x o n1 n2 n3 e)
        have len : (ps.map V.ref).length < sizeLine := by rw [List.length_map]; exact zl (by omega)
        have full : ¬ ps.length = 100 := by omega
        match k, k3, made, ek, ks' with
        | 0, _, made, _, _ =>
          refine ⟨_, rfl, rfl, true, dT rfl, ?_⟩
          refine ⟨_, rfl, .inl ⟨rfl, _, .of a11⟩, _, rfl, g, CG, dg', _, rfl, rfl, hg', lkG _ _ (by decide +kernel), _, rfl, g, r, al, ai, ap, aq, ps, I, [], [0], v, rfl, L11.set, L11.rc, hv, by omega, by omega, L11.la, L11.lp, L11.lq, fun _ p dp H' np hp G R keep => ?_, fun z => absurd z full⟩
          obtain ⟨aH, fin⟩ := made CP (.inl ⟨rfl, rfl⟩) p dp H' np hp G R keep
          exact ⟨a, _, _, rfl, rfl, aH, len, rfl, fin _ rfl⟩
        | 1, _, made, _, _ =>
          refine ⟨_, rfl, rfl, false, dF (vne (by decide)), ?_⟩
          refine ⟨_, rfl, rfl, true, dT rfl, ?_⟩
          refine ⟨_, rfl, .inl ⟨rfl, _, .of a11⟩, _, rfl, g, CG, dg', _, rfl, rfl, hg', lkG _ _ (by decide +kernel), _, rfl, g, r, al, ai, ap, aq, ps, I, [], [0], v, rfl, L11.set, L11.rc, hv, by omega, by omega, L11.la, L11.lp, L11.lq, fun _ p dp H' np hp G R keep => ?_, fun z => absurd z full⟩
          obtain ⟨aH, fin⟩ := made CC (.inr (.inl ⟨rfl, rfl⟩)) p dp H' np hp G R keep
          exact ⟨a, _, _, rfl, rfl, aH, len, rfl, fin _ rfl⟩
        | 2, _, made, _, _ =>
          refine ⟨_, rfl, rfl, false, dF (vne (by decide)), ?_⟩
          refine ⟨_, rfl, rfl, false, dF (vne (by decide)), ?_⟩
          refine ⟨_, rfl, .inl ⟨rfl, _, .of a11⟩, _, rfl, g, CG, dg', _, rfl, rfl, hg', lkG _ _ (by decide +kernel), _, rfl, rfl, g, r, al, ai, ap, aq, ps, I, [], [0], v, rfl, L11.set, L11.rc, hv, by omega, by omega, L11.la, L11.lp, L11.lq, fun _ p dp H' np hp G R keep => ?_, fun z => absurd z full⟩
          obtain ⟨aH, fin⟩ := made CS (.inr (.inr ⟨rfl, rfl⟩)) p dp H' np hp G R keep
          exact ⟨a, _, _, rfl, rfl, aH, len, rfl, fin _ rfl⟩
      · obtain ⟨rfl, p, LM, aM, bM, cM, hsM, kpM⟩ := h
        have nbp := nbx hap
        refine ⟨_, rfl, .inl ⟨rfl, _, .of bM⟩, by show 3 ≤ sizeLine; decide, fun z nz => ?_⟩
        have sz := same_new (o := .lst [.str "patch", .str "careful", .str "strict"]) nz
        refine ⟨_, rfl, z, _, _, _, rfl, rfl, .of upd_same, at_word k3, ?_⟩
        have LZ := LM.same sz
        have aZ := sz _ _ aM
        have bZ := sz _ _ bM
        have cZ := sz _ _ cM
        have hsZ := hsM.same sz
        have kpZ : ∀ x o, x ≠ src → x ≠ ai → x ≠ al → H x = some o → (upd H' z (.lst [.str "patch", .str "careful", .str "strict"])) x = some o := fun x o n1 n2 n3 e => sz _ _ (kpM x o n1 n2 n3 e)
        generalize upd H' z (.lst [.str "patch", .str "careful", .str "strict"]) = HZ at LZ aZ bZ cZ hsZ kpZ ⊢
        refine ⟨b, _, _, rfl, rfl, bZ, zl (by rw [List.length_map]; omega), ?_⟩
        have ew : ks.map wordV ++ [wordV k] = (ks ++ [k]).map wordV := by rw [List.map_append]; rfl
        rw [ew]
        -- a list that is none of the setting's is changed
        have other : ∀ {H : Hp} {ps : List Addr} {ks : List Nat} {I : List Int} {x : Addr} {l l' : List V}, Liv CR CP CC CS CG H g r al ai ap aq ps ks I [] [0] → H x = some (.lst l) → x ≠ al → x ≠ ai → x ≠ ap → x ≠ aq → Liv CR CP CC CS CG (upd H x (.lst l')) g r al ai ap aq ps ks I [] [0] := fun {H ps ks I x l l'} h e n1 n2 n3 n4 => by
          obtain ⟨⟨⟨dgM, hgM⟩, hlM⟩, ⟨⟨drM, hRM⟩, hiM, hpM, hqM, ip, iq, pq⟩, w, la, lp, lq, il', kl', pat⟩ := h
          have nra : ∀ {y : Addr} {o : HO}, H y = some o → (∀ l, o ≠ .lst l) → y ≠ x := fun {y o} e' n z => by rw [z, e] at e'; exact n _ (Option.some.inj e').symm
          refine ⟨⟨⟨dgM, by rw [upd_ne (nra hgM fun l z => nomatch z)]; exact hgM⟩, by rw [upd_ne n1.symm]; exact hlM⟩, ⟨⟨drM, by rw [upd_ne (nra hRM fun l z => nomatch z)]; exact hRM⟩, by rw [upd_ne n2.symm]; exact hiM, by rw [upd_ne n3.symm]; exact hpM, by rw [upd_ne n4.symm]; exact hqM, ip, iq, pq⟩, w, la, lp, lq, il', kl', fun j q k' e1 e2 => ?_⟩
          obtain ⟨C', dp', k1, k2⟩ := pat j q k' e1 e2
          exact ⟨C', dp', k1, by rw [upd_ne (nra k2 fun l z => nomatch z)]; exact k2⟩
        have LB := other (l' := (ks ++ [k]).map wordV) LZ bZ nbl nbi nbp (nbx haq)
        have aB : (upd HZ b (.lst ((ks ++ [k]).map wordV))) a = some (.lst ((ps ++ [p]).map .ref)) := by rw [upd_ne nab]; exact aZ
        have bB : (upd HZ b (.lst ((ks ++ [k]).map wordV))) b = some (.lst ((ks ++ [k]).map wordV)) := upd_same
        have cB : (upd HZ b (.lst ((ks ++ [k]).map wordV))) c = some (.lst (I.map .int)) := by rw [upd_ne nbc.symm]; exact cZ
        have hsB := hsZ.upd (o := .lst ((ks ++ [k]).map wordV)) nbs
        have kpB : ∀ x o, x ≠ src → x ≠ ai → x ≠ al → H x = some o → (upd HZ b (.lst ((ks ++ [k]).map wordV))) x = some o := fun x o n1 n2 n3 e => by
          rw [upd_ne (fun z => by rw [z, nbH] at e; cases e)]
          exact kpZ x o n1 n2 n3 e
        generalize upd HZ b (.lst ((ks ++ [k]).map wordV)) = HB at LB aB bB cB hsB kpB ⊢
        refine ⟨_, rfl, .inl ⟨rfl, _, .of cB⟩, _, rfl, c, _, _, rfl, rfl, cB, zl (by rw [List.length_map]; omega), ?_⟩
        rw [snocI]
        have LC := other (l' := (I ++ [v]).map V.int) LB cB ncl nci (ncx hap) (ncx haq)
        refine ⟨⟨_, _, _, rfl⟩, ps ++ [p], ks ++ [k], I ++ [v], by rw [List.length_append, pl]; rfl, LC, by rw [upd_ne nac]; exact aB, by rw [upd_ne nbc]; exact bB, upd_same, fun k' hk' => ?_, ?_, (hsB.upd ncs).mono (by omega), fun x o n1 n2 n3 e => ?_⟩
        · rcases List.mem_append.mp hk' with hk' | hk'
          · exact hks k' hk'
          · rw [List.mem_singleton.mp hk']
            exact ⟨k3, ks'⟩
        · rw [List.getElem?_append_left (by omega)]
          exact hI
        · rw [upd_ne (fun z => by rw [z, ncH] at e; cases e)]
          exact kpB x o n1 n2 n3 e
    · obtain ⟨⟨y7, y8, y9, rfl⟩, ps, ks, I, pl, L4, a4, b4, c4, hks, hI, hs4, kp⟩ := h
      have pm : ps.length = m := by omega
      refine ⟨_, rfl, _, rfl, _, rfl, by show 3 ≤ sizeLine; decide, fun T nT => ?_⟩
      have st := same_new (o := .tup [.ref a, .ref b, .ref c]) nT
      have e6 : ((m : Int)).toNat = m := by omega
      rw [e6] at hs4
      have nTH : H T = none := by
        cases z : H T with
        | none => rfl
        | some o =>
          by_cases t1 : T = src
          · obtain ⟨_, _, _, hx, _⟩ := hs4
            rw [t1, hx] at nT
            cases nT
          · by_cases t2 : T = ai
            · rw [t2, L4.rc.i] at nT; cases nT
            · by_cases t3 : T = al
              · rw [t3, L4.set.l] at nT; cases nT
              · rw [kp T o t1 t2 t3 z] at nT; cases nT
      exact q T a b c ps ks I _ upd_same (st _ _ a4) (st _ _ b4) (st _ _ c4) (L4.same st) pm (fun k hk => (hks k hk).1) (fun z k hk => (hks k hk).2 z) hI (hs4.same st) (fun x o n1 n2 n3 e => st _ _ (kp x o n1 n2 n3 e)) nTH na nbH ncH
end
end L25
set_option Elab.async false
set_option linter.all false
set_option maxRecDepth 100000
namespace L25
open PySem PySem.Spec PyProof.Rows L2 Lp
/-! ### what the patches tell -/
def wordD (k : Nat) : List PyData := if k = 1 then [.str "careful"] else if k = 2 then [.str "strict"] else []
theorem dp_word {K : PySem.W.Frag} {H : Hp} (k : Nat) : DpAll K H (wordK k) (wordD k) := by
  unfold wordK wordD
  split
  · exact .cons (.str _) .nil
  · split
    · exact .cons (.str _) .nil
    · exact .nil
theorem wordK_len (k : Nat) : (wordK k).length ≤ 1 := by
  unfold wordK
  split
  · exact Nat.le_refl _
  · split
    · exact Nat.le_refl _
    · exact Nat.zero_le _
theorem okD_word (n : Nat) (k : Nat) : ∀ x ∈ wordD k, okD n x := fun x hx => by
  unfold wordD at hx
  split at hx
  · rw [List.mem_singleton.mp hx]; cases n <;> exact trivial
  · split at hx
    · rw [List.mem_singleton.mp hx]; cases n <;> exact trivial
    · exact absurd hx List.not_mem_nil
theorem wordD_len (k : Nat) : (wordD k).length ≤ 1 := by
  unfold wordD
  split
  · exact Nat.le_refl _
  · split
    · exact Nat.le_refl _
    · exact Nat.zero_le _
theorem word_patch {k : Nat} (h : k < 3) : decide (wordV k = .str "patch") = decide (k = 0) := by
  have h1 : ¬ (V.str "strict" = V.str "patch") := fun z => absurd (V.str.inj z) (by decide +kernel)
  have h2 : ¬ (V.str "careful" = V.str "patch") := fun z => absurd (V.str.inj z) (by decide +kernel)
  unfold wordV
  match k, h with
  | 0, _ => rw [if_neg (by decide), if_neg (by decide), decide_eq_true rfl]; rfl
  | 1, _ => rw [if_pos rfl, decide_eq_false h2]; rfl
  | 2, _ => rw [if_neg (by decide), if_pos rfl, decide_eq_false h1]; rfl
theorem word_some {k : Nat} (h : k < 3) (h0 : k ≠ 0) : [wordV k] = wordK k := by
  unfold wordV wordK
  match k, h with
  | 0, _ => exact absurd rfl h0
  | 1, _ => rfl
  | 2, _ => rfl
theorem cut_one {l : List V} {j : Nat} {x : V} (h : l[j]? = some x) : cutV l (some (j : Int)) (some ((j : Int) + 1)) = [x] := by
  have hj := lt_get h
  unfold cutV
  have e : ((j : Int) + 1) = ((j + 1 : Nat) : Int) := by omega
  rw [HT.sIx_nat, e, HT.sIx_nat, Nat.min_eq_left (Nat.le_of_lt hj), Nat.min_eq_left hj]
  have e2 : j + 1 - j = 1 := by omega
  rw [e2]
  rw [List.drop_eq_getElem_cons hj]
  have := List.getElem?_eq_getElem hj
  rw [h] at this
  rw [← Option.some.inj this]
  rfl
theorem eq_fb {U S : List Int} {n : Int} : (if n ∈ U then some (V.int (fbI U S n)) else none).getD .non = fbV U S n := by
  unfold fbV
  by_cases h : n ∈ U
  · rw [if_pos h, if_pos h]; rfl
  · rw [if_neg h, if_neg h]; rfl
def fbD (U S : List Int) (n : Int) : PyData := if n ∈ U then .int (fbI U S n) else .none
theorem dp_fb {K : PySem.W.Frag} {H : Hp} (U S : List Int) (n : Int) : Dp K H (fbV U S n) (fbD U S n) := by
  unfold fbV fbD
  by_cases h : n ∈ U
  · rw [if_pos h, if_pos h]; exact .int _
  · rw [if_neg h, if_neg h]; exact .non
section
variable {P : Program} {w : World} {K : PySem.W.Frag} {mg : Str → Option Value} {base : Heap} {CR CP CC CS CG eF eE eS eR eO : Addr}
def spPRight (K : PySem.W.Frag) (CR CP CC CS CG : Addr) : Sp := fun vs H Q _ => ∃ (sl t wl il g r al ai ap aq : Addr) (ps : List Addr) (ks : List Nat) (I U S : List Int), vs = [.ref sl, .ref t, .ref wl, .ref il] ∧ SqL K H sl (ps.map V.ref) ∧ LSt H t U S ∧ SqL K H wl (ks.map wordV) ∧ SqL K H il (I.map .int) ∧ Liv CR CP CC CS CG H g r al ai ap aq ps ks I U S ∧
  (∀ k ∈ ks, k < 3) ∧ ps.length ≤ 100 ∧ ∀ H', Same H H' → Q (.bl true) H'
theorem ok_law_patches_right {f : Addr} {fd : FuncData} (F : Fun K "_law_patches_right" "_law_patches_right" s_law_patches_right f fd) (B : NoB mg) (T_AnyPatch_number : PrpV P w K mg base 1 (Any3 CP CC CS) "number" (spNumber CP CC CS)) (T_AnyPatch_integer : PrpV P w K mg base 1 (Any3 CP CC CS) "integer" (spInteger CR CP CC CS))
    (T_AnyPatch_saved : PrpV P w K mg base 2 (Any3 CP CC CS) "saved" (spSaved CR CP CC CS)) (T_AnyPatch_runs : PrpV P w K mg base 2 (Any3 CP CC CS) "runs" (spRuns CR CP CC CS)) (T_AnyPatch_described : MetC P w K mg base 2 (Kind3 CP CC CS) "described" spDesc) (T_law_same : Cal P w K mg base 3 "_law_same" (spEqD K 2)) :
    FnOk P w K mg base CX0 4 f fd ["some", "state", "words", "integers"] (spPRight K CR CP CC CS CG) := by
  refine F.ok sc_law_patches_right (fun vs H Q E h => ?_) (fun cdv A outer s H vs Q E hr h => ?_)
  · obtain ⟨sl, t, wl, il, g, r, al, ai, ap, aq, ps, ks, I, U, S, rfl, _⟩ := h
    rfl
  · obtain ⟨sl, t, wl, il, g, r, al, ai, ap, aq, ps, ks, I, U, S, rfl, hS, ⟨ad, ak, ht, hd, hk⟩, hw, hI, L, k3, pl, q⟩ := h
    have hu := hu_of hr
    refine ⟨_, (pss_cons (ps_for PassesOwn.never rfl (pi_enum (by rfl) B.enumerate (pa_cons (pv 0) pa_nil)) (pg_tup rfl (pgs_cons (pg_name (i := 4) sc_law_patches_right.nd rfl (Or.inl rfl)) (pgs_cons (pg_name (i := 5) sc_law_patches_right.nd rfl (Or.inl rfl)) pgs_nil)))
          (pss_cons (ps_set (i := 6) sc_law_patches_right.nd rfl (Or.inl rfl) (pe_op op_cat (pe_lst (pa_cons (pe_op op_add_str pe_str (pe_callTy call_str_int (by rfl) B.str (by decide +kernel) (pa_cons (pe_op op_add (pv 4) pe_int) pa_nil))) pa_nil)) (pe_lc (own := [("word", 9)]) (g := gName 9) (tt := _) rfl sc_law_patches_right.nd (pi_list (pe_slice sl_list (pv 2) (po_some (pv 4)) (po_some (pe_op op_add (pv 4) pe_int)))) (blkOk_by (own := [("word", 9)]) (N := N_law_patches_right) (sc := defScope s_law_patches_right) (by decide +kernel)) (fun _ _ _ _ _ => (pg_name (i := 9) sc_law_patches_right.nd rfl (Or.inl rfl))) (fun _ _ _ _ _ => (pts_one (pt_cmpR op_ne (pv 9) pe_str (nomark _)))) (fun _ _ _ _ _ => (pv 9)))))
          (pss_cons (ps_set (i := 7) sc_law_patches_right.nd rfl (Or.inl rfl) (pe_lst (pa_cons (pe_pV T_AnyPatch_number hr (by decide) (pv 5)) (pa_cons (pe_pV T_AnyPatch_integer hr (by decide) (pv 5)) (pa_cons (pe_pV T_AnyPatch_saved hr (by decide) (pv 5)) (pa_cons (pe_pV T_AnyPatch_runs hr (by decide) (pv 5)) (pa_cons (pe_mC0 T_AnyPatch_described hr (by decide) takesN (pv 5)) pa_nil)))))))
          (pss_cons (ps_set (i := 8) sc_law_patches_right.nd rfl (Or.inl rfl) (pe_and (pe_cmp (pc_din hu (pe_op op_add (pv 4) pe_int) (pe_ix ix_tup (pv 1) pe_int (fun _ _ => rfl))) rfl) (pe_one (pe_cmpR op_notIn_seq (pe_op op_sub (pe_op op_sub pe_int pe_int) (pv 4)) (pe_ix ix_tup (pv 1) pe_int (fun _ _ => rfl)) (by rfl)))))
          (pss_one (ps_if (pt_not (pt_val (pe_c T_law_same hr (by decide) (by rfl) (pa_cons (pv 7) (pa_cons (pe_lst (pa_cons (pe_op op_add (pv 4) pe_int) (pa_cons (pe_ix ix_list (pv 3) (pe_op op_add (pv 4) pe_int) (fun _ _ => rfl)) (pa_cons (pe_dget1 hu (pe_ix ix_tup (pv 1) pe_int (fun _ _ => rfl)) (pe_op op_add (pv 4) pe_int) (by constructor <;> rfl)) (pa_cons (pv 8) (pa_cons (pv 6) pa_nil)))))) pa_nil))))) (pss_one (ps_ret pe_bl)) pss_nil))))))
        (pss_one (ps_ret pe_bl))), ?_⟩
    have kl := L.kl
    have ilen := L.il
    refine ⟨_, rfl, sl, _, rfl, hS, for_it (walk_enum (xs := ps.map V.ref)) (fun i σ H' => (∃ y1 y2 y3 y4 y5 y6, σ = [some (.ref sl), some (.ref t), some (.ref wl), some (.ref il), y1, y2, y3, y4, y5, y6]) ∧ Same H H') ⟨⟨_, _, _, _, _, _, rfl⟩, .refl _⟩ (fun i σ H' _ h => h.2.seq hS) (fun i x σ H' H2 hi h hy => ?_) (fun σ H' h => ?_)⟩
    · obtain ⟨T, x1, x2, rfl, nT, rfl, e1, e2⟩ := hy
      cases e1
      obtain ⟨p, ep, rfl⟩ : ∃ p, ps[i]? = some p ∧ x2 = V.ref p := by
        have e3 : (ps.map V.ref)[i]? = some x2 := e2
        rw [List.getElem?_map] at e3
        cases z : ps[i]? with
        | none => rw [z] at e3; cases e3
        | some p => rw [z] at e3; exact ⟨p, rfl, (Option.some.inj e3).symm⟩
      obtain ⟨⟨y1, y2, y3, y4, y5, y6, rfl⟩, sm⟩ := h
      have ip := lt_get ep
      have ik : i < ks.length := by omega
      obtain ⟨kk, ek⟩ : ∃ kk, ks[i]? = some kk := ⟨_, List.getElem?_eq_getElem ik⟩
      have kk3 : kk < 3 := k3 _ (List.mem_of_getElem? ek)
      obtain ⟨C, dp, hK, hp⟩ := L.pat i p kk ep ek
      have hC := hK.any
      refine ⟨T, _, rfl, .of upd_same, rfl, _, _, rfl, _, _, rfl, rfl, ?_⟩
      have s2 := sm.trans (same_new (o := .tup [V.int ((i : Nat) : Int), .ref p]) nT)
      generalize upd H' T (.tup [V.int ((i : Nat) : Int), .ref p]) = H2 at s2 ⊢
      clear sm nT
      have n1 : (0 : Int) ≤ (i : Int) + 1 := by omega
      have nab : ((i : Int) + 1).natAbs < 100000 := by omega
      -- due
      have z6 : ("patch " : Str).length = 6 := by decide +kernel
      have l6 := small_len nab
      refine ⟨_, rfl, _, _, rfl, rfl, _, rfl, small_log nab, _, _, rfl, rfl, by rw [z6, sizeLine_eq]; omega, ?_⟩
      refine ⟨by show 1 ≤ sizeLine; decide, fun d1 nd1 => ?_⟩
      have s3 := s2.trans (same_new (o := .lst [.str (nameP ((i : Int) + 1))]) nd1)
      have h3 : (upd H2 d1 (.lst [.str (nameP ((i : Int) + 1))])) d1 = some (.lst [.str (nameP ((i : Int) + 1))]) := upd_same
      show tLc _ _ _ _ _ _ (upd H2 d1 (.lst [.str (nameP ((i : Int) + 1))])) _
      generalize upd H2 d1 (.lst [.str (nameP ((i : Int) + 1))]) = H3 at s3 h3 ⊢
      refine ⟨_, rfl, _, rfl, _, rfl, _, rfl, _, _, rfl, rfl, _, rfl, wl, _, rfl, s3.seq hw, fun cu ncu => ?_⟩
      have ew : (ks.map wordV)[i]? = some (wordV kk) := by rw [List.getElem?_map, ek]; rfl
      rw [cut_one ew]
      have s4 := s3.trans (same_new (o := .lst [wordV kk]) ncu)
      have h4 := same_new (o := .lst [wordV kk]) ncu _ _ h3
      have c4 : (upd H3 cu (.lst [wordV kk])) cu = some (.lst [wordV kk]) := upd_same
      generalize upd H3 cu (.lst [wordV kk]) = H4 at s4 h4 c4 ⊢
      refine ⟨cu, rfl, ⟨_, .of c4⟩, fun D nD => ?_⟩
      refine lc_list (xs := [wordV kk]) (LcP H4 D fun i => if i = 0 then [] else wordK kk) (.init nD rfl) (fun i H' _ p => .of (p.2.1 _ _ c4)) (fun i x H' hx p => ?_) (fun H5 p5 => ?_)
      · obtain rfl : i = 0 := by have := lt_get hx; have : i < 1 := this; omega
        cases hx
        refine ⟨rfl, ?_⟩
        refine ⟨_, rfl, word_scal kk _, !decide (kk = 0), congrArg (fun b => V.bl (!b)) (word_patch kk3), ?_⟩
        by_cases k0 : kk = 0
        · rw [decide_eq_true k0]
          refine p.skip (.refl _) ?_
          subst k0
          rfl
        · rw [decide_eq_false k0]
          refine ⟨_, rfl, p.put (.refl _) ?_ (by show 0 < 100000; decide)⟩
          show wordK kk = [] ++ [wordV kk]
          exact (word_some kk3 k0).symm
      · have s5 := s4.trans p5.2.1
        have h5 := p5.2.1 _ _ h4
        have D5 : H5 D = some (.lst (wordK kk)) := p5.2.2
        have wl1 := wordK_len kk
        refine ⟨d1, D, _, _, rfl, rfl, h5, D5, by show 1 + (wordK kk).length ≤ sizeLine; exact zs (by omega), fun du ndu => ?_⟩
        have s6 := s5.trans (same_new (o := .lst ([V.str (nameP ((i : Int) + 1))] ++ wordK kk)) ndu)
        have u6 : (upd H5 du (.lst ([V.str (nameP ((i : Int) + 1))] ++ wordK kk))) du = some (.lst (V.str (nameP ((i : Int) + 1)) :: wordK kk)) := upd_same
        generalize upd H5 du (.lst ([V.str (nameP ((i : Int) + 1))] ++ wordK kk)) = H6 at s6 u6 ⊢
        clear h5 D5 p5 h4 h3 c4 s5 s4 s3 s2
        -- told
        have L6 := L.same s6
        have hp6 := s6 _ _ hp
        refine ⟨_, rfl, p, C, dp, _, rfl, hC, hp6, p, dp, r, C, _, rfl, hC, hp6, ?_⟩
        refine ⟨_, rfl, p, C, dp, _, rfl, hC, hp6, p, dp, r, C, ai, ap, aq, _, I, U, S, rfl, hC, hp6, L6.rc, n1, by omega, ?_⟩
        refine ⟨_, rfl, p, C, dp, _, rfl, hC, hp6, p, dp, r, C, ai, ap, aq, _, I, U, S, rfl, hC, hp6, L6.rc, L6.wf, ?_⟩
        refine ⟨_, rfl, p, C, dp, _, rfl, hC, hp6, p, dp, r, C, ai, ap, aq, _, I, U, S, rfl, hC, hp6, L6.rc, ?_⟩
        refine ⟨_, rfl, p, C, kk, dp, _, rfl, hK, hp6, lkP _ _ (by decide +kernel), p, dp, r, _, rfl, hp6, nab, fun de H7 s67 nde e7 => ?_⟩
        refine ⟨by show 5 ≤ sizeLine; decide, fun tl ntl => ?_⟩
        have s7 := (s6.trans s67).trans (same_new (o := .lst [.int ((i : Int) + 1), .int (vI I ((i : Int) + 1)), fbV U S ((i : Int) + 1), .bl (decide (((i : Int) + 1) ∈ U ∧ -((i : Int) + 1) ∉ U)), .ref de]) ntl)
        have u7 := same_new (o := .lst [.int ((i : Int) + 1), .int (vI I ((i : Int) + 1)), fbV U S ((i : Int) + 1), .bl (decide (((i : Int) + 1) ∈ U ∧ -((i : Int) + 1) ∉ U)), .ref de]) ntl _ _ (s67 _ _ u6)
        have e7' := same_new (o := .lst [.int ((i : Int) + 1), .int (vI I ((i : Int) + 1)), fbV U S ((i : Int) + 1), .bl (decide (((i : Int) + 1) ∈ U ∧ -((i : Int) + 1) ∉ U)), .ref de]) ntl _ _ e7
        have t7 : (upd H7 tl (.lst [.int ((i : Int) + 1), .int (vI I ((i : Int) + 1)), fbV U S ((i : Int) + 1), .bl (decide (((i : Int) + 1) ∈ U ∧ -((i : Int) + 1) ∉ U)), .ref de])) tl = some (.lst [.int ((i : Int) + 1), .int (vI I ((i : Int) + 1)), fbV U S ((i : Int) + 1), .bl (decide (((i : Int) + 1) ∈ U ∧ -((i : Int) + 1) ∉ U)), .ref de]) := upd_same
        generalize upd H7 tl (.lst [.int ((i : Int) + 1), .int (vI I ((i : Int) + 1)), fbV U S ((i : Int) + 1), .bl (decide (((i : Int) + 1) ∈ U ∧ -((i : Int) + 1) ∉ U)), .ref de]) = H8 at s7 u7 e7' t7 ⊢
        clear s67 e7 u6 s6
        have hT : SqT K H8 t [.int (lastI S), .ref ad, .ref ak] := .of (s7 _ _ ht)
        have hk8 := s7 _ _ hk
        have hd8 := s7 _ _ hd
        have dg : DGet H8 ak (.int ((i : Int) + 1)) (if ((i : Int) + 1) ∈ U then some (.int (fbI U S ((i : Int) + 1))) else none) := dgI hk8 (by omega)
        -- running
        refine ⟨_, rfl, _, _, rfl, rfl, _, rfl, t, _, _, _, rfl, rfl, hT, at2, ak, _, rfl, dg, decide (((i : Int) + 1) ∈ U), ?_, ?_⟩
        · by_cases m : ((i : Int) + 1) ∈ U
          · rw [if_pos m, decide_eq_true m]; rfl
          · rw [if_neg m, decide_eq_false m]; rfl
        · have e01 : (0 : Int) - 1 - (i : Int) = -((i : Int) + 1) := by omega
          by_cases m : ((i : Int) + 1) ∈ U
          · rw [decide_eq_true m]
            refine iteT ⟨_, _, rfl, rfl, _, rfl, _, _, rfl, rfl, _, rfl, t, _, _, _, rfl, rfl, hT, at1, ad, _, rfl, .inl (.of hd8), rfl, flatI _, ?_⟩
            have eb : (if true = true then !inV ((fun i j : Int => V.int (i - j)) (0 - 1) (i : Int)) (U.map V.int) else inV ((fun i j : Int => V.int (i - j)) (0 - 1) (i : Int)) (U.map V.int)) = decide (((i : Int) + 1) ∈ U ∧ -((i : Int) + 1) ∉ U) := by
              show (if true = true then !inV (V.int (0 - 1 - (i : Int))) (U.map V.int) else inV (V.int (0 - 1 - (i : Int))) (U.map V.int)) = _
              rw [e01, if_pos rfl, inVI]
              by_cases m2 : -((i : Int) + 1) ∈ U
              · rw [decide_eq_true m2, decide_eq_false (fun z => z.2 m2)]; rfl
              · rw [decide_eq_false m2, decide_eq_true ⟨m, m2⟩]; rfl
            rw [eb]
            generalize decide (((i : Int) + 1) ∈ U ∧ -((i : Int) + 1) ∉ U) = rb at t7 ⊢
            refine ⟨_, rfl, _, rfl, _, _, rfl, rfl, _, rfl, _, rfl, _, _, rfl, rfl, il, _, _, _, rfl, rfl, s7.seq hI, atI_vI ⟨n1, by omega⟩, ?_⟩
            refine ⟨_, rfl, t, _, _, _, rfl, rfl, hT, at2, ak, rfl, .inl ⟨_, .of hk8⟩, _, rfl, _, _, rfl, rfl, _, dg, ?_⟩
            rw [eq_fb]
            refine ⟨_, rfl, _, rfl, by show 5 ≤ sizeLine; decide, fun ex nex => ?_⟩
            have sx := same_new (o := .lst [.int ((i : Int) + 1), .int (vI I ((i : Int) + 1)), fbV U S ((i : Int) + 1), .bl rb, .ref du]) nex
            refine ⟨.ref tl, .ref ex, .list [.int ((i : Int) + 1), .int (vI I ((i : Int) + 1)), fbD U S ((i : Int) + 1), .bool rb, .list (.str (nameP ((i : Int) + 1)) :: wordD kk)], rfl, ?_, ?_, ?_, fun H9 s9 => ?_⟩
            · exact .lst (.of (sx _ _ t7)) (.cons (.int _) (.cons (.int _) (.cons (dp_fb _ _ _) (.cons (.bl _) (.cons (.lst (.of (sx _ _ e7')) (.cons (.str _) (dp_word kk))) .nil)))))
            · exact .lst (.of upd_same) (.cons (.int _) (.cons (.int _) (.cons (dp_fb _ _ _) (.cons (.bl _) (.cons (.lst (.of (sx _ _ u7)) (.cons (.str _) (dp_word kk))) .nil)))))
            · refine ⟨by show 5 < 100000; decide, fun x hx => ?_⟩
              have hf : okD 1 (fbD U S ((i : Int) + 1)) := by
                unfold fbD
                split <;> exact trivial
              have wd := wordD_len kk
              rcases List.mem_cons.mp hx with rfl | hx
              · exact trivial
              rcases List.mem_cons.mp hx with rfl | hx
              · exact trivial
              rcases List.mem_cons.mp hx with rfl | hx
              · exact hf
              rcases List.mem_cons.mp hx with rfl | hx
              · exact trivial
              rw [List.mem_singleton.mp hx]
              refine ⟨by show (wordD kk).length + 1 < 100000; omega, fun y hy => ?_⟩
              rcases List.mem_cons.mp hy with rfl | hy
              · exact trivial
              · exact okD_word 0 kk y hy
            · exact ⟨_, rfl, iteF ⟨⟨_, _, _, _, _, _, rfl⟩, (s7.trans sx).trans s9⟩⟩
          · rw [decide_eq_false m]
            have eb : decide (((i : Int) + 1) ∈ U ∧ -((i : Int) + 1) ∉ U) = false := decide_eq_false fun z => m z.1
            rw [eb] at t7
            refine iteF ?_
            generalize false = rb at t7 ⊢
            refine ⟨_, rfl, _, rfl, _, _, rfl, rfl, _, rfl, _, rfl, _, _, rfl, rfl, il, _, _, _, rfl, rfl, s7.seq hI, atI_vI ⟨n1, by omega⟩, ?_⟩
            refine ⟨_, rfl, t, _, _, _, rfl, rfl, hT, at2, ak, rfl, .inl ⟨_, .of hk8⟩, _, rfl, _, _, rfl, rfl, _, dg, ?_⟩
            rw [eq_fb]
            refine ⟨_, rfl, _, rfl, by show 5 ≤ sizeLine; decide, fun ex nex => ?_⟩
            have sx := same_new (o := .lst [.int ((i : Int) + 1), .int (vI I ((i : Int) + 1)), fbV U S ((i : Int) + 1), .bl rb, .ref du]) nex
            refine ⟨.ref tl, .ref ex, .list [.int ((i : Int) + 1), .int (vI I ((i : Int) + 1)), fbD U S ((i : Int) + 1), .bool rb, .list (.str (nameP ((i : Int) + 1)) :: wordD kk)], rfl, ?_, ?_, ?_, fun H9 s9 => ?_⟩
            · exact .lst (.of (sx _ _ t7)) (.cons (.int _) (.cons (.int _) (.cons (dp_fb _ _ _) (.cons (.bl _) (.cons (.lst (.of (sx _ _ e7')) (.cons (.str _) (dp_word kk))) .nil)))))
            · exact .lst (.of upd_same) (.cons (.int _) (.cons (.int _) (.cons (dp_fb _ _ _) (.cons (.bl _) (.cons (.lst (.of (sx _ _ u7)) (.cons (.str _) (dp_word kk))) .nil)))))
            · refine ⟨by show 5 < 100000; decide, fun x hx => ?_⟩
              have hf : okD 1 (fbD U S ((i : Int) + 1)) := by
                unfold fbD
                split <;> exact trivial
              have wd := wordD_len kk
              rcases List.mem_cons.mp hx with rfl | hx
              · exact trivial
              rcases List.mem_cons.mp hx with rfl | hx
              · exact trivial
              rcases List.mem_cons.mp hx with rfl | hx
              · exact hf
              rcases List.mem_cons.mp hx with rfl | hx
              · exact trivial
              rw [List.mem_singleton.mp hx]
              refine ⟨by show (wordD kk).length + 1 < 100000; omega, fun y hy => ?_⟩
              rcases List.mem_cons.mp hy with rfl | hy
              · exact trivial
              · exact okD_word 0 kk y hy
            · exact ⟨_, rfl, iteF ⟨⟨_, _, _, _, _, _, rfl⟩, (s7.trans sx).trans s9⟩⟩
    · obtain ⟨_, sm⟩ := h
      exact q _ sm
end
end L25
set_option Elab.async false
set_option linter.all false
set_option maxRecDepth 100000
namespace L25
open PySem PySem.Spec PyProof.Rows L2 Lp
section
variable {P : Program} {w : World} {K : PySem.W.Frag} {mg : Str → Option Value} {base : Heap} {CO CH : Addr}
/-! ### _law_cells -/
def cellsL (ns : List Int) (m : Nat) : List Int := ns.take m ++ if ns = [] then [0] else []
def spCells (K : PySem.W.Frag) : Sp := fun vs H Q _ => ∃ (a : Addr) (ns : List Int) (m : Nat), vs = [.ref a, .int (m : Int)] ∧ SqL K H a (ns.map V.int) ∧ ns.length ≤ 63 ∧ m ≤ 63 ∧ ∀ H' p, Same H H' → H p = none → H' p = some (.lst ((cellsL ns m).map V.int)) → Q (.ref p) H'
theorem ok_law_cells {f : Addr} {fd : FuncData} (F : Fun K "_law_cells" "_law_cells" s_law_cells f fd) (B : NoB mg) : FnOk P w K mg base CX0 1 f fd ["script", "most"] (spCells K) := by
  refine F.ok sc_law_cells (fun vs H Q E h => ?_) (fun cdv A outer s H vs Q E hr h => ?_)
  · obtain ⟨a, ns, m, rfl, _⟩ := h
    rfl
  · obtain ⟨a, ns, m, rfl, hS, hl, hm, q⟩ := h
    have hu64 := hr.units
    refine ⟨_, (pss_one (ps_ret (pe_op op_cat (pe_slice sl_list (pv 0) po_none (po_some (pv 1))) (pe_op op_rep (pe_lst (pa_cons pe_int pa_nil)) (pe_callTy call_int1 (by rfl) B.int (by decide +kernel) (pa_cons (pe_cmpR (op_eqD hu64) (pv 0) (pe_lst pa_nil) (nomark _)) pa_nil)))))), ?_⟩
    refine ⟨_, rfl, _, rfl, _, rfl, a, _, rfl, hS, fun p np => ?_⟩
    have ecut : cutV (ns.map V.int) none (some (m : Int)) = (ns.take m).map V.int := by
      unfold cutV
      rw [HT.sIx_none, HT.sIx_nat, List.drop_zero, Nat.sub_zero, List.length_map, ← List.map_take]
      by_cases c : m ≤ ns.length
      · rw [Nat.min_eq_left c]
      · rw [Nat.min_eq_right (by omega), List.take_of_length_le (Nat.le_refl _), List.take_of_length_le (by omega)]
    rw [ecut]
    have s1 := same_new (o := .lst ((ns.take m).map V.int)) np
    refine ⟨by show 1 ≤ sizeLine; decide, fun z nz => ?_⟩
    have s2 := s1.trans (same_new (o := .lst [V.int 0]) nz)
    refine ⟨_, rfl, Nat.zero_le _, fun e ne => ?_⟩
    have s3 := s2.trans (same_new (o := .lst []) ne)
    refine ⟨dI ns, dI [], dp_ints (s3.seq hS), dp_ints (ns := []) (.of upd_same), shaped_ints _, shaped_ints _, .inr ⟨_, rfl, ?_⟩⟩
    have e1 : (if PyData.eqv (dI ns) (dI []) = true then (1 : Int) else 0) = if ns = [] then 1 else 0 := by
      rw [eqv_ints]
      by_cases c : ns = []
      · rw [if_pos c, decide_eq_true c, if_pos rfl]
      · rw [if_neg c, decide_eq_false c, if_neg Bool.false_ne_true]
    rw [e1]
    have hz3 : (upd (upd (upd H p (.lst ((ns.take m).map V.int))) z (.lst [V.int 0])) e (.lst [])) z = some (.lst [V.int 0]) := same_new ne _ _ upd_same
    refine ⟨z, _, [V.int 0], rfl, rfl, hz3, by split <;> decide, by split <;> decide, by split <;> decide, fun r nr => ?_⟩
    have s4 := s3.trans (same_new (o := .lst (List.replicate (if ns = [] then (1 : Int) else 0).toNat [V.int 0]).flatten) nr)
    have hp4 : (upd (upd (upd (upd H p (.lst ((ns.take m).map V.int))) z (.lst [V.int 0])) e (.lst [])) r (.lst (List.replicate (if ns = [] then (1 : Int) else 0).toNat [V.int 0]).flatten)) p = some (.lst ((ns.take m).map V.int)) :=
      same_new nr _ _ (same_new ne _ _ (same_new nz _ _ upd_same))
    refine ⟨p, r, _, _, rfl, rfl, hp4, upd_same, ?_, fun t nt => ?_⟩
    · rw [List.length_map, List.length_take]
      split <;> exact zs (by simp; omega)
    · refine q _ t (s4.trans (same_new nt)) (s4.free nt) ?_
      rw [upd_same]
      unfold cellsL
      by_cases c : ns = []
      · rw [if_pos c, if_pos c, List.map_append]
        rfl
      · rw [if_neg c, if_neg c, List.append_nil]
        show some (HO.lst (_ ++ [])) = _
        rw [List.append_nil]
end
theorem okD_due (I U S : List Int) (h : U.length ≤ 1000) : okD 2 (dueD I U S) := by
  refine ⟨by show 5 < 100000; decide, fun x hx => ?_⟩
  rcases List.mem_cons.mp hx with rfl | hx
  · exact trivial
  rcases List.mem_cons.mp hx with rfl | hx
  · exact trivial
  rcases List.mem_cons.mp hx with rfl | hx
  · refine ⟨by rw [List.length_map]; omega, fun y hy => ?_⟩
    obtain ⟨z, _, rfl⟩ := List.mem_map.mp hy
    exact trivial
  rcases List.mem_cons.mp hx with rfl | hx
  · exact trivial
  rw [List.mem_singleton.mp hx]
  exact trivial
/-! ### what stays while a setting goes on -/
abbrev Fo (src ap aq st : Addr) : Addr → Prop := fun b => b ≠ src ∧ b ≠ ap ∧ b ≠ aq ∧ b ≠ st
/-- all that is no list, and the lists told by F -/
def Kp (F : Addr → Prop) (H H' : Hp) : Prop := ∀ b o, H b = some o → ((∀ l, o ≠ .lst l) ∨ F b) → H' b = some o
section
variable {F : Addr → Prop} {H H1 H2 H' : Hp} {src ap aq st x t : Addr} {n : Nat} {l : List V} {o : HO} {U S : List Int} {ts : List Addr} {e c : Int}
theorem Kp.trans (x : Kp F H H1) (y : Kp F H1 H2) : Kp F H H2 := fun b o e c => y b o (x b o e c) c
theorem Kp.anti {G : Addr → Prop} (x : Kp F H H') (i : ∀ b, G b → F b) : Kp G H H' := fun b o e c => x b o e (c.imp id (i b))
theorem Kp.same (s : Same H H') : Kp F H H' := fun b o e _ => s b o e
theorem Kp.bt (hs : Src H src n) (b : Bt src H H') : Kp (Fo src ap aq st) H H' := fun x o e c => b x o (fun z => by
  obtain ⟨_, _, _, hx, _⟩ := hs
  rcases c with c | c
  · rw [z, hx] at e
    exact c _ (Option.some.inj e).symm
  · exact c.1 z) e
theorem Kp.upd (h : H x = some (.lst l)) (nF : ¬ F x) : Kp F H (L2.upd H x o) := fun b u e c => by
  rw [upd_ne (fun z => by
    rcases c with c | c
    · rw [z, h] at e
      exact c _ (Option.some.inj e).symm
    · exact nF (z ▸ c))]
  exact e
theorem LStN.kp (h : LStN F H t U S) (k : Kp F H H') : LStN F H' t U S := by
  obtain ⟨ad, ak, f, h1, h2, h3⟩ := h
  exact ⟨ad, ak, f, k _ _ h1 (.inl fun l z => nomatch z), k _ _ h2 (.inr f), k _ _ h3 (.inl fun l z => nomatch z)⟩
/-- the states of the law, of all beginnings of a history -/
def Sts (F : Addr → Prop) (H : Hp) (ts : List Addr) (U S : List Int) : Prop := ts.length = U.length + 1 ∧ ∀ (j : Nat) (t : Addr), ts[j]? = some t → LStN F H t (U.take j) (S.take (j + 1))
theorem Sts.kp (h : Sts F H ts U S) (k : Kp F H H') : Sts F H' ts U S := ⟨h.1, fun j t e => (h.2 j t e).kp k⟩
theorem Sts.app (h : Sts F H ts U S) (hl : S.length = U.length + 1) (n : LStN F H t (U ++ [e]) (S ++ [c])) : Sts F H (ts ++ [t]) (U ++ [e]) (S ++ [c]) := by
  obtain ⟨h1, h2⟩ := h
  refine ⟨by rw [List.length_append, List.length_append, h1]; rfl, fun j t' e1 => ?_⟩
  by_cases hj : j < ts.length
  · rw [List.getElem?_append_left hj] at e1
    rw [List.take_append_of_le_length (by omega), List.take_append_of_le_length (by omega)]
    exact h2 j t' e1
  · have ej : j = ts.length := by
      have := lt_get e1
      rw [List.length_append] at this
      have : j < ts.length + 1 := this
      omega
    subst ej
    rw [List.getElem?_append_right (Nat.le_refl _), Nat.sub_self] at e1
    cases e1
    rw [List.take_of_length_le (by rw [List.length_append]; show U.length + 1 ≤ _; omega), List.take_of_length_le (by rw [List.length_append]; show S.length + 1 ≤ _; omega)]
    exact n
end
section
variable {CR CP CC CS CG : Addr} {H H' H0 : Hp} {g r al ai ap aq x src st a b c : Addr} {ps ts : List Addr} {ks : List Nat} {I U S V' T' : List Int} {l : List V} {l' : List V} {n n' m : Nat}
/-- a list that is none of the setting's is changed -/
theorem Liv.other (h : Liv CR CP CC CS CG H g r al ai ap aq ps ks I U S) (e : H x = some (.lst l)) (n1 : x ≠ al) (n2 : x ≠ ai) (n3 : x ≠ ap) (n4 : x ≠ aq) : Liv CR CP CC CS CG (upd H x (.lst l')) g r al ai ap aq ps ks I U S := by
  obtain ⟨⟨⟨dgM, hgM⟩, hlM⟩, ⟨⟨drM, hRM⟩, hiM, hpM, hqM, ip, iq, pq⟩, w, la, lp, lq, il', kl', pat⟩ := h
  have nra : ∀ {y : Addr} {o : HO}, H y = some o → (∀ l, o ≠ .lst l) → y ≠ x := fun {y o} e' n z => by rw [z, e] at e'; exact n _ (Option.some.inj e').symm
  refine ⟨⟨⟨dgM, by rw [upd_ne (nra hgM fun l z => nomatch z)]; exact hgM⟩, by rw [upd_ne n1.symm]; exact hlM⟩, ⟨⟨drM, by rw [upd_ne (nra hRM fun l z => nomatch z)]; exact hRM⟩, by rw [upd_ne n2.symm]; exact hiM, by rw [upd_ne n3.symm]; exact hpM, by rw [upd_ne n4.symm]; exact hqM, ip, iq, pq⟩, w, la, lp, lq, il', kl', fun j q k' e1 e2 => ?_⟩
  obtain ⟨C', dp', k1, k2⟩ := pat j q k' e1 e2
  exact ⟨C', dp', k1, by rw [upd_ne (nra k2 fun l z => nomatch z)]; exact k2⟩
/-- what differs -/
structure Nes (H0 : Hp) (src al ai ap aq st a b c : Addr) (ps : List Addr) (ks : List Nat) (m : Nat) : Prop where
  s1 : src ≠ al
  s2 : src ≠ ai
  s3 : src ≠ ap
  s4 : src ≠ aq
  s5 : src ≠ st
  t1 : st ≠ al
  t2 : st ≠ ai
  t3 : st ≠ ap
  t4 : st ≠ aq
  fa : Fo src ap aq st a
  fb : Fo src ap aq st b
  fc : Fo src ap aq st c
  h1 : H0 ap = none
  h2 : H0 aq = none
  h3 : H0 st = none
  pl : ps.length = m
  m1 : m ≤ 100
  k3 : ∀ k ∈ ks, k < 3
/-- the world of the law: the setting at the history U, the states of the history V' -/
structure LI (CR CP CC CS CG : Addr) (H0 H : Hp) (src g r al ai ap aq st a b c : Addr) (ps : List Addr) (ks : List Nat) (I : List Int) (n m : Nat) (U S : List Int) (ts : List Addr) (V' T' : List Int) : Prop where
  L : Liv CR CP CC CS CG H g r al ai ap aq ps ks I U S
  s : Src H src n
  st_ : H st = some (.lst (ts.map .ref))
  ss : Sts (Fo src ap aq st) H ts V' T'
  ha : H a = some (.lst (ps.map .ref))
  hb : H b = some (.lst (ks.map wordV))
  hc : H c = some (.lst (I.map .int))
  u : ∀ x ∈ V', x.natAbs ≤ m
  bt : Bt src H0 H
theorem LI.same (h : LI CR CP CC CS CG H0 H src g r al ai ap aq st a b c ps ks I n m U S ts V' T') (s : Same H H') : LI CR CP CC CS CG H0 H' src g r al ai ap aq st a b c ps ks I n m U S ts V' T' :=
  ⟨h.L.same s, h.s.same s, s _ _ h.st_, h.ss.kp (.same s), s _ _ h.ha, s _ _ h.hb, s _ _ h.hc, h.u, h.bt.trans (.of s)⟩
theorem LI.draw (h : LI CR CP CC CS CG H0 H src g r al ai ap aq st a b c ps ks I n m U S ts V' T') (N : Nes H0 src al ai ap aq st a b c ps ks m) (bt : Bt src H H') (hs : Src H' src n') : LI CR CP CC CS CG H0 H' src g r al ai ap aq st a b c ps ks I n' m U S ts V' T' :=
  ⟨h.L.bt h.s bt N.s1 N.s2 N.s3 N.s4, hs, bt _ _ N.s5.symm h.st_, h.ss.kp (.bt h.s bt), bt _ _ N.fa.1 h.ha, bt _ _ N.fb.1 h.hb, bt _ _ N.fc.1 h.hc, h.u, h.bt.trans bt⟩
theorem LI.app (h : LI CR CP CC CS CG H0 H src g r al ai ap aq st a b c ps ks I n m U S ts V' T') (N : Nes H0 src al ai ap aq st a b c ps ks m) {t : Addr} {e : Int} {c' : Int} (hl : T'.length = V'.length + 1) (ht : LStN (Fo src ap aq st) H t (V' ++ [e]) (T' ++ [c'])) (he : e.natAbs ≤ m) :
    LI CR CP CC CS CG H0 (upd H st (.lst ((ts ++ [t]).map .ref))) src g r al ai ap aq st a b c ps ks I n m U S (ts ++ [t]) (V' ++ [e]) (T' ++ [c']) := by
  have k : Kp (Fo src ap aq st) H (upd H st (.lst ((ts ++ [t]).map .ref))) := Kp.upd h.st_ fun z => z.2.2.2 rfl
  refine ⟨h.L.other h.st_ N.t1 N.t2 N.t3 N.t4, h.s.upd N.s5.symm, upd_same, (h.ss.app hl ht).kp k, by rw [upd_ne N.fa.2.2.2]; exact h.ha, by rw [upd_ne N.fb.2.2.2]; exact h.hb, by rw [upd_ne N.fc.2.2.2]; exact h.hc, fun x hx => ?_, fun b o n1 e1 => ?_⟩
  · rcases List.mem_append.mp hx with hx | hx
    · exact h.u x hx
    · rw [List.mem_singleton.mp hx]
      exact he
  · rw [upd_ne (fun z => by rw [z, N.h3] at e1; cases e1)]
    exact h.bt b o n1 e1
theorem LI.to (h : LI CR CP CC CS CG H0 H src g r al ai ap aq st a b c ps ks I n m U S ts V' T') (N : Nes H0 src al ai ap aq st a b c ps ks m) {U' S' : List Int} (k : ∀ b o, b ≠ ap → b ≠ aq → H b = some o → H' b = some o) (hp : H' ap = some (.lst (U'.map .int))) (hq : H' aq = some (.lst (S'.map .int))) (w : Wf I U' S') :
    LI CR CP CC CS CG H0 H' src g r al ai ap aq st a b c ps ks I n m U' S' ts V' T' := by
  have kp : Kp (Fo src ap aq st) H H' := fun x o e c => k x o (fun z => by
    rcases c with c | c
    · rw [z, h.L.rc.p] at e; exact c _ (Option.some.inj e).symm
    · exact c.2.1 z) (fun z => by
    rcases c with c | c
    · rw [z, h.L.rc.q] at e; exact c _ (Option.some.inj e).symm
    · exact c.2.2.1 z) e
  obtain ⟨x, y, z, hx, hy⟩ := h.s
  exact ⟨h.L.to k hp hq w, ⟨x, y, z, k _ _ N.s3 N.s4 hx, hy⟩, k _ _ N.t3 N.t4 h.st_, h.ss.kp kp, k _ _ N.fa.2.1 N.fa.2.2.1 h.ha, k _ _ N.fb.2.1 N.fb.2.2.1 h.hb, k _ _ N.fc.2.1 N.fc.2.2.1 h.hc, h.u, fun b o n1 e1 => k b o (fun z => by rw [z, N.h1] at e1; cases e1) (fun z => by rw [z, N.h2] at e1; cases e1) (h.bt b o n1 e1)⟩
theorem LI.step (h : LI CR CP CC CS CG H0 H src g r al ai ap aq st a b c ps ks I n m U S ts V' T') (N : Nes H0 src al ai ap aq st a b c ps ks m) {e c' : Int} (l : U.length < 1000) (hc : 0 ≤ c' ∧ c' < (I.length : Int)) :
    LI CR CP CC CS CG H0 (upd (upd H ap (.lst ((U ++ [e]).map .int))) aq (.lst ((S ++ [c']).map .int))) src g r al ai ap aq st a b c ps ks I n m (U ++ [e]) (S ++ [c']) ts V' T' :=
  h.to N (fun b o n1 n2 eb => by rw [upd_ne n2, upd_ne n1]; exact eb) (by rw [upd_ne h.L.rc.pq, upd_same]) upd_same (h.L.wf.go hc l)
/-- the state at the end -/
theorem LI.last (h : LI CR CP CC CS CG H0 H src g r al ai ap aq st a b c ps ks I n m U S ts V' T') (hl : T'.length = V'.length + 1) : ∃ t, atI (ts.map V.ref) (-1) = some (.ref t) ∧ LStN (Fo src ap aq st) H t V' T' := by
  have l1 := h.ss.1
  have lt : V'.length < ts.length := by omega
  have e := List.getElem?_eq_getElem lt
  refine ⟨ts[V'.length], ?_, ?_⟩
  · have ne : ts ≠ [] := fun z => by rw [z] at l1; cases l1
    have e2 : ts = ts.dropLast ++ [ts[V'.length]] := by
      have z := (List.dropLast_concat_getLast ne).symm
      have z2 : ts.getLast ne = ts[V'.length] := by
        rw [List.getLast_eq_getElem]
        congr 1
        omega
      rw [z2] at z
      exact z
    have e3 : ts.map V.ref = ts.dropLast.map V.ref ++ [V.ref ts[V'.length]] := by
      rw [show [V.ref ts[V'.length]] = [ts[V'.length]].map V.ref from rfl, ← List.map_append, ← e2]
    rw [e3]
    exact at_last
  · have z := h.ss.2 _ _ e
    rw [List.take_of_length_le (Nat.le_refl _), List.take_of_length_le (by omega)] at z
    exact z
end
/-! ### what the end puts together -/
theorem cls_of_exc {K : PySem.W.Frag} {C : Addr} {bm : List Value} {n : String} (q : PySem.W.excIn K C bm n = true) : (PySem.W.clsIn K C).isSome = true := by
  unfold PySem.W.excIn at q
  unfold PySem.W.clsIn
  split at q
  · rename_i e
    rw [e]
    rfl
  · exact absurd q Bool.false_ne_true
theorem exm_own {K : PySem.W.Frag} {C : Addr} {cls : Value} {bm : List Value} {n : String} {r : Bool} (q : PySem.W.excIn K C bm n = true) (b : PySem.W.subIn K (.ref C) (.type "BaseException") = some true) (t : PySem.W.typeIn K (.ref C) = some (.type "type")) (s : PySem.W.subIn K cls (.ref C) = some r) : PySem.W.exmOne K cls (.ref C) = some r := by
  unfold PySem.W.exmOne PySem.W.kitCls
  rw [b, if_pos (by rfl)]
  show (if ((PySem.W.clsIn K C).isSome && PySem.W.typeIn K (.ref C) == some (.type "type")) = true then PySem.W.subIn K cls (.ref C) else none) = some r
  rw [cls_of_exc q, t, if_pos (by rfl), s]
section
variable {P : Program} {w : World} {K : PySem.W.Frag} {mg : Str → Option Value} {base : Heap} {CR CP CC CS CG eF eE eS eR eO C f f1 f2 f3 p p1 p2 p3 : Addr} {fd fd1 fd2 fd3 : FuncData} {ps ps1 ps2 ps3 : List Str} {k : Nat} {x : Str} {sp : Sp}
theorem calN (c : Cal P w K mg base k x sp) : CalN P w K mg base k x sp := by
  obtain ⟨f, fd, ps, F, m, kp, b⟩ := c.ex
  exact ⟨f, fd, ps, FnOk.liftN F, m, kp, b⟩
theorem metV (cl : Cls K C) (m : Meth K C x f) (F : FnOk P w K mg base (L2N.CX P w) k f fd ps sp) (b : Binds K fd ps []) : MetV P w K mg base k (Is C) x sp := ⟨fun C' e => by
  cases e
  exact ⟨f, fd, ps, cl, m, F, b⟩⟩
theorem prpV (cl : Cls K C) (m : PropOf K C x p f) (F : FnOk P w K mg base (L2N.CX P w) k f fd ps sp) (b : Binds K fd ps []) : PrpV P w K mg base k (Is C) x sp := ⟨fun C' e => by
  cases e
  exact ⟨p, f, fd, ps, cl, m, F, b⟩⟩
theorem prp3 (T : TxtL K CR CP CC CS CG) (m1 : PropOf K CP x p1 f1) (F1 : FnOk P w K mg base (L2N.CX P w) k f1 fd1 ps1 sp) (b1 : Binds K fd1 ps1 []) (m2 : PropOf K CC x p2 f2) (F2 : FnOk P w K mg base (L2N.CX P w) k f2 fd2 ps2 sp) (b2 : Binds K fd2 ps2 [])
    (m3 : PropOf K CS x p3 f3) (F3 : FnOk P w K mg base (L2N.CX P w) k f3 fd3 ps3 sp) (b3 : Binds K fd3 ps3 []) : PrpV P w K mg base k (Any3 CP CC CS) x sp := ⟨fun C h => by
  rcases h with rfl | rfl | rfl
  · exact ⟨p1, f1, fd1, ps1, T.cP, m1, F1, b1⟩
  · exact ⟨p2, f2, fd2, ps2, T.cC, m2, F2, b2⟩
  · exact ⟨p3, f3, fd3, ps3, T.cS, m3, F3, b3⟩⟩
theorem met3 {sp : Addr → Nat → Sp} (T : TxtL K CR CP CC CS CG) (m1 : Meth K CP x f1) (F1 : FnOk P w K mg base (L2N.CX P w) k f1 fd1 ps1 (sp CP 0)) (b1 : Binds K fd1 ps1 []) (m2 : Meth K CC x f2) (F2 : FnOk P w K mg base (L2N.CX P w) k f2 fd2 ps2 (sp CC 1)) (b2 : Binds K fd2 ps2 [])
    (m3 : Meth K CS x f3) (F3 : FnOk P w K mg base (L2N.CX P w) k f3 fd3 ps3 (sp CS 2)) (b3 : Binds K fd3 ps3 []) : MetC P w K mg base k (Kind3 CP CC CS) x sp := ⟨fun C i h => by
  rcases h with ⟨rfl, rfl⟩ | ⟨rfl, rfl⟩ | ⟨rfl, rfl⟩
  · exact ⟨f1, fd1, ps1, T.cP, m1, F1, b1⟩
  · exact ⟨f2, fd2, ps2, T.cC, m2, F2, b2⟩
  · exact ⟨f3, fd3, ps3, T.cS, m3, F3, b3⟩⟩
theorem left_P (F : FnOk P w K mg base (L2N.CX P w) 2 f fd ps (spLeftP CR CP CC CS)) : FnOk P w K mg base (L2N.CX P w) 3 f fd ps (spLeft CR eO CP 0) := (F.imp fun vs H Q E h => by
  obtain ⟨p, dp, r, r', ai, ap, aq, n, I, U, S, rfl, hp, R, W, hn, q, _⟩ := h
  exact ⟨p, dp, r, r', CP, ai, ap, aq, n, I, U, S, rfl, .inl rfl, hp, R, W, hn, q _ (if_pos rfl)⟩).mono (by decide)
theorem start_P (F : FnOk P w K mg base (L2N.CX P w) 4 f fd ps (spStartP CR CP CC CS eS)) : FnOk P w K mg base (L2N.CX P w) 5 f fd ps (spStartC CR eS CP 0) := (F.imp fun vs H Q E h => by
  obtain ⟨p, dp, r, ai, ap, aq, n, I, U, S, rfl, hp, h⟩ := h
  exact ⟨p, dp, r, CP, ai, ap, aq, n, I, U, S, rfl, .inl rfl, hp, h⟩).mono (by decide)
theorem stop_P (F : FnOk P w K mg base (L2N.CX P w) 4 f fd ps (spStopP CR CP CC CS eR eO)) : FnOk P w K mg base (L2N.CX P w) 5 f fd ps (spStopK CR eR eO CP 0) := (F.imp fun vs H Q E h => ⟨CP, 0, .inl ⟨rfl, rfl⟩, h⟩).mono (by decide)
theorem desc_P (F : FnOk P w K mg base (L2N.CX P w) 1 f fd ps (spDescP CP CC CS)) : FnOk P w K mg base (L2N.CX P w) 2 f fd ps (spDesc CP 0) := (F.imp fun vs H Q E h => by
  obtain ⟨p, dp, r, n, rfl, hp, hn, q⟩ := h
  exact ⟨p, dp, r, CP, n, rfl, .inl rfl, hp, hn, fun y ny => q y _ (same_new ny) ny upd_same⟩).mono (by decide)
theorem bindG2 (F : FunD K "__init__" "Setting.__init__" (defArgs s_Setting_init) (defBody s_Setting_init) (defScope s_Setting_init) [.int 0] [] f fd) : Binds K fd ["self", "original"] [] := by
  obtain ⟨ds, r, b⟩ := F.binds1 (ps := ["self", "original"]) 2 1 (by simp) rfl (fun T kV doc pm an cdv ct us its h1 h2 => match us, its, h1, h2 with | [a, b], [d], _, _ => ⟨_, rfl, rfl⟩)
  cases r
  exact b
theorem bindGK (F : FunD K "__init__" "Setting.__init__" (defArgs s_Setting_init) (defBody s_Setting_init) (defScope s_Setting_init) [.int 0] [] f fd) : KBn K fd ["self", "original"] 1 ["original"] (fun a b => a ++ b) (fun a b => a ++ b) := by
  obtain ⟨oc, od, dV, kV, doc, pm, an, cdv, ct, osl, rfl, lk, hcd, hD, hK⟩ := F.ex
  rcases hD with ⟨e, _⟩ | ⟨_, T, o, its, m, rfl, lT, oT, rT⟩
  · cases e
  · refine ⟨fun s us ws X l1 l2 => ?_, fun r1 r2 => r1.append r2⟩
    have li : its.length = 1 := rT.length.symm
    match us, ws, its, l1, l2, li, lT, oT with
    | [a], [b], [d], _, _, _, lT, oT =>
      obtain ⟨k, e1, e2⟩ : ∃ k, bindArgs (PySem.W.fnOf "__init__" "Setting.__init__" (defArgs s_Setting_init) (defBody s_Setting_init) (defScope s_Setting_init) (.ref T) kV doc pm an cdv ct) ⟨[a], [("original", b)]⟩ = seqItems? (.ref T) >>= k ∧ k (some #[d]) = pure ((["self", "original"] : List Str).zip [a, b]) := ⟨_, rfl, rfl⟩
      refine BindsTo.of_looks fun M => ?_
      show PySem.W.Looks M s.heap (bindArgs _ ⟨[a], [("original", b)]⟩) _
      rw [e1]
      exact looks_items X lT oT (.of_pure e2)
end
end L25
set_option Elab.async false
set_option linter.all false
set_option maxRecDepth 100000
namespace L25
open PySem PySem.Spec PyProof.Rows L2 Lp
/-! ### values of any kind: is_integer and its kin -/
def toI : PyData → Int | .int i => i | _ => 0
def numB (lo hi : Int) : PyData → Bool | .int i => decide (lo ≤ i) && decide (i ≤ hi) | _ => false
theorem numB_iff {lo hi : Int} {d : PyData} : numB lo hi d = true ↔ ∃ i, d = .int i ∧ lo ≤ i ∧ i ≤ hi := by
  cases d with
  | int i =>
    show (decide (lo ≤ i) && decide (i ≤ hi)) = true ↔ _
    rw [Bool.and_eq_true, decide_eq_true_eq, decide_eq_true_eq]
    exact ⟨fun h => ⟨i, rfl, h⟩, fun ⟨j, e, h⟩ => by cases e; exact h⟩
  | none => exact ⟨(fun h => nomatch h), (fun ⟨j, e, h⟩ => nomatch e)⟩
  | bool _ => exact ⟨(fun h => nomatch h), (fun ⟨j, e, h⟩ => nomatch e)⟩
  | str _ => exact ⟨(fun h => nomatch h), (fun ⟨j, e, h⟩ => nomatch e)⟩
  | list _ => exact ⟨(fun h => nomatch h), (fun ⟨j, e, h⟩ => nomatch e)⟩
  | tuple _ => exact ⟨(fun h => nomatch h), (fun ⟨j, e, h⟩ => nomatch e)⟩
  | dict _ => exact ⟨(fun h => nomatch h), (fun ⟨j, e, h⟩ => nomatch e)⟩
theorem numB_all {lo hi : Int} : ∀ {ds : List PyData}, (ds.map (numB lo hi)).all id = true ↔ ∃ ns : List Int, ds = ns.map PyData.int ∧ ∀ n ∈ ns, lo ≤ n ∧ n ≤ hi
  | [] => ⟨fun _ => ⟨[], rfl, fun _ h => absurd h List.not_mem_nil⟩, fun _ => rfl⟩
  | d :: ds => by
    rw [List.map_cons, List.all_cons, Bool.and_eq_true, numB_all (ds := ds)]
    show numB lo hi d = true ∧ _ ↔ _
    rw [numB_iff]
    constructor
    · rintro ⟨⟨i, rfl, h⟩, ns, rfl, hn⟩
      exact ⟨i :: ns, rfl, fun n hm => (List.mem_cons.mp hm).elim (fun e => e ▸ h) (hn n)⟩
    · rintro ⟨ns, e, hn⟩
      cases ns with
      | nil => cases e
      | cons i ns =>
        rw [List.map_cons] at e
        cases e
        exact ⟨⟨i, rfl, hn i List.mem_cons_self⟩, ns, rfl, fun n hm => hn n (List.mem_cons_of_mem _ hm)⟩
theorem wt_len : ∀ ds : List PyData, 2 * ds.length ≤ wtAll ds
  | [] => Nat.zero_le _
  | d :: ds => by
    have := wt_len ds
    show 2 * (ds.length + 1) ≤ wt d + 2 + wtAll ds
    omega
theorem oxAll_ints_inv {K : PySem.W.Frag} {H : Hp} : ∀ {xs : List V} {ns : List Int}, OxAll K H xs (ns.map PyData.int) → xs = ns.map V.int
  | [], [], _ => rfl
  | x :: xs, n :: ns, h => by
    cases h with
    | cons h1 h2 =>
      cases h1
      rw [oxAll_ints_inv h2]
      rfl
  | [], _ :: _, h => nomatch h
  | _ :: _, [], h => nomatch h
theorem ox_ints_inv {K : PySem.W.Frag} {H : Hp} {v : V} {ns : List Int} (h : Ox K H v (dI ns)) : ∃ a, v = .ref a ∧ SqL K H a (ns.map V.int) := by
  cases h with
  | lst hs ha =>
    rw [oxAll_ints_inv ha] at hs
    exact ⟨_, rfl, hs⟩
theorem ox_ints {K : PySem.W.Frag} {H : Hp} {a : Addr} {ns : List Int} (h : SqL K H a (ns.map V.int)) : Ox K H (.ref a) (dI ns) := .lst h (oxAll_ints ns)
def AreI (lo hi m : Int) (d : PyData) : Prop := ∃ ns : List Int, d = dI ns ∧ ((ns.length : Nat) : Int) ≤ m ∧ ∀ n ∈ ns, lo ≤ n ∧ n ≤ hi
/-- different events -/
def EvD (d : PyData) : Prop := ∃ ns : List Int, d = dI ns ∧ (∀ e ∈ ns, e ≠ 0 ∧ -100 ≤ e ∧ e ≤ 100) ∧ ns.Nodup ∧ ns.length ≤ 200
section
variable {P : Program} {w : World} {K : PySem.W.Frag} {mg : Str → Option Value} {base : Heap}
def spIsIntO (K : PySem.W.Frag) : Sp := fun vs H Q _ => ∃ (v : V) (d : PyData), vs = [v] ∧ Ox K H v d ∧ Q (.bl (isI d)) H
theorem ok_is_integer_O {f : Addr} {fd : FuncData} (F : Fun K "is_integer" "is_integer" s_is_integer f fd) (B : NoB mg) : FnOk P w K mg base CX0 1 f fd ["value"] (spIsIntO K) := by
  refine F.ok sc_is_integer (fun vs H Q E h => ?_) (fun cdv A outer s H vs Q E hr h => ?_)
  · obtain ⟨v, d, rfl, _⟩ := h
    rfl
  · obtain ⟨v, d, rfl, hv, q⟩ := h
    refine ⟨_, (pss_one (ps_ret (pe_and (pe_callB call_isi (by rfl) B.isinstance (by decide +kernel) (pa_cons (pv 0) (pa_cons (pe_bltn (v := .ty "int") (by rfl) B.int boot_int rfl) pa_nil))) (pe_one (pe_not (pe_callB call_isi (by rfl) B.isinstance (by decide +kernel) (pa_cons (pv 0) (pa_cons (pe_bltn (v := .ty "bool") (by rfl) B.bool boot_bool rfl) pa_nil)))))))), ?_⟩
    refine ⟨_, rfl, _, _, _, _, _, rfl, .ty _, hv.tyx, kit_int d, _, rfl, ?_⟩
    by_cases h1 : (isI d || isB d) = true
    · rw [if_pos h1]
      refine ⟨_, rfl, _, _, _, _, _, rfl, .ty _, hv.tyx, kit_bool d, _, rfl, ?_⟩
      have e : (!isB d) = isI d := by cases d <;> first | rfl | cases h1
      rw [e]
      exact q
    · rw [if_neg h1]
      have e : isI d = false := by cases d <;> first | rfl | exact absurd rfl h1
      rw [e] at q
      exact q
def spWithinO (K : PySem.W.Frag) : Sp := fun vs H Q _ => ∃ (v : V) (d : PyData) (lo hi : Int), vs = [v, .int lo, .int hi] ∧ Ox K H v d ∧ Q (.bl (numB lo hi d)) H
theorem ok_is_integer_within_O {f : Addr} {fd : FuncData} (F : Fun K "is_integer_within" "is_integer_within" s_is_integer_within f fd) (T_is_integer : Cal P w K mg base 1 "is_integer" (spIsIntO K)) : FnOk P w K mg base CX0 2 f fd ["value", "least", "greatest"] (spWithinO K) := by
  refine F.ok sc_is_integer_within (fun vs H Q E h => ?_) (fun cdv A outer s H vs Q E hr h => ?_)
  · obtain ⟨v, d, lo, hi, rfl, _⟩ := h
    rfl
  · obtain ⟨v, d, lo, hi, rfl, hv, q⟩ := h
    refine ⟨_, (pss_one (ps_ret (pe_and (pe_c T_is_integer hr (by decide) (by rfl) (pa_cons (pv 0) pa_nil)) (pe_one (pe_chain op_le op_le (pv 1) (pv 0) (pv 2)))))), ?_⟩
    refine ⟨_, rfl, v, d, rfl, hv, _, rfl, ?_⟩
    cases hv with
    | int i =>
      refine iteT ?_
      refine ⟨_, rfl, _, rfl, _, _, rfl, rfl, _, rfl, ?_⟩
      by_cases h1 : lo ≤ i
      · rw [decide_eq_true h1]
        refine iteT ⟨_, rfl, _, _, rfl, rfl, ?_⟩
        have e : numB lo hi (.int i) = decide (i ≤ hi) := by
          show (decide (lo ≤ i) && _) = _
          rw [decide_eq_true h1]
          rfl
        rw [e] at q
        exact q
      · rw [decide_eq_false h1]
        have e : numB lo hi (.int i) = false := by
          show (decide (lo ≤ i) && _) = _
          rw [decide_eq_false h1]
          rfl
        rw [e] at q
        exact iteF q
    | non => exact iteF q
    | bl b => exact iteF q
    | str x => exact iteF q
    | lst _ _ => exact iteF q
    | tup _ _ => exact iteF q
    | dct _ => exact iteF q
/-! ### are_integers -/
def spAreIntsO (K : PySem.W.Frag) : Sp := fun vs H Q _ => ∃ (v : V) (d : PyData) (lo hi m : Int), vs = [v, .int lo, .int hi, .int m] ∧ Ox K H v d ∧ wt d ≤ 190000 ∧ ∀ H' (b : Bool), Same H H' → (b = true ↔ AreI lo hi m d) → Q (.bl b) H'
theorem ok_are_integers_O {f : Addr} {fd : FuncData} (F : Fun K "are_integers" "are_integers" s_are_integers f fd) (B : NoB mg) (T_is_integer_within : Cal P w K mg base 2 "is_integer_within" (spWithinO K)) : FnOk P w K mg base CX0 3 f fd ["value", "least", "greatest", "most"] (spAreIntsO K) := by
  refine F.ok sc_are_integers (fun vs H Q E h => ?_) (fun cdv A outer s H vs Q E hr h => ?_)
  · obtain ⟨v, d, lo, hi, m, rfl, _⟩ := h
    rfl
  · obtain ⟨v, d, lo, hi, m, rfl, hv, hw, q⟩ := h
    refine ⟨_, (pss_cons (ps_if (PW.pt (pw_or (pt_cmpR op_neTyG (pe_callTy call_type1 (by rfl) B.type (by decide +kernel) (pa_cons (pv 0) pa_nil)) (pe_bltn (v := .ty "list") (by rfl) B.list boot_list rfl) (nomark _)) (pw_or1 (pt_cmpR op_gt (pe_callB call_len_seq (by rfl) B.len PySem.boot_len (pa_cons (pv 0) pa_nil)) (pv 3) (nomark _))))) (pss_one (ps_ret pe_bl)) pss_nil)
        (pss_one (ps_ret (pe_callB (cr_all rfl) (by rfl) B.all (by decide +kernel) (pa_cons (pe_lc (own := [("item", 4)]) (g := gName 4) (tt := tYes) rfl sc_are_integers.nd (pi_list (pv 0)) (blkOk_by (own := [("item", 4)]) (N := N_are_integers) (sc := defScope s_are_integers) (by decide +kernel)) (fun _ _ _ _ _ => (pg_name (i := 4) sc_are_integers.nd rfl (Or.inl rfl))) (fun _ _ _ _ _ => pts_nil) (fun _ _ _ _ _ => (pe_c T_is_integer_within hr (by decide) (by rfl) (pa_cons (pv 4) (pa_cons (pv 1) (pa_cons (pv 2) pa_nil)))))) pa_nil))))), ?_⟩
    by_cases hl : isL d = true
    · cases hv with
      | @lst a xs ds hS ha =>
        have ln := oxAll_len ha
        have wl := wt_len ds
        have hw : 2 + wtAll ds ≤ 190000 := hw
        refine ⟨_, rfl, _, _, rfl, .lst hS, .inl ⟨_, rfl, rfl, PySem.TypeEq.meta_list, _, rfl, iteF ?_⟩⟩
        refine ⟨_, rfl, a, _, rfl, .inl hS, _, rfl, _, _, rfl, rfl, _, rfl, ?_⟩
        by_cases hm : m < ((xs.length : Nat) : Int)
        · rw [decide_eq_true hm]
          refine iteT (q _ false (Same.refl _) ⟨(fun h => nomatch h), fun ⟨ns, e, h, _⟩ => ?_⟩)
          cases e
          rw [List.length_map] at ln
          omega
        · rw [decide_eq_false hm]
          refine iteF ?_
          refine ⟨_, rfl, a, rfl, ⟨_, hS⟩, fun D hD => lc_list (xs := xs) (LcP H D fun i => ((ds.take i).map (numB lo hi)).map V.bl) (.init hD rfl) (fun i H' _ p => p.2.1.seq hS) (fun i x H' hx p => ?_) (fun H' p => ?_)⟩
          · obtain ⟨e, he, hxo⟩ := oxAll_get ha hx
            have li := lt_get he
            refine ⟨rfl, ?_⟩
            refine ⟨_, rfl, _, rfl, _, rfl, x, e, lo, hi, rfl, ox_same p.2.1 hxo, ?_⟩
            refine p.put (Same.refl _) ?_ (by rw [List.length_map, List.length_map, List.length_take]; omega)
            rw [take_get he, List.map_append, List.map_append]
            rfl
          · have h2 : H' D = some (.lst ((ds.map (numB lo hi)).map V.bl)) := by
              have z := p.2.2
              rw [ln] at z
              rw [z]
              show some (HO.lst (((ds.take ds.length).map (numB lo hi)).map V.bl)) = _
              rw [List.take_length]
            refine ⟨D, _, rfl, .of h2, q _ _ p.2.1 ?_⟩
            rw [numB_all]
            constructor
            · rintro ⟨ns, rfl, hn⟩
              rw [List.length_map] at ln
              exact ⟨ns, rfl, by omega, hn⟩
            · rintro ⟨ns, e, _, hn⟩
              cases e
              exact ⟨ns, rfl, hn⟩
      | non => cases hl
      | bl b => cases hl
      | int i => cases hl
      | str x => cases hl
      | tup _ _ => cases hl
      | dct _ => cases hl
    · have hl' : isL d = false := Bool.eq_false_iff.mpr hl
      refine ⟨_, rfl, _, _, rfl, hv.tyb, ?_⟩
      refine neTyL ⟨_, rfl, ?_⟩
      rw [hl']
      refine iteT (q _ false (Same.refl _) ⟨(fun h => nomatch h), fun ⟨ns, e, _⟩ => ?_⟩)
      subst e
      cases hl'
/-! ### are_events -/
def spAreEvO (K : PySem.W.Frag) : Sp := fun vs H Q _ => ∃ (v : V) (d : PyData), vs = [v] ∧ Ox K H v d ∧ wt d ≤ 190000 ∧ ∀ H' (b : Bool), Same H H' → (b = true ↔ EvD d) → Q (.bl b) H'
theorem ok_are_events_O {f : Addr} {fd : FuncData} (F : Fun K "are_events" "are_events" s_are_events f fd) (B : NoB mg) {t1 t2 : Tok} (T_g_LAST_PATCH : mg "LAST_PATCH" = some (.int 100 t1)) (T_g_MOST_EVENTS : mg "MOST_EVENTS" = some (.int 200 t2))
    (T_are_integers : Cal P w K mg base 3 "are_integers" (spAreIntsO K)) : FnOk P w K mg base CX0 4 f fd ["value"] (spAreEvO K) := by
  refine F.ok sc_are_events (fun vs H Q E h => ?_) (fun cdv A outer s H vs Q E hr h => ?_)
  · obtain ⟨v, d, rfl, _⟩ := h
    rfl
  · obtain ⟨v, d, rfl, hv, hw, q⟩ := h
    refine ⟨_, (pss_cons (ps_if (pt_not (pt_val (pe_c T_are_integers hr (by decide) (by rfl) (pa_cons (pv 0) (pa_cons (pe_un un_neg (pe_glob (v := .int 100) (by rfl) T_g_LAST_PATCH ⟨_, rfl⟩)) (pa_cons (pe_glob (v := .int 100) (by rfl) T_g_LAST_PATCH ⟨_, rfl⟩) (pa_cons (pe_glob (v := .int 200) (by rfl) T_g_MOST_EVENTS ⟨_, rfl⟩) pa_nil))))))) (pss_one (ps_ret pe_bl)) pss_nil)
        (pss_one (ps_ret (pe_and (pe_cmpR op_notIn_seq pe_int (pv 0) (by rfl)) (pe_one (pe_cmpR op_eq (pe_lenSetG (by rfl) B.len (by rfl) B.set (pv 0)) (pe_callB call_len_seq (by rfl) B.len PySem.boot_len (pa_cons (pv 0) pa_nil)) (nomark _))))))), ?_⟩
    refine ⟨_, rfl, _, rfl, v, d, -100, 100, 200, rfl, hv, hw, fun H1 b s1 hb => ?_⟩
    cases b with
    | false =>
      refine ⟨_, rfl, iteT (q _ false s1 ⟨(fun h => nomatch h), fun ⟨ns, e, h1, h2, h3⟩ => ?_⟩)⟩
      exact hb.mpr ⟨ns, e, by omega, fun n hn => (h1 n hn).2⟩
    | true =>
      obtain ⟨ns, rfl, hlen, hr0⟩ := hb.mp rfl
      obtain ⟨a, rfl, hS⟩ := ox_ints_inv hv
      refine ⟨_, rfl, iteF ?_⟩
      have hS1 := s1.seq hS
      by_cases h0 : (0 : Int) ∈ ns
      · refine ⟨_, rfl, a, ns.map V.int, rfl, .inl hS1, rfl, flatI ns, false, notInF h0, iteF (q _ false s1 ⟨(fun h => nomatch h), fun ⟨ms, e, h1, _⟩ => ?_⟩)⟩
        have e2 : ns = ms := by
          have := PyData.list.inj e
          exact List.map_inj_right (fun x y h => PyData.int.inj h) |>.mp this
        subst e2
        exact absurd rfl (h1 0 h0).1
      · refine ⟨_, rfl, a, ns.map V.int, rfl, .inl hS1, rfl, flatI ns, true, notInT h0, iteT ?_⟩
        refine ⟨_, rfl, a, ns, rfl, hS1, by omega, fun c hc => ?_⟩
        refine ⟨_, rfl, a, _, rfl, .inl hS1, rfl, ?_⟩
        rw [List.length_map]
        refine q _ _ s1 ?_
        rw [decide_eq_true_eq]
        constructor
        · intro h
          have h : (c : Int) = ((ns.length : Nat) : Int) := by
            have := V.int.inj h
            exact this
          exact ⟨ns, rfl, fun e he => ⟨fun z => h0 (z ▸ he), hr0 e he⟩, hc.mp (by omega), by omega⟩
        · rintro ⟨ms, e, _, nd, _⟩
          have e2 : ns = ms := by
            have := PyData.list.inj e
            exact List.map_inj_right (fun x y h => PyData.int.inj h) |>.mp this
          subst e2
          rw [hc.mpr nd]
end
structure Hist (ns : List Int) : Prop where
  rng : ∀ e ∈ ns, e ≠ 0 ∧ -100 ≤ e ∧ e ≤ 100
  nd : ns.Nodup
  ord : ∀ (i : Nat) (e : Int), ns[i]? = some e → e < 0 → -e ∈ ns.take i
  len : ns.length ≤ 200
theorem not_mem_take {ns : List Int} (nd : ns.Nodup) {i : Nat} {e : Int} (h : ns[i]? = some e) : e ∉ ns.take i := by
  intro hm
  obtain ⟨j, hj, e1⟩ := List.mem_iff_getElem.mp hm
  rw [List.length_take] at hj
  have hjn : j < ns.length := by omega
  have e2 : ns[j]? = some e := by
    rw [List.getElem?_eq_getElem hjn, ← e1, List.getElem_take]
  have := nd_ix nd e2 h
  omega
theorem mem_take_succ {ns : List Int} {i : Nat} {e x : Int} (h : ns[i]? = some e) : (x ∈ ns.take (i + 1)) ↔ (x ∈ ns.take i ∨ x = e) := by
  rw [take_get h, List.mem_append, List.mem_singleton]
/-! ### is_history of any value -/
def HistD (d : PyData) : Prop := ∃ ns : List Int, d = dI ns ∧ Hist ns
theorem dI_inj {ns ms : List Int} (e : dI ns = dI ms) : ns = ms := List.map_inj_right (fun x y h => PyData.int.inj h) |>.mp (PyData.list.inj e)
section
variable {P : Program} {w : World} {K : PySem.W.Frag} {mg : Str → Option Value} {base : Heap}
def spIsHistO (K : PySem.W.Frag) : Sp := fun vs H Q _ => ∃ (v : V) (d : PyData), vs = [v] ∧ Ox K H v d ∧ wt d ≤ 190000 ∧ ∀ H' (b : Bool), Same H H' → (b = true ↔ HistD d) → Q (.bl b) H'
theorem ok_is_history_O {f : Addr} {fd : FuncData} (F : Fun K "is_history" "is_history" s_is_history f fd) (B : NoB mg) (T_are_events : Cal P w K mg base 4 "are_events" (spAreEvO K)) : FnOk P w K mg base CX0 5 f fd ["value"] (spIsHistO K) := by
  refine F.ok sc_is_history (fun vs H Q E h => ?_) (fun cdv A outer s H vs Q E hr h => ?_)
  · obtain ⟨v, d, rfl, _⟩ := h
    rfl
  · obtain ⟨v, d, rfl, hv, hw, q0⟩ := h
    have hu := hu_of hr
    refine ⟨_, (pss_cons (ps_if (pt_not (pt_val (pe_c T_are_events hr (by decide) (by rfl) (pa_cons (pv 0) pa_nil)))) (pss_one (ps_ret pe_bl)) pss_nil)
        (pss_cons (ps_set (i := 1) sc_is_history.nd rfl (Or.inl rfl) (pe_callTy0 cr_set0 (by rfl) B.set (by decide +kernel)))
        (pss_cons (ps_for PassesOwn.never rfl (pi_list (pv 0)) (pg_name (i := 2) sc_is_history.nd rfl (Or.inl rfl))
          (pss_one (ps_if (pt_cmpR op_gt (pv 2) pe_int (nomark _)) (pss_one (ps_expr (pe_sadd (pv 1) (pa_cons (pv 2) pa_nil)))) (pss_one (ps_if (pt_cmpR or_snotin (pe_un un_neg (pv 2)) (pv 1) (by rfl)) (pss_one (ps_ret pe_bl)) pss_nil)))))
        (pss_one (ps_ret pe_bl))))), ?_⟩
    refine ⟨_, rfl, v, d, rfl, hv, hw, fun H1 b1 s1 hb1 => ?_⟩
    cases b1 with
    | false => exact ⟨_, rfl, iteT (q0 _ false s1 ⟨(fun h => nomatch h), fun ⟨ns, e, hp⟩ => hb1.mpr ⟨ns, e, hp.rng, hp.nd, hp.len⟩⟩)⟩
    | true =>
    obtain ⟨ns, rfl, hr0, nd0, hlen⟩ := hb1.mp rfl
    obtain ⟨a, rfl, hS⟩ := ox_ints_inv hv
    have q : ∀ (H' : Hp) (b : Bool), Same H H' → (b = true ↔ Hist ns) → Q (.bl b) H' := fun H' b s hb => q0 H' b s ⟨fun e => ⟨ns, rfl, hb.mp e⟩, fun ⟨ms, e, hp⟩ => by
      have e2 := dI_inj e
      subst e2
      exact hb.mpr hp⟩
    refine ⟨_, rfl, iteF ?_⟩
    refine ⟨rfl, fun p np => ?_⟩
    have hS1 := s1.seq hS
    refine ⟨_, rfl, a, rfl, ⟨_, (same_new np).seq hS1⟩, for_list (xs := ns.map V.int) (fun i σ H' => (∃ y, σ = [some (.ref a), some (.ref p), y]) ∧ Same H1 H' ∧ (∃ n, n ≤ i ∧ H' p = some (SetO w p (fun x => decide (0 < x ∧ x ∈ ns.take i)) n)) ∧ ∀ (j : Nat) (e : Int), j < i → ns[j]? = some e → e < 0 → -e ∈ ns.take j) ⟨⟨_, rfl⟩, same_new np, ⟨0, Nat.le_refl _, ?_⟩, fun j e h => absurd h (Nat.not_lt_zero _)⟩ (fun i σ H' _ h => h.2.1.seq hS1) (fun i x σ H' hx h => ?_) (fun σ H' h => ?_)⟩
    · rw [upd_same]
      show some (SetO w p (fun x => false) 0) = some (SetO w p (fun x => decide (0 < x ∧ x ∈ ns.take 0)) 0)
      simp
    · obtain ⟨n, rfl, hn⟩ := get_int hx
      obtain ⟨⟨y, rfl⟩, sm, ⟨m, hm, hp⟩, ho⟩ := h
      have hi : i < 200 := Nat.lt_of_lt_of_le (lt_get hn) hlen
      have e0 := (hr0 n (mem_get hn)).1
      have ho' : (n < 0 → -n ∈ ns.take i) → ∀ (j : Nat) (e : Int), j < i + 1 → ns[j]? = some e → e < 0 → -e ∈ ns.take j := fun hnn j e hj he hneg => by
        rcases Nat.lt_or_ge j i with h | h
        · exact ho j e h he hneg
        · have : j = i := by omega
          subst this
          rw [hn] at he
          cases he
          exact hnn hneg
      by_cases h0 : 0 < n
      · refine ⟨_, rfl, _, _, rfl, rfl, true, dT h0, ?_⟩
        refine ⟨_, rfl, ⟨p, _, m, rfl, hp⟩, _, rfl, p, n, _, m, rfl, rfl, hp, by show m + 1 < 4096; omega, ⟨_, rfl⟩, fun b o e => ?_, ⟨m + 1, by omega, ?_⟩, ho' (fun z => by omega)⟩
        rotate_left 1
        · have hnt : ¬ (0 < n ∧ n ∈ ns.take i) := fun z => not_mem_take nd0 hn z.2
          rw [upd_same, decide_eq_false hnt, if_neg Bool.false_ne_true]
          refine congrArg some (congrArg (fun S => SetO w p S _) (funext fun x => ?_))
          rw [← Bool.decide_or]
          refine decide_eq_decide.mpr ?_
          have := mem_take_succ (x := x) hn
          rw [this]
          constructor
          · rintro (⟨a, b⟩ | rfl)
            · exact ⟨a, .inl b⟩
            · exact ⟨h0, .inr rfl⟩
          · rintro ⟨a, b | b⟩
            · exact .inl ⟨a, b⟩
            · exact .inr b
        · rw [upd_ne (ne_of_none e np)]
          exact sm _ _ e
      · refine ⟨_, rfl, _, _, rfl, rfl, false, dF h0, ?_⟩
        by_cases hpre : -n ∈ ns.take i
        · refine ⟨_, rfl, n, rfl, _, rfl, -n, p, _, m, rfl, rfl, hp, false, nF ⟨by omega, hpre⟩, ⟨_, rfl⟩, sm, ⟨m, by omega, ?_⟩, ho' (fun _ => hpre)⟩
          rw [hp]
          refine congrArg some (congrArg (fun S => SetO w p S m) (funext fun x => decide_eq_decide.mpr ?_))
          rw [mem_take_succ hn]
          constructor
          · exact fun ⟨a, b⟩ => ⟨a, .inl b⟩
          · rintro ⟨a, b | b⟩
            · exact ⟨a, b⟩
            · omega
        · refine ⟨_, rfl, n, rfl, _, rfl, -n, p, _, m, rfl, rfl, hp, true, nT (fun z => hpre z.2), ?_⟩
          exact q _ false (s1.trans sm) ⟨(fun h => nomatch h), fun hh => absurd (hh.ord i n hn (by omega)) hpre⟩
    · obtain ⟨⟨y, rfl⟩, sm, _, ho⟩ := h
      refine q _ true (s1.trans sm) ⟨fun _ => ⟨hr0, nd0, fun i e he h0 => ho i e ?_ he h0, hlen⟩, fun _ => rfl⟩
      rw [List.length_map]
      exact lt_get he
end
section
variable {P : Program} {w : World} {K : PySem.W.Frag} {mg : Str → Option Value} {base : Heap} {CR CP CC CS CG eN : Addr}
/-! ### integers that can't be set -/
def spBadN1 (K : PySem.W.Frag) (eN : Addr) : Sp := fun vs H Q X => ∃ (v : V) (d : PyData) (lo hi : Int), vs = [v, .int lo, .int hi] ∧ Ox K H v d ∧ numB lo hi d = false ∧ X (.ref eN) none H
theorem ok_check_number_B {f : Addr} {fd : FuncData} (F : Fun K "check_number" "check_number" s_check_number f fd) (RN : Er K mg "InvalidNumberError" eN) (T_is_integer_within : Cal P w K mg base 2 "is_integer_within" (spWithinO K)) : FnOk P w K mg base (L2N.CX P w) 3 f fd ["value", "least", "greatest"] (spBadN1 K eN) := by
  refine F.okN sc_check_number (fun vs H Q E h => ?_) (fun cdv A outer s H vs Q E_ hr h => ?_)
  · obtain ⟨v, d, lo, hi, rfl, _⟩ := h
    rfl
  · obtain ⟨v, d, lo, hi, rfl, hv, hs, x⟩ := h
    refine ⟨_, (pss_one (ps_if (pt_not (pt_val (pe_c T_is_integer_within hr (by decide) (by rfl) (pa_cons (pv 0) (pa_cons (pv 1) (pa_cons (pv 2) pa_nil)))))) (pss_one (L2N.ps_raise rfl (L2N.takes_of rfl rfl rfl rfl) (L2N.pmk_own PySem.F.excBase_ValueError RN.x RN.c RN.k (raises_own RN.b RN.t) rfl))) pss_nil)), ?_⟩
    refine ⟨_, rfl, _, rfl, _, rfl, v, d, lo, hi, rfl, hv, _, rfl, ?_⟩
    rw [hs]
    exact iteT x
def spBadS1 (K : PySem.W.Frag) (eN : Addr) : Sp := fun vs H Q X => ∃ (v : V) (d : PyData), vs = [v] ∧ Ox K H v d ∧ numB (-T30) T30 d = false ∧ X (.ref eN) none H
theorem ok_check_settable_B {f : Addr} {fd : FuncData} (F : Fun K "check_settable" "check_settable" s_check_settable f fd) {t1 : Tok} (T_g_FARTHEST : mg "FARTHEST" = some (.int T30 t1)) (T_check_number : CalN P w K mg base 3 "check_number" (spBadN1 K eN)) : FnOk P w K mg base (L2N.CX P w) 4 f fd ["value"] (spBadS1 K eN) := by
  refine F.okN sc_check_settable (fun vs H Q E h => ?_) (fun cdv A outer s H vs Q E_ hr h => ?_)
  · obtain ⟨v, d, rfl, _⟩ := h
    rfl
  · obtain ⟨v, d, rfl, hv, hs, x⟩ := h
    refine ⟨_, (pss_one (ps_expr (pe_cn T_check_number hr (by decide) (L2N.takes_of rfl rfl rfl rfl) (by rfl) (pa_cons (pv 0) (pa_cons (pe_un un_neg (pe_glob (v := .int 1000000000000000000000000000000) (by rfl) T_g_FARTHEST ⟨_, rfl⟩)) (pa_cons (pe_glob (v := .int 1000000000000000000000000000000) (by rfl) T_g_FARTHEST ⟨_, rfl⟩) pa_nil)))))), ?_⟩
    exact ⟨_, rfl, _, rfl, v, d, -T30, T30, rfl, hv, hs, x⟩
def spGInitB (K : PySem.W.Frag) (eN : Addr) : Sp := fun vs H Q X => ∃ (g : Addr) (v : V) (d : PyData), vs = [.ref g, v] ∧ Ox K H v d ∧ numB (-T30) T30 d = false ∧ X (.ref eN) none H
theorem ok_Setting_init_B {f : Addr} {fd : FuncData} (F : FunD K "__init__" "Setting.__init__" (defArgs s_Setting_init) (defBody s_Setting_init) (defScope s_Setting_init) [.int 0] [] f fd) (T_check_settable : CalN P w K mg base 4 "check_settable" (spBadS1 K eN)) (T_mk_Record : Mak P w K mg base 1 "Record" CR (spRInit K CR)) :
    FnOk P w K mg base (L2N.CX P w) 5 f fd ["self", "original"] (spGInitB K eN) := by
  refine FunD.ok F sc_Setting_init (fun vs H Q E h => ?_) (fun cdv A outer s H vs Q E hr h => ?_)
  · obtain ⟨g, v, d, rfl, _⟩ := h
    rfl
  · obtain ⟨g, v, d, rfl, hv, hs, x⟩ := h
    refine ⟨_, (pss_cons (ps_expr (pe_cn T_check_settable hr (by decide) (L2N.takes_of rfl rfl rfl rfl) (by rfl) (pa_cons (pv 1) pa_nil)))
        (pss_cons (ps_fld (pv 0) (pe_mk T_mk_Record hr (by decide) (by rfl) (pa_cons (pe_lst (pa_cons (pv 1) pa_nil)) (pa_cons (pe_lst pa_nil) (pa_cons (pe_lst (pa_cons pe_int pa_nil)) pa_nil)))) rfl)
        (pss_one (ps_fld (pv 0) (pe_lst pa_nil) rfl)))), ?_⟩
    exact ⟨_, rfl, v, d, rfl, hv, hs, x⟩
theorem ok_Setting_enlist_B {f : Addr} {fd : FuncData} {eF : Addr} (F : Fun K "_enlist" "Setting._enlist" s_Setting_enlist f fd) (B : NoB mg) (RF : Er K mg "FullError" eF) (T_c_Setting : mg "Setting" = some (.ref CG)) (T_check_settable : CalN P w K mg base 4 "check_settable" (spBadS1 K eN)) :
    FnOk P w K mg base (L2N.CX P w) 5 f fd ["self", "integer"] (spGInitB K eN) := by
  refine F.okN sc_Setting_enlist (fun vs H Q E h => ?_) (fun cdv A outer s H vs Q E hr h => ?_)
  · obtain ⟨g, v, d, rfl, _⟩ := h
    rfl
  · obtain ⟨g, v, d, rfl, hv, hs, x⟩ := h
    refine ⟨_, (pss_cons (ps_expr (pe_cn T_check_settable hr (by decide) (L2N.takes_of rfl rfl rfl rfl) (by rfl) (pa_cons (pv 1) pa_nil)))
        (pss_cons (ps_if (pt_cmpR op_eq (pe_callB call_len_seq (by rfl) B.len PySem.boot_len (pa_cons (pe_fld (pv 0) rfl) pa_nil)) (ClX.pe_cval (pe_glob (v := .ref CG) (by rfl) T_c_Setting rfl)) (nomark _)) (pss_one (L2N.ps_raise rfl (L2N.takes_of rfl rfl rfl rfl) (L2N.pmk_own PySem.F.excBase_ValueError RF.x RF.c RF.k (raises_own RF.b RF.t) rfl))) pss_nil)
        (pss_cons (ps_expr (pe_bm PySem.F.plainAttrs_list PySem.F.slot_list_append PySem.F.type_list_append mt_append (pe_fld (pe_fld (pv 0) rfl) rfl) (pa_cons (pv 1) pa_nil)))
        (pss_one (ps_ret (pe_op op_add (pe_callB call_len_seq (by rfl) B.len PySem.boot_len (pa_cons (pe_fld (pv 0) rfl) pa_nil)) pe_int)))))), ?_⟩
    exact ⟨_, rfl, v, d, rfl, hv, hs, x⟩
def spMakeB (K : PySem.W.Frag) (CG eN : Addr) : Sp := fun vs H Q X => ∃ (g dg r al : Addr) (v : V) (d : PyData), vs = [.ref g, v] ∧ H g = some (.ins CG dg (fG r al)) ∧ Ox K H v d ∧ numB (-T30) T30 d = false ∧ X (.ref eN) none H
theorem ok_Setting_patch_B {f : Addr} {fd : FuncData} (F : Fun K "patch" "Setting.patch" s_Setting_patch f fd) (T : TxtL K CR CP CC CS CG) (T_mk_Patch : Mak P w K mg base 1 "Patch" CP (spPInit CP CC CS)) (T_Setting_enlist : MetV P w K mg base 5 (Is CG) "_enlist" (spGInitB K eN)) (T_Setting_keep : MetV P w K mg base 1 (Is CG) "_keep" (spKeep CG)) :
    FnOk P w K mg base (L2N.CX P w) 6 f fd ["self", "number"] (spMakeB K CG eN) := by
  refine F.okN sc_Setting_patch (fun vs H Q E h => ?_) (fun cdv A outer s H vs Q E hr h => ?_)
  · obtain ⟨g, dg, r, al, v, d, rfl, _⟩ := h
    rfl
  · obtain ⟨g, dg, r, al, v, d, rfl, hg, hv, hs, x⟩ := h
    refine ⟨_, (pss_one (ps_ret (pe_mV T_Setting_keep hr (by decide) (L2N.takes_of rfl rfl rfl rfl) (pv 0) (pa_cons (pe_mk T_mk_Patch hr (by decide) (by rfl) (pa_cons (pe_fld (pv 0) rfl) (pa_cons (pe_mV T_Setting_enlist hr (by decide) (L2N.takes_of rfl rfl rfl rfl) (pv 0) (pa_cons (pv 1) pa_nil)) pa_nil))) pa_nil)))), ?_⟩
    exact ⟨_, rfl, g, CG, dg, _, rfl, rfl, hg, lkG _ _ (by decide +kernel), _, rfl, g, CG, dg, _, _, rfl, hg, T.cG, T.nG1, lg1 _ _, _, rfl, g, CG, dg, _, rfl, rfl, hg, lkG _ _ (by decide +kernel), _, rfl, g, v, d, rfl, hv, hs, x⟩
theorem ok_Setting_careful_B {f : Addr} {fd : FuncData} (F : Fun K "careful" "Setting.careful" s_Setting_careful f fd) (T : TxtL K CR CP CC CS CG) (T_mk_CarefulPatch : Mak P w K mg base 1 "CarefulPatch" CC (spPInit CP CC CS)) (T_Setting_enlist : MetV P w K mg base 5 (Is CG) "_enlist" (spGInitB K eN)) (T_Setting_keep : MetV P w K mg base 1 (Is CG) "_keep" (spKeep CG)) :
    FnOk P w K mg base (L2N.CX P w) 6 f fd ["self", "number"] (spMakeB K CG eN) := by
  refine F.okN sc_Setting_careful (fun vs H Q E h => ?_) (fun cdv A outer s H vs Q E hr h => ?_)
  · obtain ⟨g, dg, r, al, v, d, rfl, _⟩ := h
    rfl
  · obtain ⟨g, dg, r, al, v, d, rfl, hg, hv, hs, x⟩ := h
    refine ⟨_, (pss_one (ps_ret (pe_mV T_Setting_keep hr (by decide) (L2N.takes_of rfl rfl rfl rfl) (pv 0) (pa_cons (pe_mk T_mk_CarefulPatch hr (by decide) (by rfl) (pa_cons (pe_fld (pv 0) rfl) (pa_cons (pe_mV T_Setting_enlist hr (by decide) (L2N.takes_of rfl rfl rfl rfl) (pv 0) (pa_cons (pv 1) pa_nil)) pa_nil))) pa_nil)))), ?_⟩
    exact ⟨_, rfl, g, CG, dg, _, rfl, rfl, hg, lkG _ _ (by decide +kernel), _, rfl, g, CG, dg, _, _, rfl, hg, T.cG, T.nG1, lg1 _ _, _, rfl, g, CG, dg, _, rfl, rfl, hg, lkG _ _ (by decide +kernel), _, rfl, g, v, d, rfl, hv, hs, x⟩
theorem ok_Setting_strict_B {f : Addr} {fd : FuncData} (F : Fun K "strict" "Setting.strict" s_Setting_strict f fd) (T : TxtL K CR CP CC CS CG) (T_mk_StrictPatch : Mak P w K mg base 1 "StrictPatch" CS (spPInit CP CC CS)) (T_Setting_enlist : MetV P w K mg base 5 (Is CG) "_enlist" (spGInitB K eN)) (T_Setting_keep : MetV P w K mg base 1 (Is CG) "_keep" (spKeep CG)) :
    FnOk P w K mg base (L2N.CX P w) 6 f fd ["self", "number"] (spMakeB K CG eN) := by
  refine F.okN sc_Setting_strict (fun vs H Q E h => ?_) (fun cdv A outer s H vs Q E hr h => ?_)
  · obtain ⟨g, dg, r, al, v, d, rfl, _⟩ := h
    rfl
  · obtain ⟨g, dg, r, al, v, d, rfl, hg, hv, hs, x⟩ := h
    refine ⟨_, (pss_one (ps_ret (pe_mV T_Setting_keep hr (by decide) (L2N.takes_of rfl rfl rfl rfl) (pv 0) (pa_cons (pe_mk T_mk_StrictPatch hr (by decide) (by rfl) (pa_cons (pe_fld (pv 0) rfl) (pa_cons (pe_mV T_Setting_enlist hr (by decide) (L2N.takes_of rfl rfl rfl rfl) (pv 0) (pa_cons (pv 1) pa_nil)) pa_nil))) pa_nil)))), ?_⟩
    exact ⟨_, rfl, g, CG, dg, _, rfl, rfl, hg, lkG _ _ (by decide +kernel), _, rfl, g, CG, dg, _, _, rfl, hg, T.cG, T.nG1, lg1 _ _, _, rfl, g, CG, dg, _, rfl, rfl, hg, lkG _ _ (by decide +kernel), _, rfl, g, v, d, rfl, hv, hs, x⟩
end
end L25
set_option Elab.async false
set_option linter.all false
set_option maxRecDepth 100000
namespace L25
open PySem PySem.Spec PyProof.Rows L2 Lp
/-! ### the classes of errors -/
structure Err (K : PySem.W.Frag) (mg : Str → Option Value) (E : Nat → Addr) : Prop where
  c0 : mg "EmptyHistoryError" = some (.ref (E 0))
  x0 : PySem.W.excIn K (E 0) [.type "ValueError", .type "Exception", .type "BaseException", .type "object"] "ValueError.__new__" = true
  k0 : PySem.W.keepIn K (.ref (E 0)) = true
  c1 : mg "FullError" = some (.ref (E 1))
  x1 : PySem.W.excIn K (E 1) [.type "ValueError", .type "Exception", .type "BaseException", .type "object"] "ValueError.__new__" = true
  k1 : PySem.W.keepIn K (.ref (E 1)) = true
  c2 : mg "InvalidFormatError" = some (.ref (E 2))
  x2 : PySem.W.excIn K (E 2) [.type "ValueError", .type "Exception", .type "BaseException", .type "object"] "ValueError.__new__" = true
  k2 : PySem.W.keepIn K (.ref (E 2)) = true
  c3 : mg "InvalidHistoryError" = some (.ref (E 3))
  x3 : PySem.W.excIn K (E 3) [.type "ValueError", .type "Exception", .type "BaseException", .type "object"] "ValueError.__new__" = true
  k3 : PySem.W.keepIn K (.ref (E 3)) = true
  c4 : mg "InvalidNumberError" = some (.ref (E 4))
  x4 : PySem.W.excIn K (E 4) [.type "ValueError", .type "Exception", .type "BaseException", .type "object"] "ValueError.__new__" = true
  k4 : PySem.W.keepIn K (.ref (E 4)) = true
  c5 : mg "InvalidOrderError" = some (.ref (E 5))
  x5 : PySem.W.excIn K (E 5) [.type "ValueError", .type "Exception", .type "BaseException", .type "object"] "ValueError.__new__" = true
  k5 : PySem.W.keepIn K (.ref (E 5)) = true
  c6 : mg "InvalidPatchError" = some (.ref (E 6))
  x6 : PySem.W.excIn K (E 6) [.type "ValueError", .type "Exception", .type "BaseException", .type "object"] "ValueError.__new__" = true
  k6 : PySem.W.keepIn K (.ref (E 6)) = true
  c7 : mg "InvalidPieceError" = some (.ref (E 7))
  x7 : PySem.W.excIn K (E 7) [.type "ValueError", .type "Exception", .type "BaseException", .type "object"] "ValueError.__new__" = true
  k7 : PySem.W.keepIn K (.ref (E 7)) = true
  c8 : mg "InvalidPresentsError" = some (.ref (E 8))
  x8 : PySem.W.excIn K (E 8) [.type "ValueError", .type "Exception", .type "BaseException", .type "object"] "ValueError.__new__" = true
  k8 : PySem.W.keepIn K (.ref (E 8)) = true
  c9 : mg "InvalidShapeError" = some (.ref (E 9))
  x9 : PySem.W.excIn K (E 9) [.type "ValueError", .type "Exception", .type "BaseException", .type "object"] "ValueError.__new__" = true
  k9 : PySem.W.keepIn K (.ref (E 9)) = true
  c10 : mg "InvalidStateError" = some (.ref (E 10))
  x10 : PySem.W.excIn K (E 10) [.type "ValueError", .type "Exception", .type "BaseException", .type "object"] "ValueError.__new__" = true
  k10 : PySem.W.keepIn K (.ref (E 10)) = true
  c11 : mg "InvalidTouchesError" = some (.ref (E 11))
  x11 : PySem.W.excIn K (E 11) [.type "ValueError", .type "Exception", .type "BaseException", .type "object"] "ValueError.__new__" = true
  k11 : PySem.W.keepIn K (.ref (E 11)) = true
  c12 : mg "InvalidValueError" = some (.ref (E 12))
  x12 : PySem.W.excIn K (E 12) [.type "ValueError", .type "Exception", .type "BaseException", .type "object"] "ValueError.__new__" = true
  k12 : PySem.W.keepIn K (.ref (E 12)) = true
  c13 : mg "MismatchError" = some (.ref (E 13))
  x13 : PySem.W.excIn K (E 13) [.type "ValueError", .type "Exception", .type "BaseException", .type "object"] "ValueError.__new__" = true
  k13 : PySem.W.keepIn K (.ref (E 13)) = true
  c14 : mg "NotRunningError" = some (.ref (E 14))
  x14 : PySem.W.excIn K (E 14) [.type "ValueError", .type "Exception", .type "BaseException", .type "object"] "ValueError.__new__" = true
  k14 : PySem.W.keepIn K (.ref (E 14)) = true
  c15 : mg "OutOfOrderError" = some (.ref (E 15))
  x15 : PySem.W.excIn K (E 15) [.type "ValueError", .type "Exception", .type "BaseException", .type "object"] "ValueError.__new__" = true
  k15 : PySem.W.keepIn K (.ref (E 15)) = true
  c16 : mg "StartedError" = some (.ref (E 16))
  x16 : PySem.W.excIn K (E 16) [.type "ValueError", .type "Exception", .type "BaseException", .type "object"] "ValueError.__new__" = true
  k16 : PySem.W.keepIn K (.ref (E 16)) = true
  c17 : mg "LatepatchError" = some (.ref (E 17))
  x17 : PySem.W.excIn K (E 17) [.type "ValueError", .type "Exception", .type "BaseException", .type "object"] "ValueError.__new__" = true
  k17 : PySem.W.keepIn K (.ref (E 17)) = true
  ec : ∀ d, d ≤ 17 → ExcC K (E d)
  kit : ∀ d j, d ≤ 17 → j < 17 → PySem.W.kitOne K (.ref (E d)) (.ref (E j)) = some (decide (j = d))
  kitL : ∀ d, d < 17 → PySem.W.kitOne K (.ref (E d)) (.ref (E 17)) = some true
  kitV : ∀ d, d < 17 → PySem.W.kitOne K (.ref (E d)) (.type "ValueError") = some true
  b : ∀ d, d < 17 → PySem.W.subIn K (.ref (E d)) (.type "BaseException") = some true
  t : ∀ d, d < 17 → PySem.W.typeIn K (.ref (E d)) = some (.type "type")
  m : ∀ d, d < 17 → PySem.W.exmOne K (.ref (E d)) (.ref (E 17)) = some true
/-! ### what the classes of errors must say, asked at once -/
def Ex (L : List Addr) : Nat → Addr := fun i => L.getD i 0
def ecB (K : PySem.W.Frag) (D : Addr) : Bool := xfB K D && (decide (PySem.W.findIn K (.ref D) "__class__" = some (some (.builtin "object.__class__"))) && decide (PySem.W.mroIn K D (.type "object") = some true))
def tyB (K : PySem.W.Frag) (D : Addr) : Bool := (PySem.W.clsIn K D).isSome && (decide (PySem.W.typeIn K (.ref D) = some (.type "type")) && (decide (PySem.W.subIn K (.ref D) (.type "ValueError") = some true) && decide (PySem.W.subIn K (.ref D) (.type "BaseException") = some true)))
section
variable {K : PySem.W.Frag} {E : Nat → Addr}
theorem ec_of (h : ((List.range 18).all fun d => ecB K (E d)) = true) (hn : PySem.W.specialIn K (.builtin "object.__class__") "__get__" = some (some (.builtin "getset_descriptor.__get__"))) (ht : PySem.W.takesIn K (.builtin "object.__class__") = some true) (d : Nat) (hd : d ≤ 17) : ExcC K (E d) := by
  have z := List.all_eq_true.mp h d (List.mem_range.mpr (by omega))
  unfold ecB at z
  rw [Bool.and_eq_true, Bool.and_eq_true, decide_eq_true_eq, decide_eq_true_eq] at z
  obtain ⟨z1, z2, z3⟩ := z
  have X := xfB_ok z1
  unfold xfB at z1
  simp only [Bool.and_eq_true, decide_eq_true_eq] at z1
  exact ⟨z1.1, z1.2.1, z1.2.2.1, z1.2.2.2, z2, hn, ht, z3⟩
theorem ty_of (h : ((List.range 18).all fun d => tyB K (E d)) = true) (d : Nat) (hd : d ≤ 17) : (PySem.W.clsIn K (E d)).isSome = true ∧ PySem.W.typeIn K (.ref (E d)) = some (.type "type") ∧ PySem.W.subIn K (.ref (E d)) (.type "ValueError") = some true ∧ PySem.W.subIn K (.ref (E d)) (.type "BaseException") = some true := by
  have z := List.all_eq_true.mp h d (List.mem_range.mpr (by omega))
  unfold tyB at z
  simp only [Bool.and_eq_true, decide_eq_true_eq] at z
  exact z
theorem kit_ref {C D : Addr} {r : Bool} (h1 : (PySem.W.clsIn K C).isSome = true) (h2 : PySem.W.typeIn K (.ref C) = some (.type "type")) (s : PySem.W.subIn K (.ref D) (.ref C) = some r) (sc : PySem.W.subIn K (.ref C) (.ref C) = some true) : PySem.W.kitOne K (.ref D) (.ref C) = some r := by
  unfold PySem.W.kitOne
  by_cases e : (Value.ref D == Value.ref C) = true
  · rw [if_pos e]
    have e2 : D = C := Value.ref.inj (beq_iff_eq.mp e)
    rw [e2, sc] at s
    exact s
  · rw [if_neg e]
    unfold PySem.W.kitCls
    show (if ((PySem.W.clsIn K C).isSome && PySem.W.typeIn K (.ref C) == some (.type "type")) = true then PySem.W.subIn K (.ref D) (.ref C) else none) = some r
    rw [h1, h2, if_pos (by rfl)]
    exact s
theorem sub_of (h : ((List.range 18).all fun d => (List.range 17).all fun j => decide (PySem.W.subIn K (.ref (E d)) (.ref (E j)) = some (decide (j = d)))) = true) (d j : Nat) (hd : d ≤ 17) (hj : j < 17) : PySem.W.subIn K (.ref (E d)) (.ref (E j)) = some (decide (j = d)) := by
  have z := List.all_eq_true.mp h d (List.mem_range.mpr (by omega))
  have z2 := List.all_eq_true.mp z j (List.mem_range.mpr hj)
  exact of_decide_eq_true z2
theorem kit_of (h : ((List.range 18).all fun d => (List.range 17).all fun j => decide (PySem.W.subIn K (.ref (E d)) (.ref (E j)) = some (decide (j = d)))) = true) (ht : ((List.range 18).all fun d => tyB K (E d)) = true) (d j : Nat) (hd : d ≤ 17) (hj : j < 17) : PySem.W.kitOne K (.ref (E d)) (.ref (E j)) = some (decide (j = d)) := by
  obtain ⟨t1, t2, _⟩ := ty_of ht j (by omega)
  refine kit_ref t1 t2 (sub_of h d j hd hj) ?_
  have z := sub_of h j j (by omega) hj
  rw [decide_eq_true rfl] at z
  exact z
theorem subL_of (h : ((List.range 18).all fun d => decide (PySem.W.subIn K (.ref (E d)) (.ref (E 17)) = some true)) = true) (d : Nat) (hd : d ≤ 17) : PySem.W.subIn K (.ref (E d)) (.ref (E 17)) = some true := of_decide_eq_true (List.all_eq_true.mp h d (List.mem_range.mpr (by omega)))
theorem kitL_of (h : ((List.range 18).all fun d => decide (PySem.W.subIn K (.ref (E d)) (.ref (E 17)) = some true)) = true) (ht : ((List.range 18).all fun d => tyB K (E d)) = true) (d : Nat) (hd : d < 17) : PySem.W.kitOne K (.ref (E d)) (.ref (E 17)) = some true := by
  obtain ⟨t1, t2, _⟩ := ty_of ht 17 (Nat.le_refl _)
  exact kit_ref t1 t2 (subL_of h d (by omega)) (subL_of h 17 (Nat.le_refl _))
theorem kitV_of (ht : ((List.range 18).all fun d => tyB K (E d)) = true) (d : Nat) (hd : d < 17) : PySem.W.kitOne K (.ref (E d)) (.type "ValueError") = some true := by
  obtain ⟨_, _, t3, _⟩ := ty_of ht d (by omega)
  unfold PySem.W.kitOne
  rw [if_neg (fun z => by cases beq_iff_eq.mp z)]
  show (if PySem.W.kitMeta "ValueError" = true then PySem.W.subIn K (.ref (E d)) (.type "ValueError") else none) = some true
  rw [if_pos (by decide +kernel), t3]
theorem exm_of (h : ((List.range 18).all fun d => decide (PySem.W.subIn K (.ref (E d)) (.ref (E 17)) = some true)) = true) (ht : ((List.range 18).all fun d => tyB K (E d)) = true) (d : Nat) (hd : d ≤ 17) : PySem.W.exmOne K (.ref (E d)) (.ref (E 17)) = some true := by
  obtain ⟨t1, t2, _, t4⟩ := ty_of ht 17 (Nat.le_refl _)
  unfold PySem.W.exmOne PySem.W.kitCls
  rw [t4, if_pos (by rfl)]
  show (if ((PySem.W.clsIn K (E 17)).isSome && PySem.W.typeIn K (.ref (E 17)) == some (.type "type")) = true then PySem.W.subIn K (.ref (E d)) (.ref (E 17)) else none) = some true
  rw [t1, t2, if_pos (by rfl), subL_of h d hd]
end
/-! ### _law_error_name (of the live laws) -/
def nmE (d : Nat) : Str := if d = 0 then "empty" else if d = 1 then "full" else if d = 3 then "history" else if d = 4 then "number" else if d = 5 then "row" else if d = 14 then "running" else if d = 15 then "order" else "started"
section
variable {P : Program} {w : World} {K : PySem.W.Frag} {mg : Str → Option Value} {base : Heap} {E : Nat → Addr}
theorem kitAny_nil {K : PySem.W.Frag} {c : Value} : PySem.W.kitAny K c [] = some false := by simp [PySem.W.kitAny]
theorem kitAny_cons {K : PySem.W.Frag} {c u : Value} {us : List Value} (h : PySem.W.kitOne K c u = some false) (g : PySem.W.kitAny K c us = some false) : PySem.W.kitAny K c (u :: us) = some false := by simp [PySem.W.kitAny, h, g]
theorem boot_ValueError : bootBuiltins "ValueError" = some (.type "ValueError") := by decide +kernel
theorem Err.no (R : Err K mg E) {d j : Nat} (hd : d ≤ 17) (hj : j < 17) (ne : j ≠ d) : PySem.W.kitOne K (.ref (E d)) (.ref (E j)) = some false := by
  rw [R.kit d j hd hj, decide_eq_false ne]
def spErrE (K : PySem.W.Frag) (E : Nat → Addr) : Addr × Obj → Sp := fun pr vs H Q _ => ∃ (d : Nat), vs = [.ref pr.1] ∧ (d = 0 ∨ d = 1 ∨ d = 3 ∨ d = 4 ∨ d = 5 ∨ d = 14 ∨ d = 15 ∨ d = 16) ∧ Zc (.ref (E d)) none pr.2 ∧ (∃ vs, pr.2.data = .fields vs) ∧ ∀ H', Same H H' → Q (.str (nmE d)) H'
def errL (d : Nat) : List (Str × Bool) := [("empty", decide (0 = d)), ("full", decide (1 = d)), ("history", decide (3 = d)), ("number", decide (4 = d)), ("row", decide (5 = d)), ("running", decide (14 = d)), ("order", decide (15 = d)), ("started", decide (16 = d))]
set_option maxHeartbeats 0 in
theorem ok_law_error_name {f : Addr} {fd : FuncData} (F : Fun K "_law_error_name" "_law_error_name" s_law_error_name f fd) (B : NoB mg) (R : Err K mg E) (T_z_ValueError : mg "ValueError" = none) : FnE2 P w K mg base 1 f fd ["caught"] (spErrE K E) := by
  refine okE2 F sc_law_error_name (fun pr vs H Q E h => ?_) (fun cdv pr A outer s H vs Q E_ hot hr h => ?_)
  · obtain ⟨d, rfl, _⟩ := h
    rfl
  · obtain ⟨d, rfl, hd, hz, hf, q⟩ := h
    refine ⟨_, (pss_cons (ps_set (i := 1) sc_law_error_name.nd rfl (Or.inl rfl) (pe_lst (pa_cons (pe_tup (pa_cons pe_str (pa_cons (pe_callB (call_isP List.mem_cons_self) (by rfl) B.isinstance (by decide +kernel) (pa_cons (pv 0) (pa_cons (pe_glob (v := .ref (E 0)) (by rfl) R.c0 rfl) pa_nil))) pa_nil))) (pa_cons (pe_tup (pa_cons pe_str (pa_cons (pe_callB (call_isP List.mem_cons_self) (by rfl) B.isinstance (by decide +kernel) (pa_cons (pv 0) (pa_cons (pe_glob (v := .ref (E 1)) (by rfl) R.c1 rfl) pa_nil))) pa_nil))) pa_nil))))
        (pss_cons (ps_set (i := 1) sc_law_error_name.nd rfl (Or.inl rfl) (pe_op op_cat (pv 1) (pe_lst (pa_cons (pe_tup (pa_cons pe_str (pa_cons (pe_callB (call_isP List.mem_cons_self) (by rfl) B.isinstance (by decide +kernel) (pa_cons (pv 0) (pa_cons (pe_glob (v := .ref (E 3)) (by rfl) R.c3 rfl) pa_nil))) pa_nil))) pa_nil))))
        (pss_cons (ps_set (i := 1) sc_law_error_name.nd rfl (Or.inl rfl) (pe_op op_cat (pv 1) (pe_lst (pa_cons (pe_tup (pa_cons pe_str (pa_cons (pe_callB (call_isP List.mem_cons_self) (by rfl) B.isinstance (by decide +kernel) (pa_cons (pv 0) (pa_cons (pe_glob (v := .ref (E 4)) (by rfl) R.c4 rfl) pa_nil))) pa_nil))) pa_nil))))
        (pss_cons (ps_set (i := 1) sc_law_error_name.nd rfl (Or.inl rfl) (pe_op op_cat (pv 1) (pe_lst (pa_cons (pe_tup (pa_cons pe_str (pa_cons (pe_callB (call_isP List.mem_cons_self) (by rfl) B.isinstance (by decide +kernel) (pa_cons (pv 0) (pa_cons (pe_glob (v := .ref (E 5)) (by rfl) R.c5 rfl) pa_nil))) pa_nil))) pa_nil))))
        (pss_cons (ps_set (i := 1) sc_law_error_name.nd rfl (Or.inl rfl) (pe_op op_cat (pv 1) (pe_lst (pa_cons (pe_tup (pa_cons pe_str (pa_cons (pe_callB (call_isP List.mem_cons_self) (by rfl) B.isinstance (by decide +kernel) (pa_cons (pv 0) (pa_cons (pe_glob (v := .ref (E 14)) (by rfl) R.c14 rfl) pa_nil))) pa_nil))) (pa_cons (pe_tup (pa_cons pe_str (pa_cons (pe_callB (call_isP List.mem_cons_self) (by rfl) B.isinstance (by decide +kernel) (pa_cons (pv 0) (pa_cons (pe_glob (v := .ref (E 15)) (by rfl) R.c15 rfl) pa_nil))) pa_nil))) pa_nil)))))
        (pss_cons (ps_expr (pe_bm PySem.F.plainAttrs_list PySem.F.slot_list_append PySem.F.type_list_append mt_append (pv 1) (pa_cons (pe_tup (pa_cons pe_str (pa_cons (pe_callB (call_isP List.mem_cons_self) (by rfl) B.isinstance (by decide +kernel) (pa_cons (pv 0) (pa_cons (pe_glob (v := .ref (E 16)) (by rfl) R.c16 rfl) pa_nil))) pa_nil))) pa_nil)))
        (pss_cons (ps_setLcH (i := 2) (own := [("told", 4), ("is_one", 5)]) (g := _) (tt := _) hot sc_law_error_name.nd rfl rfl (sw_true rfl rfl rfl (by decide +kernel)) (pi_listH (K := K) rfl (pv 1)) (blkOk_by (own := [("told", 4), ("is_one", 5)]) (N := N_law_error_name) (sc := defScope s_law_error_name) (by decide +kernel)) (fun _ _ _ _ _ => (pg_tupH (K := K) (n := 2) rfl hot (pgs_cons (pg_name (i := 4) sc_law_error_name.nd rfl (Or.inl rfl)) (pgs_cons (pg_name (i := 5) sc_law_error_name.nd rfl (Or.inl rfl)) pgs_nil)))) (fun _ _ _ _ _ => (pts_one (pt_val (pv 5)))) (fun _ _ _ _ _ => (pv 4)))
        (pss_cons (ps_set (i := 3) sc_law_error_name.nd rfl (Or.inl rfl) (pe_callB (call_isPT List.mem_cons_self) (by rfl) B.isinstance (by decide +kernel) (pa_cons (pv 0) (pa_cons (pe_tup (pa_cons (pe_glob (v := .ref (E 2)) (by rfl) R.c2 rfl) (pa_cons (pe_glob (v := .ref (E 6)) (by rfl) R.c6 rfl) (pa_cons (pe_glob (v := .ref (E 7)) (by rfl) R.c7 rfl) (pa_cons (pe_glob (v := .ref (E 8)) (by rfl) R.c8 rfl) pa_nil))))) pa_nil))))
        (pss_cons (ps_set (i := 3) sc_law_error_name.nd rfl (Or.inl rfl) (pe_or (pv 3) (pe_one (pe_callB (call_isPT List.mem_cons_self) (by rfl) B.isinstance (by decide +kernel) (pa_cons (pv 0) (pa_cons (pe_tup (pa_cons (pe_glob (v := .ref (E 9)) (by rfl) R.c9 rfl) (pa_cons (pe_glob (v := .ref (E 10)) (by rfl) R.c10 rfl) (pa_cons (pe_glob (v := .ref (E 11)) (by rfl) R.c11 rfl) pa_nil)))) pa_nil))))))
        (pss_cons (ps_set (i := 3) sc_law_error_name.nd rfl (Or.inl rfl) (pe_or (pv 3) (pe_or (pe_callB (call_isPT List.mem_cons_self) (by rfl) B.isinstance (by decide +kernel) (pa_cons (pv 0) (pa_cons (pe_tup (pa_cons (pe_glob (v := .ref (E 12)) (by rfl) R.c12 rfl) (pa_cons (pe_glob (v := .ref (E 13)) (by rfl) R.c13 rfl) pa_nil))) pa_nil))) (pe_one (pe_not (pe_callB (call_isP List.mem_cons_self) (by rfl) B.isinstance (by decide +kernel) (pa_cons (pv 0) (pa_cons (pe_bltn (v := .ty "ValueError") (by rfl) T_z_ValueError boot_ValueError rfl) pa_nil))))))))
        (pss_one (ps_ret (pe_ifExp (PW.pt (pw_or (pt_val (pv 3)) (pw_or1 (pt_cmpR op_ne (pe_callB call_len_seq (by rfl) B.len PySem.boot_len (pa_cons (pv 2) pa_nil)) pe_int (nomark _))))) pe_str (pe_ix ix_list (pv 2) pe_int (fun _ _ => rfl))))))))))))))), ?_⟩
    have d17 : d ≤ 17 := by omega
    have ec := R.ec d d17
    have no : ∀ j : Nat, j < 17 → j ≠ 0 → j ≠ 1 → j ≠ 3 → j ≠ 4 → j ≠ 5 → j ≠ 14 → j ≠ 15 → j ≠ 16 → PySem.W.kitOne K (.ref (E d)) (.ref (E j)) = some false := fun j hj n0 n1 n3 n4 n5 n14 n15 n16 => R.no d17 hj (by omega)
    refine ⟨_, rfl, E d, _, _, _, rfl, hz, hf, ec, fun u h => h, R.kit d 0 d17 (by decide), by show 2 ≤ sizeLine; decide, fun t0 n0 => ?_⟩
    have sm1 := same_new (o := .tup [V.str "empty", .bl (decide (0 = d))]) n0
    have t0_1 : (upd H t0 (.tup [V.str "empty", .bl (decide (0 = d))])) t0 = some (.tup [V.str "empty", .bl (decide (0 = d))]) := upd_same
    have sA1 := sm1
    generalize upd H t0 (.tup [V.str "empty", .bl (decide (0 = d))]) = G1 at sA1 t0_1 ⊢
    refine ⟨_, rfl, E d, _, _, _, rfl, hz, hf, ec, fun u h => h, R.kit d 1 d17 (by decide), by show 2 ≤ sizeLine; decide, fun t1 n1 => ?_⟩
    have sm2 := same_new (o := .tup [V.str "full", .bl (decide (1 = d))]) n1
    have t0_2 := sm2 _ _ t0_1
    have t1_2 : (upd G1 t1 (.tup [V.str "full", .bl (decide (1 = d))])) t1 = some (.tup [V.str "full", .bl (decide (1 = d))]) := upd_same
    have sA2 := sA1.trans sm2
    generalize upd G1 t1 (.tup [V.str "full", .bl (decide (1 = d))]) = G2 at sA2 t0_2 t1_2 ⊢
    refine ⟨by show 2 ≤ sizeLine; decide, fun p0 np0 => ?_⟩
    have sm3 := same_new (o := .lst [V.ref t0, V.ref t1]) np0
    have t0_3 := sm3 _ _ t0_2
    have t1_3 := sm3 _ _ t1_2
    have p0_3 : (upd G2 p0 (.lst [V.ref t0, V.ref t1])) p0 = some (.lst [V.ref t0, V.ref t1]) := upd_same
    have sA3 := sA2.trans sm3
    generalize upd G2 p0 (.lst [V.ref t0, V.ref t1]) = G3 at sA3 t0_3 t1_3 p0_3 ⊢
    refine ⟨_, rfl, _, rfl, E d, _, _, _, rfl, hz, hf, ec, fun u h => h, R.kit d 3 d17 (by decide), by show 2 ≤ sizeLine; decide, fun t2 n2 => ?_⟩
    have sm4 := same_new (o := .tup [V.str "history", .bl (decide (3 = d))]) n2
    have t0_4 := sm4 _ _ t0_3
    have t1_4 := sm4 _ _ t1_3
    have p0_4 := sm4 _ _ p0_3
    have t2_4 : (upd G3 t2 (.tup [V.str "history", .bl (decide (3 = d))])) t2 = some (.tup [V.str "history", .bl (decide (3 = d))]) := upd_same
    have sA4 := sA3.trans sm4
    generalize upd G3 t2 (.tup [V.str "history", .bl (decide (3 = d))]) = G4 at sA4 t0_4 t1_4 p0_4 t2_4 ⊢
    refine ⟨by show 1 ≤ sizeLine; decide, fun q1 nq1 => ?_⟩
    have sm5 := same_new (o := .lst [V.ref t2]) nq1
    have t0_5 := sm5 _ _ t0_4
    have t1_5 := sm5 _ _ t1_4
    have p0_5 := sm5 _ _ p0_4
    have t2_5 := sm5 _ _ t2_4
    have q1_5 : (upd G4 q1 (.lst [V.ref t2])) q1 = some (.lst [V.ref t2]) := upd_same
    have sA5 := sA4.trans sm5
    generalize upd G4 q1 (.lst [V.ref t2]) = G5 at sA5 t0_5 t1_5 p0_5 t2_5 q1_5 ⊢
    refine ⟨p0, q1, _, _, rfl, rfl, p0_5, q1_5, by show 2 + 1 ≤ sizeLine; decide, fun p1 np1 => ?_⟩
    have sm6 := same_new (o := .lst ([V.ref t0, V.ref t1] ++ [V.ref t2])) np1
    have t0_6 := sm6 _ _ t0_5
    have t1_6 := sm6 _ _ t1_5
    have t2_6 := sm6 _ _ t2_5
    have p1_6 : (upd G5 p1 (.lst ([V.ref t0, V.ref t1] ++ [V.ref t2]))) p1 = some (.lst [V.ref t0, V.ref t1, V.ref t2]) := upd_same
    have sA6 := sA5.trans sm6
    generalize upd G5 p1 (.lst ([V.ref t0, V.ref t1] ++ [V.ref t2])) = G6 at sA6 t0_6 t1_6 t2_6 p1_6 ⊢
    have np1H := sA5.free np1
    refine ⟨_, rfl, _, rfl, E d, _, _, _, rfl, hz, hf, ec, fun u h => h, R.kit d 4 d17 (by decide), by show 2 ≤ sizeLine; decide, fun t3 n3 => ?_⟩
    have sm7 := same_new (o := .tup [V.str "number", .bl (decide (4 = d))]) n3
    have t0_7 := sm7 _ _ t0_6
    have t1_7 := sm7 _ _ t1_6
    have t2_7 := sm7 _ _ t2_6
    have p1_7 := sm7 _ _ p1_6
    have t3_7 : (upd G6 t3 (.tup [V.str "number", .bl (decide (4 = d))])) t3 = some (.tup [V.str "number", .bl (decide (4 = d))]) := upd_same
    have sA7 := sA6.trans sm7
    generalize upd G6 t3 (.tup [V.str "number", .bl (decide (4 = d))]) = G7 at sA7 t0_7 t1_7 t2_7 p1_7 t3_7 ⊢
    refine ⟨by show 1 ≤ sizeLine; decide, fun q2 nq2 => ?_⟩
    have sm8 := same_new (o := .lst [V.ref t3]) nq2
    have t0_8 := sm8 _ _ t0_7
    have t1_8 := sm8 _ _ t1_7
    have t2_8 := sm8 _ _ t2_7
    have p1_8 := sm8 _ _ p1_7
    have t3_8 := sm8 _ _ t3_7
    have q2_8 : (upd G7 q2 (.lst [V.ref t3])) q2 = some (.lst [V.ref t3]) := upd_same
    have sA8 := sA7.trans sm8
    generalize upd G7 q2 (.lst [V.ref t3]) = G8 at sA8 t0_8 t1_8 t2_8 p1_8 t3_8 q2_8 ⊢
    refine ⟨p1, q2, _, _, rfl, rfl, p1_8, q2_8, by show 3 + 1 ≤ sizeLine; decide, fun p2 np2 => ?_⟩
    have sm9 := same_new (o := .lst ([V.ref t0, V.ref t1, V.ref t2] ++ [V.ref t3])) np2
    have t0_9 := sm9 _ _ t0_8
    have t1_9 := sm9 _ _ t1_8
    have t2_9 := sm9 _ _ t2_8
    have t3_9 := sm9 _ _ t3_8
    have p2_9 : (upd G8 p2 (.lst ([V.ref t0, V.ref t1, V.ref t2] ++ [V.ref t3]))) p2 = some (.lst [V.ref t0, V.ref t1, V.ref t2, V.ref t3]) := upd_same
    have sA9 := sA8.trans sm9
    generalize upd G8 p2 (.lst ([V.ref t0, V.ref t1, V.ref t2] ++ [V.ref t3])) = G9 at sA9 t0_9 t1_9 t2_9 t3_9 p2_9 ⊢
    have np2H := sA8.free np2
    refine ⟨_, rfl, _, rfl, E d, _, _, _, rfl, hz, hf, ec, fun u h => h, R.kit d 5 d17 (by decide), by show 2 ≤ sizeLine; decide, fun t4 n4 => ?_⟩
    have sm10 := same_new (o := .tup [V.str "row", .bl (decide (5 = d))]) n4
    have t0_10 := sm10 _ _ t0_9
    have t1_10 := sm10 _ _ t1_9
    have t2_10 := sm10 _ _ t2_9
    have t3_10 := sm10 _ _ t3_9
    have p2_10 := sm10 _ _ p2_9
    have t4_10 : (upd G9 t4 (.tup [V.str "row", .bl (decide (5 = d))])) t4 = some (.tup [V.str "row", .bl (decide (5 = d))]) := upd_same
    have sA10 := sA9.trans sm10
    generalize upd G9 t4 (.tup [V.str "row", .bl (decide (5 = d))]) = G10 at sA10 t0_10 t1_10 t2_10 t3_10 p2_10 t4_10 ⊢
    refine ⟨by show 1 ≤ sizeLine; decide, fun q3 nq3 => ?_⟩
    have sm11 := same_new (o := .lst [V.ref t4]) nq3
    have t0_11 := sm11 _ _ t0_10
    have t1_11 := sm11 _ _ t1_10
    have t2_11 := sm11 _ _ t2_10
    have t3_11 := sm11 _ _ t3_10
    have p2_11 := sm11 _ _ p2_10
    have t4_11 := sm11 _ _ t4_10
    have q3_11 : (upd G10 q3 (.lst [V.ref t4])) q3 = some (.lst [V.ref t4]) := upd_same
    have sA11 := sA10.trans sm11
    generalize upd G10 q3 (.lst [V.ref t4]) = G11 at sA11 t0_11 t1_11 t2_11 t3_11 p2_11 t4_11 q3_11 ⊢
    refine ⟨p2, q3, _, _, rfl, rfl, p2_11, q3_11, by show 4 + 1 ≤ sizeLine; decide, fun p3 np3 => ?_⟩
    have sm12 := same_new (o := .lst ([V.ref t0, V.ref t1, V.ref t2, V.ref t3] ++ [V.ref t4])) np3
    have t0_12 := sm12 _ _ t0_11
    have t1_12 := sm12 _ _ t1_11
    have t2_12 := sm12 _ _ t2_11
    have t3_12 := sm12 _ _ t3_11
    have t4_12 := sm12 _ _ t4_11
    have p3_12 : (upd G11 p3 (.lst ([V.ref t0, V.ref t1, V.ref t2, V.ref t3] ++ [V.ref t4]))) p3 = some (.lst [V.ref t0, V.ref t1, V.ref t2, V.ref t3, V.ref t4]) := upd_same
    have sA12 := sA11.trans sm12
    generalize upd G11 p3 (.lst ([V.ref t0, V.ref t1, V.ref t2, V.ref t3] ++ [V.ref t4])) = G12 at sA12 t0_12 t1_12 t2_12 t3_12 t4_12 p3_12 ⊢
    have np3H := sA11.free np3
    refine ⟨_, rfl, _, rfl, E d, _, _, _, rfl, hz, hf, ec, fun u h => h, R.kit d 14 d17 (by decide), by show 2 ≤ sizeLine; decide, fun t5 n5 => ?_⟩
    have sm13 := same_new (o := .tup [V.str "running", .bl (decide (14 = d))]) n5
    have t0_13 := sm13 _ _ t0_12
    have t1_13 := sm13 _ _ t1_12
    have t2_13 := sm13 _ _ t2_12
    have t3_13 := sm13 _ _ t3_12
    have t4_13 := sm13 _ _ t4_12
    have p3_13 := sm13 _ _ p3_12
    have t5_13 : (upd G12 t5 (.tup [V.str "running", .bl (decide (14 = d))])) t5 = some (.tup [V.str "running", .bl (decide (14 = d))]) := upd_same
    have sA13 := sA12.trans sm13
    generalize upd G12 t5 (.tup [V.str "running", .bl (decide (14 = d))]) = G13 at sA13 t0_13 t1_13 t2_13 t3_13 t4_13 p3_13 t5_13 ⊢
    refine ⟨_, rfl, E d, _, _, _, rfl, hz, hf, ec, fun u h => h, R.kit d 15 d17 (by decide), by show 2 ≤ sizeLine; decide, fun t6 n6 => ?_⟩
    have sm14 := same_new (o := .tup [V.str "order", .bl (decide (15 = d))]) n6
    have t0_14 := sm14 _ _ t0_13
    have t1_14 := sm14 _ _ t1_13
    have t2_14 := sm14 _ _ t2_13
    have t3_14 := sm14 _ _ t3_13
    have t4_14 := sm14 _ _ t4_13
    have p3_14 := sm14 _ _ p3_13
    have t5_14 := sm14 _ _ t5_13
    have t6_14 : (upd G13 t6 (.tup [V.str "order", .bl (decide (15 = d))])) t6 = some (.tup [V.str "order", .bl (decide (15 = d))]) := upd_same
    have sA14 := sA13.trans sm14
    generalize upd G13 t6 (.tup [V.str "order", .bl (decide (15 = d))]) = G14 at sA14 t0_14 t1_14 t2_14 t3_14 t4_14 p3_14 t5_14 t6_14 ⊢
    refine ⟨by show 2 ≤ sizeLine; decide, fun q4 nq4 => ?_⟩
    have sm15 := same_new (o := .lst [V.ref t5, V.ref t6]) nq4
    have t0_15 := sm15 _ _ t0_14
    have t1_15 := sm15 _ _ t1_14
    have t2_15 := sm15 _ _ t2_14
    have t3_15 := sm15 _ _ t3_14
    have t4_15 := sm15 _ _ t4_14
    have p3_15 := sm15 _ _ p3_14
    have t5_15 := sm15 _ _ t5_14
    have t6_15 := sm15 _ _ t6_14
    have q4_15 : (upd G14 q4 (.lst [V.ref t5, V.ref t6])) q4 = some (.lst [V.ref t5, V.ref t6]) := upd_same
    have sA15 := sA14.trans sm15
    generalize upd G14 q4 (.lst [V.ref t5, V.ref t6]) = G15 at sA15 t0_15 t1_15 t2_15 t3_15 t4_15 p3_15 t5_15 t6_15 q4_15 ⊢
    refine ⟨p3, q4, _, _, rfl, rfl, p3_15, q4_15, by show 5 + 2 ≤ sizeLine; decide, fun p4 np4 => ?_⟩
    have sm16 := same_new (o := .lst ([V.ref t0, V.ref t1, V.ref t2, V.ref t3, V.ref t4] ++ [V.ref t5, V.ref t6])) np4
    have t0_16 := sm16 _ _ t0_15
    have t1_16 := sm16 _ _ t1_15
    have t2_16 := sm16 _ _ t2_15
    have t3_16 := sm16 _ _ t3_15
    have t4_16 := sm16 _ _ t4_15
    have t5_16 := sm16 _ _ t5_15
    have t6_16 := sm16 _ _ t6_15
    have p4_16 : (upd G15 p4 (.lst ([V.ref t0, V.ref t1, V.ref t2, V.ref t3, V.ref t4] ++ [V.ref t5, V.ref t6]))) p4 = some (.lst [V.ref t0, V.ref t1, V.ref t2, V.ref t3, V.ref t4, V.ref t5, V.ref t6]) := upd_same
    have sA16 := sA15.trans sm16
    generalize upd G15 p4 (.lst ([V.ref t0, V.ref t1, V.ref t2, V.ref t3, V.ref t4] ++ [V.ref t5, V.ref t6])) = G16 at sA16 t0_16 t1_16 t2_16 t3_16 t4_16 t5_16 t6_16 p4_16 ⊢
    have np4H := sA15.free np4
    refine ⟨_, rfl, .inl ⟨rfl, _, .of p4_16⟩, _, rfl, E d, _, _, _, rfl, hz, hf, ec, fun u h => h, R.kit d 16 d17 (by decide), by show 2 ≤ sizeLine; decide, fun t7 n7 => ?_⟩
    have sm17 := same_new (o := .tup [V.str "started", .bl (decide (16 = d))]) n7
    have t0_17 := sm17 _ _ t0_16
    have t1_17 := sm17 _ _ t1_16
    have t2_17 := sm17 _ _ t2_16
    have t3_17 := sm17 _ _ t3_16
    have t4_17 := sm17 _ _ t4_16
    have t5_17 := sm17 _ _ t5_16
    have t6_17 := sm17 _ _ t6_16
    have p4_17 := sm17 _ _ p4_16
    have t7_17 : (upd G16 t7 (.tup [V.str "started", .bl (decide (16 = d))])) t7 = some (.tup [V.str "started", .bl (decide (16 = d))]) := upd_same
    have sA17 := sA16.trans sm17
    generalize upd G16 t7 (.tup [V.str "started", .bl (decide (16 = d))]) = G17 at sA17 t0_17 t1_17 t2_17 t3_17 t4_17 t5_17 t6_17 p4_17 t7_17 ⊢
    have npe : ∀ (t : Addr) (l : List V), G17 t = some (.tup l) → t ≠ p4 := fun t l e z => by rw [z, p4_17] at e; cases e
    refine ⟨p4, _, _, rfl, rfl, p4_17, by show 7 < sizeLine; decide, ?_⟩
    have g0 : (upd G17 p4 (.lst ([V.ref t0, V.ref t1, V.ref t2, V.ref t3, V.ref t4, V.ref t5, V.ref t6] ++ [.ref t7]))) t0 = some (.tup [V.str "empty", .bl (decide (0 = d))]) := by rw [upd_ne (npe _ _ t0_17)]; exact t0_17
    have g1 : (upd G17 p4 (.lst ([V.ref t0, V.ref t1, V.ref t2, V.ref t3, V.ref t4, V.ref t5, V.ref t6] ++ [.ref t7]))) t1 = some (.tup [V.str "full", .bl (decide (1 = d))]) := by rw [upd_ne (npe _ _ t1_17)]; exact t1_17
    have g2 : (upd G17 p4 (.lst ([V.ref t0, V.ref t1, V.ref t2, V.ref t3, V.ref t4, V.ref t5, V.ref t6] ++ [.ref t7]))) t2 = some (.tup [V.str "history", .bl (decide (3 = d))]) := by rw [upd_ne (npe _ _ t2_17)]; exact t2_17
    have g3 : (upd G17 p4 (.lst ([V.ref t0, V.ref t1, V.ref t2, V.ref t3, V.ref t4, V.ref t5, V.ref t6] ++ [.ref t7]))) t3 = some (.tup [V.str "number", .bl (decide (4 = d))]) := by rw [upd_ne (npe _ _ t3_17)]; exact t3_17
    have g4 : (upd G17 p4 (.lst ([V.ref t0, V.ref t1, V.ref t2, V.ref t3, V.ref t4, V.ref t5, V.ref t6] ++ [.ref t7]))) t4 = some (.tup [V.str "row", .bl (decide (5 = d))]) := by rw [upd_ne (npe _ _ t4_17)]; exact t4_17
    have g5 : (upd G17 p4 (.lst ([V.ref t0, V.ref t1, V.ref t2, V.ref t3, V.ref t4, V.ref t5, V.ref t6] ++ [.ref t7]))) t5 = some (.tup [V.str "running", .bl (decide (14 = d))]) := by rw [upd_ne (npe _ _ t5_17)]; exact t5_17
    have g6 : (upd G17 p4 (.lst ([V.ref t0, V.ref t1, V.ref t2, V.ref t3, V.ref t4, V.ref t5, V.ref t6] ++ [.ref t7]))) t6 = some (.tup [V.str "order", .bl (decide (15 = d))]) := by rw [upd_ne (npe _ _ t6_17)]; exact t6_17
    have g7 : (upd G17 p4 (.lst ([V.ref t0, V.ref t1, V.ref t2, V.ref t3, V.ref t4, V.ref t5, V.ref t6] ++ [.ref t7]))) t7 = some (.tup [V.str "started", .bl (decide (16 = d))]) := by rw [upd_ne (npe _ _ t7_17)]; exact t7_17
    have gp : (upd G17 p4 (.lst ([V.ref t0, V.ref t1, V.ref t2, V.ref t3, V.ref t4, V.ref t5, V.ref t6] ++ [.ref t7]))) p4 = some (.lst [V.ref t0, V.ref t1, V.ref t2, V.ref t3, V.ref t4, V.ref t5, V.ref t6, V.ref t7]) := upd_same
    have s5 : Same H (upd G17 p4 (.lst ([V.ref t0, V.ref t1, V.ref t2, V.ref t3, V.ref t4, V.ref t5, V.ref t6] ++ [.ref t7]))) := Lp.Same.mut sA17 np4H
    generalize upd G17 p4 (.lst ([V.ref t0, V.ref t1, V.ref t2, V.ref t3, V.ref t4, V.ref t5, V.ref t6] ++ [.ref t7])) = H5 at s5 g0 g1 g2 g3 g4 g5 g6 g7 gp ⊢
    refine ⟨_, rfl, p4, rfl, ⟨_, .of gp⟩, fun D nD => lc_list (xs := [V.ref t0, V.ref t1, V.ref t2, V.ref t3, V.ref t4, V.ref t5, V.ref t6, V.ref t7]) (LcP H5 D fun i => (((errL d).take i).filter (·.2)).map fun x => V.str x.1) (.init nD rfl) (fun i H' _ p' => .of (p'.2.1 _ _ gp)) (fun i x H' hx p' => ?_) (fun H6 p6 => ?_)⟩
    · match i, hx with
      | 0, hx =>
        cases hx
        refine ⟨t0, _, rfl, .of (p'.2.1 _ _ g0), rfl, _, _, rfl, _, _, rfl, rfl, rfl, _, rfl, _, rfl, ?_⟩
        rcases hd with rfl | rfl | rfl | rfl | rfl | rfl | rfl | rfl
        all_goals first | exact iteT ⟨_, rfl, p'.put (.refl _) rfl (by decide)⟩ | exact iteF (p'.skip (.refl _) rfl)
      | 1, hx =>
        cases hx
        refine ⟨t1, _, rfl, .of (p'.2.1 _ _ g1), rfl, _, _, rfl, _, _, rfl, rfl, rfl, _, rfl, _, rfl, ?_⟩
        rcases hd with rfl | rfl | rfl | rfl | rfl | rfl | rfl | rfl
        all_goals first | exact iteT ⟨_, rfl, p'.put (.refl _) rfl (by decide)⟩ | exact iteF (p'.skip (.refl _) rfl)
      | 2, hx =>
        cases hx
        refine ⟨t2, _, rfl, .of (p'.2.1 _ _ g2), rfl, _, _, rfl, _, _, rfl, rfl, rfl, _, rfl, _, rfl, ?_⟩
        rcases hd with rfl | rfl | rfl | rfl | rfl | rfl | rfl | rfl
        all_goals first | exact iteT ⟨_, rfl, p'.put (.refl _) rfl (by decide)⟩ | exact iteF (p'.skip (.refl _) rfl)
      | 3, hx =>
        cases hx
        refine ⟨t3, _, rfl, .of (p'.2.1 _ _ g3), rfl, _, _, rfl, _, _, rfl, rfl, rfl, _, rfl, _, rfl, ?_⟩
        rcases hd with rfl | rfl | rfl | rfl | rfl | rfl | rfl | rfl
        all_goals first | exact iteT ⟨_, rfl, p'.put (.refl _) rfl (by decide)⟩ | exact iteF (p'.skip (.refl _) rfl)
      | 4, hx =>
        cases hx
        refine ⟨t4, _, rfl, .of (p'.2.1 _ _ g4), rfl, _, _, rfl, _, _, rfl, rfl, rfl, _, rfl, _, rfl, ?_⟩
        rcases hd with rfl | rfl | rfl | rfl | rfl | rfl | rfl | rfl
        all_goals first | exact iteT ⟨_, rfl, p'.put (.refl _) rfl (by decide)⟩ | exact iteF (p'.skip (.refl _) rfl)
      | 5, hx =>
        cases hx
        refine ⟨t5, _, rfl, .of (p'.2.1 _ _ g5), rfl, _, _, rfl, _, _, rfl, rfl, rfl, _, rfl, _, rfl, ?_⟩
        rcases hd with rfl | rfl | rfl | rfl | rfl | rfl | rfl | rfl
        all_goals first | exact iteT ⟨_, rfl, p'.put (.refl _) rfl (by decide)⟩ | exact iteF (p'.skip (.refl _) rfl)
      | 6, hx =>
        cases hx
        refine ⟨t6, _, rfl, .of (p'.2.1 _ _ g6), rfl, _, _, rfl, _, _, rfl, rfl, rfl, _, rfl, _, rfl, ?_⟩
        rcases hd with rfl | rfl | rfl | rfl | rfl | rfl | rfl | rfl
        all_goals first | exact iteT ⟨_, rfl, p'.put (.refl _) rfl (by decide)⟩ | exact iteF (p'.skip (.refl _) rfl)
      | 7, hx =>
        cases hx
        refine ⟨t7, _, rfl, .of (p'.2.1 _ _ g7), rfl, _, _, rfl, _, _, rfl, rfl, rfl, _, rfl, _, rfl, ?_⟩
        rcases hd with rfl | rfl | rfl | rfl | rfl | rfl | rfl | rfl
        all_goals first | exact iteT ⟨_, rfl, p'.put (.refl _) rfl (by decide)⟩ | exact iteF (p'.skip (.refl _) rfl)
      | i + 8, hx => cases hx
    · have hD6 : H6 D = some (.lst ([nmE d].map V.str)) := by
        rw [p6.2.2]
        rcases hd with rfl | rfl | rfl | rfl | rfl | rfl | rfl | rfl <;> rfl
      have s6 := s5.trans p6.2.1
      refine ⟨_, rfl, by show 4 ≤ sizeLine; decide, fun u1 m1 => ⟨E d, u1, _, [Value.ref (E 2), Value.ref (E 6), Value.ref (E 7), Value.ref (E 8)], false, rfl, upd_same, (.cons (.own _) (.cons (.own _) (.cons (.own _) (.cons (.own _) .nil)))), hz, hf, ec, (kitAny_cons (no 2 (by decide) (by decide) (by decide) (by decide) (by decide) (by decide) (by decide) (by decide) (by decide)) (kitAny_cons (no 6 (by decide) (by decide) (by decide) (by decide) (by decide) (by decide) (by decide) (by decide) (by decide)) (kitAny_cons (no 7 (by decide) (by decide) (by decide) (by decide) (by decide) (by decide) (by decide) (by decide) (by decide)) (kitAny_cons (no 8 (by decide) (by decide) (by decide) (by decide) (by decide) (by decide) (by decide) (by decide) (by decide)) kitAny_nil)))), ?_⟩⟩
      have s7 := s6.trans (same_new (o := .tup [V.ref (E 2), V.ref (E 6), V.ref (E 7), V.ref (E 8)]) m1)
      have hD7 := same_new (o := .tup [V.ref (E 2), V.ref (E 6), V.ref (E 7), V.ref (E 8)]) m1 _ _ hD6
      generalize upd H6 u1 (.tup [V.ref (E 2), V.ref (E 6), V.ref (E 7), V.ref (E 8)]) = H7 at s7 hD7 ⊢
      refine ⟨_, rfl, false, rfl, iteF ?_⟩
      refine ⟨_, rfl, by show 3 ≤ sizeLine; decide, fun u2 m2 => ⟨E d, u2, _, [Value.ref (E 9), Value.ref (E 10), Value.ref (E 11)], false, rfl, upd_same, (.cons (.own _) (.cons (.own _) (.cons (.own _) .nil))), hz, hf, ec, (kitAny_cons (no 9 (by decide) (by decide) (by decide) (by decide) (by decide) (by decide) (by decide) (by decide) (by decide)) (kitAny_cons (no 10 (by decide) (by decide) (by decide) (by decide) (by decide) (by decide) (by decide) (by decide) (by decide)) (kitAny_cons (no 11 (by decide) (by decide) (by decide) (by decide) (by decide) (by decide) (by decide) (by decide) (by decide)) kitAny_nil))), ?_⟩⟩
      have s8 := s7.trans (same_new (o := .tup [V.ref (E 9), V.ref (E 10), V.ref (E 11)]) m2)
      have hD8 := same_new (o := .tup [V.ref (E 9), V.ref (E 10), V.ref (E 11)]) m2 _ _ hD7
      generalize upd H7 u2 (.tup [V.ref (E 9), V.ref (E 10), V.ref (E 11)]) = H8 at s8 hD8 ⊢
      refine ⟨_, rfl, false, rfl, iteF ?_⟩
      refine ⟨_, rfl, by show 2 ≤ sizeLine; decide, fun u3 m3 => ⟨E d, u3, _, [Value.ref (E 12), Value.ref (E 13)], false, rfl, upd_same, (.cons (.own _) (.cons (.own _) .nil)), hz, hf, ec, (kitAny_cons (no 12 (by decide) (by decide) (by decide) (by decide) (by decide) (by decide) (by decide) (by decide) (by decide)) (kitAny_cons (no 13 (by decide) (by decide) (by decide) (by decide) (by decide) (by decide) (by decide) (by decide) (by decide)) kitAny_nil)), ?_⟩⟩
      have s9 := s8.trans (same_new (o := .tup [V.ref (E 12), V.ref (E 13)]) m3)
      have hD9 := same_new (o := .tup [V.ref (E 12), V.ref (E 13)]) m3 _ _ hD8
      generalize upd H8 u3 (.tup [V.ref (E 12), V.ref (E 13)]) = H9 at s9 hD9 ⊢
      refine ⟨false, rfl, iteF ?_⟩
      refine ⟨_, rfl, E d, _, _, true, rfl, hz, hf, ec, (fun u h => h), R.kitV d (by omega), true, rfl, ?_⟩
      refine ⟨_, rfl, false, rfl, iteF ?_⟩
      refine ⟨_, rfl, D, _, rfl, .inl (.of hD9), rfl, false, ?_, iteF ?_⟩
      · rfl
      · exact ⟨_, rfl, D, _, _, _, rfl, rfl, .of hD9, rfl, q _ s9⟩
end
end L25
set_option Elab.async false
set_option linter.all false
set_option maxRecDepth 100000
namespace L25
open PySem PySem.Spec PyProof.Rows L2 Lp
section
variable {P : Program} {w : World} {K : PySem.W.Frag} {mg : Str → Option Value} {base : Heap} {CR CP CC CS CG eH eO : Addr}
/-! ### a record's twin -/
def spTwin (CR : Addr) : Sp := fun vs H Q _ => ∃ (r ai ap aq : Addr) (I U S : List Int), vs = [.ref r] ∧ Rec CR H r ai ap aq I U S ∧ I.length ≤ 1000 ∧ U.length ≤ 1000 ∧ S.length ≤ 2000 ∧ ∀ t a b c H', Same H H' → Rec CR H' t a b c I U S → H t = none → H a = none → H b = none → H c = none → Q (.ref t) H'
theorem ok_Record_twin {f : Addr} {fd : FuncData} (F : Fun K "twin" "Record.twin" s_Record_twin f fd) (T : TxtL K CR CP CC CS CG) (T_mk_Record : Mak P w K mg base 1 "Record" CR (spRInit K CR)) : FnOk P w K mg base (L2N.CX P w) 3 f fd ["self"] (spTwin CR) := by
  refine F.okN sc_Record_twin (fun vs H Q E h => ?_) (fun cdv A outer s H vs Q E hr h => ?_)
  · obtain ⟨r, ai, ap, aq, I, U, S, rfl, _⟩ := h
    rfl
  · obtain ⟨r, ai, ap, aq, I, U, S, rfl, R, l1, l2, l3, q⟩ := h
    obtain ⟨dr, hR⟩ := R.ins
    refine ⟨_, (pss_one (ps_ret (pe_mk T_mk_Record hr (by decide) (by rfl) (pa_cons (pe_fld (pv 0) rfl) (pa_cons (pe_fld (pv 0) rfl) (pa_cons (pe_fld (pv 0) rfl) pa_nil)))))), ?_⟩
    refine ⟨_, rfl, r, CR, dr, _, _, rfl, hR, T.cR, T.nR1, lk1 _ _ _, _, rfl, r, CR, dr, _, _, rfl, hR, T.cR, T.nR2, lk2 _ _ _, _, rfl, r, CR, dr, _, _, rfl, hR, T.cR, T.nR3, lk3 _ _ _, fun t dt nt ndt ne => ?_⟩
    have nt' : (upd H dt (.own t)) t = none := by rw [upd_ne ne.symm]; exact nt
    have s1 : Same H (upd (upd H dt (.own t)) t (.ins CR dt [])) := (same_new ndt).trans (same_new nt')
    have t1 : (upd (upd H dt (.own t)) t (.ins CR dt [])) t = some (.ins CR dt []) := upd_same
    generalize upd (upd H dt (.own t)) t (.ins CR dt []) = H1 at s1 t1 ⊢
    have R1 := R.same s1
    refine ⟨t, dt, ai, ap, aq, I, U, S, rfl, t1, R1.i, R1.p, R1.q, l1, l2, l3, fun a b c H2 R2 B2 na nb nc => ⟨rfl, ?_⟩⟩
    exact q t a b c H2 (fun y o e => B2 y o (fun z => by rw [z, nt] at e; cases e) (s1 _ _ e)) R2 nt (s1.free na) (s1.free nb) (s1.free nc)
/-! ### events that are tried -/
def evOk (m : Nat) (U : List Int) (d : PyData) : Prop := ∃ e, d = .int e ∧ Hist (U ++ [e]) ∧ e.natAbs ≤ m
def spNextN (K : PySem.W.Frag) (CR CG eH : Addr) : Sp := fun vs H Q X => ∃ (g r al t ai ap aq : Addr) (ps : List Addr) (I U S : List Int) (v : V) (d : PyData), vs = [.ref g, .ref t, v] ∧ SetAt CG H g r al ps ∧ Rec CR H t ai ap aq I U S ∧ Hist U ∧ ps.length ≤ 1000 ∧ Ox K H v d ∧ wt d ≤ 100000 ∧
  (evOk ps.length U d → ∀ H', Same H H' → Q .non H') ∧ (¬ evOk ps.length U d → ∀ H', Same H H' → X (.ref eH) none H')
theorem ok_Setting_check_next {f : Addr} {fd : FuncData} (F : Fun K "_check_next" "Setting._check_next" s_Setting_check_next f fd) (B : NoB mg) (T : TxtL K CR CP CC CS CG) (RH : Er K mg "InvalidHistoryError" eH) (T_is_history : Cal P w K mg base 5 "is_history" (spIsHistO K)) : FnOk P w K mg base (L2N.CX P w) 6 f fd ["self", "record", "event"] (spNextN K CR CG eH) := by
  refine F.okN sc_Setting_check_next (fun vs H Q E h => ?_) (fun cdv A outer s H vs Q E hr h => ?_)
  · obtain ⟨g, r, al, t, ai, ap, aq, ps, I, U, S, v, d, rfl, _⟩ := h
    rfl
  · obtain ⟨g, r, al, t, ai, ap, aq, ps, I, U, S, v, d, rfl, G, R, hU, pl, hv, hw, q, x⟩ := h
    obtain ⟨dr, hR⟩ := R.ins
    refine ⟨_, (pss_one (ps_if (PW.pt (pw_or (pt_not (pt_val (pe_c T_is_history hr (by decide) (by rfl) (pa_cons (pe_op op_cat (pe_fld (pv 1) rfl) (pe_lst (pa_cons (pv 2) pa_nil))) pa_nil)))) (pw_or1 (pt_cmpR op_gt (pe_callB call_abs (by rfl) B.abs (by decide +kernel) (pa_cons (pv 2) pa_nil)) (pe_callB call_len_seq (by rfl) B.len PySem.boot_len (pa_cons (pe_fld (pv 0) rfl) pa_nil)) (nomark _))))) (pss_one (L2N.ps_raise rfl (L2N.takes_of rfl rfl rfl rfl) (L2N.pmk_own PySem.F.excBase_ValueError RH.x RH.c RH.k (raises_own RH.b RH.t) rfl))) pss_nil)), ?_⟩
    refine ⟨_, rfl, t, CR, dr, _, _, rfl, hR, T.cR, T.nR2, lk2 _ _ _, _, rfl, by show 1 ≤ sizeLine; decide, fun z nz => ?_⟩
    have s1 := same_new (o := .lst [v]) nz
    have z1 : (upd H z (.lst [v])) z = some (.lst [v]) := upd_same
    generalize upd H z (.lst [v]) = H1 at s1 z1 ⊢
    refine ⟨ap, z, _, _, rfl, rfl, s1 _ _ R.p, z1, by rw [List.length_map]; have := hU.len; exact zs (by simp; omega), fun y ny => ?_⟩
    have s2 := s1.trans (same_new (o := .lst (U.map .int ++ [v])) ny)
    have y2 : (upd H1 y (.lst (U.map .int ++ [v]))) y = some (.lst (U.map .int ++ [v])) := upd_same
    generalize upd H1 y (.lst (U.map .int ++ [v])) = H2 at s2 y2 ⊢
    have wU : wtAll (U.map PyData.int) ≤ 200 * 42 := (bd_ints (k := 1) (fun e h => by
      have := (hU.rng e h).2
      have z2 : e.natAbs ≤ 100 := by omega
      exact Nat.lt_of_le_of_lt z2 (by decide)) hU.len).w
    have wA : ∀ {as bs : List PyData}, wtAll (as ++ bs) = wtAll as + wtAll bs := fun {as bs} => by
      induction as with
      | nil => show wtAll bs = 0 + wtAll bs; omega
      | cons a as ih =>
        show wt a + 2 + wtAll (as ++ bs) = wt a + 2 + wtAll as + wtAll bs
        rw [ih]
        omega
    refine ⟨.ref y, .list (U.map .int ++ [d]), rfl, .lst (.of y2) (oxAll_app (oxAll_ints U) (.cons (ox_same s2 hv) .nil)), ?_, fun H3 b s3 hb => ⟨_, rfl, ?_⟩⟩
    · show 2 + wtAll (U.map PyData.int ++ [d]) ≤ 190000
      rw [wA]
      show 2 + (wtAll (U.map PyData.int) + (wt d + 2 + 0)) ≤ 190000
      omega
    have s03 := s2.trans s3
    cases b with
    | false =>
      refine iteT (iteT (x (fun ⟨e, hd, hh, _⟩ => ?_) _ s03))
      refine absurd (hb.mpr ⟨U ++ [e], ?_, hh⟩) (fun z => nomatch z)
      rw [hd]
      show PyData.list _ = PyData.list _
      rw [List.map_append]
      rfl
    | true =>
      obtain ⟨ns, en, hh⟩ := hb.mp rfl
      have en : U.map PyData.int ++ [d] = ns.map PyData.int := PyData.list.inj en
      obtain ⟨e, rfl, rfl⟩ : ∃ e, d = .int e ∧ ns = U ++ [e] := by
        have hl := congrArg List.length en
        rw [List.length_append, List.length_map, List.length_map] at hl
        have hl : U.length + 1 = ns.length := hl
        obtain ⟨ms, e, rfl⟩ : ∃ ms e, ns = ms ++ [e] := by
          have ne : ns ≠ [] := fun z => by rw [z] at hl; exact absurd hl (Nat.succ_ne_zero _)
          exact ⟨ns.dropLast, ns.getLast ne, (List.dropLast_concat_getLast ne).symm⟩
        rw [List.map_append] at en
        obtain ⟨e1, e2⟩ := List.append_inj' en rfl
        have e1 : U = ms := List.map_inj_right (fun x y h => PyData.int.inj h) |>.mp e1
        exact ⟨e, by simpa using e2, by rw [e1]⟩
      cases hv with
      | int =>
      obtain ⟨dg, hg⟩ := G.g
      refine iteF ?_
      refine ⟨_, rfl, e, rfl, _, rfl, g, CG, dg, _, _, rfl, s03 _ _ hg, T.cG, T.nG2, lg2 _ _, ?_⟩
      refine ⟨al, _, rfl, .inl (.of (s03 _ _ G.l)), _, _, rfl, rfl, ?_⟩
      rw [List.length_map]
      have ea : (if e < 0 then -e else e) = ((e.natAbs : Nat) : Int) := by split <;> omega
      rw [ea]
      by_cases hm : e.natAbs ≤ ps.length
      · exact ⟨false, congrArg V.bl (decide_eq_false (by omega)), iteF (q ⟨e, rfl, hh, hm⟩ _ s03)⟩
      · exact ⟨true, congrArg V.bl (decide_eq_true (by omega)), iteT (x (fun ⟨e', h1, _, h2⟩ => by cases h1; exact hm h2) _ s03)⟩
/-! ### tried -/
def stepC (ks : List Nat) (U S : List Int) (d : PyData) : Option Int := if 0 < toI d then some (toI d) else leftK (ks.getD ((-(toI d)).toNat - 1) 0) U S (-(toI d))
open Classical in
noncomputable def trS (ks : List Nat) : List Int → List Int → List PyData → Nat ⊕ Int
  | _, S, [] => .inr (lastI S)
  | U, S, d :: ds => if evOk ks.length U d then (match stepC ks U S d with | none => .inl 15 | some c => trS ks (U ++ [toI d]) (S ++ [c]) ds) else .inl 3
theorem trS_bad {ks : List Nat} {U S : List Int} {d : PyData} {ds : List PyData} (h : ¬ evOk ks.length U d) : trS ks U S (d :: ds) = .inl 3 := if_neg h
theorem trS_order {ks : List Nat} {U S : List Int} {d : PyData} {ds : List PyData} (h : evOk ks.length U d) (c : stepC ks U S d = none) : trS ks U S (d :: ds) = .inl 15 := by
  unfold trS
  rw [if_pos h, c]
theorem trS_go {ks : List Nat} {U S : List Int} {d : PyData} {ds : List PyData} {c : Int} (h : evOk ks.length U d) (hc : stepC ks U S d = some c) : trS ks U S (d :: ds) = trS ks (U ++ [toI d]) (S ++ [c]) ds := by
  rw [trS, if_pos h, hc]
def TrR (Q : VK) (X : XK) (eH eO : Addr) (I : List Int) (H : Hp) (R : Nat ⊕ Int) : Prop := (∀ c, R = .inr c → ∀ H', Same H H' → Q (.int (vI I c)) H') ∧ (R = .inl 3 → ∀ H', Same H H' → X (.ref eH) none H') ∧ (R = .inl 15 → ∀ H', Same H H' → X (.ref eO) none H')
def spTriedB (K : PySem.W.Frag) (CR CP CC CS CG eH eO : Addr) : Sp := fun vs H Q X => ∃ (g p r al ai ap aq : Addr) (ps : List Addr) (ks : List Nat) (I U S : List Int) (xs : List V) (ds : List PyData), vs = [.ref g, .ref p] ∧ H p = some (.tup xs) ∧ Liv CR CP CC CS CG H g r al ai ap aq ps ks I U S ∧ Hist U ∧ OxAll K H xs ds ∧ (∀ d ∈ ds, wt d ≤ 100000) ∧ TrR Q X eH eO I H (trS ks U S ds)
theorem ok_Setting_tried {f : Addr} {fd : FuncData} (F : Fun K "tried" "Setting.tried" s_Setting_tried f fd) (T : TxtL K CR CP CC CS CG) (T_Record_twin : MetV P w K mg base 3 (Is CR) "twin" (spTwin CR)) (T_Setting_check_next : MetV P w K mg base 6 (Is CG) "_check_next" (spNextN K CR CG eH)) (T_AnyPatch_left_by_stop : MetC P w K mg base 3 (Kind3 CP CC CS) "left_by_stop" (spLeft CR eO))
    (T_Record_go_on_by : MetV P w K mg base 1 (Is CR) "go_on_by" (spGoOn CR)) (T_Record_integer_now : MetV P w K mg base 1 (Is CR) "integer_now" (spNow CR)) : FnR P w K mg base (L2N.CX P w) 8 f (SpStar 1 (spTriedB K CR CP CC CS CG eH eO)) := by
  refine Fun.star F sc_Setting_tried (fun kV doc pm cdv ct an a => rfl) (fun kV doc pm cdv ct an a r rs => rfl) (fun cdv A outer s H vs Q E hr h => ?_)
  obtain ⟨g, p, r, al, ai, ap, aq, ps, ks, I, U, S, xs, ds, rfl, hp, L, hU, hx, hw, q, x3, x15⟩ := h
  obtain ⟨dg, hg⟩ := L.set.g
  obtain ⟨dr, hR⟩ := L.rc.ins
  have W := L.wf
  have kl := L.kl
  have il := L.il
  refine ⟨_, (pss_cons (ps_set (i := 2) sc_Setting_tried.nd rfl (Or.inl rfl) (pe_mV0 T_Record_twin hr (by decide) (L2N.takes_of rfl rfl rfl rfl) (pe_fld (pv 0) rfl)))
        (pss_cons (ps_for (L2.passes_of rfl) rfl (pi_tup (pv 1)) (pg_name (i := 3) sc_Setting_tried.nd rfl (Or.inl rfl))
          (pss_cons (ps_expr (pe_mV T_Setting_check_next hr (by decide) (L2N.takes_of rfl rfl rfl rfl) (pv 0) (pa_cons (pv 2) (pa_cons (pv 3) pa_nil))))
          (pss_cons (ps_set (i := 4) sc_Setting_tried.nd rfl (Or.inl rfl) (pe_ifExp (pt_cmpR op_gt (pv 3) pe_int (nomark _)) (pv 3) (pe_mC T_AnyPatch_left_by_stop hr (by decide) (L2N.takes_of rfl rfl rfl rfl) (pe_ix ix_list (pe_fld (pv 0) rfl) (pe_op op_sub (pe_un un_neg (pv 3)) pe_int) (fun _ _ => rfl)) (pa_cons (pv 2) pa_nil))))
          (pss_one (ps_expr (pe_mV T_Record_go_on_by hr (by decide) (L2N.takes_of rfl rfl rfl rfl) (pv 2) (pa_cons (pv 3) (pa_cons (pv 4) pa_nil))))))))
        (pss_one (ps_ret (pe_mV0 T_Record_integer_now hr (by decide) (L2N.takes_of rfl rfl rfl rfl) (pv 2)))))), ?_⟩
  refine ⟨_, rfl, g, CG, dg, _, _, rfl, hg, T.cG, T.nG1, lg1 _ _, r, CR, dr, _, rfl, rfl, hR, lkR _ _ _ (by decide +kernel), r, ai, ap, aq, I, U, S, rfl, L.rc, W.i, W.p, by have := W.len; have := W.p; omega, fun t a b c H1 s1 R1 nt na nb nc => ?_⟩
  refine ⟨_, rfl, p, rfl, ⟨_, .of (s1 _ _ hp)⟩, for_tup (xs := xs) (fun i σ H' => ∃ (U' S' : List Int) (y3 y4 : Option V), σ = [some (.ref g), some (.ref p), some (.ref t), y3, y4] ∧ Same H H' ∧ Rec CR H' t a b c I U' S' ∧ Wf I U' S' ∧ Hist U' ∧ trS ks U' S' (ds.drop i) = trS ks U S ds) ⟨U, S, _, _, rfl, s1, R1, W, hU, rfl⟩ (fun i σ H' _ h => ?_) (fun i x σ H' hx' h => ?_) (fun σ H' h => ?_)⟩
  · obtain ⟨_, _, _, _, _, sm, _⟩ := h
    exact .of (sm _ _ hp)
  · obtain ⟨U', S', y3, y4, rfl, sm, R', W', hU', eq⟩ := h
    obtain ⟨d, hd, hv⟩ := oxAll_get hx hx'
    have hv := ox_same sm hv
    have hwd := hw d (List.mem_of_getElem? hd)
    have L' := L.same sm
    obtain ⟨dr', hR'⟩ := R'.ins
    have ed : ds.drop i = d :: ds.drop (i + 1) := by
      obtain ⟨hlt, he⟩ := List.getElem?_eq_some_iff.mp hd
      rw [List.drop_eq_getElem_cons hlt, he]
    rw [ed] at eq
    refine ⟨_, rfl, g, CG, dg, _, rfl, rfl, sm _ _ hg, lkG _ _ (by decide +kernel), _, rfl, _, rfl, g, r, al, t, a, b, c, ps, I, U', S', x, d, rfl, L'.set, R', hU', by have := W.i; omega, hv, hwd, fun ok H2 s2 => ?_, fun no H2 s2 => ?_⟩
    rotate_left 1
    · rw [← kl] at no
      exact x3 (eq.symm.trans (trS_bad no)) _ (sm.trans s2)
    rw [← kl] at ok
    have ok0 := ok
    obtain ⟨e, rfl, hh, hm⟩ := ok
    rw [kl] at hm
    cases hv with
    | int =>
    have sm2 := sm.trans s2
    have R2 := R'.same s2
    obtain ⟨dr2, hR2⟩ := R2.ins
    have e0 := (hh.rng e (List.mem_append_right _ List.mem_cons_self)).1
    have go : ∀ cc, stepC ks U' S' (.int e) = some cc → (0 ≤ cc ∧ cc < (I.length : Int)) → ∃ (U'' S'' : List Int) (y3 y4 : Option V), [some (V.ref g), some (.ref p), some (.ref t), some (.int e), some (.int cc)] = [some (V.ref g), some (.ref p), some (.ref t), y3, y4] ∧ Same H (upd (upd H2 b (.lst ((U' ++ [e]).map .int))) c (.lst ((S' ++ [cc]).map .int))) ∧ Rec CR (upd (upd H2 b (.lst ((U' ++ [e]).map .int))) c (.lst ((S' ++ [cc]).map .int))) t a b c I U'' S'' ∧ Wf I U'' S'' ∧ Hist U'' ∧ trS ks U'' S'' (ds.drop (i + 1)) = trS ks U S ds := fun cc hcc rg =>
      ⟨U' ++ [e], S' ++ [cc], _, _, rfl, fun y o ey => by
        rw [upd_ne (fun z => by rw [z, nc] at ey; cases ey), upd_ne (fun z => by rw [z, nb] at ey; cases ey)]
        exact sm2 _ _ ey, R2.go, W'.go rg (by have := hU'.len; omega), hh, (trS_go ok0 hcc).symm.trans eq⟩
    have fin : ∀ cc, stepC ks U' S' (.int e) = some cc → (0 ≤ cc ∧ cc < (I.length : Int)) → U'.length ≤ 1000 ∧ S'.length ≤ 2000 := fun cc _ _ => ⟨W'.p, by have := W'.len; have := W'.p; omega⟩
    by_cases h0 : 0 < e
    · have hc : stepC ks U' S' (.int e) = some e := if_pos h0
      have rg : 0 ≤ e ∧ e < (I.length : Int) := by omega
      refine ⟨_, rfl, _, _, rfl, rfl, true, dT h0, ?_⟩
      refine ⟨_, rfl, ?_⟩
      exact ⟨_, rfl, t, CR, dr2, _, rfl, rfl, hR2, lkR _ _ _ (by decide +kernel), _, rfl, _, rfl, t, a, b, c, I, U', S', e, e, rfl, R2, (fin _ hc rg).1, (fin _ hc rg).2, go _ hc rg⟩
    · have hn : e < 0 := by omega
      have hmem : -e ∈ U' := by
        have := hh.ord U'.length e (by rw [List.getElem?_append_right (Nat.le_refl _), Nat.sub_self]; rfl) hn
        rw [List.take_left] at this
        exact this
      have L2' := L'.same s2
      obtain ⟨pp, C, dp, epp, eat, hK, hpp⟩ := L2'.at (n := -e) (by omega) (by omega)
      have hj : ks.getD ((-e).toNat - 1) 0 = ks.getD ((-e).toNat - 1) 0 := rfl
      have hs : stepC ks U' S' (.int e) = leftK (ks.getD ((-e).toNat - 1) 0) U' S' (-e) := if_neg h0
      refine ⟨_, rfl, _, _, rfl, rfl, false, dF h0, ?_⟩
      refine ⟨_, rfl, g, CG, dg, _, _, rfl, sm2 _ _ hg, T.cG, T.nG2, lg2 _ _, _, rfl, _, rfl, _, _, rfl, rfl, al, _, _, _, rfl, rfl, .of L2'.set.l, eat, pp, C, _, dp, _, rfl, hK, hpp, lkP _ _ (by decide +kernel), _, rfl, pp, dp, t, r, a, b, c, -e, I, U', S', rfl, hpp, R2, W', hmem, fun cc hc => ?_, fun hc => ?_⟩
      · have rg := leftK_rng W' hmem hc
        exact ⟨_, rfl, t, CR, dr2, _, rfl, rfl, hR2, lkR _ _ _ (by decide +kernel), _, rfl, _, rfl, t, a, b, c, I, U', S', e, cc, rfl, R2, (fin _ (hs.trans hc) rg).1, (fin _ (hs.trans hc) rg).2, go _ (hs.trans hc) rg⟩
      · exact x15 (eq.symm.trans (trS_order ok0 (hs.trans hc))) _ sm2
  · obtain ⟨U', S', y3, y4, rfl, sm, R', W', hU', eq⟩ := h
    obtain ⟨dr', hR'⟩ := R'.ins
    rw [List.drop_of_length_le (by rw [oxAll_len hx]; exact Nat.le_refl _)] at eq
    exact ⟨_, rfl, t, CR, dr', _, rfl, rfl, hR', lkR _ _ _ (by decide +kernel), t, a, b, c, I, U', S', rfl, R', W', q _ eq.symm _ sm⟩
end
end L25
set_option Elab.async false
set_option linter.all false
set_option maxRecDepth 100000
namespace L25
open PySem PySem.Spec PyProof.Rows L2 Lp
section
variable {P : Program} {w : World} {K : PySem.W.Frag} {mg : Str → Option Value} {base : Heap}
/-! ### what follows a state, with the word of the error -/
def spLaterW (K : PySem.W.Frag) : Sp := fun vs H Q _ => ∃ (t wl : Addr) (e : Int) (ks : List Nat) (U S : List Int), vs = [.ref t, .ref wl, .int e] ∧ LSt H t U S ∧ SqL K H wl (ks.map wordV) ∧ (∀ k ∈ ks, k < 3) ∧ S.length = U.length + 1 ∧ e ≠ 0 ∧ e.natAbs ≤ ks.length ∧ U.length ≤ 1000 ∧
  (0 < e → e ∈ U → Q (.str "started") H) ∧ (e < 0 → ¬ (-e ∈ U ∧ e ∉ U) → Q (.str "running") H) ∧ (e < 0 → -e ∈ U → e ∉ U → nxt ks U S e = none → Q (.str "order") H) ∧ (∀ c, nxt ks U S e = some c → ∀ t' H', Same H H' → H t' = none → LStN (fun b => H b = none) H' t' (U ++ [e]) (S ++ [c]) → Q (.ref t') H')
theorem ok_law_laterW {f : Addr} {fd : FuncData} (F : Fun K "_law_later" "_law_later" s_law_later f fd) (B : NoB mg) (T_z_dict : mg "dict" = none) : FnOk P w K mg base CX0 1 f fd ["state", "words", "event"] (spLaterW K) := by
  refine F.ok sc_law_later (fun vs H Q E h => ?_) (fun cdv A outer s H vs Q E hr h => ?_)
  · obtain ⟨t, wl, e, ks, U, S, rfl, _⟩ := h
    rfl
  · obtain ⟨t, wl, e, ks, U, S, rfl, ⟨ad, ak, ht, hd, hk⟩, hw, k3, hl, e0, el, ul, q1, q2, q3, qs⟩ := h
    have hu := hu_of hr
    refine ⟨_, (pss_cons (ps_asg (pv 0) (pg_tup rfl (pgs_cons (pg_name (i := 3) sc_law_later.nd rfl (Or.inl rfl)) (pgs_cons (pg_name (i := 4) sc_law_later.nd rfl (Or.inl rfl)) (pgs_cons (pg_name (i := 5) sc_law_later.nd rfl (Or.inl rfl)) pgs_nil)))))
        (pss_cons (ps_set (i := 6) sc_law_later.nd rfl (Or.inl rfl) (pe_callB call_abs (by rfl) B.abs (by decide +kernel) (pa_cons (pv 2) pa_nil)))
        (pss_cons (ps_if (PW.pt (pw_and (pt_cmpR op_gt (pv 2) pe_int (nomark _)) (pw_and1 (pt_cmp (pc_din hu (pv 6) (pv 5)))))) (pss_one (ps_ret pe_str)) pss_nil)
        (pss_cons (ps_if (pt_cmpR op_gt (pv 2) pe_int (nomark _)) (pss_cons (ps_set (i := 7) sc_law_later.nd rfl (Or.inl rfl) (pe_callTy call_dictD (by rfl) T_z_dict (by decide +kernel) (pa_cons (pv 5) pa_nil)))
          (pss_cons (ps_dput hu (pv 7) (pv 6) (pv 3) rfl)
          (pss_one (ps_ret (pe_tup (pa_cons (pv 6) (pa_cons (pe_op op_cat (pv 4) (pe_lst (pa_cons (pv 6) pa_nil))) (pa_cons (pv 7) pa_nil)))))))) pss_nil)
        (pss_cons (ps_if (PW.pt (pw_or (pt_cmp (pc_dnotin hu (pv 6) (pv 5))) (pw_or1 (pt_cmpR op_in_seq (pv 2) (pv 4) (by rfl))))) (pss_one (ps_ret pe_str)) pss_nil)
        (pss_cons (ps_set (i := 8) sc_law_later.nd rfl (Or.inl rfl) (pe_ix ix_list (pv 1) (pe_op op_sub (pv 6) pe_int) (fun _ _ => rfl)))
        (pss_cons (ps_if (PW.pt (pw_and (pt_cmpR op_eq (pv 8) pe_str (nomark _)) (pw_and1 (pt_cmpR op_ne (pv 3) (pv 6) (nomark _))))) (pss_one (ps_ret pe_str)) pss_nil)
        (pss_cons (ps_set (i := 9) sc_law_later.nd rfl (Or.inl rfl) (pe_ifExp (PW.pt (pw_and (pt_cmpR op_eq (pv 8) pe_str (nomark _)) (pw_and1 (pt_cmpR op_ne (pv 3) (pv 6) (nomark _))))) (pv 3) (pe_dget hu (pv 5) (pv 6) (fun _ _ => rfl))))
        (pss_one (ps_ret (pe_tup (pa_cons (pv 9) (pa_cons (pe_op op_cat (pv 4) (pe_lst (pa_cons (pv 2) pa_nil))) (pa_cons (pv 5) pa_nil)))))))))))))), ?_⟩
    refine ⟨_, rfl, t, _, rfl, .of ht, rfl, _, _, rfl, _, _, rfl, _, _, rfl, rfl, ?_⟩
    by_cases hp : 0 < e
    · refine ⟨_, rfl, e, rfl, ?_⟩
      rw [abs_pos hp]
      refine ⟨_, rfl, _, _, rfl, rfl, true, dT hp, ?_⟩
      unfold nxt at qs
      by_cases m : e ∈ U
      · refine ⟨_, rfl, _, rfl, ak, _, rfl, dgI hk hp, true, by rw [if_pos m]; rfl, ?_⟩
        exact q1 hp m
      · refine ⟨_, rfl, _, rfl, ak, _, rfl, dgI hk hp, false, by rw [if_neg m]; rfl, ?_⟩
        have qs2 := qs e (by rw [if_pos hp, if_neg m])
        refine ⟨_, rfl, _, _, rfl, rfl, true, dT hp, ?_⟩
        refine ⟨_, rfl, ak, _, rfl, .of hk, fun d nd => ?_⟩
        have s1 := same_new (o := .dK (kept U S)) nd
        have d1 : (upd H d (.dK (kept U S))) d = some (.dK (kept U S)) := upd_same
        generalize upd H d (.dK (kept U S)) = H1 at s1 d1 ⊢
        have en : putK (kept U S) (Sum.inl e) (V.int (lastI S)) = kept (U ++ [e]) (S ++ [e]) := by
          rw [put_new (by rw [valV_kept hp, if_neg m]), kept_start hl hp m]
        refine ⟨_, rfl, _, rfl, _, rfl, d, _, rfl, .inl ⟨_, Sum.inl e, d1, rfl, (by have := kept_len U S; exact zl (by omega)), rfl⟩, ?_⟩
        rw [en]
        have s2 : Same H (upd H1 d (.dK (kept (U ++ [e]) (S ++ [e])))) := Lp.Same.mut s1 nd
        have d2 : (upd H1 d (.dK (kept (U ++ [e]) (S ++ [e])))) d = some (.dK (kept (U ++ [e]) (S ++ [e]))) := upd_same
        generalize upd H1 d (.dK (kept (U ++ [e]) (S ++ [e]))) = H2 at s2 d2 ⊢
        refine ⟨_, rfl, _, rfl, _, rfl, by show 1 ≤ sizeLine; decide, fun z nz => ?_⟩
        have s3 := s2.trans (same_new (o := .lst [.int e]) nz)
        have d3 := same_new (o := .lst [.int e]) nz _ _ d2
        have z3 : (upd H2 z (.lst [.int e])) z = some (.lst [.int e]) := upd_same
        generalize upd H2 z (.lst [.int e]) = H3 at s3 d3 z3 ⊢
        refine ⟨ad, z, _, _, rfl, rfl, s3 _ _ hd, z3, by rw [List.length_map]; exact zs (by simp; omega), fun y ny => ?_⟩
        rw [snocI]
        have s4 := s3.trans (same_new (o := .lst ((U ++ [e]).map .int)) ny)
        have d4 := same_new (o := .lst ((U ++ [e]).map .int)) ny _ _ d3
        have y4 : (upd H3 y (.lst ((U ++ [e]).map .int))) y = some (.lst ((U ++ [e]).map .int)) := upd_same
        generalize upd H3 y (.lst ((U ++ [e]).map .int)) = H4 at s4 d4 y4 ⊢
        refine ⟨_, rfl, by show 3 ≤ sizeLine; decide, fun T nT => ?_⟩
        have st := same_new (o := .tup [.int e, .ref y, .ref d]) nT
        exact qs2 T _ (s4.trans st) (s4.free nT) ⟨y, d, s3.free ny, by rw [lastI_snoc]; exact upd_same, st _ _ y4, st _ _ d4⟩
    · have hn : e < 0 := by omega
      have hm : 0 < -e := by omega
      refine ⟨_, rfl, e, rfl, ?_⟩
      rw [abs_neg hn]
      refine ⟨_, rfl, _, _, rfl, rfl, false, dF hp, ?_⟩
      refine ⟨_, rfl, _, _, rfl, rfl, false, dF hp, ?_⟩
      unfold nxt at q3 qs
      by_cases m : -e ∈ U
      · refine ⟨_, rfl, _, rfl, ak, _, rfl, dgI hk hm, false, by rw [if_pos m]; rfl, ?_⟩
        by_cases m2 : e ∈ U
        · refine ⟨_, rfl, _, rfl, ad, _, rfl, .inl (.of hd), rfl, flatI _, true, by show V.bl (inV (.int e) (U.map V.int)) = _; rw [inVI, decide_eq_true m2], ?_⟩
          exact q2 hn fun z => z.2 m2
        · refine ⟨_, rfl, _, rfl, ad, _, rfl, .inl (.of hd), rfl, flatI _, false, by show V.bl (inV (.int e) (U.map V.int)) = _; rw [inVI, decide_eq_false m2], ?_⟩
          have nn : ¬ (-e ∉ U ∨ e ∈ U) := fun z => z.elim (fun q => q m) m2
          have qn := q3 hn m m2
          rw [if_neg hp, if_neg nn] at qn
          have j1 : (-e).toNat - 1 < ks.length := by omega
          have ej : (-e) - 1 = (((-e).toNat - 1 : Nat) : Int) := by omega
          have hkk : ks.getD ((-e).toNat - 1) 0 < 3 := k3 _ (by rw [List.getD_eq_getElem?_getD, List.getElem?_eq_getElem j1]; exact List.getElem_mem j1)
          refine ⟨_, rfl, _, rfl, _, _, rfl, rfl, wl, _, _, _, rfl, rfl, hw, (by rw [ej]; exact wordV_at j1), ?_⟩
          have qs2 := fun c hc => qs c (by rw [if_neg hp, if_neg nn]; exact hc)
          generalize ks.getD ((-e).toNat - 1) 0 = k at qn qs2 hkk ⊢
          have els : decide (V.int (lastI S) = V.int (-e)) = decide (lastI S = -e) := decide_eq_decide.mpr ⟨fun z => V.int.inj z, fun z => congrArg V.int z⟩
          have fin : ∀ c, leftK k U S (-e) = some c → ∀ H1, Same H H1 → ∀ z, H1 z = none → ∀ y, (upd H1 z (.lst [.int e])) y = none → ∀ T, (upd (upd H1 z (.lst [.int e])) y (.lst (U.map .int ++ [.int e]))) T = none → Q (.ref T) (upd (upd (upd H1 z (.lst [.int e])) y (.lst (U.map .int ++ [.int e]))) T (.tup [.int c, .ref y, .ref ak])) := fun c hc H1 s1 z nz y ny T nT => by
            have s2 := same_new (o := .lst [.int e]) nz
            have s3 := same_new (o := .lst (U.map .int ++ [.int e])) ny
            have s4 := same_new (o := .tup [.int c, .ref y, .ref ak]) nT
            refine qs2 c hc T _ (((s1.trans s2).trans s3).trans s4) (((s1.trans s2).trans s3).free nT) ⟨y, ak, (s1.trans s2).free ny, by rw [lastI_snoc]; exact upd_same, s4 _ _ (by rw [upd_same, snocI]), ?_⟩
            rw [kept_stop hl hn]
            exact s4 _ _ (s3 _ _ (s2 _ _ (s1 _ _ hk)))
          have len3 : (U.map V.int).length + 1 ≤ sizeLine := by rw [List.length_map]; exact zs (by omega)
          by_cases l : lastI S = -e
          · refine ⟨_, rfl, word_scal k _, decide (k = 2), congrArg V.bl (word_strict hkk), ?_⟩
            have nx : leftK k U S (-e) = some (fbI U S (-e)) := by
              unfold leftK
              by_cases k0 : k = 0
              · rw [if_pos k0]
              · rw [if_neg k0, if_pos l]
            by_cases k2 : k = 2
            · rw [decide_eq_true k2]
              refine ⟨_, rfl, _, rfl, rfl, false, by rw [els, decide_eq_true l]; rfl, ?_⟩
              refine ⟨_, rfl, word_scal k _, decide (k = 1), congrArg V.bl (word_careful hkk), ?_⟩
              rw [decide_eq_false (by omega)]
              refine ⟨_, rfl, _, rfl, ak, _, rfl, by have := dgI (S := S) hk hm; rw [if_pos m] at this; exact this, ?_⟩
              refine ⟨_, rfl, _, rfl, _, rfl, by show 1 ≤ sizeLine; decide, fun z nz => ⟨ad, z, _, _, rfl, rfl, same_new nz _ _ hd, upd_same, len3, fun y ny => ⟨_, rfl, by show 3 ≤ sizeLine; decide, fun T nT => ?_⟩⟩⟩
              exact fin _ nx H (.refl _) z nz y ny T nT
            · rw [decide_eq_false k2]
              refine ⟨_, rfl, word_scal k _, decide (k = 1), congrArg V.bl (word_careful hkk), ?_⟩
              by_cases k1 : k = 1
              · rw [decide_eq_true k1]
                refine ⟨_, rfl, _, rfl, rfl, false, by rw [els, decide_eq_true l]; rfl, ?_⟩
                refine ⟨_, rfl, _, rfl, ak, _, rfl, by have := dgI (S := S) hk hm; rw [if_pos m] at this; exact this, ?_⟩
                refine ⟨_, rfl, _, rfl, _, rfl, by show 1 ≤ sizeLine; decide, fun z nz => ⟨ad, z, _, _, rfl, rfl, same_new nz _ _ hd, upd_same, len3, fun y ny => ⟨_, rfl, by show 3 ≤ sizeLine; decide, fun T nT => ?_⟩⟩⟩
                exact fin _ nx H (.refl _) z nz y ny T nT
              · rw [decide_eq_false k1]
                refine ⟨_, rfl, _, rfl, ak, _, rfl, by have := dgI (S := S) hk hm; rw [if_pos m] at this; exact this, ?_⟩
                refine ⟨_, rfl, _, rfl, _, rfl, by show 1 ≤ sizeLine; decide, fun z nz => ⟨ad, z, _, _, rfl, rfl, same_new nz _ _ hd, upd_same, len3, fun y ny => ⟨_, rfl, by show 3 ≤ sizeLine; decide, fun T nT => ?_⟩⟩⟩
                exact fin _ nx H (.refl _) z nz y ny T nT
          · refine ⟨_, rfl, word_scal k _, decide (k = 2), congrArg V.bl (word_strict hkk), ?_⟩
            by_cases k2 : k = 2
            · rw [decide_eq_true k2]
              refine ⟨_, rfl, _, rfl, rfl, true, by rw [els, decide_eq_false l]; rfl, ?_⟩
              refine qn ?_
              unfold leftK
              rw [if_neg (by omega), if_neg l, if_neg (by omega)]
            · rw [decide_eq_false k2]
              refine ⟨_, rfl, word_scal k _, decide (k = 1), congrArg V.bl (word_careful hkk), ?_⟩
              by_cases k1 : k = 1
              · rw [decide_eq_true k1]
                refine ⟨_, rfl, _, rfl, rfl, true, by rw [els, decide_eq_false l]; rfl, ?_⟩
                refine ⟨_, rfl, ?_⟩
                refine ⟨_, rfl, _, rfl, _, rfl, by show 1 ≤ sizeLine; decide, fun z nz => ⟨ad, z, _, _, rfl, rfl, same_new nz _ _ hd, upd_same, len3, fun y ny => ⟨_, rfl, by show 3 ≤ sizeLine; decide, fun T nT => ?_⟩⟩⟩
                exact fin _ (by unfold leftK; rw [if_neg (by omega), if_neg l, if_pos k1]) H (.refl _) z nz y ny T nT
              · rw [decide_eq_false k1]
                refine ⟨_, rfl, _, rfl, ak, _, rfl, by have := dgI (S := S) hk hm; rw [if_pos m] at this; exact this, ?_⟩
                refine ⟨_, rfl, _, rfl, _, rfl, by show 1 ≤ sizeLine; decide, fun z nz => ⟨ad, z, _, _, rfl, rfl, same_new nz _ _ hd, upd_same, len3, fun y ny => ⟨_, rfl, by show 3 ≤ sizeLine; decide, fun T nT => ?_⟩⟩⟩
                exact fin _ (by unfold leftK; rw [if_pos (by omega)]) H (.refl _) z nz y ny T nT
      · refine ⟨_, rfl, _, rfl, ak, _, rfl, dgI hk hm, true, by rw [if_neg m]; rfl, ?_⟩
        exact q2 hn fun z => m z.1
end
end L25
set_option Elab.async false
set_option linter.all false
set_option maxRecDepth 100000
namespace L25
open PySem PySem.Spec PyProof.Rows L2 Lp
section
variable {P : Program} {w : World} {K : PySem.W.Frag} {mg : Str → Option Value} {base : Heap} {CR CP CC CS CG : Addr} {E : Nat → Addr}
/-! ### _law_refused: undo; _law_tried, _law_outcome -/
def Dn (d : Nat) : Prop := d = 0 ∨ d = 1 ∨ d = 3 ∨ d = 4 ∨ d = 5 ∨ d = 14 ∨ d = 15 ∨ d = 16
/-- _law_error_name(e) in the suite, whatever the exception's object -/
def tSd (E : Nat → Addr) (a : Addr) (cls : Value) (d : Option Addr) : TE := fun σ H Q => σ[4]? = some (some (.ref a)) ∧ ∃ i, Dn i ∧ cls = .ref (E i) ∧ d = none ∧ ∀ H', Same H H' → Q (.str (nmE i)) H'
theorem cut_tl (x : V) (xs : List V) : cutV (x :: xs) (some 1) none = xs := by
  have e : HT.sIx (x :: xs).length 0 (some 1) = 1 := by
    show (if (1 : Int) < 0 then ((1 : Int) + (((x :: xs).length : Nat) : Int)).toNat else min (1 : Int).toNat (x :: xs).length) = 1
    rw [if_neg (by decide), List.length_cons]
    show min 1 (xs.length + 1) = 1
    omega
  unfold cutV
  rw [e, HT.sIx_none]
  show (xs.take ((x :: xs).length - 1)) = xs
  rw [List.length_cons]
  exact List.take_of_length_le (by omega)
theorem sne {a b : Str} (h : a ≠ b) : V.str a ≠ V.str b := fun z => h (V.str.inj z)
theorem bd_nil : Bd 10000000 60 (.list []) := (Bd.list (k := 10) .nil).mono (by omega) (by omega)
def spRefused (K : PySem.W.Frag) (CR CG : Addr) : Sp := fun vs H Q _ => ∃ (a g rr al ai ap aq : Addr) (ps : List Addr) (I S : List Int), vs = [.str "undo", .ref a] ∧ H a = some (.lst [.ref g]) ∧ SetAt CG H g rr al ps ∧ Rec CR H rr ai ap aq I [] S ∧ Wf I [] S ∧ ∀ H', Same H H' → Q (.str "empty") H'
theorem ok_law_refused {f : Addr} {fd : FuncData} (F : Fun K "_law_refused" "_law_refused" s_law_refused f fd) (B : NoB mg) (R : Err K mg E) (T_law_error_name : CalE2 P w K mg base 1 "_law_error_name" (spErrE K E))
    (T_Setting_undo : MetV P w K mg base 2 (Is CG) "undo" (spUndo CR CG (E 0))) : FnG P w K mg base CX0 10 f fd ["call", "given"] (spRefused K CR CG) := by
  refine okG F sc_law_refused (fun vs H Q E h => ?_) (fun cdv A outer s H vs Q E_ hG hr h => ?_)
  · obtain ⟨a, g, rr, al, ai, ap, aq, ps, I, S, rfl, _⟩ := h
    rfl
  · obtain ⟨a, g, rr, al, ai, ap, aq, ps, I, S, rfl, ha, G, RR, WF, q⟩ := h
    have hu64 := hr.units
    refine ⟨_, (pss_cons (ps_par (i := 2) (j := 3) (by rfl) sc_law_refused.nd rfl rfl (by decide) rfl rfl (pa_cons (pe_callB (call_reprO hG hu64) (by rfl) B.repr (by decide +kernel) (pa_cons (pe_slice sl_list (pv 1) (po_some pe_int) po_none) pa_nil)) (pa_cons pe_str pa_nil)) (by rfl))
        (pss_cons (L2N.ps_try_as (i := 4) (c := .ref (E 17)) (Wout := fun _ _ _ _ => False) (tb := _) (ts := fun a cls d => tAsg (tSd E a cls d) (gName 3)) rfl rfl sc_law_refused.nd rfl rfl ⟨by rfl, by decide, .inl R.c17⟩ (fun u s' x => by obtain ⟨_, _, _, _, _, _, _, _, _, _, _, _, _, _, _, _, z⟩ := x; exact z.elim)
        (fun W pn xe tk _ => (pss_one (ps_if (pt_cmpR op_eq (pv 0) pe_str (nomark _)) (pss_one (ps_expr (pe_mV0 T_Setting_undo hr (by decide) tk (pe_ix (k_ix (K := K) rfl) (pv 1) pe_int (fun _ _ => rfl))))) pss_never)))
        (fun a oe cls d pn hz hf => pss_one (ps_set (i := 3) sc_law_refused.nd rfl (Or.inl rfl) ⟨fun pins s σ H Q I q => (pe_ce2 (pr := (a, oe)) T_law_error_name ⟨(show Room 1 _ from hr.mono (by decide)).dp, (show Room 1 _ from hr.mono (by decide)).un⟩ ⟨rfl, hf.choose, hf.choose_spec, hz.2.2 _ hf.choose_spec⟩ List.mem_cons_self (by rfl) (pa_cons (pv 4) pa_nil)).run pins s σ H Q I (by
          obtain ⟨hs, i, hi, rfl, rfl, q⟩ := q
          exact ⟨_, hs, i, rfl, hi, hz.zc, hf, q⟩)⟩)))
        (pss_one (ps_ret (pe_ifExp (pt_cmpR op_eq (pe_callB (call_reprO hG hu64) (by rfl) B.repr (by decide +kernel) (pa_cons (pe_slice sl_list (pv 1) (po_some pe_int) po_none) pa_nil)) (pv 2) (nomark _)) (pv 3) pe_str))))), ?_⟩
    refine ⟨_, rfl, _, rfl, a, _, rfl, .of ha, fun p np => ?_⟩
    rw [cut_tl]
    have oxl : ∀ {H1 : Hp} {p : Addr}, Same H H1 → H1 p = none → Ox K (upd H1 p (.lst [])) (.ref p) (.list []) := fun {H1 p} s1 n1 => .lst (.of upd_same) .nil
    have hb := bd_nil
    refine ⟨.ref p, .list [], rfl, oxl (.refl _) np, hb, _, _, rfl, ?_⟩
    have s0 : Same H (upd H p (.lst [])) := same_new np
    generalize upd H p (.lst []) = H0 at s0 ⊢
    have G := G.same s0
    have RR := RR.same s0
    obtain ⟨dg, hg⟩ := id G.g
    refine ⟨_, rfl, rfl, true, dT rfl, iteT ?_⟩
    refine ⟨_, rfl, a, _, _, _, rfl, rfl, .of (s0 _ _ ha), at0, g, CG, dg, _, rfl, rfl, hg, lkG _ _ (by decide +kernel), g, rr, al, ai, ap, aq, ps, I, _, _, rfl, G, RR, WF, fun z => absurd rfl z, fun _ H1 s1 => ?_⟩
    exact ⟨true, R.m 0 (by decide), fun _ b nb => ⟨rfl, 0, .inl rfl, rfl, rfl, fun H2 s2 => ⟨_, rfl, _, rfl, a, _, rfl, .of (((s0.trans s1).trans s2) _ _ ha), fun p2 n2 => by rw [cut_tl]; exact ⟨.ref p2, _, rfl, oxl (((s0.trans s1).trans s2)) n2, hb, _, rfl, rfl, true, dT rfl, _, rfl, q _ ((((s0.trans s1).trans s2)).trans (same_new n2))⟩⟩⟩, fun z => nomatch z⟩
theorem ex_cons {α : Type} {n : Nat} : ∀ {xs : List α}, xs.length = n + 1 → ∃ x r, xs = x :: r ∧ r.length = n
  | x :: r, h => ⟨x, r, rfl, Nat.succ.inj h⟩
def Sz (n : Nat) : Prop := n = 0 ∨ n = 1 ∨ n = 2 ∨ n = 3 ∨ n = 7 ∨ n = 12 ∨ n = 20
def spTriedL (K : PySem.W.Frag) (CR CP CC CS CG eH eO : Addr) : Sp := fun vs H Q X => ∃ (g a : Addr) (xs : List V) (ds : List PyData) (rr al ai ap aq : Addr) (ps : List Addr) (ks : List Nat) (I U S : List Int), vs = [.ref g, .ref a] ∧ H a = some (.lst xs) ∧ OxAll K H xs ds ∧ Sz xs.length ∧
  Liv CR CP CC CS CG H g rr al ai ap aq ps ks I U S ∧ Hist U ∧ (∀ d ∈ ds, wt d ≤ 100000) ∧ TrR Q X eH eO I H (trS ks U S ds)
set_option maxHeartbeats 4000000 in
theorem ok_law_tried {f : Addr} {fd : FuncData} {eH eO : Addr} (F : Fun K "_law_tried" "_law_tried" s_law_tried f fd) (B : NoB mg) (T_Setting_tried : MetR P w K mg base 8 CG "tried" (SpStar 1 (spTriedB K CR CP CC CS CG eH eO))) :
    FnOk P w K mg base (L2N.CX P w) 9 f fd ["one", "g"] (spTriedL K CR CP CC CS CG eH eO) := by
  refine F.okN sc_law_tried (fun vs H Q E h => ?_) (fun cdv A outer s H vs Q E_ hr h => ?_)
  · obtain ⟨g, a, xs, ds, rr, al, ai, ap, aq, ps, ks, I, U, S, rfl, _⟩ := h
    rfl
  · obtain ⟨g, a, xs, ds, rr, al, ai, ap, aq, ps, ks, I, U, S, rfl, ha, hx, hl, L, hU, hw, q1, q2, q3⟩ := h
    obtain ⟨dg, hg⟩ := L.set.g
    refine ⟨_, (pss_cons (ps_if (pt_cmpR op_eq (pe_callB call_len_seq (by rfl) B.len PySem.boot_len (pa_cons (pv 1) pa_nil)) pe_int (nomark _)) (pss_one (ps_ret (pe_mR0 T_Setting_tried hr (by decide) (L2N.takes_of rfl rfl rfl rfl) (pv 0)))) pss_nil)
        (pss_cons (ps_if (pt_cmpR op_eq (pe_callB call_len_seq (by rfl) B.len PySem.boot_len (pa_cons (pv 1) pa_nil)) pe_int (nomark _)) (pss_one (ps_ret (pe_mR T_Setting_tried hr (by decide) (L2N.takes_of rfl rfl rfl rfl) (pv 0) (pa_cons (pe_ix ix_list (pv 1) pe_int (fun _ _ => rfl)) pa_nil)))) pss_nil)
        (pss_cons (ps_if (pt_cmpR op_eq (pe_callB call_len_seq (by rfl) B.len PySem.boot_len (pa_cons (pv 1) pa_nil)) pe_int (nomark _)) (pss_one (ps_ret (pe_mR T_Setting_tried hr (by decide) (L2N.takes_of rfl rfl rfl rfl) (pv 0) (pa_cons (pe_ix ix_list (pv 1) pe_int (fun _ _ => rfl)) (pa_cons (pe_ix ix_list (pv 1) pe_int (fun _ _ => rfl)) pa_nil))))) pss_nil)
        (pss_cons (ps_if (pt_cmpR op_eq (pe_callB call_len_seq (by rfl) B.len PySem.boot_len (pa_cons (pv 1) pa_nil)) pe_int (nomark _)) (pss_one (ps_ret (pe_mR T_Setting_tried hr (by decide) (L2N.takes_of rfl rfl rfl rfl) (pv 0) (pa_cons (pe_ix ix_list (pv 1) pe_int (fun _ _ => rfl)) (pa_cons (pe_ix ix_list (pv 1) pe_int (fun _ _ => rfl)) (pa_cons (pe_ix ix_list (pv 1) pe_int (fun _ _ => rfl)) pa_nil)))))) pss_nil)
        (pss_cons (ps_if (pt_cmpR op_eq (pe_callB call_len_seq (by rfl) B.len PySem.boot_len (pa_cons (pv 1) pa_nil)) pe_int (nomark _)) (pss_one (ps_ret (pe_mR T_Setting_tried hr (by decide) (L2N.takes_of rfl rfl rfl rfl) (pv 0) (pa_cons (pe_ix ix_list (pv 1) pe_int (fun _ _ => rfl)) (pa_cons (pe_ix ix_list (pv 1) pe_int (fun _ _ => rfl)) (pa_cons (pe_ix ix_list (pv 1) pe_int (fun _ _ => rfl)) (pa_cons (pe_ix ix_list (pv 1) pe_int (fun _ _ => rfl)) (pa_cons (pe_ix ix_list (pv 1) pe_int (fun _ _ => rfl)) (pa_cons (pe_ix ix_list (pv 1) pe_int (fun _ _ => rfl)) (pa_cons (pe_ix ix_list (pv 1) pe_int (fun _ _ => rfl)) pa_nil)))))))))) pss_nil)
        (pss_cons (ps_if (pt_cmpR op_eq (pe_callB call_len_seq (by rfl) B.len PySem.boot_len (pa_cons (pv 1) pa_nil)) pe_int (nomark _)) (pss_one (ps_ret (pe_mR T_Setting_tried hr (by decide) (L2N.takes_of rfl rfl rfl rfl) (pv 0) (pa_cons (pe_ix ix_list (pv 1) pe_int (fun _ _ => rfl)) (pa_cons (pe_ix ix_list (pv 1) pe_int (fun _ _ => rfl)) (pa_cons (pe_ix ix_list (pv 1) pe_int (fun _ _ => rfl)) (pa_cons (pe_ix ix_list (pv 1) pe_int (fun _ _ => rfl)) (pa_cons (pe_ix ix_list (pv 1) pe_int (fun _ _ => rfl)) (pa_cons (pe_ix ix_list (pv 1) pe_int (fun _ _ => rfl)) (pa_cons (pe_ix ix_list (pv 1) pe_int (fun _ _ => rfl)) (pa_cons (pe_ix ix_list (pv 1) pe_int (fun _ _ => rfl)) (pa_cons (pe_ix ix_list (pv 1) pe_int (fun _ _ => rfl)) (pa_cons (pe_ix ix_list (pv 1) pe_int (fun _ _ => rfl)) (pa_cons (pe_ix ix_list (pv 1) pe_int (fun _ _ => rfl)) (pa_cons (pe_ix ix_list (pv 1) pe_int (fun _ _ => rfl)) pa_nil))))))))))))))) pss_nil)
        (pss_one (ps_ret (pe_mR T_Setting_tried hr (by decide) (L2N.takes_of rfl rfl rfl rfl) (pv 0) (pa_cons (pe_ix ix_list (pv 1) pe_int (fun _ _ => rfl)) (pa_cons (pe_ix ix_list (pv 1) pe_int (fun _ _ => rfl)) (pa_cons (pe_ix ix_list (pv 1) pe_int (fun _ _ => rfl)) (pa_cons (pe_ix ix_list (pv 1) pe_int (fun _ _ => rfl)) (pa_cons (pe_ix ix_list (pv 1) pe_int (fun _ _ => rfl)) (pa_cons (pe_ix ix_list (pv 1) pe_int (fun _ _ => rfl)) (pa_cons (pe_ix ix_list (pv 1) pe_int (fun _ _ => rfl)) (pa_cons (pe_ix ix_list (pv 1) pe_int (fun _ _ => rfl)) (pa_cons (pe_ix ix_list (pv 1) pe_int (fun _ _ => rfl)) (pa_cons (pe_ix ix_list (pv 1) pe_int (fun _ _ => rfl)) (pa_cons (pe_ix ix_list (pv 1) pe_int (fun _ _ => rfl)) (pa_cons (pe_ix ix_list (pv 1) pe_int (fun _ _ => rfl)) (pa_cons (pe_ix ix_list (pv 1) pe_int (fun _ _ => rfl)) (pa_cons (pe_ix ix_list (pv 1) pe_int (fun _ _ => rfl)) (pa_cons (pe_ix ix_list (pv 1) pe_int (fun _ _ => rfl)) (pa_cons (pe_ix ix_list (pv 1) pe_int (fun _ _ => rfl)) (pa_cons (pe_ix ix_list (pv 1) pe_int (fun _ _ => rfl)) (pa_cons (pe_ix ix_list (pv 1) pe_int (fun _ _ => rfl)) (pa_cons (pe_ix ix_list (pv 1) pe_int (fun _ _ => rfl)) (pa_cons (pe_ix ix_list (pv 1) pe_int (fun _ _ => rfl)) pa_nil))))))))))))))))))))))))))))), ?_⟩
    rcases hl with hl | hl | hl | hl | hl | hl | hl
    ·
      obtain rfl := List.length_eq_zero_iff.mp hl
      refine ⟨_, rfl, a, _, rfl, .inl (.of ha), rfl, true, dT rfl, iteT ?_⟩
      exact ⟨_, rfl, g, dg, _, rfl, hg, lkG _ _ (by decide +kernel), [.ref g], [], rfl, rfl, Nat.zero_le _, fun tp ntp => ⟨g, tp, rr, al, ai, ap, aq, ps, ks, I, U, S, _, ds, rfl, upd_same, L.same (same_new ntp), hU, oxAll_same (same_new ntp) hx, hw, fun c e H1 s1 => q1 c e _ ((same_new ntp).trans s1), fun e H1 s1 => q2 e _ ((same_new ntp).trans s1), fun e H1 s1 => q3 e _ ((same_new ntp).trans s1)⟩⟩
    ·
      obtain ⟨x0, q0, rfl, hl0⟩ := ex_cons hl
      obtain rfl := List.length_eq_zero_iff.mp hl0
      refine ⟨_, rfl, a, _, rfl, .inl (.of ha), rfl, false, dF (vne (show ((1 : Nat) : Int) ≠ 0 by decide)), iteF ?_⟩
      refine ⟨_, rfl, a, _, rfl, .inl (.of ha), rfl, true, dT rfl, iteT ?_⟩
      exact ⟨_, rfl, g, dg, _, rfl, hg, lkG _ _ (by decide +kernel), _, rfl, a, _, _, _, rfl, rfl, .of ha, atI_nat (j := 0) rfl, [.ref g], [x0], rfl, rfl, by show 1 ≤ sizeLine; decide, fun tp ntp => ⟨g, tp, rr, al, ai, ap, aq, ps, ks, I, U, S, _, ds, rfl, upd_same, L.same (same_new ntp), hU, oxAll_same (same_new ntp) hx, hw, fun c e H1 s1 => q1 c e _ ((same_new ntp).trans s1), fun e H1 s1 => q2 e _ ((same_new ntp).trans s1), fun e H1 s1 => q3 e _ ((same_new ntp).trans s1)⟩⟩
    ·
      obtain ⟨x0, q0, rfl, hl0⟩ := ex_cons hl
      obtain ⟨x1, q1, rfl, hl1⟩ := ex_cons hl0
      obtain rfl := List.length_eq_zero_iff.mp hl1
      refine ⟨_, rfl, a, _, rfl, .inl (.of ha), rfl, false, dF (vne (show ((2 : Nat) : Int) ≠ 0 by decide)), iteF ?_⟩
      refine ⟨_, rfl, a, _, rfl, .inl (.of ha), rfl, false, dF (vne (show ((2 : Nat) : Int) ≠ 1 by decide)), iteF ?_⟩
      refine ⟨_, rfl, a, _, rfl, .inl (.of ha), rfl, true, dT rfl, iteT ?_⟩
      exact ⟨_, rfl, g, dg, _, rfl, hg, lkG _ _ (by decide +kernel), _, rfl, a, _, _, _, rfl, rfl, .of ha, atI_nat (j := 0) rfl, _, rfl, a, _, _, _, rfl, rfl, .of ha, atI_nat (j := 1) rfl, [.ref g], [x0, x1], rfl, rfl, by show 2 ≤ sizeLine; decide, fun tp ntp => ⟨g, tp, rr, al, ai, ap, aq, ps, ks, I, U, S, _, ds, rfl, upd_same, L.same (same_new ntp), hU, oxAll_same (same_new ntp) hx, hw, fun c e H1 s1 => q1 c e _ ((same_new ntp).trans s1), fun e H1 s1 => q2 e _ ((same_new ntp).trans s1), fun e H1 s1 => q3 e _ ((same_new ntp).trans s1)⟩⟩
    ·
      obtain ⟨x0, q0, rfl, hl0⟩ := ex_cons hl
      obtain ⟨x1, q1, rfl, hl1⟩ := ex_cons hl0
      obtain ⟨x2, q2, rfl, hl2⟩ := ex_cons hl1
      obtain rfl := List.length_eq_zero_iff.mp hl2
      refine ⟨_, rfl, a, _, rfl, .inl (.of ha), rfl, false, dF (vne (show ((3 : Nat) : Int) ≠ 0 by decide)), iteF ?_⟩
      refine ⟨_, rfl, a, _, rfl, .inl (.of ha), rfl, false, dF (vne (show ((3 : Nat) : Int) ≠ 1 by decide)), iteF ?_⟩
      refine ⟨_, rfl, a, _, rfl, .inl (.of ha), rfl, false, dF (vne (show ((3 : Nat) : Int) ≠ 2 by decide)), iteF ?_⟩
      refine ⟨_, rfl, a, _, rfl, .inl (.of ha), rfl, true, dT rfl, iteT ?_⟩
      exact ⟨_, rfl, g, dg, _, rfl, hg, lkG _ _ (by decide +kernel), _, rfl, a, _, _, _, rfl, rfl, .of ha, atI_nat (j := 0) rfl, _, rfl, a, _, _, _, rfl, rfl, .of ha, atI_nat (j := 1) rfl, _, rfl, a, _, _, _, rfl, rfl, .of ha, atI_nat (j := 2) rfl, [.ref g], [x0, x1, x2], rfl, rfl, by show 3 ≤ sizeLine; decide, fun tp ntp => ⟨g, tp, rr, al, ai, ap, aq, ps, ks, I, U, S, _, ds, rfl, upd_same, L.same (same_new ntp), hU, oxAll_same (same_new ntp) hx, hw, fun c e H1 s1 => q1 c e _ ((same_new ntp).trans s1), fun e H1 s1 => q2 e _ ((same_new ntp).trans s1), fun e H1 s1 => q3 e _ ((same_new ntp).trans s1)⟩⟩
    ·
      obtain ⟨x0, q0, rfl, hl0⟩ := ex_cons hl
      obtain ⟨x1, q1, rfl, hl1⟩ := ex_cons hl0
      obtain ⟨x2, q2, rfl, hl2⟩ := ex_cons hl1
      obtain ⟨x3, q3, rfl, hl3⟩ := ex_cons hl2
      obtain ⟨x4, q4, rfl, hl4⟩ := ex_cons hl3
      obtain ⟨x5, q5, rfl, hl5⟩ := ex_cons hl4
      obtain ⟨x6, q6, rfl, hl6⟩ := ex_cons hl5
      obtain rfl := List.length_eq_zero_iff.mp hl6
      refine ⟨_, rfl, a, _, rfl, .inl (.of ha), rfl, false, dF (vne (show ((7 : Nat) : Int) ≠ 0 by decide)), iteF ?_⟩
      refine ⟨_, rfl, a, _, rfl, .inl (.of ha), rfl, false, dF (vne (show ((7 : Nat) : Int) ≠ 1 by decide)), iteF ?_⟩
      refine ⟨_, rfl, a, _, rfl, .inl (.of ha), rfl, false, dF (vne (show ((7 : Nat) : Int) ≠ 2 by decide)), iteF ?_⟩
      refine ⟨_, rfl, a, _, rfl, .inl (.of ha), rfl, false, dF (vne (show ((7 : Nat) : Int) ≠ 3 by decide)), iteF ?_⟩
      refine ⟨_, rfl, a, _, rfl, .inl (.of ha), rfl, true, dT rfl, iteT ?_⟩
      exact ⟨_, rfl, g, dg, _, rfl, hg, lkG _ _ (by decide +kernel), _, rfl, a, _, _, _, rfl, rfl, .of ha, atI_nat (j := 0) rfl, _, rfl, a, _, _, _, rfl, rfl, .of ha, atI_nat (j := 1) rfl, _, rfl, a, _, _, _, rfl, rfl, .of ha, atI_nat (j := 2) rfl, _, rfl, a, _, _, _, rfl, rfl, .of ha, atI_nat (j := 3) rfl, _, rfl, a, _, _, _, rfl, rfl, .of ha, atI_nat (j := 4) rfl, _, rfl, a, _, _, _, rfl, rfl, .of ha, atI_nat (j := 5) rfl, _, rfl, a, _, _, _, rfl, rfl, .of ha, atI_nat (j := 6) rfl, [.ref g], [x0, x1, x2, x3, x4, x5, x6], rfl, rfl, by show 7 ≤ sizeLine; decide, fun tp ntp => ⟨g, tp, rr, al, ai, ap, aq, ps, ks, I, U, S, _, ds, rfl, upd_same, L.same (same_new ntp), hU, oxAll_same (same_new ntp) hx, hw, fun c e H1 s1 => q1 c e _ ((same_new ntp).trans s1), fun e H1 s1 => q2 e _ ((same_new ntp).trans s1), fun e H1 s1 => q3 e _ ((same_new ntp).trans s1)⟩⟩
    ·
      obtain ⟨x0, q0, rfl, hl0⟩ := ex_cons hl
      obtain ⟨x1, q1, rfl, hl1⟩ := ex_cons hl0
      obtain ⟨x2, q2, rfl, hl2⟩ := ex_cons hl1
      obtain ⟨x3, q3, rfl, hl3⟩ := ex_cons hl2
      obtain ⟨x4, q4, rfl, hl4⟩ := ex_cons hl3
      obtain ⟨x5, q5, rfl, hl5⟩ := ex_cons hl4
      obtain ⟨x6, q6, rfl, hl6⟩ := ex_cons hl5
      obtain ⟨x7, q7, rfl, hl7⟩ := ex_cons hl6
      obtain ⟨x8, q8, rfl, hl8⟩ := ex_cons hl7
      obtain ⟨x9, q9, rfl, hl9⟩ := ex_cons hl8
      obtain ⟨x10, q10, rfl, hl10⟩ := ex_cons hl9
      obtain ⟨x11, q11, rfl, hl11⟩ := ex_cons hl10
      obtain rfl := List.length_eq_zero_iff.mp hl11
      refine ⟨_, rfl, a, _, rfl, .inl (.of ha), rfl, false, dF (vne (show ((12 : Nat) : Int) ≠ 0 by decide)), iteF ?_⟩
      refine ⟨_, rfl, a, _, rfl, .inl (.of ha), rfl, false, dF (vne (show ((12 : Nat) : Int) ≠ 1 by decide)), iteF ?_⟩
      refine ⟨_, rfl, a, _, rfl, .inl (.of ha), rfl, false, dF (vne (show ((12 : Nat) : Int) ≠ 2 by decide)), iteF ?_⟩
      refine ⟨_, rfl, a, _, rfl, .inl (.of ha), rfl, false, dF (vne (show ((12 : Nat) : Int) ≠ 3 by decide)), iteF ?_⟩
      refine ⟨_, rfl, a, _, rfl, .inl (.of ha), rfl, false, dF (vne (show ((12 : Nat) : Int) ≠ 7 by decide)), iteF ?_⟩
      refine ⟨_, rfl, a, _, rfl, .inl (.of ha), rfl, true, dT rfl, iteT ?_⟩
      exact ⟨_, rfl, g, dg, _, rfl, hg, lkG _ _ (by decide +kernel), _, rfl, a, _, _, _, rfl, rfl, .of ha, atI_nat (j := 0) rfl, _, rfl, a, _, _, _, rfl, rfl, .of ha, atI_nat (j := 1) rfl, _, rfl, a, _, _, _, rfl, rfl, .of ha, atI_nat (j := 2) rfl, _, rfl, a, _, _, _, rfl, rfl, .of ha, atI_nat (j := 3) rfl, _, rfl, a, _, _, _, rfl, rfl, .of ha, atI_nat (j := 4) rfl, _, rfl, a, _, _, _, rfl, rfl, .of ha, atI_nat (j := 5) rfl, _, rfl, a, _, _, _, rfl, rfl, .of ha, atI_nat (j := 6) rfl, _, rfl, a, _, _, _, rfl, rfl, .of ha, atI_nat (j := 7) rfl, _, rfl, a, _, _, _, rfl, rfl, .of ha, atI_nat (j := 8) rfl, _, rfl, a, _, _, _, rfl, rfl, .of ha, atI_nat (j := 9) rfl, _, rfl, a, _, _, _, rfl, rfl, .of ha, atI_nat (j := 10) rfl, _, rfl, a, _, _, _, rfl, rfl, .of ha, atI_nat (j := 11) rfl, [.ref g], [x0, x1, x2, x3, x4, x5, x6, x7, x8, x9, x10, x11], rfl, rfl, by show 12 ≤ sizeLine; decide, fun tp ntp => ⟨g, tp, rr, al, ai, ap, aq, ps, ks, I, U, S, _, ds, rfl, upd_same, L.same (same_new ntp), hU, oxAll_same (same_new ntp) hx, hw, fun c e H1 s1 => q1 c e _ ((same_new ntp).trans s1), fun e H1 s1 => q2 e _ ((same_new ntp).trans s1), fun e H1 s1 => q3 e _ ((same_new ntp).trans s1)⟩⟩
    ·
      obtain ⟨x0, q0, rfl, hl0⟩ := ex_cons hl
      obtain ⟨x1, q1, rfl, hl1⟩ := ex_cons hl0
      obtain ⟨x2, q2, rfl, hl2⟩ := ex_cons hl1
      obtain ⟨x3, q3, rfl, hl3⟩ := ex_cons hl2
      obtain ⟨x4, q4, rfl, hl4⟩ := ex_cons hl3
      obtain ⟨x5, q5, rfl, hl5⟩ := ex_cons hl4
      obtain ⟨x6, q6, rfl, hl6⟩ := ex_cons hl5
      obtain ⟨x7, q7, rfl, hl7⟩ := ex_cons hl6
      obtain ⟨x8, q8, rfl, hl8⟩ := ex_cons hl7
      obtain ⟨x9, q9, rfl, hl9⟩ := ex_cons hl8
      obtain ⟨x10, q10, rfl, hl10⟩ := ex_cons hl9
      obtain ⟨x11, q11, rfl, hl11⟩ := ex_cons hl10
      obtain ⟨x12, q12, rfl, hl12⟩ := ex_cons hl11
      obtain ⟨x13, q13, rfl, hl13⟩ := ex_cons hl12
      obtain ⟨x14, q14, rfl, hl14⟩ := ex_cons hl13
      obtain ⟨x15, q15, rfl, hl15⟩ := ex_cons hl14
      obtain ⟨x16, q16, rfl, hl16⟩ := ex_cons hl15
      obtain ⟨x17, q17, rfl, hl17⟩ := ex_cons hl16
      obtain ⟨x18, q18, rfl, hl18⟩ := ex_cons hl17
      obtain ⟨x19, q19, rfl, hl19⟩ := ex_cons hl18
      obtain rfl := List.length_eq_zero_iff.mp hl19
      refine ⟨_, rfl, a, _, rfl, .inl (.of ha), rfl, false, dF (vne (show ((20 : Nat) : Int) ≠ 0 by decide)), iteF ?_⟩
      refine ⟨_, rfl, a, _, rfl, .inl (.of ha), rfl, false, dF (vne (show ((20 : Nat) : Int) ≠ 1 by decide)), iteF ?_⟩
      refine ⟨_, rfl, a, _, rfl, .inl (.of ha), rfl, false, dF (vne (show ((20 : Nat) : Int) ≠ 2 by decide)), iteF ?_⟩
      refine ⟨_, rfl, a, _, rfl, .inl (.of ha), rfl, false, dF (vne (show ((20 : Nat) : Int) ≠ 3 by decide)), iteF ?_⟩
      refine ⟨_, rfl, a, _, rfl, .inl (.of ha), rfl, false, dF (vne (show ((20 : Nat) : Int) ≠ 7 by decide)), iteF ?_⟩
      refine ⟨_, rfl, a, _, rfl, .inl (.of ha), rfl, false, dF (vne (show ((20 : Nat) : Int) ≠ 12 by decide)), iteF ?_⟩
      exact ⟨_, rfl, g, dg, _, rfl, hg, lkG _ _ (by decide +kernel), _, rfl, a, _, _, _, rfl, rfl, .of ha, atI_nat (j := 0) rfl, _, rfl, a, _, _, _, rfl, rfl, .of ha, atI_nat (j := 1) rfl, _, rfl, a, _, _, _, rfl, rfl, .of ha, atI_nat (j := 2) rfl, _, rfl, a, _, _, _, rfl, rfl, .of ha, atI_nat (j := 3) rfl, _, rfl, a, _, _, _, rfl, rfl, .of ha, atI_nat (j := 4) rfl, _, rfl, a, _, _, _, rfl, rfl, .of ha, atI_nat (j := 5) rfl, _, rfl, a, _, _, _, rfl, rfl, .of ha, atI_nat (j := 6) rfl, _, rfl, a, _, _, _, rfl, rfl, .of ha, atI_nat (j := 7) rfl, _, rfl, a, _, _, _, rfl, rfl, .of ha, atI_nat (j := 8) rfl, _, rfl, a, _, _, _, rfl, rfl, .of ha, atI_nat (j := 9) rfl, _, rfl, a, _, _, _, rfl, rfl, .of ha, atI_nat (j := 10) rfl, _, rfl, a, _, _, _, rfl, rfl, .of ha, atI_nat (j := 11) rfl, _, rfl, a, _, _, _, rfl, rfl, .of ha, atI_nat (j := 12) rfl, _, rfl, a, _, _, _, rfl, rfl, .of ha, atI_nat (j := 13) rfl, _, rfl, a, _, _, _, rfl, rfl, .of ha, atI_nat (j := 14) rfl, _, rfl, a, _, _, _, rfl, rfl, .of ha, atI_nat (j := 15) rfl, _, rfl, a, _, _, _, rfl, rfl, .of ha, atI_nat (j := 16) rfl, _, rfl, a, _, _, _, rfl, rfl, .of ha, atI_nat (j := 17) rfl, _, rfl, a, _, _, _, rfl, rfl, .of ha, atI_nat (j := 18) rfl, _, rfl, a, _, _, _, rfl, rfl, .of ha, atI_nat (j := 19) rfl, [.ref g], [x0, x1, x2, x3, x4, x5, x6, x7, x8, x9, x10, x11, x12, x13, x14, x15, x16, x17, x18, x19], rfl, rfl, by show 20 ≤ sizeLine; decide, fun tp ntp => ⟨g, tp, rr, al, ai, ap, aq, ps, ks, I, U, S, _, ds, rfl, upd_same, L.same (same_new ntp), hU, oxAll_same (same_new ntp) hx, hw, fun c e H1 s1 => q1 c e _ ((same_new ntp).trans s1), fun e H1 s1 => q2 e _ ((same_new ntp).trans s1), fun e H1 s1 => q3 e _ ((same_new ntp).trans s1)⟩⟩
theorem trS_cases {ks : List Nat} : ∀ {ds : List PyData} {U S : List Int}, (∃ c, trS ks U S ds = .inr c) ∨ trS ks U S ds = .inl 3 ∨ trS ks U S ds = .inl 15
  | [], U, S => .inl ⟨_, rfl⟩
  | d :: ds, U, S => by
    by_cases h : evOk ks.length U d
    · cases hc : stepC ks U S d with
      | none => exact .inr (.inr (trS_order h hc))
      | some c =>
        rw [trS_go h hc]
        exact trS_cases
    · exact .inr (.inl (trS_bad h))
def resV (I : List Int) : Nat ⊕ Int → V | .inr c => .int (vI I c) | .inl n => if n = 15 then .str "order" else .str "history"
def spOutcome (K : PySem.W.Frag) (CR CP CC CS CG : Addr) : Sp := fun vs H Q _ => ∃ (g a : Addr) (xs : List V) (ds : List PyData) (rr al ai ap aq : Addr) (ps : List Addr) (ks : List Nat) (I U S : List Int), vs = [.ref g, .ref a] ∧ H a = some (.lst xs) ∧ OxAll K H xs ds ∧ Bd 10000000 60 (.list ds) ∧ Sz xs.length ∧
  Liv CR CP CC CS CG H g rr al ai ap aq ps ks I U S ∧ Hist U ∧ (∀ d ∈ ds, wt d ≤ 100000) ∧ ∀ H', Same H H' → Q (resV I (trS ks U S ds)) H'
set_option maxHeartbeats 4000000 in
theorem ok_law_outcome {f : Addr} {fd : FuncData} (F : Fun K "_law_outcome" "_law_outcome" s_law_outcome f fd) (B : NoB mg) (R : Err K mg E) (T_law_error_name : CalE2 P w K mg base 1 "_law_error_name" (spErrE K E)) (T_law_tried : CalN P w K mg base 9 "_law_tried" (spTriedL K CR CP CC CS CG (E 3) (E 15))) :
    FnG P w K mg base CX0 11 f fd ["one", "g"] (spOutcome K CR CP CC CS CG) := by
  refine okG F sc_law_outcome (fun vs H Q E h => ?_) (fun cdv A outer s H vs Q E_ hG hr h => ?_)
  · obtain ⟨g, a, xs, ds, rr, al, ai, ap, aq, ps, ks, I, U, S, rfl, _⟩ := h
    rfl
  · obtain ⟨g, a, xs, ds, rr, al, ai, ap, aq, ps, ks, I, U, S, rfl, ha, hx, hb, hl, L, hU, hw, q⟩ := h
    have hu64 := hr.units
    refine ⟨_, (pss_cons (ps_par (i := 2) (j := 3) (by rfl) sc_law_outcome.nd rfl rfl (by decide) rfl rfl (pa_cons pe_non (pa_cons (pe_callB (call_reprO hG hu64) (by rfl) B.repr (by decide +kernel) (pa_cons (pv 1) pa_nil)) pa_nil)) (by rfl))
        (pss_cons (L2N.ps_try_as (i := 4) (c := .ref (E 17)) (Wout := fun _ _ _ _ => False) (tb := _) (ts := fun a cls d => tAsg (tSd E a cls d) (gName 2)) rfl rfl sc_law_outcome.nd rfl rfl ⟨by rfl, by decide, .inl R.c17⟩ (fun u s' x => by obtain ⟨_, _, _, _, _, _, _, _, _, _, _, _, _, _, _, _, z⟩ := x; exact z.elim)
        (fun W pn xe tk _ => (pss_one (ps_set (i := 2) sc_law_outcome.nd rfl (Or.inl rfl) (pe_cn T_law_tried hr (by decide) tk (by rfl) (pa_cons (pv 0) (pa_cons (pv 1) pa_nil))))))
        (fun a oe cls d pn hz hf => pss_one (ps_set (i := 2) sc_law_outcome.nd rfl (Or.inl rfl) ⟨fun pins s σ H Q I q => (pe_ce2 (pr := (a, oe)) T_law_error_name ⟨(show Room 1 _ from hr.mono (by decide)).dp, (show Room 1 _ from hr.mono (by decide)).un⟩ ⟨rfl, hf.choose, hf.choose_spec, hz.2.2 _ hf.choose_spec⟩ List.mem_cons_self (by rfl) (pa_cons (pv 4) pa_nil)).run pins s σ H Q I (by
          obtain ⟨hs, i, hi, rfl, rfl, q⟩ := q
          exact ⟨_, hs, i, rfl, hi, hz.zc, hf, q⟩)⟩)))
        (pss_one (ps_ret (pe_ifExp (pt_cmpR op_eq (pe_callB (call_reprO hG hu64) (by rfl) B.repr (by decide +kernel) (pa_cons (pv 1) pa_nil)) (pv 3) (nomark _)) (pv 2) pe_str))))), ?_⟩
    refine ⟨_, rfl, .ref a, .list ds, rfl, .lst (.of ha) hx, hb, _, _, rfl, ?_⟩
    refine ⟨_, rfl, _, rfl, g, a, xs, ds, rr, al, ai, ap, aq, ps, ks, I, U, S, rfl, ha, hx, hl, L, hU, hw, fun c e H1 s1 => ?_, fun e H1 s1 => ?_, fun e H1 s1 => ?_⟩
    · rw [e] at q
      exact ⟨_, rfl, .ref a, .list ds, rfl, .lst (.of (s1 _ _ ha)) (oxAll_same (s1) hx), hb, _, rfl, rfl, true, dT rfl, _, rfl, q _ (s1)⟩
    · rw [e] at q
      exact ⟨true, R.m 3 (by decide), fun _ b nb => ⟨rfl, 3, .inr (.inr (.inl rfl)), rfl, rfl, fun H2 s2 => ⟨_, rfl, .ref a, .list ds, rfl, .lst (.of ((s1.trans s2) _ _ ha)) (oxAll_same ((s1.trans s2)) hx), hb, _, rfl, rfl, true, dT rfl, _, rfl, q _ ((s1.trans s2))⟩⟩, fun z => nomatch z⟩
    · rw [e] at q
      exact ⟨true, R.m 15 (by decide), fun _ b nb => ⟨rfl, 15, .inr (.inr (.inr (.inr (.inr (.inr (.inl rfl)))))), rfl, rfl, fun H2 s2 => ⟨_, rfl, .ref a, .list ds, rfl, .lst (.of ((s1.trans s2) _ _ ha)) (oxAll_same ((s1.trans s2)) hx), hb, _, rfl, rfl, true, dT rfl, _, rfl, q _ ((s1.trans s2))⟩⟩, fun z => nomatch z⟩
end
end L25
set_option Elab.async false
set_option linter.all false
set_option maxRecDepth 100000
namespace L25
open PySem PySem.Spec PyProof.Rows L2 Lp
def PathK (ks : List Nat) : List Int → List Int → List Int → List Int → Prop
  | _, _, [], [] => True
  | U, S, e :: E, c :: C => nxt ks U S e = some c ∧ e ≠ 0 ∧ e.natAbs ≤ ks.length ∧ PathK ks (U ++ [e]) (S ++ [c]) E C
  | _, _, _, _ => False
theorem PathK.len {ks : List Nat} : ∀ {U S E C : List Int}, PathK ks U S E C → C.length = E.length
  | _, _, [], [], _ => rfl
  | _, _, _ :: _, _ :: _, h => congrArg Nat.succ h.2.2.2.len
  | _, _, [], _ :: _, h => h.elim
  | _, _, _ :: _, [], h => h.elim
theorem PathK.snoc {ks : List Nat} {e c : Int} : ∀ {U S E C : List Int}, PathK ks U S E C → nxt ks (U ++ E) (S ++ C) e = some c → e ≠ 0 → e.natAbs ≤ ks.length → PathK ks U S (E ++ [e]) (C ++ [c])
  | U, S, [], [], _, h, h0, h1 => ⟨by rw [List.append_nil, List.append_nil] at h; exact h, h0, h1, trivial⟩
  | U, S, x :: E, y :: C, h, hn, h0, h1 => ⟨h.1, h.2.1, h.2.2.1, h.2.2.2.snoc (by rw [List.append_assoc, List.append_assoc]; exact hn) h0 h1⟩
  | _, _, [], _ :: _, h, _, _, _ => h.elim
  | _, _, _ :: _, [], h, _, _, _ => h.elim
/-! ### what can and can't follow -/
theorem hist_snoc {U : List Int} {e : Int} (h : Hist U) (h0 : e ≠ 0) (h1 : e.natAbs ≤ 100) (hn : e ∉ U) (hs : e < 0 → -e ∈ U) (l : U.length < 200) : Hist (U ++ [e]) := by
  refine ⟨fun x hx => ?_, ?_, fun i x hx hneg => ?_, by rw [List.length_append]; exact l⟩
  · rcases List.mem_append.mp hx with hx | hx
    · exact h.rng x hx
    · rw [List.mem_singleton.mp hx]
      exact ⟨h0, by omega, by omega⟩
  · refine List.nodup_append.mpr ⟨h.nd, by simp, fun a ha b hb => ?_⟩
    rw [List.mem_singleton.mp hb]
    exact fun z => hn (z ▸ ha)
  · rcases Nat.lt_or_ge i U.length with hi | hi
    · rw [List.getElem?_append_left hi] at hx
      rw [List.take_append_of_le_length (Nat.le_of_lt hi)]
      exact h.ord i x hx hneg
    · rw [List.getElem?_append_right hi] at hx
      have : i - U.length = 0 := by
        have := lt_get hx
        have : i - U.length < 1 := this
        omega
      rw [this] at hx
      cases hx
      have hi2 : i = U.length := by omega
      rw [hi2, List.take_left]
      exact hs hneg
theorem nx_ok {ks : List Nat} {U S : List Int} {e c : Int} (h : Hist U) (l : U.length < 200) (k1 : ks.length ≤ 100) (h0 : e ≠ 0) (h1 : e.natAbs ≤ ks.length) (hn : nxt ks U S e = some c) : evOk ks.length U (.int e) ∧ stepC ks U S (.int e) = some c := by
  unfold nxt at hn
  by_cases hp : 0 < e
  · rw [if_pos hp] at hn
    by_cases m : e ∈ U
    · rw [if_pos m] at hn; cases hn
    · rw [if_neg m] at hn
      exact ⟨⟨e, rfl, hist_snoc h h0 (by omega) m (fun z => by omega) l, h1⟩, (if_pos hp).trans hn⟩
  · rw [if_neg hp] at hn
    by_cases m : (-e) ∉ U ∨ e ∈ U
    · rw [if_pos m] at hn; cases hn
    · rw [if_neg m] at hn
      have m1 : -e ∈ U := Classical.byContradiction fun z => m (.inl z)
      have m2 : e ∉ U := fun z => m (.inr z)
      exact ⟨⟨e, rfl, hist_snoc h h0 (by omega) m2 (fun _ => m1) l, h1⟩, (if_neg hp).trans hn⟩
theorem path_tr {ks : List Nat} (k1 : ks.length ≤ 100) {rest : List PyData} : ∀ {U S E C : List Int}, PathK ks U S E C → Hist U → U.length + E.length < 200 → trS ks U S (E.map PyData.int ++ rest) = trS ks (U ++ E) (S ++ C) rest ∧ Hist (U ++ E)
  | U, S, [], [], _, h, _ => ⟨by rw [List.append_nil, List.append_nil]; rfl, by rw [List.append_nil]; exact h⟩
  | U, S, e :: E, c :: C, ⟨hn, h0, h1, hp⟩, h, l => by
    have l : U.length + (E.length + 1) < 200 := l
    obtain ⟨ok, st⟩ := nx_ok h (by omega) k1 h0 h1 hn
    have h2 : Hist (U ++ [e]) := by
      obtain ⟨e', h3, h4, _⟩ := ok
      cases h3
      exact h4
    obtain ⟨a, b⟩ := path_tr k1 (rest := rest) hp h2 (by rw [List.length_append]; show U.length + 1 + E.length < 200; omega)
    rw [List.append_assoc, List.append_assoc] at a
    rw [List.append_assoc] at b
    exact ⟨(trS_go ok st).trans a, b⟩
  | _, _, [], _ :: _, h, _, _ => h.elim
  | _, _, _ :: _, [], h, _, _ => h.elim
theorem bad_int {m : Nat} {U : List Int} {e : Int} (h : e = 0 ∨ m < e.natAbs ∨ e ∈ U) : ¬ evOk m U (.int e) := fun ⟨e', h1, h2, h3⟩ => by
  cases h1
  rcases h with h | h | h
  · exact (h2.rng e (List.mem_append_right _ List.mem_cons_self)).1 h
  · omega
  · exact (List.nodup_append.mp h2.nd).2.2 e h e List.mem_cons_self rfl
theorem bad_odd {m : Nat} {U : List Int} {d : PyData} (h : isI d = false) : ¬ evOk m U d := fun ⟨e, h1, _, _⟩ => by
  rw [h1] at h
  cases h
/-- a strict patch whose value is not present -/
theorem strict_tr {ks : List Nat} {U S : List Int} {s : Int} {rest : List PyData} (h : Hist U) (l : U.length < 200) (k1 : ks.length ≤ 100) (s0 : 0 < s) (hs : s ∈ U) (hm : s.natAbs ≤ ks.length) (hn : -s ∉ U) (hk : ks.getD (s.toNat - 1) 0 = 2) (hp : lastI S ≠ s) : trS ks U S (.int (0 - s) :: rest) = .inl 15 := by
  have e1 : (0 : Int) - s = -s := by omega
  have e2 : -((0 : Int) - s) = s := by omega
  refine trS_order ⟨0 - s, rfl, hist_snoc h (by omega) (by omega) (by rw [e1]; exact hn) (fun _ => by rw [e2]; exact hs) l, by omega⟩ ?_
  show (if 0 < (0 : Int) - s then _ else leftK (ks.getD ((-((0 : Int) - s)).toNat - 1) 0) U S (-((0 : Int) - s))) = none
  rw [if_neg (by omega), e2, hk]
  unfold leftK
  rw [if_neg (by decide), if_neg hp, if_neg (by decide)]
/-- none of these can follow -/
def odd27 (m : Int) : List PyData := [.int 0, .int (m + 1), .int (0 - m - 1), .none, .bool true, .bool false, .str "1", .list [.int 1], .tuple [.int 1], .dict [], .int T30, .int (0 - T30)]
def odd27V (m : Int) (x y z : Addr) : List V := [.int 0, .int (m + 1), .int (0 - m - 1), .non, .bl true, .bl false, .str "1", .ref x, .ref y, .ref z, .int T30, .int (0 - T30)]
theorem odd27_bad {m : Nat} {U : List Int} (hm : m ≤ 100) : ∀ d ∈ odd27 (m : Int), ¬ evOk m U d := fun d hd => by
  have t30 : T30 = 1000000000000000000000000000000 := rfl
  rcases List.mem_cons.mp hd with rfl | hd
  · exact bad_int (.inl rfl)
  rcases List.mem_cons.mp hd with rfl | hd
  · exact bad_int (.inr (.inl (by omega)))
  rcases List.mem_cons.mp hd with rfl | hd
  · exact bad_int (.inr (.inl (by omega)))
  rcases List.mem_cons.mp hd with rfl | hd
  · exact bad_odd rfl
  rcases List.mem_cons.mp hd with rfl | hd
  · exact bad_odd rfl
  rcases List.mem_cons.mp hd with rfl | hd
  · exact bad_odd rfl
  rcases List.mem_cons.mp hd with rfl | hd
  · exact bad_odd rfl
  rcases List.mem_cons.mp hd with rfl | hd
  · exact bad_odd rfl
  rcases List.mem_cons.mp hd with rfl | hd
  · exact bad_odd rfl
  rcases List.mem_cons.mp hd with rfl | hd
  · exact bad_odd rfl
  rcases List.mem_cons.mp hd with rfl | hd
  · exact bad_int (.inr (.inl (by omega)))
  · rw [List.mem_singleton.mp hd]
    exact bad_int (.inr (.inl (by omega)))
theorem odd27_bd {m : Nat} (hm : m ≤ 100) : ∀ d ∈ odd27 (m : Int), Bd 200 10 d := fun d hd => by
  have t30 : T30 = 1000000000000000000000000000000 := rfl
  have bi : ∀ {i : Int}, i.natAbs < 10 ^ 31 → Bd 200 10 (.int i) := fun h => (bd_int (k := 10) h).mono (by omega) (Nat.le_refl _)
  rcases List.mem_cons.mp hd with rfl | hd
  · exact bi (by decide)
  rcases List.mem_cons.mp hd with rfl | hd
  · exact bi (by omega)
  rcases List.mem_cons.mp hd with rfl | hd
  · exact bi (by omega)
  rcases List.mem_cons.mp hd with rfl | hd
  · exact ⟨by decide +kernel, by decide +kernel, by decide +kernel, by decide +kernel⟩
  rcases List.mem_cons.mp hd with rfl | hd
  · exact ⟨by decide +kernel, by decide +kernel, by decide +kernel, by decide +kernel⟩
  rcases List.mem_cons.mp hd with rfl | hd
  · exact ⟨by decide +kernel, by decide +kernel, by decide +kernel, by decide +kernel⟩
  rcases List.mem_cons.mp hd with rfl | hd
  · exact ⟨by decide +kernel, by decide +kernel, by decide +kernel, by decide +kernel⟩
  rcases List.mem_cons.mp hd with rfl | hd
  · exact ⟨by decide +kernel, by decide +kernel, by decide +kernel, by decide +kernel⟩
  rcases List.mem_cons.mp hd with rfl | hd
  · exact ⟨by decide +kernel, by decide +kernel, by decide +kernel, by decide +kernel⟩
  rcases List.mem_cons.mp hd with rfl | hd
  · exact ⟨by decide +kernel, by decide +kernel, by decide +kernel, by decide +kernel⟩
  rcases List.mem_cons.mp hd with rfl | hd
  · exact bi (by omega)
  · rw [List.mem_singleton.mp hd]
    exact bi (by omega)
theorem bd_all27 {c k : Nat} : ∀ {ds : List PyData}, (∀ d ∈ ds, Bd c k d) → BdAll (ds.length * (c + 2)) k ds
  | [], _ => ⟨Nat.zero_le _, Nat.zero_le _, rfl, rfl⟩
  | d :: ds, h => by
    have a := bd_all27 (ds := ds) fun x hx => h x (List.mem_cons_of_mem _ hx)
    have b := BdAll.cons (h d List.mem_cons_self) a
    have e : c + 2 + ds.length * (c + 2) = (ds.length + 1) * (c + 2) := by rw [Nat.add_mul]; omega
    rw [e] at b
    exact b
def dueN (wd : Str) : Nat := if wd = "order" then 15 else 3
theorem run_bad {ks : List Nat} {U S : List Int} {e : Int} {rest : List PyData} (hn : e < 0) (h : ¬ (-e ∈ U ∧ e ∉ U)) : trS ks U S (.int e :: rest) = .inl 3 := by
  refine trS_bad fun ⟨e', h1, h2, _⟩ => ?_
  cases h1
  refine h ⟨?_, fun z => (List.nodup_append.mp h2.nd).2.2 e z e List.mem_cons_self rfl⟩
  have := h2.ord U.length e (by rw [List.getElem?_append_right (Nat.le_refl _), Nat.sub_self]; rfl) hn
  rw [List.take_left] at this
  exact this
theorem ord_bad {ks : List Nat} {U S : List Int} {e : Int} {rest : List PyData} (h : Hist U) (l : U.length < 200) (k1 : ks.length ≤ 100) (hn : e < 0) (ek : e.natAbs ≤ ks.length) (h1 : -e ∈ U) (h2 : e ∉ U) (hx : nxt ks U S e = none) : trS ks U S (.int e :: rest) = .inl 15 := by
  refine trS_order ⟨e, rfl, hist_snoc h (by omega) (by omega) h2 (fun _ => h1) l, ek⟩ ?_
  unfold nxt at hx
  rw [if_neg (by omega), if_neg (fun z => z.elim (fun q => q h1) h2)] at hx
  exact (if_neg (by show ¬ 0 < e; omega)).trans hx
section
variable {P : Program} {w : World} {K : PySem.W.Frag} {mg : Str → Option Value} {base : Heap}
/-- where a line of events leads: to a state, or to the word of an error -/
def Led (ks : List Nat) (U S : List Int) (Fp : Addr → Prop) (H H' : Hp) (f : Addr) (now : V) (E : List Int) : Prop :=
  (∃ t' C, now = .ref t' ∧ LStN (fun b => (Fp b ∨ H b = none) ∧ b ≠ f) H' t' (U ++ E) (S ++ C) ∧ PathK ks U S E C) ∨ (∃ wd : Str, now = .str wd ∧ ∀ rest, trS ks U S (E.map PyData.int ++ rest) = .inl (dueN wd))
def spLine (K : PySem.W.Frag) : Sp := fun vs H Q _ => ∃ (src t wl : Addr) (n z : Nat) (ks : List Nat) (U S : List Int) (Fp : Addr → Prop), vs = [.ref src, .ref t, .ref wl, .int (z : Int)] ∧ Src H src n ∧ n ≤ 900000 ∧ z ≤ 40 ∧ (∀ b, Fp b → b ≠ src) ∧ LStN Fp H t U S ∧ H wl = some (.lst (ks.map wordV)) ∧ wl ≠ src ∧ (∀ k ∈ ks, k < 3) ∧ 1 ≤ ks.length ∧ ks.length ≤ 100 ∧ S.length = U.length + 1 ∧ Hist U ∧ U.length ≤ 150 ∧ (∀ x ∈ U, x.natAbs ≤ ks.length) ∧
  ∀ T f now E H', H' T = some (.tup [.ref f, now]) → H' f = some (.lst (E.map .int)) → H f = none → Led ks U S Fp H H' f now E → E.length = z → (∀ x ∈ E, x ≠ 0 ∧ x.natAbs ≤ ks.length) → Bt src H H' → Src H' src (n + 10 * z) → Q (.ref T) H'
set_option maxHeartbeats 4000000 in
theorem ok_law_line {f : Addr} {fd : FuncData} (F : Fun K "_law_line" "_law_line" s_law_line f fd) (B : NoB mg) (T_law_draw : Cal P w K mg base 1 "_law_draw" spDraw) (T_law_event : Cal P w K mg base 2 "_law_event" spEvent) (T_law_later : Cal P w K mg base 1 "_law_later" (spLaterW K)) : FnOk P w K mg base CX0 3 f fd ["source", "state", "words", "size"] (spLine K) := by
  refine F.ok sc_law_line (fun vs H Q E h => ?_) (fun cdv A outer s H vs Q E hr h => ?_)
  · obtain ⟨src, t, wl, n, z, ks, U, S, Fp, rfl, _⟩ := h
    rfl
  · obtain ⟨src, t, wl, n, z, ks, U, S, Fp, rfl, hs, hn, hz, hF, hl, hw, hws, k3, k0, k1, sl, hU, ul, hUm, q⟩ := h
    have hu64 := hr.units
    refine ⟨_, (pss_cons (ps_par3 (i := 4) (j := 5) (l := 6) (by rfl) sc_law_line.nd rfl rfl rfl (by decide) (by decide) (by decide) rfl rfl rfl (pa_cons (pe_lst pa_nil) (pa_cons (pv 1) (pa_cons (pe_callB call_len_seq (by rfl) B.len PySem.boot_len (pa_cons (pv 2) pa_nil)) pa_nil))) (by rfl))
        (pss_cons (ps_for PassesOwn.never rfl (pi_range1 rfl B.range (pa_cons (pv 3) pa_nil)) (pg_name (i := 7) sc_law_line.nd rfl (Or.inl rfl))
          (pss_cons (ps_set (i := 8) sc_law_line.nd rfl (Or.inl rfl) (pe_mid (pe_ifExp (pt_val (pe_callB call_isi (by rfl) B.isinstance (by decide +kernel) (pa_cons (pv 5) (pa_cons (pe_bltn (v := .ty "str") (by rfl) B.str boot_str rfl) pa_nil)))) pe_int (pe_c T_law_event hr (by decide) (by rfl) (pa_cons (pv 0) (pa_cons (pv 5) (pa_cons (pv 6) pa_nil)))))))
          (Evl.pss_cut (ps_if (pt_mid (PW.pt (pw_or (pt_cmpR op_eq (pv 8) pe_int (nomark _)) (pw_or1 (pt_cmpR op_eq (pe_c T_law_draw hr (by decide) (by rfl) (pa_cons (pv 0) (pa_cons pe_int pa_nil))) pe_int (nomark _)))))) (pss_one (ps_set (i := 8) sc_law_line.nd rfl (Or.inl rfl) (pe_op op_mulW (pe_ix ix_list (pe_lst (pa_cons pe_int (pa_cons (pe_op op_sub pe_int pe_int) pa_nil))) (pe_c T_law_draw hr (by decide) (by rfl) (pa_cons (pv 0) (pa_cons pe_int pa_nil))) (fun _ _ => rfl)) (pe_op op_add pe_int (pe_c T_law_draw hr (by decide) (by rfl) (pa_cons (pv 0) (pa_cons (pv 6) pa_nil))))))) pss_nil)
          (pss_cons (ps_expr (pe_bm PySem.F.plainAttrs_list PySem.F.slot_list_append PySem.F.type_list_append mt_append (pv 4) (pa_cons (pv 8) pa_nil)))
          (pss_one (ps_set (i := 5) sc_law_line.nd rfl (Or.inl rfl) (pe_ifExp (pt_val (pe_callB call_isi (by rfl) B.isinstance (by decide +kernel) (pa_cons (pv 5) (pa_cons (pe_bltn (v := .ty "str") (by rfl) B.str boot_str rfl) pa_nil)))) (pv 5) (pe_c T_law_later hr (by decide) (by rfl) (pa_cons (pv 5) (pa_cons (pv 2) (pa_cons (pv 8) pa_nil)))))))))))
        (pss_one (ps_ret (pe_tup (pa_cons (pv 4) (pa_cons (pv 5) pa_nil))))))), ?_⟩
    refine ⟨Nat.zero_le _, fun f nf => ?_⟩
    have s1 := same_new (o := .lst []) nf
    have f1 : (upd H f (.lst [])) f = some (.lst (([] : List Int).map .int)) := upd_same
    have fs : f ≠ src := hs.ne nf
    have fw : f ≠ wl := fun z => by rw [z, hw] at nf; cases nf
    have hs1 := hs.same s1
    generalize upd H f (.lst []) = H1 at s1 f1 hs1 ⊢
    have l1 : LStN (fun b => (Fp b ∨ H b = none) ∧ b ≠ f) H1 t U S := by
      obtain ⟨ad, ak, f1, h1, h2, h3⟩ := hl
      exact ⟨ad, ak, ⟨.inl f1, fun z => by rw [z, nf] at h2; cases h2⟩, s1 _ _ h1, s1 _ _ h2, s1 _ _ h3⟩
    refine ⟨_, rfl, _, rfl, wl, _, rfl, .inl (.of (s1 _ _ hw)), ?_⟩
    rw [List.length_map]
    refine ⟨_, _, _, rfl, ?_⟩
    refine ⟨_, rfl, _, rfl, by omega, by omega, ?_⟩
    have keep : ∀ {H2 H3 : Hp} {now : V} {E : List Int} {k : Nat}, Src H2 src k → Bt src H2 H3 → Led ks U S Fp H H2 f now E → Led ks U S Fp H H3 f now E := fun {H2 H3 now E k} hs2 b3 hl2 => by
      rcases hl2 with ⟨t', C, e1, hl2, hp⟩ | h
      · refine .inl ⟨t', C, e1, ?_, hp⟩
        obtain ⟨ad, ak, f1, h1, h2, h3⟩ := hl2
        have ns : ∀ {x : Addr} {o : HO}, H2 x = some o → (∀ l, o ≠ .lst l) → x ≠ src := fun {x o} e n z => by
          obtain ⟨_, _, _, hx, _⟩ := hs2
          rw [z, hx] at e; exact n _ (Option.some.inj e).symm
        have as : ad ≠ src := f1.1.elim (hF _) fun h => hs.ne h
        exact ⟨ad, ak, f1, b3 _ _ (ns h1 (fun l z => nomatch z)) h1, b3 _ _ as h2, b3 _ _ (ns h3 (fun l z => nomatch z)) h3⟩
      · exact .inr h
    refine for_range (lo := 0) (n := ((z : Int)).toNat) (fun i σ H' => ∃ (now : V) (E : List Int) (y7 y8 : Option V), σ = [some (.ref src), some (.ref t), some (.ref wl), some (.int (z : Int)), some (.ref f), some now, some (.int (ks.length : Int)), y7, y8] ∧ H' f = some (.lst (E.map .int)) ∧ Led ks U S Fp H H' f now E ∧ E.length = i ∧ (∀ x ∈ E, x ≠ 0 ∧ x.natAbs ≤ ks.length) ∧ Bt src H H' ∧ Src H' src (n + 10 * i)) ⟨.ref t, [], _, _, rfl, f1, .inl ⟨t, [], rfl, by rw [List.append_nil, List.append_nil]; exact l1, trivial⟩, rfl, (fun x hx => nomatch hx), .of s1, hs1⟩ (fun i σ H2 hi h => ?_) (fun σ H2 h => ?_)
    · obtain ⟨now, E, y7, y8, rfl, hf, hl2, el, hE, b2, hs2⟩ := h
      have iz : i < z := by omega
      have hw2 := b2 _ _ hws hw
      refine ⟨fun v H3 => ∃ e : Int, v = .int e ∧ e.natAbs ≤ ks.length ∧ Src H3 src (n + 10 * i + 5) ∧ Bt src H2 H3, ?_, fun v H3 hM => ?_⟩
      · rcases hl2 with ⟨t', C, rfl, hl2, hp⟩ | ⟨wd, rfl, _⟩
        · obtain ⟨adx, akx, nax, hT, hD, hK⟩ := hl2
          refine ⟨_, rfl, _, _, _, _, false, rfl, .ty _, tyx_t (.of hT), kit_ty (by decide +kernel), _, rfl, iteF ?_⟩
          have hu3 : ∀ x ∈ U ++ E, x.natAbs ≤ ks.length := fun x hx => (List.mem_append.mp hx).elim (hUm x) fun h => (hE x h).2
          refine ⟨_, rfl, _, rfl, _, rfl, src, t', ks.length, _, U ++ E, S ++ C, rfl, hs2, by omega, ⟨adx, akx, hT, hD, hK⟩, k1, by rw [List.length_append]; omega, hu3, fun e H3 ee hs3 b3 => ⟨e, rfl, ee, hs3, b3⟩⟩
        · refine ⟨_, rfl, _, _, _, _, true, rfl, .ty _, .base (.str _), kit_ty (by decide +kernel), _, rfl, iteT ?_⟩
          exact ⟨0, rfl, by show 0 ≤ _; omega, hs2.mono (by omega), .refl _ _⟩
      obtain ⟨e, rfl, ee, hs3, b3⟩ := hM
      have hl3 := keep hs2 b3 hl2
      have hf3 := b3 _ _ fs hf
      have hw3 := b3 _ _ hws hw2
      have b03 := b2.trans b3
      clear hl2 hf hw2 hs2 b2 b3
      refine ⟨fun σ H4 => ∃ e : Int, σ = [some (.ref src), some (.ref t), some (.ref wl), some (.int (z : Int)), some (.ref f), some now, some (.int (ks.length : Int)), some (.int (0 + (i : Int))), some (.int e)] ∧ e ≠ 0 ∧ e.natAbs ≤ ks.length ∧ Src H4 src (n + 10 * (i + 1)) ∧ Bt src H3 H4, ?_, fun σ4 H4 h4 => ?_⟩
      · refine ⟨fun b H4 => (b = false → e ≠ 0) ∧ Src H4 src (n + 10 * i + 6) ∧ Bt src H3 H4, ?_, fun b H4 hb => ?_⟩
        · by_cases e0 : e = 0
          · subst e0
            refine ⟨_, rfl, rfl, true, by rw [decide_eq_true rfl], ?_⟩
            exact ⟨fun z => (nomatch z), hs3.mono (by omega), .refl _ _⟩
          · refine ⟨_, rfl, rfl, false, by rw [decide_eq_false (vne e0)], ?_⟩
            refine iteF ?_
            refine ⟨_, rfl, src, 12, _, rfl, hs3, by omega, by decide, by decide, fun d H4 d0 d1 hs4 b4 => ?_⟩
            refine ⟨rfl, _, rfl, fun _ => e0, hs4, b4⟩
        · obtain ⟨hb, hs4, b4⟩ := hb
          cases b with
          | false => exact iteF ⟨e, rfl, hb rfl, ee, hs4.mono (by omega), b4⟩
          | true =>
            refine iteT ?_
            refine ⟨_, _, rfl, rfl, by show 2 ≤ sizeLine; decide, fun L nL => ?_⟩
            have sL := same_new (o := .lst [.int 1, .int (0 - 1)]) nL
            have nLs : L ≠ src := hs4.ne nL
            refine ⟨_, rfl, src, 2, _, rfl, hs4.same sL, by omega, by decide, by decide, fun j H5 j0 j1 hs5 b5 => ?_⟩
            have b35 := (b4.trans (.of sL)).trans b5
            have fin : ∀ (d x : Int) (H6 : Hp), (x = 1 ∨ x = 0 - 1) → 0 ≤ d → d < (ks.length : Int) → Src H6 src (n + 10 * i + 6 + 1 + 1) → Bt src H5 H6 → ∃ e : Int, [some (.ref src), some (.ref t), some (.ref wl), some (.int (z : Int)), some (.ref f), some now, some (V.int (ks.length : Int)), some (V.int (0 + (i : Int))), some (V.int (x * (1 + d)))] = [some (.ref src), some (.ref t), some (.ref wl), some (.int (z : Int)), some (.ref f), some now, some (.int (ks.length : Int)), some (.int (0 + (i : Int))), some (.int e)] ∧ e ≠ 0 ∧ e.natAbs ≤ ks.length ∧ Src H6 src (n + 10 * (i + 1)) ∧ Bt src H3 H6 := fun d x H6 hx d0 d1 hs6 b6 => by
              refine ⟨_, rfl, ?_, ?_, hs6.mono (by omega), b35.trans b6⟩
              · rcases hx with rfl | rfl
                · omega
                · omega
              · rcases hx with rfl | rfl
                · omega
                · omega
            have jj : j = 0 ∨ j = 1 := by omega
            obtain ⟨x, hx, ex⟩ : ∃ x : Int, (x = 1 ∨ x = 0 - 1) ∧ atI [V.int 1, V.int (0 - 1)] j = some (.int x) := by
              rcases jj with rfl | rfl
              · exact ⟨1, .inl rfl, rfl⟩
              · exact ⟨0 - 1, .inr rfl, rfl⟩
            refine ⟨L, _, _, _, rfl, rfl, .of (b5 _ _ nLs upd_same), ex, ?_⟩
            refine ⟨_, rfl, _, rfl, src, _, _, rfl, hs5, by omega, by omega, by omega, fun d H6 d0 d1 hs6 b6 => ?_⟩
            refine ⟨_, _, rfl, rfl, _, _, rfl, rfl, wide_mul (a := 3) (b := 20) (by rcases hx with rfl | rfl <;> decide) (lt_pow (by omega) (by omega)) (by decide) (by decide) (by decide), ?_⟩
            exact fin d x H6 hx d0 d1 hs6 b6
      obtain ⟨e, rfl, e0, ee, hs4, b4⟩ := h4
      have hf4 := b4 _ _ fs hf3
      have hw4 := b4 _ _ hws hw3
      have hl4 := keep hs3 b4 hl3
      have b04 := b03.trans b4
      clear hl3 hf3 hw3 hs3 b03 b4
      refine ⟨_, rfl, .inl ⟨rfl, _, .of hf4⟩, _, rfl, f, _, _, rfl, rfl, hf4, zl (by rw [List.length_map]; omega), ?_⟩
      rw [snocI]
      have hf5 : (upd H4 f (.lst ((E ++ [e]).map V.int))) f = some (.lst ((E ++ [e]).map V.int)) := upd_same
      have hw5 : (upd H4 f (.lst ((E ++ [e]).map V.int))) wl = some (.lst (ks.map wordV)) := by rw [upd_ne (Ne.symm fw)]; exact hw4
      have b05 : Bt src H (upd H4 f (.lst ((E ++ [e]).map V.int))) := fun b o nb eb => by
        rw [upd_ne (fun z => by rw [z, nf] at eb; cases eb)]
        exact b04 _ _ nb eb
      have hs5 := hs4.upd (o := .lst ((E ++ [e]).map V.int)) fs
      have ne4 : ∀ {x : Addr} {o : HO}, H4 x = some o → (∀ l, o ≠ .lst l) → x ≠ f := fun {x o} e n z => by
        rw [z, hf4] at e; exact n _ (Option.some.inj e).symm
      have hE5 : ∀ x ∈ E ++ [e], x ≠ 0 ∧ x.natAbs ≤ ks.length := fun x hx => by
        rcases List.mem_append.mp hx with h | h
        · exact hE x h
        · rw [List.mem_singleton.mp h]
          exact ⟨e0, ee⟩
      have el5 : (E ++ [e]).length = i + 1 := by rw [List.length_append, el]; rfl
      have ap : ∀ rest : List PyData, (E ++ [e]).map PyData.int ++ rest = E.map PyData.int ++ (.int e :: rest) := fun rest => by
        rw [List.map_append, List.append_assoc]; rfl
      rcases hl4 with ⟨t', C, rfl, hl4, hp⟩ | ⟨wd, rfl, hwd⟩
      · obtain ⟨adx, akx, nax, hT, hD, hK⟩ := hl4
        have cl := hp.len
        have sl2 : (S ++ C).length = (U ++ E).length + 1 := by rw [List.length_append, List.length_append]; omega
        have ul2 : (U ++ E).length < 200 := by rw [List.length_append]; omega
        have l5 : LSt (upd H4 f (.lst ((E ++ [e]).map V.int))) t' (U ++ E) (S ++ C) := ⟨adx, akx, by rw [upd_ne (ne4 hT (fun l z => nomatch z))]; exact hT, by rw [upd_ne nax.2]; exact hD, by rw [upd_ne (ne4 hK (fun l z => nomatch z))]; exact hK⟩
        generalize (upd H4 f (.lst ((E ++ [e]).map V.int))) = H5 at hf5 hw5 b05 hs5 l5 ⊢
        have hT5 := l5
        obtain ⟨_, _, hT5, _, _⟩ := hT5
        refine ⟨_, rfl, _, _, _, _, false, rfl, .ty _, tyx_t (.of hT5), kit_ty (by decide +kernel), _, rfl, iteF ?_⟩
        have tr : ∀ rest : List PyData, trS ks U S ((E ++ [e]).map PyData.int ++ rest) = trS ks (U ++ E) (S ++ C) (.int e :: rest) := fun rest => by
          rw [ap]
          exact (path_tr k1 hp hU (by omega)).1
        have hUE : Hist (U ++ E) := (path_tr (rest := []) k1 hp hU (by omega)).2
        refine ⟨_, rfl, _, rfl, _, rfl, t', wl, e, ks, U ++ E, S ++ C, rfl, l5, .of hw5, k3, sl2, e0, ee, by omega, fun h1 h2 => ?_, fun h1 h2 => ?_, fun h1 h2 h3 h4 => ?_, fun c' hc' t2 H6 s6 nt2 l6 => ?_⟩
        · exact ⟨_, E ++ [e], _, _, rfl, hf5, .inr ⟨"started", rfl, fun rest => (tr rest).trans ((trS_bad (bad_int (.inr (.inr h2)))).trans (by decide +kernel))⟩, el5, hE5, b05, hs5⟩
        · exact ⟨_, E ++ [e], _, _, rfl, hf5, .inr ⟨"running", rfl, fun rest => (tr rest).trans ((run_bad h1 h2).trans (by decide +kernel))⟩, el5, hE5, b05, hs5⟩
        · exact ⟨_, E ++ [e], _, _, rfl, hf5, .inr ⟨"order", rfl, fun rest => (tr rest).trans ((ord_bad hUE ul2 k1 h1 ee h2 h3 h4).trans (by decide +kernel))⟩, el5, hE5, b05, hs5⟩
        · obtain ⟨ad6, ak6, na6, hT6, hD6, hK6⟩ := l6
          have a6f : ad6 ≠ f := fun z => by rw [z, hf5] at na6; cases na6
          have naH : H ad6 = none := free_of b05 (hs5.ne na6) na6
          exact ⟨_, E ++ [e], _, _, rfl, s6 _ _ hf5, .inl ⟨t2, C ++ [c'], rfl, ⟨ad6, ak6, ⟨.inr naH, a6f⟩, by rw [← List.append_assoc]; exact hT6, by rw [← List.append_assoc]; exact hD6, by rw [← List.append_assoc, ← List.append_assoc]; exact hK6⟩, hp.snoc hc' e0 ee⟩, el5, hE5, b05.trans (.of s6), hs5.same s6⟩
      · refine ⟨_, rfl, _, _, _, _, true, rfl, .ty _, .base (.str _), kit_ty (by decide +kernel), _, rfl, iteT ?_⟩
        exact ⟨_, rfl, _, E ++ [e], _, _, rfl, hf5, .inr ⟨wd, rfl, fun rest => by rw [ap]; exact hwd _⟩, el5, hE5, b05, hs5⟩
    · obtain ⟨now, E, y7, y8, rfl, hf, hl2, el, hE, b2, hs2⟩ := h
      refine ⟨_, rfl, _, rfl, by show 2 ≤ sizeLine; decide, fun T nT => ?_⟩
      have sT := same_new (o := .tup [V.ref f, now]) nT
      exact q T f now E _ upd_same (sT _ _ hf) nf (keep hs2 (.of sT) hl2) (by omega) hE (b2.trans (.of sT)) ((hs2.same sT).mono (by omega))
end
end L25
set_option Elab.async false
set_option linter.all false
set_option maxRecDepth 100000
namespace L25
open PySem PySem.Spec PyProof.Rows L2 Lp
section
variable {CR CP CC CS CG : Addr} {H H' H0 : Hp} {g r al ai ap aq src a b c t t' : Addr} {ps : List Addr} {ks : List Nat} {I U S V' T' : List Int} {n n' m : Nat}
/-! ### a setting, its patches, a state of the law -/
def Fa (src ap aq b : Addr) : Prop := b ≠ src ∧ b ≠ ap ∧ b ≠ aq
theorem Kp.bt3 (hs : Src H src n) (b : Bt src H H') : Kp (Fa src ap aq) H H' := fun x o e c => b x o (fun z => by
  obtain ⟨_, _, _, hx, _⟩ := hs
  rcases c with c | c
  · rw [z, hx] at e; exact c _ (Option.some.inj e).symm
  · exact c.1 z) e
structure Ne3 (H0 : Hp) (src al ai ap aq a b c : Addr) (ps : List Addr) (ks : List Nat) (m : Nat) : Prop where
  s1 : src ≠ al
  s2 : src ≠ ai
  s3 : src ≠ ap
  s4 : src ≠ aq
  fa : Fa src ap aq a
  fb : Fa src ap aq b
  fc : Fa src ap aq c
  h1 : H0 ap = none
  h2 : H0 aq = none
  pl : ps.length = m
  m1 : m ≤ 100
  k3 : ∀ k ∈ ks, k < 3
structure MI (CR CP CC CS CG : Addr) (H0 H : Hp) (src g r al ai ap aq a b c t : Addr) (ps : List Addr) (ks : List Nat) (I : List Int) (n : Nat) (U S V' T' : List Int) : Prop where
  L : Liv CR CP CC CS CG H g r al ai ap aq ps ks I U S
  s : Src H src n
  ls : LStN (Fa src ap aq) H t V' T'
  ha : H a = some (.lst (ps.map .ref))
  hb : H b = some (.lst (ks.map wordV))
  hc : H c = some (.lst (I.map .int))
  bt : Bt src H0 H
theorem MI.same (h : MI CR CP CC CS CG H0 H src g r al ai ap aq a b c t ps ks I n U S V' T') (s : Same H H') : MI CR CP CC CS CG H0 H' src g r al ai ap aq a b c t ps ks I n U S V' T' :=
  ⟨h.L.same s, h.s.same s, h.ls.kp (.same s), s _ _ h.ha, s _ _ h.hb, s _ _ h.hc, h.bt.trans (.of s)⟩
theorem MI.draw (h : MI CR CP CC CS CG H0 H src g r al ai ap aq a b c t ps ks I n U S V' T') (N : Ne3 H0 src al ai ap aq a b c ps ks m) (bt : Bt src H H') (hs : Src H' src n') : MI CR CP CC CS CG H0 H' src g r al ai ap aq a b c t ps ks I n' U S V' T' :=
  ⟨h.L.bt h.s bt N.s1 N.s2 N.s3 N.s4, hs, h.ls.kp (.bt3 h.s bt), bt _ _ N.fa.1 h.ha, bt _ _ N.fb.1 h.hb, bt _ _ N.fc.1 h.hc, h.bt.trans bt⟩
theorem MI.to (h : MI CR CP CC CS CG H0 H src g r al ai ap aq a b c t ps ks I n U S V' T') (N : Ne3 H0 src al ai ap aq a b c ps ks m) {U' S' : List Int} (k : ∀ b o, b ≠ ap → b ≠ aq → H b = some o → H' b = some o) (hp : H' ap = some (.lst (U'.map .int))) (hq : H' aq = some (.lst (S'.map .int))) (w : Wf I U' S') :
    MI CR CP CC CS CG H0 H' src g r al ai ap aq a b c t ps ks I n U' S' V' T' := by
  have kp : Kp (Fa src ap aq) H H' := fun x o e c => k x o (fun z => by
    rcases c with c | c
    · rw [z, h.L.rc.p] at e; exact c _ (Option.some.inj e).symm
    · exact c.2.1 z) (fun z => by
    rcases c with c | c
    · rw [z, h.L.rc.q] at e; exact c _ (Option.some.inj e).symm
    · exact c.2.2 z) e
  obtain ⟨x, y, z, hx, hy⟩ := h.s
  exact ⟨h.L.to k hp hq w, ⟨x, y, z, k _ _ N.s3 N.s4 hx, hy⟩, h.ls.kp kp, k _ _ N.fa.2.1 N.fa.2.2 h.ha, k _ _ N.fb.2.1 N.fb.2.2 h.hb, k _ _ N.fc.2.1 N.fc.2.2 h.hc, fun b o n1 e1 => k b o (fun z => by rw [z, N.h1] at e1; cases e1) (fun z => by rw [z, N.h2] at e1; cases e1) (h.bt b o n1 e1)⟩
theorem MI.step (h : MI CR CP CC CS CG H0 H src g r al ai ap aq a b c t ps ks I n U S V' T') (N : Ne3 H0 src al ai ap aq a b c ps ks m) {e c' : Int} (l : U.length < 1000) (hc : 0 ≤ c' ∧ c' < (I.length : Int)) :
    MI CR CP CC CS CG H0 (upd (upd H ap (.lst ((U ++ [e]).map .int))) aq (.lst ((S ++ [c']).map .int))) src g r al ai ap aq a b c t ps ks I n (U ++ [e]) (S ++ [c']) V' T' :=
  h.to N (fun b o n1 n2 eb => by rw [upd_ne n2, upd_ne n1]; exact eb) (by rw [upd_ne h.L.rc.pq, upd_same]) upd_same (h.L.wf.go hc l)
theorem MI.st (h : MI CR CP CC CS CG H0 H src g r al ai ap aq a b c t ps ks I n U S V' T') {U' S' : List Int} (l : LStN (Fa src ap aq) H t' U' S') : MI CR CP CC CS CG H0 H src g r al ai ap aq a b c t' ps ks I n U S U' S' :=
  ⟨h.L, h.s, l, h.ha, h.hb, h.hc, h.bt⟩
theorem MI.mono (h : MI CR CP CC CS CG H0 H src g r al ai ap aq a b c t ps ks I n U S V' T') (l : n ≤ n') : MI CR CP CC CS CG H0 H src g r al ai ap aq a b c t ps ks I n' U S V' T' :=
  ⟨h.L, h.s.mono l, h.ls, h.ha, h.hb, h.hc, h.bt⟩
end
theorem hist_nil : Hist [] := ⟨(fun e h => absurd h List.not_mem_nil), List.nodup_nil, (fun i e h => absurd (lt_get h) (Nat.not_lt_zero _)), Nat.zero_le _⟩
theorem cut5 (E : List Int) : cutV (E.map V.int) none (some 5) = (E.take 5).map V.int := by
  unfold cutV
  have e1 : HT.sIx (E.map V.int).length (E.map V.int).length (some 5) = min 5 (E.map V.int).length := by
    show (if (5 : Int) < 0 then ((5 : Int) + (((E.map V.int).length : Nat) : Int)).toNat else min (5 : Int).toNat (E.map V.int).length) = _
    rw [if_neg (by decide)]
    rfl
  rw [HT.sIx_none, e1, List.drop_zero, Nat.sub_zero, ← List.take_eq_take_min, List.map_take]
abbrev szs : List V := [.int 0, .int 1, .int 2, .int 3, .int 7, .int 12, .int 20]
theorem nx_rng {ks : List Nat} {I U S : List Int} {e c : Int} (w : Wf I U S) (hn : nxt ks U S e = some c) (he : e.natAbs < I.length) : 0 ≤ c ∧ c < (I.length : Int) := by
  unfold nxt at hn
  split at hn
  · split at hn
    · cases hn
    · have := Option.some.inj hn
      omega
  · split at hn
    · cases hn
    · rename_i z
      exact leftK_rng w (Classical.not_not.mp fun q => z (.inl q)) hn
theorem PathK.wf {ks : List Nat} {I : List Int} : ∀ {U S E C : List Int}, PathK ks U S E C → Wf I U S → ks.length < I.length → U.length + E.length ≤ 1000 → Wf I (U ++ E) (S ++ C)
  | U, S, [], [], _, w, _, _ => by rw [List.append_nil, List.append_nil]; exact w
  | U, S, e :: E, c :: C, h, w, k, l => by
    have l : U.length + (E.length + 1) ≤ 1000 := l
    have w2 : Wf I (U ++ [e]) (S ++ [c]) := w.go (nx_rng w h.1 (by have := h.2.2.1; omega)) (by omega)
    have := h.2.2.2.wf w2 k (by rw [List.length_append]; show U.length + 1 + E.length ≤ 1000; omega)
    rw [List.append_assoc, List.append_assoc] at this
    exact this
  | _, _, [], _ :: _, h, _, _, _ => h.elim
  | _, _, _ :: _, [], h, _, _, _ => h.elim
theorem szs_at {i : Nat} {v : V} (h : szs[i]? = some v) : i < 7 ∧ ∃ z : Nat, v = .int (z : Int) ∧ z ≤ 20 ∧ Sz z := by
  have hi : i < 7 := lt_get h
  refine ⟨hi, ?_⟩
  have hm : v ∈ szs := List.mem_of_getElem? h
  rcases List.mem_cons.mp hm with h | hm
  · exact ⟨0, h, by decide, .inl rfl⟩
  rcases List.mem_cons.mp hm with h | hm
  · exact ⟨1, h, by decide, .inr (.inl rfl)⟩
  rcases List.mem_cons.mp hm with h | hm
  · exact ⟨2, h, by decide, .inr (.inr (.inl rfl))⟩
  rcases List.mem_cons.mp hm with h | hm
  · exact ⟨3, h, by decide, .inr (.inr (.inr (.inl rfl)))⟩
  rcases List.mem_cons.mp hm with h | hm
  · exact ⟨7, h, by decide, .inr (.inr (.inr (.inr (.inl rfl))))⟩
  rcases List.mem_cons.mp hm with h | hm
  · exact ⟨12, h, by decide, .inr (.inr (.inr (.inr (.inr (.inl rfl)))))⟩
  · exact ⟨20, List.mem_singleton.mp hm, by decide, .inr (.inr (.inr (.inr (.inr (.inr rfl)))))⟩
theorem bd_due (I : List Int) (x : Nat ⊕ Int) : ∃ d : PyData, (∀ (K : PySem.W.Frag) (H : Hp), Dp K H (resV I x) d) ∧ okD 1 d := by
  match x with
  | .inr c => exact ⟨_, fun _ _ => .int _, trivial⟩
  | .inl n =>
    show ∃ d, (∀ (K : PySem.W.Frag) (H : Hp), Dp K H (if n = 15 then .str "order" else .str "history") d) ∧ okD 1 d
    by_cases h : n = 15
    · rw [if_pos h]; exact ⟨_, fun _ _ => .str _, trivial⟩
    · rw [if_neg h]; exact ⟨_, fun _ _ => .str _, trivial⟩
section
variable {P : Program} {w : World} {K : PySem.W.Frag} {mg : Str → Option Value} {base : Heap} {CR CP CC CS CG eF eE eS eR eO : Addr}
def spHolds25 (K : PySem.W.Frag) : Sp := fun vs H Q _ => ∃ (src sc : Addr) (n : Nat) (ns : List Int), vs = [.ref src, .ref sc] ∧ Src H src n ∧ n ≤ 10 ∧ (∀ H5, Bt src H H5 → SqL K H5 sc (ns.map V.int)) ∧ ∀ H', Bt src H H' → Q (.bl true) H'
set_option maxHeartbeats 0 in
theorem ok_law_holds {f : Addr} {fd : FuncData} (F : Fun K "_law_holds" "_law_holds" s_law_holds f fd) (B : NoB mg) (T_mk_Setting : Mak P w K mg base 5 "Setting" CG (SpN (spGInit CR CG))) (T_law_draw : Cal P w K mg base 1 "_law_draw" spDraw) (T_law_refused : Gc P w K mg base 10 "_law_refused" (spRefused K CR CG)) (T_law_outcome : Gc P w K mg base 11 "_law_outcome" (spOutcome K CR CP CC CS CG)) (T_law_made : Cal P w K mg base 7 "_law_made" (spMade CR CP CC CS CG)) (T_law_line : Cal P w K mg base 3 "_law_line" (spLine K)) (T_law_later : Cal P w K mg base 1 "_law_later" (spLaterW K))
    (T_law_pressed : Cal P w K mg base 6 "_law_pressed" (spPressed K CR CP CC CS CG)) (T_law_same : Cal P w K mg base 3 "_law_same" (spEqD K 2)) (T_law_seen : Cal P w K mg base 4 "_law_seen" (spSeen K CR CP CC CS CG)) (T_law_due : Cal P w K mg base 1 "_law_due" (spDue K)) (T_law_patches_right : Cal P w K mg base 4 "_law_patches_right" (spPRight K CR CP CC CS CG)) (T_Setting_undo : MetV P w K mg base 2 (Is CG) "undo" (spUndo CR CG eE)) (T_Setting_events : PrpV P w K mg base 1 (Is CG) "events" (spGEvents CR CG)) :
    FnG P w K mg base CX0 12 f fd ["source", "script"] (spHolds25 K) := by
  refine okG F sc_law_holds (fun vs H Q E h => ?_) (fun cdv A outer s H vs Q E_ hG hr h => ?_)
  · obtain ⟨src, sc, n, ns, rfl, _⟩ := h
    rfl
  · obtain ⟨src, sc, n, ns, rfl, hs, hn, hS, q⟩ := h
    have hu64 := hr.units
    refine ⟨_, (pss_cons (ps_par (i := 2) (j := 3) (by rfl) sc_law_holds.nd rfl rfl (by decide) rfl rfl (pa_cons (pe_mk T_mk_Setting hr (by decide) (by rfl) (pa_cons (pe_c T_law_draw hr (by decide) (by rfl) (pa_cons (pv 0) (pa_cons pe_int pa_nil))) pa_nil)) (pa_cons (pe_tup (pa_cons pe_int (pa_cons (pe_lst pa_nil) (pa_cons pe_dnewK pa_nil)))) pa_nil)) (by rfl))
        (pss_cons (ps_asg (pe_c T_law_made hr (by decide) (by rfl) (pa_cons (pv 0) (pa_cons (pv 2) (pa_cons (pe_mid (pe_ifExp (pt_cmpR (op_eqD hu64) (pv 1) (pe_lst pa_nil) (nomark _)) pe_int (pe_op op_add pe_int (pe_c T_law_draw hr (by decide) (by rfl) (pa_cons (pv 0) (pa_cons pe_int pa_nil)))))) (pa_cons pe_int pa_nil))))) (pg_tup rfl (pgs_cons (pg_name (i := 4) sc_law_holds.nd rfl (Or.inl rfl)) (pgs_cons (pg_name (i := 5) sc_law_holds.nd rfl (Or.inl rfl)) (pgs_cons (pg_name (i := 6) sc_law_holds.nd rfl (Or.inl rfl)) pgs_nil)))))
        (pss_cons (ps_set (i := 7) sc_law_holds.nd rfl (Or.inl rfl) pe_int)
        (pss_cons (ps_for PassesOwn.never rfl (pi_list (pe_lst (pa_cons pe_int (pa_cons pe_int (pa_cons pe_int (pa_cons pe_int (pa_cons pe_int (pa_cons pe_int (pa_cons pe_int pa_nil))))))))) (pg_name (i := 8) sc_law_holds.nd rfl (Or.inl rfl))
          (pss_cons (ps_set (i := 9) sc_law_holds.nd rfl (Or.inl rfl) (pe_lst pa_nil))
          (pss_cons (ps_for PassesOwn.never rfl (pi_range1 rfl B.range (pa_cons (pe_mid (pe_ifExp (pt_cmpR (op_eqD hu64) (pv 1) (pe_lst pa_nil) (nomark _)) pe_int pe_int)) pa_nil)) (pg_name (i := 10) sc_law_holds.nd rfl (Or.inl rfl))
            (pss_cons (ps_asg (pe_c T_law_line hr (by decide) (by rfl) (pa_cons (pv 0) (pa_cons (pv 3) (pa_cons (pv 5) (pa_cons (pv 8) pa_nil))))) (pg_tup rfl (pgs_cons (pg_name (i := 9) sc_law_holds.nd rfl (Or.inl rfl)) (pgs_cons (pg_name (i := 11) sc_law_holds.nd rfl (Or.inl rfl)) pgs_nil))))
            (pss_cons (ps_set (i := 12) sc_law_holds.nd rfl (Or.inl rfl) (pe_mid (pe_ix ix_list (pe_lst (pa_cons (pe_ifExp (pt_cmpR (op_eqTS hu64) (pv 11) pe_str (nomark _)) pe_str pe_str) (pa_cons pe_int pa_nil))) (pe_callTy call_int1 (by rfl) B.int (by decide +kernel) (pa_cons (pe_not (pe_callB call_isi (by rfl) B.isinstance (by decide +kernel) (pa_cons (pv 11) (pa_cons (pe_bltn (v := .ty "str") (by rfl) B.str boot_str rfl) pa_nil)))) pa_nil)) (fun _ _ => rfl))))
            (pss_cons (ps_set (i := 12) sc_law_holds.nd rfl (Or.inl rfl) (pe_mid (pe_ifExp (pt_val (pe_callB call_isi (by rfl) B.isinstance (by decide +kernel) (pa_cons (pv 11) (pa_cons (pe_bltn (v := .ty "str") (by rfl) B.str boot_str rfl) pa_nil)))) (pv 12) (pe_ix ix_list (pv 6) (pe_ix ix_tup (pv 11) pe_int (fun _ _ => rfl)) (fun _ _ => rfl)))))
            (pss_cons (ps_if (pt_not (pt_val (pe_c T_law_same hr (by decide) (by rfl) (pa_cons (pe_lst (pa_cons (pe_g T_law_outcome hG hr (by decide) (by rfl) (pa_cons (pv 2) (pa_cons (pv 9) pa_nil))) (pa_cons (pe_g T_law_outcome hG hr (by decide) (by rfl) (pa_cons (pv 2) (pa_cons (pv 9) pa_nil))) pa_nil))) (pa_cons (pe_lst (pa_cons (pv 12) (pa_cons (pv 12) pa_nil))) pa_nil))))) (pss_one (ps_ret pe_bl)) pss_nil)
            (pss_one (ps_if (pt_not (pt_val (pe_c T_law_same hr (by decide) (by rfl) (pa_cons (pe_c T_law_seen hr (by decide) (by rfl) (pa_cons (pv 2) pa_nil)) (pa_cons (pe_c T_law_due hr (by decide) (by rfl) (pa_cons (pv 3) (pa_cons (pv 6) pa_nil))) pa_nil))))) (pss_one (ps_ret pe_bl)) pss_nil)))))))
          (pss_cons (ps_if (pt_not (pt_val (pe_c T_law_patches_right hr (by decide) (by rfl) (pa_cons (pv 4) (pa_cons (pv 3) (pa_cons (pv 5) (pa_cons (pv 6) pa_nil))))))) (pss_one (ps_ret pe_bl)) pss_nil)
          (pss_one (ps_for PassesOwn.never rfl (pi_list (pe_slice sl_list (pv 9) po_none (po_some pe_int))) (pg_name (i := 13) sc_law_holds.nd rfl (Or.inl rfl))
            (pss_cons (ps_set (i := 14) sc_law_holds.nd rfl (Or.inl rfl) (pe_c T_law_later hr (by decide) (by rfl) (pa_cons (pv 3) (pa_cons (pv 5) (pa_cons (pv 13) pa_nil)))))
            (pss_one (ps_if (pt_not (pt_val (pe_callB call_isi (by rfl) B.isinstance (by decide +kernel) (pa_cons (pv 14) (pa_cons (pe_bltn (v := .ty "str") (by rfl) B.str boot_str rfl) pa_nil))))) (pss_cons (ps_if (pt_not (pt_val (pe_c T_law_same hr (by decide) (by rfl) (pa_cons (pe_c T_law_pressed hr (by decide) (by rfl) (pa_cons (pv 4) (pa_cons (pv 13) pa_nil))) (pa_cons (pe_ix ix_list (pv 6) (pe_ix ix_tup (pv 14) pe_int (fun _ _ => rfl)) (fun _ _ => rfl)) pa_nil))))) (pss_one (ps_ret pe_bl)) pss_nil)
              (pss_one (ps_par (i := 3) (j := 7) (by rfl) sc_law_holds.nd rfl rfl (by decide) rfl rfl (pa_cons (pv 14) (pa_cons (pe_op op_add (pv 7) pe_int) pa_nil)) (by rfl)))) pss_nil)))))))))
        (pss_cons (ps_for PassesOwn.never rfl (pi_range1 rfl B.range (pa_cons (pv 7) pa_nil)) (pg_name (i := 10) sc_law_holds.nd rfl (Or.inl rfl))
          (pss_one (ps_expr (pe_mV0 T_Setting_undo hr (by decide) takesN (pv 2)))))
        (pss_one (ps_ret (pe_and (pe_cmpR (op_eqD hu64) (pe_pV T_Setting_events hr (by decide) (pv 2)) (pe_lst pa_nil) (nomark _)) (pe_one (pe_cmpR op_eq (pe_g T_law_refused hG hr (by decide) (by rfl) (pa_cons pe_str (pa_cons (pe_lst (pa_cons (pv 2) pa_nil)) pa_nil))) pe_str (nomark _))))))))))), ?_⟩
    -- the setting
    refine ⟨_, rfl, src, 9, n, rfl, hs, by omega, by decide, by decide, fun r1 H1 r10 r11 hs1 b1 => fun g dg ng ndg ne => ?_⟩
    have ok : Ok30 r1 := by have t30 : T30 = 1000000000000000000000000000000 := rfl; exact ⟨by omega, by omega⟩
    have ng' : (upd H1 dg (.own g)) g = none := by rw [upd_ne ne.symm]; exact ng
    have s1 : Same H1 (upd (upd H1 dg (.own g)) g (.ins CG dg [])) := (same_new ndg).trans (same_new ng')
    have g1 : (upd (upd H1 dg (.own g)) g (.ins CG dg [])) g = some (.ins CG dg []) := upd_same
    generalize upd (upd H1 dg (.own g)) g (.ins CG dg []) = H2 at s1 g1 ⊢
    refine ⟨g, dg, r1, rfl, ok, g1, fun r ai ap aq al G5 G R B2 nr nai nap naq nal la lp lq => ⟨rfl, ?_⟩⟩
    have s2 : Same H1 G5 := fun b o e => B2 b o (fun z => by rw [z, ng] at e; cases e) (s1 _ _ e)
    have L5 : Liv CR CP CC CS CG G5 g r al ai ap aq [] [] [r1] [] [0] := ⟨G, R, ⟨rfl, fun c hc => by rw [List.mem_singleton.mp hc]; exact ⟨by decide, by show (0 : Int) < 1; decide⟩, by decide, by show 1 ≤ 1000; decide⟩, la, lp, lq, rfl, rfl, fun j p k e => by simp at e⟩
    have hs2 := hs1.same s1
    have hs5 := hs1.same s2
    have b5 := b1.trans (.of s2)
    have d1 : src ≠ al := fun e => hs2.ne nal e.symm
    have d2 : src ≠ ai := fun e => hs2.ne nai e.symm
    have d3 : src ≠ ap := fun e => hs2.ne nap e.symm
    have d4 : src ≠ aq := fun e => hs2.ne naq e.symm
    have b2 := b1.trans (.of s1)
    have hap := free_of b2 (hs2.ne nap) nap
    have haq := free_of b2 (hs2.ne naq) naq
    have hai := free_of b2 (hs2.ne nai) nai
    have hal := free_of b2 (hs2.ne nal) nal
    clear B2 G R nr nai nap naq nal g1 s1 hs2 b2 b1 hs1 s2 ng' ng ndg ne
    -- the state
    refine ⟨Nat.zero_le _, fun ad nad => ?_⟩
    have s6 := same_new (o := .lst []) nad
    have a6 : (upd G5 ad (.lst [])) ad = some (.lst (([] : List Int).map .int)) := upd_same
    have ad1 : ad ≠ src := hs5.ne nad
    have adn : ∀ {x : Addr} {o : HO}, G5 x = some o → ad ≠ x := fun {x o} e z => by rw [z, e] at nad; cases nad
    have ad2 := adn L5.rc.i
    have ad3 := adn L5.set.l
    have ad4 := adn L5.rc.p
    have ad5 := adn L5.rc.q
    generalize upd G5 ad (.lst []) = G6 at s6 a6 ⊢
    refine fun ak nak => ?_
    have s7 := s6.trans (same_new (o := .dK []) nak)
    have a7 := same_new (o := .dK []) nak _ _ a6
    have k7 : (upd G6 ak (.dK [])) ak = some (.dK (kept [] [0])) := upd_same
    generalize upd G6 ak (.dK []) = G7 at s7 a7 k7 ⊢
    refine ⟨by show 3 ≤ sizeLine; decide, fun t nt => ?_⟩
    have s8 := s7.trans (same_new (o := .tup [.int 0, .ref ad, .ref ak]) nt)
    have a8 := same_new (o := .tup [.int 0, .ref ad, .ref ak]) nt _ _ a7
    have k8 := same_new (o := .tup [.int 0, .ref ad, .ref ak]) nt _ _ k7
    have t8 : (upd G7 t (.tup [.int 0, .ref ad, .ref ak])) t = some (.tup [.int (lastI [0]), .ref ad, .ref ak]) := upd_same
    generalize upd G7 t (.tup [.int 0, .ref ad, .ref ak]) = G8 at s8 a8 k8 t8 ⊢
    refine ⟨_, _, rfl, ?_⟩
    have L8 := L5.same s8
    have hs8 := hs5.same s8
    have b8 := b5.trans (.of s8)
    have ls8 : LStN (fun b => (b ≠ src ∧ b ≠ ai ∧ b ≠ al) ∧ b ≠ ap ∧ b ≠ aq) G8 t [] [0] := ⟨ad, ak, ⟨⟨ad1, ad2, ad3⟩, ad4, ad5⟩, t8, a8, k8⟩
    clear L5 hs5 b5 s6 s7 s8 a6 a7 k7 a8 k8 adn
    have l0 : lastI [0] = 0 := rfl
    -- how many
    refine ⟨_, rfl, _, rfl, fun v H' => ∃ m : Nat, v = .int (m : Int) ∧ 1 ≤ m ∧ m ≤ 100 ∧ Bt src G8 H' ∧ Src H' src (n + 3), ?_, ?_⟩
    · refine ⟨_, rfl, Nat.zero_le _, fun z nz => ?_⟩
      have sz := same_new (o := .lst []) nz
      have z1 : (upd G8 z (.lst [])) z = some (.lst (([] : List Int).map .int)) := upd_same
      have hsz := hs8.same sz
      generalize upd G8 z (.lst []) = H13 at sz z1 hsz ⊢
      have hSc : SqL K H13 sc (ns.map V.int) := hS _ (b8.trans (.of sz))
      by_cases c : ns = []
      · exact ⟨dI ns, dI [], dp_ints hSc, dp_ints (ns := []) (.of z1), shaped_ints _, shaped_ints _, true, eqvT c, 5, rfl, by decide, by decide, .of sz, hsz.mono (by omega)⟩
      · refine ⟨dI ns, dI [], dp_ints hSc, dp_ints (ns := []) (.of z1), shaped_ints _, shaped_ints _, false, eqvF c, ?_⟩
        refine ⟨_, rfl, src, 100, _, rfl, hsz, by omega, by decide, by decide, fun r3 H14 r30 r31 hs14 b14 => ?_⟩
        exact ⟨_, _, rfl, rfl, (1 + r3).toNat, by rw [show (((1 + r3).toNat : Nat) : Int) = 1 + r3 by omega], by omega, by omega, (Bt.of sz).trans b14, hs14.mono (by omega)⟩
    rintro v H13 ⟨m, rfl, hm0, hm, b13, hs13⟩
    have L13 := L8.bt hs8 b13 d1 d2 d3 d4
    have ls13 := ls8.kp (H' := H13) fun b o e c => b13 b o (fun z => by
      obtain ⟨_, _, _, hx, _⟩ := hs8
      rcases c with c | c
      · rw [z, hx] at e; exact c _ (Option.some.inj e).symm
      · exact c.1.1 z) e
    have b013 := b8.trans b13
    clear L8 ls8 b13 b8 hs8
    -- the patches
    refine ⟨src, g, r, al, ai, ap, aq, _, m, 3, _, rfl, hs13, by omega, hm, by decide, by decide, L13, d1, d2, d3, d4, fun t2 a b c ps ks I H20 ht ha hb hc L20 pl k3 _ hI hs20 keep nt na nb nc => ?_⟩
    refine ⟨t2, _, rfl, .of ht, rfl, _, _, rfl, _, _, rfl, _, _, rfl, rfl, ?_⟩
    have ls20 := ls13.kp (H' := H20) fun b o e c => keep b o (fun z => by
      obtain ⟨_, _, _, hx, _⟩ := hs13
      rcases c with c | c
      · rw [z, hx] at e; exact c _ (Option.some.inj e).symm
      · exact c.1.1 z) (fun z => by
      rcases c with c | c
      · rw [z, L13.rc.i] at e; exact c _ (Option.some.inj e).symm
      · exact c.1.2.1 z) (fun z => by
      rcases c with c | c
      · rw [z, L13.set.l] at e; exact c _ (Option.some.inj e).symm
      · exact c.1.2.2 z) e
    have nex : ∀ {x y : Addr} {o : HO}, H13 x = none → H13 y = some o → x ≠ y := fun {x y o} h1 h2 e => by rw [e, h2] at h1; cases h1
    have nsrc : ∀ {x : Addr}, H13 x = none → x ≠ src := fun h => hs13.ne h
    have N : Ne3 H src al ai ap aq a b c ps ks m := ⟨d1, d2, d3, d4, ⟨nsrc na, nex na L13.rc.p, nex na L13.rc.q⟩, ⟨nsrc nb, nex nb L13.rc.p, nex nb L13.rc.q⟩, ⟨nsrc nc, nex nc L13.rc.p, nex nc L13.rc.q⟩, hap, haq, pl, hm, k3⟩
    have J : MI CR CP CC CS CG H H20 src g r al ai ap aq a b c t ps ks I (n + 700) [] [0] [] [0] := ⟨L20, hs20.mono (by omega), ls20.imp fun b h => ⟨h.1.1, h.2.1, h.2.2⟩, ha, hb, hc, fun x o n1 e => keep _ _ n1 (fun z => by rw [z, hai] at e; cases e) (fun z => by rw [z, hal] at e; cases e) (b013 _ _ n1 e)⟩
    clear keep ht nt na nb nc L13 ls13 b013 hs13 L20 hs20 ls20 ha hb hc nex nsrc
    have kl := J.L.kl
    have il := J.L.il
    have k1 : ks.length ≤ 100 := by omega
    have kpos : 1 ≤ ks.length := by have := N.pl; omega
    -- the sizes
    refine ⟨by show 7 ≤ sizeLine; decide, fun sl nsl => ?_⟩
    have ss := same_new (o := .lst [.int 0, .int 1, .int 2, .int 3, .int 7, .int 12, .int 20]) nsl
    have sl8 : (upd H20 sl (.lst [.int 0, .int 1, .int 2, .int 3, .int 7, .int 12, .int 20])) sl = some (.lst [.int 0, .int 1, .int 2, .int 3, .int 7, .int 12, .int 20]) := upd_same
    have sls : sl ≠ src := J.s.ne nsl
    have slf : Fa src ap aq sl := ⟨sls, fun z => (by rw [z, J.L.rc.p] at nsl; cases nsl), fun z => (by rw [z, J.L.rc.q] at nsl; cases nsl)⟩
    have K8 := J.same ss
    generalize upd H20 sl (.lst [.int 0, .int 1, .int 2, .int 3, .int 7, .int 12, .int 20]) = H8 at sl8 K8 ⊢
    clear J ss
    refine ⟨sl, rfl, ⟨_, .of sl8⟩, for_list (xs := [.int 0, .int 1, .int 2, .int 3, .int 7, .int 12, .int 20]) (fun i σ H' => ∃ (t : Addr) (U S : List Int) (y8 y9 y10 y11 y12 y13 y14 : Option V), σ = [some (.ref src), some (.ref sc), some (.ref g), some (.ref t), some (.ref a), some (.ref b), some (.ref c), some (.int (U.length : Int)), y8, y9, y10, y11, y12, y13, y14] ∧ H' sl = some (.lst [.int 0, .int 1, .int 2, .int 3, .int 7, .int 12, .int 20]) ∧ Hist U ∧ U.length ≤ 5 * i ∧ (∀ x ∈ U, x.natAbs ≤ ks.length) ∧ MI CR CP CC CS CG H H' src g r al ai ap aq a b c t ps ks I (n + 700 + 700 * i) U S U S) ⟨t, [], [0], _, _, _, _, _, _, _, rfl, sl8, hist_nil, Nat.zero_le _, (fun x hx => absurd hx List.not_mem_nil), K8⟩ (fun i σ H' _ h => by obtain ⟨_, _, _, _, _, _, _, _, _, _, _, h, _⟩ := h; exact .of h) (fun i v σ H9 hv h => ?_) (fun σ H9 h => ?_)⟩
    · obtain ⟨t, U, S, y8, y9, y10, y11, y12, y13, y14, rfl, sl9, hU, ul, hUm, K9⟩ := h
      obtain ⟨hi, zz, rfl, hz20, hSz⟩ := szs_at hv
      have SL := K9.L.wf.len
      refine ⟨Nat.zero_le _, fun l0 nl0 => ?_⟩
      have s0 := same_new (o := .lst []) nl0
      have f0 : (upd H9 l0 (.lst [])) l0 = some (.lst (([] : List Int).map .int)) := upd_same
      have ff0 : Fa src ap aq l0 := ⟨K9.s.ne nl0, fun z => (by rw [z, K9.L.rc.p] at nl0; cases nl0), fun z => (by rw [z, K9.L.rc.q] at nl0; cases nl0)⟩
      have K10 := K9.same s0
      have sl10 := s0 _ _ sl9
      generalize upd H9 l0 (.lst []) = H10 at f0 K10 sl10 ⊢
      clear s0 K9 sl9
      refine ⟨fun v H' => ∃ z : Nat, v = .int (z : Int) ∧ z ≤ 3 ∧ Same H10 H', ?_, ?_⟩
      · refine ⟨_, rfl, Nat.zero_le _, fun z nz => ?_⟩
        have sz := same_new (o := .lst []) nz
        have z1 : (upd H10 z (.lst [])) z = some (.lst (([] : List Int).map .int)) := upd_same
        have Jb := K10.bt
        generalize upd H10 z (.lst []) = H13 at sz z1 ⊢
        have hSc : SqL K H13 sc (ns.map V.int) := hS _ (Jb.trans (.of sz))
        by_cases c : ns = []
        · exact ⟨dI ns, dI [], dp_ints hSc, dp_ints (ns := []) (.of z1), shaped_ints _, shaped_ints _, true, eqvT c, 1, rfl, by decide, sz⟩
        · exact ⟨dI ns, dI [], dp_ints hSc, dp_ints (ns := []) (.of z1), shaped_ints _, shaped_ints _, false, eqvF c, 3, rfl, by decide, sz⟩
      rintro v H11 ⟨zt, rfl, hzt, s11⟩
      have K11 := K10.same s11
      have sl11 := s11 _ _ sl10
      have f11 := s11 _ _ f0
      clear K10 sl10 f0 s11
      refine ⟨_, rfl, by omega, by omega, ?_⟩
      refine for_range (lo := 0) (n := ((zt : Int)).toNat) (fun k σ H' => ∃ (f2 : Addr) (E : List Int) (y10 y11 y12 y13 y14 : Option V), σ = [some (.ref src), some (.ref sc), some (.ref g), some (.ref t), some (.ref a), some (.ref b), some (.ref c), some (.int (U.length : Int)), some (.int (zz : Int)), some (.ref f2), y10, y11, y12, y13, y14] ∧ H' sl = some (.lst [.int 0, .int 1, .int 2, .int 3, .int 7, .int 12, .int 20]) ∧ H' f2 = some (.lst (E.map .int)) ∧ Fa src ap aq f2 ∧ (∀ x ∈ E, x ≠ 0 ∧ x.natAbs ≤ ks.length) ∧ MI CR CP CC CS CG H H' src g r al ai ap aq a b c t ps ks I (n + 700 + 700 * i + 210 * k) U S U S) ⟨l0, [], _, _, _, _, _, rfl, sl11, f11, ff0, (fun x hx => absurd hx List.not_mem_nil), K11⟩ (fun k σ H12 hk h => ?_) (fun σ H12 h => ?_)
      · obtain ⟨f2, E, y10, y11, y12, y13, y14, rfl, sl12, f12, ff, hE, K12⟩ := h
        have hk3 : k < 3 := by omega
        refine ⟨_, rfl, _, rfl, _, rfl, _, rfl, src, t, b, _, zz, ks, U, S, Fa src ap aq, rfl, K12.s, by omega, by omega, fun x h => h.1, K12.ls, K12.hb, N.fb.1, N.k3, kpos, k1, SL, hU, by omega, hUm, fun T f3 now E3 H13 hT hf nf led elen hE3 b13 hs13 => ?_⟩
        refine ⟨T, _, rfl, .of hT, rfl, _, _, rfl, _, _, rfl, rfl, ?_⟩
        have K13 := K12.draw N b13 hs13
        have ff3 : Fa src ap aq f3 := ⟨K12.s.ne nf, fun z => (by rw [z, K12.L.rc.p] at nf; cases nf), fun z => (by rw [z, K12.L.rc.q] at nf; cases nf)⟩
        have sl13 := b13 _ _ sls sl12
        have IL := K12.L.il
        have KL := K12.L.kl
        have wf12 := K12.L.wf
        have way : (∃ t' ad ak c', now = .ref t' ∧ H13 t' = some (.tup [.int c', .ref ad, .ref ak]) ∧ trS ks U S (E3.map PyData.int) = .inr c' ∧ 0 ≤ c' ∧ c' < (I.length : Int)) ∨ (∃ wd : Str, now = .str wd ∧ trS ks U S (E3.map PyData.int) = .inl (dueN wd)) := by
          rcases led with ⟨t', C, rfl, ⟨ad, ak, _, hT', _, _⟩, hp⟩ | ⟨wd, rfl, hwd⟩
          · have hw := (hp.wf wf12 (by omega) (by omega)).last
            have e1 := (path_tr k1 (rest := []) hp hU (by omega)).1
            rw [List.append_nil] at e1
            exact .inl ⟨t', ad, ak, _, rfl, hT', e1, hw.1, hw.2⟩
          · have e1 := hwd []
            rw [List.append_nil] at e1
            exact .inr ⟨wd, rfl, e1⟩
        clear led f12 ff hE K12 sl12 f11 hT nf
        refine ⟨fun v H' => Same H13 H' ∧ ∀ wd : Str, now = .str wd → v = resV I (.inl (dueN wd)), ?_, fun v H14 hM => ?_⟩
        · rcases way with ⟨t', ad, ak, c', rfl, hT', _, _, _⟩ | ⟨wd, rfl, _⟩
          · refine ⟨_, rfl, .inl ⟨t', _, _, rfl, rfl, .of hT', false, rfl, iteF ?_⟩⟩
            refine ⟨by show 2 ≤ sizeLine; decide, fun L nL => ?_⟩
            have sL := same_new (o := .lst [.str "history", .int 0]) nL
            exact ⟨_, rfl, _, _, _, _, false, rfl, .ty _, tyx_t (.of (sL _ _ hT')), kit_ty (by decide +kernel), _, rfl, .inr ⟨_, rfl, L, _, _, _, rfl, rfl, .of upd_same, at1, sL, fun wd e => (nomatch e)⟩⟩
          · by_cases e : wd = "order"
            · subst e
              refine ⟨_, rfl, .inr ⟨rfl, true, by rw [decide_eq_true rfl], iteT ?_⟩⟩
              refine ⟨by show 2 ≤ sizeLine; decide, fun L nL => ?_⟩
              have sL := same_new (o := .lst [.str "order", .int 0]) nL
              exact ⟨_, rfl, _, _, _, _, true, rfl, .ty _, .base (.str _), kit_ty (by decide +kernel), _, rfl, .inr ⟨_, rfl, L, _, _, _, rfl, rfl, .of upd_same, at0, sL, fun wd e => by cases e; rfl⟩⟩
            · refine ⟨_, rfl, .inr ⟨rfl, false, by rw [decide_eq_false (sne e)], iteF ?_⟩⟩
              refine ⟨by show 2 ≤ sizeLine; decide, fun L nL => ?_⟩
              have sL := same_new (o := .lst [.str "history", .int 0]) nL
              exact ⟨_, rfl, _, _, _, _, true, rfl, .ty _, .base (.str _), kit_ty (by decide +kernel), _, rfl, .inr ⟨_, rfl, L, _, _, _, rfl, rfl, .of upd_same, at0, sL, fun wd2 e2 => by
                cases e2
                show _ = resV I (.inl (if wd = "order" then 15 else 3))
                rw [if_neg e]
                rfl⟩⟩
        obtain ⟨s14, hv⟩ := hM
        refine ⟨fun v H' => Same H14 H' ∧ v = resV I (trS ks U S (E3.map PyData.int)), ?_, fun v2 H15 hM2 => ?_⟩
        · rcases way with ⟨t', ad, ak, c', rfl, hT', tr, c0, c1⟩ | ⟨wd, rfl, tr⟩
          · refine ⟨_, rfl, _, _, _, _, false, rfl, .ty _, tyx_t (.of (s14 _ _ hT')), kit_ty (by decide +kernel), _, rfl, iteF ?_⟩
            exact ⟨_, rfl, _, rfl, t', _, _, _, rfl, rfl, .of (s14 _ _ hT'), at0, c, _, _, _, rfl, rfl, .of (s14 _ _ K13.hc), atI_vI ⟨c0, c1⟩, .refl _, by rw [tr]; rfl⟩
          · refine ⟨_, rfl, _, _, _, _, true, rfl, .ty _, .base (.str _), kit_ty (by decide +kernel), _, rfl, iteT ?_⟩
            exact ⟨_, rfl, .refl _, by rw [tr]; exact hv _ rfl⟩
        obtain ⟨s15, rfl⟩ := hM2
        have s1315 := s14.trans s15
        have K15 := K13.same s1315
        have f15 := s1315 _ _ hf
        have sl15 := s1315 _ _ sl13
        clear s14 hv s15 s1315 K13 hf sl13 way
        have E3b : ∀ x ∈ E3, x.natAbs < 10 ^ 31 := fun x hx => Nat.lt_of_le_of_lt (Nat.le_trans (hE3 x hx).2 k1) (by decide)
        have bdE : Bd 10000000 60 (.list (E3.map .int)) := (Bd.list (bd_ints (k := 10) (m := 20) E3b (by omega))).mono (by omega) (by omega)
        have wtE : ∀ d ∈ E3.map PyData.int, wt d ≤ 100000 := fun d hd => by
          obtain ⟨x, hx, rfl⟩ := List.mem_map.mp hd
          exact Nat.le_trans (bd_int (k := 10) (E3b x hx)).w (by omega)
        have szE : Sz (E3.map V.int).length := by rw [List.length_map, elen]; exact hSz
        refine ⟨_, rfl, _, rfl, g, f3, E3.map V.int, E3.map .int, r, al, ai, ap, aq, ps, ks, I, U, S, rfl, f15, oxAll_ints E3, bdE, szE, K15.L, hU, wtE, fun H16 s16 => ?_⟩
        refine ⟨_, rfl, _, rfl, g, f3, E3.map V.int, E3.map .int, r, al, ai, ap, aq, ps, ks, I, U, S, rfl, s16 _ _ f15, oxAll_ints E3, bdE, szE, (K15.same s16).L, hU, wtE, fun H17 s17 => ?_⟩
        refine ⟨by show 2 ≤ sizeLine; decide, fun q1 nq1 => ?_⟩
        refine ⟨_, rfl, _, rfl, by show 2 ≤ sizeLine; decide, fun q2 nq2 => ?_⟩
        obtain ⟨dd, hdd, odd⟩ := bd_due I (trS ks U S (E3.map PyData.int))
        have sq1 := same_new (o := .lst [resV I (trS ks U S (E3.map PyData.int)), resV I (trS ks U S (E3.map PyData.int))]) nq1
        have sq2 := same_new (o := .lst [resV I (trS ks U S (E3.map PyData.int)), resV I (trS ks U S (E3.map PyData.int))]) nq2
        refine ⟨.ref q1, .ref q2, .list [dd, dd], rfl, .lst (.of (sq2 _ _ upd_same)) (.cons (hdd _ _) (.cons (hdd _ _) .nil)), .lst (.of upd_same) (.cons (hdd _ _) (.cons (hdd _ _) .nil)), ⟨by show 2 < 100000; decide, fun x hx => by
          rcases List.mem_cons.mp hx with rfl | hx
          · exact odd
          · rw [List.mem_singleton.mp hx]
            exact odd⟩, fun H18 s18 => ⟨_, rfl, iteF ?_⟩⟩
        have s1518 := (((s16.trans s17).trans sq1).trans sq2).trans s18
        have K18 := K15.same s1518
        refine ⟨_, rfl, g, r, al, ai, ap, aq, ps, ks, I, _, _, rfl, K18.L, fun q1 H19 s19 d19 => ?_⟩
        have K19 := K18.same s19
        have lr := K19.L.wf.last
        have UL := K19.L.wf.p
        refine ⟨_, rfl, _, rfl, t, c, I, _, _, rfl, K19.ls.st, .of K19.hc, lr.1, lr.2, UL, fun q2 H20' s20 d20 => ?_⟩
        refine ⟨.ref q1, .ref q2, _, rfl, dp_same s20 d19, d20, okD_due _ _ _ UL, fun H21 s21 => ⟨_, rfl, iteF ?_⟩⟩
        have s1521 := ((s1518.trans s19).trans s20).trans s21
        exact ⟨f3, E3, _, _, _, _, _, rfl, s1521 _ _ sl15, s1521 _ _ f15, ff3, hE3, (K15.same s1521).mono (by omega)⟩
      obtain ⟨f2, E, y10, y11, y12, y13, y14, rfl, sl12, f12, ff, hE, K12⟩ := h
      clear f11 sl11 K11
      refine ⟨_, rfl, _, rfl, _, rfl, _, rfl, a, t, b, c, g, r, al, ai, ap, aq, ps, ks, I, _, _, rfl, .of K12.ha, K12.ls.st, .of K12.hb, .of K12.hc, K12.L, N.k3, by have := N.pl; omega, fun H13 s13 => ⟨_, rfl, iteF ?_⟩⟩
      have K13 := K12.same s13
      have f13 := s13 _ _ f12
      have sl13 := s13 _ _ sl12
      clear K12 f12 s13 sl12
      refine ⟨_, rfl, _, rfl, f2, _, rfl, .of f13, fun p np => ?_⟩
      rw [cut5]
      have sp := same_new (o := .lst ((E.take 5).map V.int)) np
      have hp : (upd H13 p (.lst ((E.take 5).map V.int))) p = some (.lst ((E.take 5).map V.int)) := upd_same
      have fp : Fa src ap aq p := ⟨K13.s.ne np, fun z => (by rw [z, K13.L.rc.p] at np; cases np), fun z => (by rw [z, K13.L.rc.q] at np; cases np)⟩
      have K14 := (K13.same sp).mono (n' := n + 700 + 700 * (i + 1)) (by omega)
      have sl14 := sp _ _ sl13
      generalize upd H13 p (.lst ((E.take 5).map V.int)) = H14 at hp K14 sl14 ⊢
      clear K13 f13 sp sl13 np
      have E5 : (E.take 5).length ≤ 5 := by rw [List.length_take]; omega
      have hE5 : ∀ x ∈ E.take 5, x ≠ 0 ∧ x.natAbs ≤ ks.length := fun x hx => hE x (List.mem_of_mem_take hx)
      generalize E.take 5 = E' at hp E5 hE5
      refine ⟨p, rfl, ⟨_, .of hp⟩, for_list (xs := E'.map V.int) (fun k σ H' => ∃ (t2 : Addr) (V1 T1 : List Int) (y13 y14 : Option V), σ = [some (.ref src), some (.ref sc), some (.ref g), some (.ref t2), some (.ref a), some (.ref b), some (.ref c), some (.int (V1.length : Int)), some (.int (zz : Int)), some (.ref f2), y10, y11, y12, y13, y14] ∧ H' sl = some (.lst [.int 0, .int 1, .int 2, .int 3, .int 7, .int 12, .int 20]) ∧ H' p = some (.lst (E'.map .int)) ∧ Hist V1 ∧ V1.length ≤ 5 * i + k ∧ (∀ x ∈ V1, x.natAbs ≤ ks.length) ∧ MI CR CP CC CS CG H H' src g r al ai ap aq a b c t2 ps ks I (n + 700 + 700 * (i + 1)) V1 T1 V1 T1) ⟨t, U, S, _, _, rfl, sl14, hp, hU, by omega, hUm, K14⟩ (fun i σ H' _ h => by obtain ⟨_, _, _, _, _, _, _, h, _⟩ := h; exact .of h) (fun k x σ H15 hx h => ?_) (fun σ H15 h => ?_)⟩
      · obtain ⟨t2, V', T', y13, y14, rfl, sl15, hp15, hV, vl, hVm, K15⟩ := h
        obtain ⟨e, rfl, he⟩ := get_int hx
        have kE := lt_get he
        obtain ⟨e0, ek⟩ := hE5 e (List.mem_of_getElem? he)
        have ek2 : e.natAbs ≤ ps.length := by have := K15.L.kl; omega
        refine ⟨_, rfl, _, rfl, _, rfl, t2, b, e, ks, V', T', rfl, K15.ls.st, .of K15.hb, N.k3, K15.L.wf.len, e0, ek, by omega, fun h1 h2 => ?_, fun h1 h2 => ?_, fun h1 h2 h3 h4 => ?_, fun c' hc' t3 H6 s6 nt3 l6 => ?_⟩
        · refine ⟨_, rfl, _, _, _, _, true, rfl, .ty _, .base (.str _), kit_ty (by decide +kernel), _, rfl, iteF ?_⟩
          exact ⟨t2, V', T', _, _, rfl, sl15, hp15, hV, by omega, hVm, K15⟩
        · refine ⟨_, rfl, _, _, _, _, true, rfl, .ty _, .base (.str _), kit_ty (by decide +kernel), _, rfl, iteF ?_⟩
          exact ⟨t2, V', T', _, _, rfl, sl15, hp15, hV, by omega, hVm, K15⟩
        · refine ⟨_, rfl, _, _, _, _, true, rfl, .ty _, .base (.str _), kit_ty (by decide +kernel), _, rfl, iteF ?_⟩
          exact ⟨t2, V', T', _, _, rfl, sl15, hp15, hV, by omega, hVm, K15⟩
        · have sl16 := s6 _ _ sl15
          have hp16 := s6 _ _ hp15
          have K16 := K15.same s6
          have l6' : LStN (Fa src ap aq) H6 t3 (V' ++ [e]) (T' ++ [c']) := l6.imp fun x h => ⟨K15.s.ne h, fun z => (by rw [z, K15.L.rc.p] at h; cases h), fun z => (by rw [z, K15.L.rc.q] at h; cases h)⟩
          have K17 := K16.st l6'
          obtain ⟨adx, akx, _, hT6, _, _⟩ := l6
          rw [lastI_snoc] at hT6
          refine ⟨_, rfl, _, _, _, _, false, rfl, .ty _, tyx_t (.of hT6), kit_ty (by decide +kernel), _, rfl, iteT ?_⟩
          have rg := K16.L.nx hc' ek2
          refine ⟨_, rfl, _, rfl, a, g, r, al, ai, ap, aq, ps, ks, I, V', T', e, rfl, .of K16.ha, K16.L, e0, ek2, by omega, fun c2 hc2 => ?_, fun h1 h2 => ?_, fun h1 h2 => ?_, fun h1 h2 h3 h4 => ?_⟩
          · obtain rfl : c' = c2 := Option.some.inj (hc'.symm.trans hc2)
            have K18 := K17.step N (e := e) (c' := c') (by omega) rg
            have nl : ∀ {x : Addr} {o : HO}, H6 x = some o → (∀ l, o ≠ .lst l) → x ≠ ap ∧ x ≠ aq := fun {x o} e n => ⟨fun z => (by rw [z, K16.L.rc.p] at e; exact n _ (Option.some.inj e).symm), fun z => (by rw [z, K16.L.rc.q] at e; exact n _ (Option.some.inj e).symm)⟩
            have hT7 : (upd (upd H6 ap (.lst ((V' ++ [e]).map .int))) aq (.lst ((T' ++ [c']).map .int))) t3 = some (.tup [.int c', .ref adx, .ref akx]) := by
              rw [upd_ne (nl hT6 fun l z => nomatch z).2, upd_ne (nl hT6 fun l z => nomatch z).1]; exact hT6
            have sl17 : (upd (upd H6 ap (.lst ((V' ++ [e]).map .int))) aq (.lst ((T' ++ [c']).map .int))) sl = some (.lst [.int 0, .int 1, .int 2, .int 3, .int 7, .int 12, .int 20]) := by
              rw [upd_ne slf.2.2, upd_ne slf.2.1]; exact sl16
            have hp17 : (upd (upd H6 ap (.lst ((V' ++ [e]).map .int))) aq (.lst ((T' ++ [c']).map .int))) p = some (.lst (E'.map .int)) := by
              rw [upd_ne fp.2.2, upd_ne fp.2.1]; exact hp16
            generalize upd (upd H6 ap (.lst ((V' ++ [e]).map .int))) aq (.lst ((T' ++ [c']).map .int)) = H7 at K18 hT7 sl17 hp17 ⊢
            refine ⟨_, rfl, _, rfl, t3, _, _, _, rfl, rfl, .of hT7, at0, c, _, _, _, rfl, rfl, .of K18.hc, atI_vI rg, ?_⟩
            refine ⟨.int (vI I c'), .int (vI I c'), .int (vI I c'), rfl, .int _, .int _, trivial, fun H8 s8 => ⟨_, rfl, iteF ?_⟩⟩
            have eL : ((V' ++ [e]).length : Int) = (V'.length : Int) + 1 := by rw [List.length_append]; rfl
            refine ⟨_, rfl, _, rfl, _, _, rfl, rfl, _, _, rfl, t3, V' ++ [e], T' ++ [c'], _, _, by rw [eL]; rfl, s8 _ _ sl17, s8 _ _ hp17, ?_, by rw [List.length_append]; show V'.length + 1 ≤ _; omega, fun x hx => ?_, K18.same s8⟩
            · obtain ⟨ok, _⟩ := nx_ok hV (by omega) k1 e0 ek hc'
              obtain ⟨e', h1, h2, _⟩ := ok
              cases h1
              exact h2
            · rcases List.mem_append.mp hx with h | h
              · exact hVm x h
              · rw [List.mem_singleton.mp h]; exact ek
          · refine absurd hc' ?_
            unfold nxt
            rw [if_pos h1, if_pos h2]
            exact fun z => nomatch z
          · refine absurd hc' ?_
            unfold nxt
            rw [if_neg (by omega), if_pos (by
              by_cases q1 : -e ∈ V'
              · exact .inr (Classical.byContradiction fun q2 => h2 ⟨q1, q2⟩)
              · exact .inl q1)]
            exact fun z => nomatch z
          · exact absurd (hc'.symm.trans h4) (fun z => nomatch z)
      · obtain ⟨t2, V', T', y13, y14, rfl, sl15, hp15, hV, vl, hVm, K15⟩ := h
        rw [List.length_map] at vl
        exact ⟨t2, V', T', _, _, _, _, _, _, _, rfl, sl15, hV, by omega, hVm, K15⟩
    obtain ⟨t, U, S, y8, y9, y10, y11, y12, y13, y14, rfl, sl9, hU, ul, hUm, K9⟩ := h
    clear K8 sl8
    have SL := K9.L.wf.len
    have ul2 : U.length ≤ 35 := ul
    refine ⟨_, rfl, _, rfl, by omega, by omega, ?_⟩
    refine for_range (lo := 0) (n := ((U.length : Int)).toNat) (fun i σ H' => (∃ y10, σ = [some (.ref src), some (.ref sc), some (.ref g), some (.ref t), some (.ref a), some (.ref b), some (.ref c), some (.int (U.length : Int)), y8, y9, y10, y11, y12, y13, y14]) ∧ ∃ k, MI CR CP CC CS CG H H' src g r al ai ap aq a b c t ps ks I k (U.take (U.length - i)) (S.take (U.length - i + 1)) U S) ⟨⟨_, rfl⟩, _, by rw [Nat.sub_zero, List.take_of_length_le (Nat.le_refl _), List.take_of_length_le (Nat.le_of_eq SL)]; exact K9⟩ (fun i σ H11 hi h => ?_) (fun σ H11 h => ?_)
    · obtain ⟨⟨y10, rfl⟩, kk, K11⟩ := h
      obtain ⟨dgx, hgx⟩ := K11.L.set.g
      have iU : i < U.length := by omega
      obtain ⟨j, hj⟩ : ∃ j, U.length - i = j + 1 := ⟨U.length - i - 1, by omega⟩
      have hj2 : U.length - (i + 1) = j := by omega
      rw [hj] at K11
      have dU : (U.take (j + 1)).dropLast = U.take j := by
        rw [take_get (List.getElem?_eq_getElem (show j < U.length by omega)), List.dropLast_concat]
      have dS : (S.take (j + 1 + 1)).dropLast = S.take (j + 1) := by
        rw [take_get (List.getElem?_eq_getElem (show j + 1 < S.length by omega)), List.dropLast_concat]
      have w := K11.L.wf
      have wf' : Wf I (U.take j) (S.take (j + 1)) := by
        refine ⟨by rw [List.length_take, List.length_take]; omega, fun x hx => w.rng x (List.mem_of_mem_take (by rw [List.take_take, show min (j + 1) (j + 1 + 1) = j + 1 by omega]; exact hx) : x ∈ S.take (j + 1 + 1)), by rw [List.length_take]; omega, w.i⟩
      refine ⟨_, rfl, g, CG, dgx, _, rfl, rfl, hgx, lkG _ _ (by decide +kernel), g, r, al, ai, ap, aq, ps, I, _, _, rfl, K11.L.set, K11.L.rc, w, fun _ H12 k12 e12 g12 => ?_, fun e => ?_⟩
      · rw [dU] at e12
        rw [dS] at g12
        refine ⟨⟨_, rfl⟩, kk, ?_⟩
        rw [hj2]
        exact K11.to N k12 e12 g12 wf'
      · have := congrArg List.length e
        rw [List.length_take] at this
        have : min (j + 1) U.length = 0 := this
        omega
    obtain ⟨⟨y10, rfl⟩, kk, K11⟩ := h
    rw [Int.toNat_natCast, Nat.sub_self] at K11
    have L11 : Liv CR CP CC CS CG H11 g r al ai ap aq ps ks I [] (S.take 1) := K11.L
    have bt11 := K11.bt
    obtain ⟨dgx, hgx⟩ := L11.set.g
    refine ⟨_, rfl, g, CG, dgx, _, rfl, rfl, hgx, g, r, al, ai, ap, aq, ps, _, _, _, rfl, L11.set, L11.rc, fun q1 nq => ?_⟩
    have sq := same_new (o := .lst (([] : List Int).map V.int)) nq
    have hq : (upd H11 q1 (.lst (([] : List Int).map V.int))) q1 = some (.lst (([] : List Int).map V.int)) := upd_same
    generalize upd H11 q1 (.lst (([] : List Int).map V.int)) = H12 at sq hq ⊢
    refine ⟨Nat.zero_le _, fun z nz => ?_⟩
    have sz := same_new (o := .lst []) nz
    refine ⟨dI [], dI [], dp_ints (.of (sz _ _ hq)), dp_ints (ns := []) (.of upd_same), shaped_ints _, shaped_ints _, ?_⟩
    rw [eqv_ints, decide_eq_true rfl]
    have s13 := sq.trans sz
    refine ⟨_, rfl, iteT ?_⟩
    generalize upd H12 z (.lst []) = H13 at s13 ⊢
    refine ⟨_, rfl, by show 1 ≤ sizeLine; decide, fun gl ngl => ?_⟩
    have sg := s13.trans (same_new (o := .lst [.ref g]) ngl)
    have L14 := L11.same sg
    refine ⟨gl, g, r, al, ai, ap, aq, _, _, _, rfl, upd_same, L14.set, L14.rc, L14.wf, fun H15 s15 => ⟨rfl, ?_⟩⟩
    rw [decide_eq_true rfl]
    exact q _ (bt11.trans (.of (sg.trans s15)))
end
end L25
set_option Elab.async false
set_option linter.all false
set_option maxRecDepth 100000
namespace L25
open PySem PySem.Spec PyProof.Rows L2 Lp
section
variable {P : Program} {w : World} {K : PySem.W.Frag} {mg : Str → Option Value} {base : Heap} {CR CP CC CS CG eF eE eS eR eO fS eH : Addr} {fdS : FuncData} {dS : List Value}
/-- one patch of each of two kinds, both run: what is tried -/
theorem hist12 : Hist [1, 2] := ⟨fun e h => by
    rcases List.mem_cons.mp h with rfl | h
    · decide
    · rw [List.mem_singleton.mp h]; decide, by decide, fun i e h => by
    match i, h with
    | 0, h => cases h; exact fun z => absurd z (by decide)
    | 1, h => cases h; exact fun z => absurd z (by decide)
    | i + 2, h => simp at h, by decide⟩
theorem trA (rest : List PyData) : trS [0, 2] [1, 2] [0, 1, 2] (.int (-1) :: rest) = trS [0, 2] [1, 2, -1] [0, 1, 2, 0] rest := by
  obtain ⟨a, b⟩ := nx_ok (ks := [0, 2]) (S := [0, 1, 2]) (e := -1) (c := 0) hist12 (by decide) (by decide) (by decide) (by decide) (by decide +kernel)
  exact trS_go a b
theorem histA : Hist [1, 2, -1] := by
  obtain ⟨⟨e', h1, h2, _⟩, b⟩ := nx_ok (ks := [0, 2]) (S := [0, 1, 2]) (e := -1) (c := 0) hist12 (by decide) (by decide) (by decide) (by decide) (by decide +kernel)
  cases h1
  exact h2
theorem trAB (rest : List PyData) : trS [0, 2] [1, 2] [0, 1, 2] (.int (-1) :: .int (-2) :: rest) = .inl 15 :=
  (trA _).trans (ord_bad histA (by decide) (by decide) (by decide) (by decide) (by decide) (by decide) (by decide +kernel))
theorem trBA : trS [0, 2] [1, 2] [0, 1, 2] [.int (-2), .int (-1)] = .inr 0 := by
  obtain ⟨a, b⟩ := nx_ok (ks := [0, 2]) (S := [0, 1, 2]) (e := -2) (c := 1) hist12 (by decide) (by decide) (by decide) (by decide) (by decide +kernel)
  obtain ⟨e', h1, h2, _⟩ := id a
  cases h1
  refine (trS_go a b).trans ?_
  obtain ⟨a2, b2⟩ := nx_ok (ks := [0, 2]) (S := [0, 1, 2, 1]) (e := -1) (c := 0) h2 (by decide) (by decide) (by decide) (by decide) (by decide +kernel)
  exact trS_go a2 b2
abbrev told25 : List V := [.int 7, .int 9, .int 5, .str "order", .int 5]
def told25D : List PyData := [.int 7, .int 9, .int 5, .str "order", .int 5]
theorem dp_told {K : PySem.W.Frag} {H : Hp} {a : Addr} (h : SqL K H a told25) : Dp K H (.ref a) (.list told25D) := .lst h (.cons (.int _) (.cons (.int _) (.cons (.int _) (.cons (.str _) (.cons (.int _) .nil)))))
def spLaw (K : PySem.W.Frag) : Sp := fun vs H Q _ => ∃ (a : Addr) (ns : List Int), vs = [.ref a] ∧ SqL K H a (ns.map V.int) ∧ ns.length ≤ 63 ∧ ∀ H', Q (.bl true) H'
set_option maxHeartbeats 4000000 in
theorem ok_law {f : Addr} {fd : FuncData} (F : Fun K "law" "law" s_law f fd) (B : NoB mg) (T_law_cells : Cal P w K mg base 1 "_law_cells" (spCells K)) (T_law_source : Cal P w K mg base 1 "_law_source" spSource) (T_law_holds : Gc P w K mg base 12 "_law_holds" (spHolds25 K)) (T_law_outcome : Gc P w K mg base 11 "_law_outcome" (spOutcome K CR CP CC CS CG)) (T_mk_Setting : Mak P w K mg base 5 "Setting" CG (SpN (spGInit CR CG)))
    (T_Setting_patch : MetV P w K mg base 6 (Is CG) "patch" (spMake CR CG eF CP)) (T_Setting_strict : MetV P w K mg base 6 (Is CG) "strict" (spMake CR CG eF CS)) (T_AnyPatch_start : MetC P w K mg base 5 (Kind3 CP CC CS) "start" (spStartC CR eS)) (T_Setting_tried : MetR P w K mg base 8 CG "tried" (SpStar 1 (spTriedB K CR CP CC CS CG eH eO))) : FnG P w K mg base CX0 13 f fd ["script"] (spLaw K) := by
  refine okG F sc_law (fun vs H Q E h => ?_) (fun cdv A outer s H vs Q E hG hr h => ?_)
  · obtain ⟨a, ns, rfl, _⟩ := h
    rfl
  · obtain ⟨sc, ns, rfl, hS, hl, q⟩ := h
    have hu64 := hr.units
    refine ⟨_, (pss_cons (ps_for PassesOwn.never rfl (pi_enum (by rfl) B.enumerate (pa_cons (pe_c T_law_cells hr (by decide) (by rfl) (pa_cons (pv 0) (pa_cons pe_int pa_nil))) pa_nil)) (pg_tup rfl (pgs_cons (pg_name (i := 1) sc_law.nd rfl (Or.inl rfl)) (pgs_cons (pg_name (i := 2) sc_law.nd rfl (Or.inl rfl)) pgs_nil)))
          (pss_one (ps_if (pt_not (pt_val (pe_g T_law_holds hG hr (by decide) (by rfl) (pa_cons (pe_c T_law_source hr (by decide) (by rfl) (pa_cons (pv 2) (pa_cons (pv 1) pa_nil))) (pa_cons (pv 0) pa_nil))))) (pss_one (ps_ret pe_bl)) pss_nil)))
        (pss_cons (ps_set (i := 3) sc_law.nd rfl (Or.inl rfl) (pe_mk T_mk_Setting hr (by decide) (by rfl) (pa_cons pe_int pa_nil)))
        (pss_cons (ps_par (i := 4) (j := 5) (by rfl) sc_law.nd rfl rfl (by decide) rfl rfl (pa_cons (pe_mV T_Setting_patch hr (by decide) takesN (pv 3) (pa_cons pe_int pa_nil)) (pa_cons (pe_mV T_Setting_strict hr (by decide) takesN (pv 3) (pa_cons pe_int pa_nil)) pa_nil)) (by rfl))
        (pss_cons (ps_set (i := 6) sc_law.nd rfl (Or.inl rfl) (pe_lst (pa_cons (pe_mC0 T_AnyPatch_start hr (by decide) takesN (pv 4)) (pa_cons (pe_mC0 T_AnyPatch_start hr (by decide) takesN (pv 5)) (pa_cons (pe_mR T_Setting_tried hr (by decide) takesN (pv 3) (pa_cons (pe_un un_neg pe_int) pa_nil)) (pa_cons (pe_g T_law_outcome hG hr (by decide) (by rfl) (pa_cons (pv 3) (pa_cons (pe_lst (pa_cons (pe_un un_neg pe_int) (pa_cons (pe_un un_neg pe_int) pa_nil))) pa_nil))) (pa_cons (pe_mR T_Setting_tried hr (by decide) takesN (pv 3) (pa_cons (pe_un un_neg pe_int) (pa_cons (pe_un un_neg pe_int) pa_nil))) pa_nil)))))))
        (pss_one (ps_ret (pe_and (pe_cmpR (op_eqD hu64) (pv 6) (pe_lst (pa_cons pe_int (pa_cons pe_int (pa_cons pe_int (pa_cons pe_str (pa_cons pe_int pa_nil)))))) (nomark _)) (pe_one (pe_cmpR op_eq (pe_g T_law_outcome hG hr (by decide) (by rfl) (pa_cons (pv 3) (pa_cons (pe_lst (pa_cons (pe_un un_neg pe_int) (pa_cons (pe_un un_neg pe_int) (pa_cons pe_int pa_nil)))) pa_nil))) pe_str (nomark _)))))))))), ?_⟩
    refine ⟨_, rfl, sc, ns, 8, rfl, hS, hl, by decide, fun H1 p s1 np hp => ?_⟩
    have cl : (cellsL ns 8).length ≤ 64 := by
      unfold cellsL
      rw [List.length_append, List.length_take]
      split <;> simp <;> omega
    refine ⟨p, _, rfl, .of hp, for_it (walk_enum (xs := (cellsL ns 8).map V.int)) (fun i σ H' => (∃ y1 y2, σ = [some (.ref sc), y1, y2, none, none, none, none]) ∧ Same H H' ∧ H' p = some (.lst ((cellsL ns 8).map V.int))) ⟨⟨_, _, rfl⟩, s1, hp⟩ (fun i σ H' _ h => .of h.2.2) (fun i x σ H' H2 hi h hy => ?_) (fun σ H' h => ?_)⟩
    · obtain ⟨T, x1, x2, rfl, nT, rfl, e1, e2⟩ := hy
      cases e1
      obtain ⟨e, rfl, he⟩ := get_int e2
      obtain ⟨⟨y1, y2, rfl⟩, sm, hpp⟩ := h
      have hi2 := lt_get he
      refine ⟨T, _, rfl, .of upd_same, rfl, _, _, rfl, _, _, rfl, rfl, ?_⟩
      have sT := same_new (o := .tup [V.int ((i : Nat) : Int), .int e]) nT
      refine ⟨_, rfl, _, rfl, e, i, rfl, by omega, fun H3 src s3 nsrc hs3 => ?_⟩
      have nsrc' : H' src = none := sT.free nsrc
      have sm3 : Same H' H3 := sT.trans s3
      have key : ∀ H5, Bt src H3 H5 → Same H' H5 := fun H5 b5 b o eb => b5 b o (ne_of_none eb nsrc') (sm3 b o eb)
      exact ⟨_, rfl, src, sc, 0, ns, rfl, hs3, by decide, fun H5 b5 => (sm.trans (key _ b5)).seq hS, fun H5 b5 => ⟨_, rfl, iteF ⟨⟨_, _, rfl⟩, sm.trans (key _ b5), key _ b5 _ _ hpp⟩⟩⟩
    · obtain ⟨⟨y1, y2, rfl⟩, sm, hpp⟩ := h
      clear hS hpp sm
      refine fun g dg ng ndg ne => ?_
      have ng' : (upd H' dg (.own g)) g = none := by rw [upd_ne ne.symm]; exact ng
      have g1 : (upd (upd H' dg (.own g)) g (.ins CG dg [])) g = some (.ins CG dg []) := upd_same
      generalize upd (upd H' dg (.own g)) g (.ins CG dg []) = H1 at g1 ⊢
      refine ⟨g, dg, 5, rfl, ⟨by decide, by decide⟩, g1, fun r ai ap aq al H2 G R B2 nr nai nap naq nal la lp lq => ⟨rfl, ?_⟩⟩
      have L : Liv CR CP CC CS CG H2 g r al ai ap aq [] [] [5] [] [0] := ⟨G, R, ⟨rfl, fun c hc => by rw [List.mem_singleton.mp hc]; exact ⟨by decide, by show (0 : Int) < 1; decide⟩, by decide, by show 1 ≤ 1000; decide⟩, la, lp, lq, rfl, rfl, fun j p k e => by simp at e⟩
      clear G R B2
      obtain ⟨dg, hg⟩ := L.set.g
      refine ⟨_, rfl, g, CG, dg, _, rfl, rfl, hg, lkG _ _ (by decide +kernel), g, r, al, ai, ap, aq, [], [5], [], [0], 7, rfl, L.set, L.rc, ⟨by decide, by decide⟩, by decide, by decide, L.la, L.lp, L.lq, fun _ p1 dp1 H3 np1 hp1 G R keep => ?_, fun z => absurd z (by decide)⟩
      have L3 : Liv CR CP CC CS CG H3 g r al ai ap aq [p1] [0] [5, 7] [] [0] := L.make (k := 0) (C := CP) hp1 G R (.inl ⟨rfl, rfl⟩) (by decide) keep
      clear G R keep
      obtain ⟨dg3, hg3⟩ := L3.set.g
      refine ⟨_, rfl, g, CG, dg3, _, rfl, rfl, hg3, lkG _ _ (by decide +kernel), g, r, al, ai, ap, aq, [p1], [5, 7], [], [0], 9, rfl, L3.set, L3.rc, ⟨by decide, by decide⟩, by decide, by show 1 ≤ 100; decide, L3.la, L3.lp, L3.lq, fun _ p2 dp2 H4 np2 hp2 G R keep => ?_, fun z => absurd z (show ¬ (1 : Nat) = 100 by decide)⟩
      have L4 : Liv CR CP CC CS CG H4 g r al ai ap aq [p1, p2] [0, 2] [5, 7, 9] [] [0] := L3.make (k := 2) (C := CS) hp2 G R (.inr (.inr ⟨rfl, rfl⟩)) (by show 1 < 100; decide) keep
      clear G R keep
      refine ⟨_, _, rfl, ?_⟩
      obtain ⟨q1, C1, dq1, e1, _, hK1, hq1⟩ := L4.at (n := 1) (by decide) (by show (1 : Int) ≤ ((2 : Nat) : Int); decide)
      obtain rfl : p1 = q1 := Option.some.inj e1
      refine ⟨_, rfl, p1, C1, _, dq1, _, rfl, hK1, hq1, lkP _ _ (by decide +kernel), p1, dq1, r, ai, ap, aq, 1, [5, 7, 9], [], [0], rfl, hq1, L4.rc, L4.wf, by decide, by decide, by decide, fun _ => ?_, fun z => absurd z (by decide)⟩
      have L5 : Liv CR CP CC CS CG (upd (upd H4 ap (.lst ((([] : List Int) ++ [1]).map .int))) aq (.lst ((([0] : List Int) ++ [1]).map .int))) g r al ai ap aq [p1, p2] [0, 2] [5, 7, 9] [1] [0, 1] := L4.to (fun b o n1 n2 eb => by rw [upd_ne n2, upd_ne n1]; exact eb) (by rw [upd_ne L4.rc.pq, upd_same]; rfl) upd_same (L4.wf.go (e := 1) (c := 1) (by decide) (by decide))
      generalize upd (upd H4 ap (.lst ((([] : List Int) ++ [1]).map .int))) aq (.lst ((([0] : List Int) ++ [1]).map .int)) = H5 at L5 ⊢
      obtain ⟨q2, C2, dq2, e2, _, hK2, hq2⟩ := L5.at (n := 2) (by decide) (by show (2 : Int) ≤ ((2 : Nat) : Int); decide)
      obtain rfl : p2 = q2 := Option.some.inj e2
      refine ⟨_, rfl, p2, C2, _, dq2, _, rfl, hK2, hq2, lkP _ _ (by decide +kernel), p2, dq2, r, ai, ap, aq, 2, [5, 7, 9], [1], [0, 1], rfl, hq2, L5.rc, L5.wf, by decide, by decide, by decide, fun _ => ?_, fun z => absurd z (by decide)⟩
      have L6 : Liv CR CP CC CS CG (upd (upd H5 ap (.lst ((([1] : List Int) ++ [2]).map .int))) aq (.lst ((([0, 1] : List Int) ++ [2]).map .int))) g r al ai ap aq [p1, p2] [0, 2] [5, 7, 9] [1, 2] [0, 1, 2] := L5.to (fun b o n1 n2 eb => by rw [upd_ne n2, upd_ne n1]; exact eb) (by rw [upd_ne L5.rc.pq, upd_same]; rfl) upd_same (L5.wf.go (e := 2) (c := 2) (by decide) (by decide))
      generalize upd (upd H5 ap (.lst ((([1] : List Int) ++ [2]).map .int))) aq (.lst ((([0, 1] : List Int) ++ [2]).map .int)) = H6 at L6 ⊢
      clear L5 L4 L3 L
      have wtI : ∀ {ns : List Int}, (∀ n ∈ ns, n.natAbs < 10 ^ 31) → ∀ d ∈ ns.map PyData.int, wt d ≤ 100000 := fun {ns} h d hd => by
        obtain ⟨x, hx, rfl⟩ := List.mem_map.mp hd
        exact Nat.le_trans (bd_int (k := 10) (h x hx)).w (by omega)
      have bdI : ∀ {ns : List Int}, (∀ n ∈ ns, n.natAbs < 10 ^ 31) → ns.length ≤ 20 → Bd 10000000 60 (.list (ns.map .int)) := fun {ns} h l => (Bd.list (bd_ints (k := 10) (m := 20) h l)).mono (by omega) (by omega)
      obtain ⟨dg6, hg6⟩ := L6.set.g
      have t1 : trS [0, 2] [1, 2] [0, 1, 2] [.int (-1)] = .inr 0 := trA []
      refine ⟨_, rfl, g, dg6, _, rfl, hg6, lkG _ _ (by decide +kernel), _, rfl, [.ref g], [.int (-1)], rfl, rfl, by show 1 ≤ sizeLine; decide, fun tp ntp => ⟨g, tp, r, al, ai, ap, aq, [p1, p2], [0, 2], [5, 7, 9], [1, 2], [0, 1, 2], _, [.int (-1)], rfl, upd_same, L6.same (same_new ntp), hist12, oxAll_ints [-1], wtI (ns := [-1]) (by decide), fun c e H7 s7 => ?_, fun e => absurd (t1.symm.trans e) (fun z => nomatch z), fun e => absurd (t1.symm.trans e) (fun z => nomatch z)⟩⟩
      obtain rfl : 0 = c := Sum.inr.inj (t1.symm.trans e)
      have L7 := (L6.same (same_new ntp)).same s7
      clear s7 L6 hg6 e
      -- two that can't be
      refine ⟨_, rfl, _, rfl, _, rfl, by show 2 ≤ sizeLine; decide, fun l1 nl1 => ?_⟩
      refine ⟨g, l1, [-1, -2].map V.int, [-1, -2].map .int, r, al, ai, ap, aq, [p1, p2], [0, 2], [5, 7, 9], [1, 2], [0, 1, 2], rfl, upd_same, oxAll_ints [-1, -2], bdI (ns := [-1, -2]) (by decide) (by decide), .inr (.inr (.inl rfl)), L7.same (same_new nl1), hist12, wtI (ns := [-1, -2]) (by decide), fun H8 s8 => ?_⟩
      rw [show resV [5, 7, 9] (trS [0, 2] [1, 2] [0, 1, 2] ([-1, -2].map PyData.int)) = .str "order" by
        rw [show trS [0, 2] [1, 2] [0, 1, 2] ([-1, -2].map PyData.int) = .inl 15 from trAB []]; rfl]
      have L8 := (L7.same (same_new nl1)).same s8
      clear s8 L7
      obtain ⟨dg8, hg8⟩ := L8.set.g
      refine ⟨_, rfl, g, dg8, _, rfl, hg8, lkG _ _ (by decide +kernel), _, rfl, _, rfl, [.ref g], [.int (-2), .int (-1)], rfl, rfl, by show 2 ≤ sizeLine; decide, fun tp ntp => ⟨g, tp, r, al, ai, ap, aq, [p1, p2], [0, 2], [5, 7, 9], [1, 2], [0, 1, 2], _, [.int (-2), .int (-1)], rfl, upd_same, L8.same (same_new ntp), hist12, oxAll_ints [-2, -1], wtI (ns := [-2, -1]) (by decide), fun c e H9 s9 => ?_, fun e => absurd (trBA.symm.trans e) (fun z => nomatch z), fun e => absurd (trBA.symm.trans e) (fun z => nomatch z)⟩⟩
      obtain rfl : 0 = c := Sum.inr.inj (trBA.symm.trans e)
      have L9 := (L8.same (same_new ntp)).same s9
      clear s9 L8 hg8 e
      refine ⟨by show 5 ≤ sizeLine; decide, fun tl ntl => ?_⟩
      rw [show vI [5, 7, 9] 1 = 7 from rfl, show vI [5, 7, 9] 2 = 9 from rfl, show vI [5, 7, 9] 0 = 5 from rfl]
      have s10 := same_new (o := .lst told25) ntl
      have t10 : (upd H9 tl (.lst told25)) tl = some (.lst told25) := upd_same
      have L10 := L9.same s10
      refine ⟨_, rfl, by show 5 ≤ sizeLine; decide, fun z nz => ?_⟩
      have sz := same_new (o := .lst told25) nz
      have z11 : (upd (upd H9 tl (.lst told25)) z (.lst told25)) z = some (.lst told25) := upd_same
      have t11 := sz _ _ t10
      have L11 := L10.same sz
      have so : SeqAt.shaped (.list told25D) = true := by decide +kernel
      refine ⟨_, _, dp_told (.of t11), dp_told (.of z11), so, so, ?_⟩
      rw [show PyData.eqv (.list told25D) (.list told25D) = true by decide +kernel]
      refine ⟨_, rfl, iteT ?_⟩
      refine ⟨_, rfl, _, rfl, _, rfl, by show 3 ≤ sizeLine; decide, fun l1 nl1 => ?_⟩
      refine ⟨g, l1, [-1, -2, 3].map V.int, [-1, -2, 3].map .int, r, al, ai, ap, aq, [p1, p2], [0, 2], [5, 7, 9], [1, 2], [0, 1, 2], rfl, upd_same, oxAll_ints [-1, -2, 3], bdI (ns := [-1, -2, 3]) (by decide) (by decide), .inr (.inr (.inr (.inl rfl))), L11.same (same_new nl1), hist12, wtI (ns := [-1, -2, 3]) (by decide), fun H12 s12 => ?_⟩
      rw [show resV [5, 7, 9] (trS [0, 2] [1, 2] [0, 1, 2] ([-1, -2, 3].map PyData.int)) = .str "order" by
        rw [show trS [0, 2] [1, 2] [0, 1, 2] ([-1, -2, 3].map PyData.int) = .inl 15 from trAB [.int 3]]; rfl]
      refine ⟨rfl, ?_⟩
      rw [decide_eq_true rfl]
      exact q _
end
end L25
set_option Elab.async false
set_option linter.all false
set_option maxRecDepth 100000
set_option maxHeartbeats 0
namespace L25
open PySem PySem.Spec PyProof.Rows L2 Lp
def vCR : HK.Adr := fun _ => 337
def vCP : HK.Adr := fun _ => 418
def vCC : HK.Adr := fun _ => 497
def vCS : HK.Adr := fun _ => 574
def vCG : HK.Adr := fun _ => 689
def vf0 : HK.Adr := fun _ => 238
def vf1 : HK.Adr := fun _ => 245
def vf2 : HK.Adr := fun _ => 257
def vf3 : HK.Adr := fun _ => 264
def vf4 : HK.Adr := fun _ => 292
def vf5 : HK.Adr := fun _ => 306
def vf6 : HK.Adr := fun _ => 313
def vf7 : HK.Adr := fun _ => 320
def vf8 : HK.Adr := fun _ => 327
def vf9 : HK.Adr := fun _ => 334
def vf10 : HK.Adr := fun _ => 355
def vp11 : HK.Adr := fun _ => 363
def vf11 : HK.Adr := fun _ => 362
def vp12 : HK.Adr := fun _ => 438
def vf12 : HK.Adr := fun _ => 437
def vp13 : HK.Adr := fun _ => 515
def vf13 : HK.Adr := fun _ => 514
def vp14 : HK.Adr := fun _ => 371
def vf14 : HK.Adr := fun _ => 370
def vp15 : HK.Adr := fun _ => 446
def vf15 : HK.Adr := fun _ => 445
def vp16 : HK.Adr := fun _ => 523
def vf16 : HK.Adr := fun _ => 522
def vp17 : HK.Adr := fun _ => 379
def vf17 : HK.Adr := fun _ => 378
def vp18 : HK.Adr := fun _ => 454
def vf18 : HK.Adr := fun _ => 453
def vp19 : HK.Adr := fun _ => 531
def vf19 : HK.Adr := fun _ => 530
def vp20 : HK.Adr := fun _ => 387
def vf20 : HK.Adr := fun _ => 386
def vp21 : HK.Adr := fun _ => 462
def vf21 : HK.Adr := fun _ => 461
def vp22 : HK.Adr := fun _ => 539
def vf22 : HK.Adr := fun _ => 538
def vf23 : HK.Adr := fun _ => 408
def vf24 : HK.Adr := fun _ => 486
def vf25 : HK.Adr := fun _ => 563
def vf26 : HK.Adr := fun _ => 394
def vf27 : HK.Adr := fun _ => 401
def vf28 : HK.Adr := fun _ => 415
def vf29 : HK.Adr := fun _ => 470
def vf30 : HK.Adr := fun _ => 547
def vf31 : HK.Adr := fun _ => 478
def vf32 : HK.Adr := fun _ => 555
def vf33 : HK.Adr := fun _ => 494
def vf34 : HK.Adr := fun _ => 571
def vf35 : HK.Adr := fun _ => 591
def vp36 : HK.Adr := fun _ => 599
def vf36 : HK.Adr := fun _ => 598
def vp37 : HK.Adr := fun _ => 607
def vf37 : HK.Adr := fun _ => 606
def vp38 : HK.Adr := fun _ => 615
def vf38 : HK.Adr := fun _ => 614
def vp39 : HK.Adr := fun _ => 623
def vf39 : HK.Adr := fun _ => 622
def vf40 : HK.Adr := fun _ => 665
def vf41 : HK.Adr := fun _ => 672
def vf42 : HK.Adr := fun _ => 679
def vf43 : HK.Adr := fun _ => 630
def vf44 : HK.Adr := fun _ => 637
def vf45 : HK.Adr := fun _ => 644
def vf46 : HK.Adr := fun _ => 651
def vf47 : HK.Adr := fun _ => 700
def vf48 : HK.Adr := fun _ => 707
def vf49 : HK.Adr := fun _ => 714
def vf50 : HK.Adr := fun _ => 719
def vf51 : HK.Adr := fun _ => 726
def vf52 : HK.Adr := fun _ => 733
def vf53 : HK.Adr := fun _ => 740
def vf54 : HK.Adr := fun _ => 745
def vf55 : HK.Adr := fun _ => 752
def vf56 : HK.Adr := fun _ => 757
def vf57 : HK.Adr := fun _ => 764
def vf58 : HK.Adr := fun _ => 250
def vf59 : HK.Adr := fun _ => 271
def vf60 : HK.Adr := fun _ => 278
def vf61 : HK.Adr := fun _ => 299
def vf62 : HK.Adr := fun _ => 686
def vf63 : HK.Adr := fun _ => 658
def vf64 : HK.Adr := fun _ => 769
def vf65 : HK.Adr := fun _ => 776
def vf66 : HK.Adr := fun _ => 783
def vf67 : HK.Adr := fun _ => 790
def vf68 : HK.Adr := fun _ => 797
def vf69 : HK.Adr := fun _ => 804
def vf70 : HK.Adr := fun _ => 811
def vC0 : HK.Adr := fun _ => 229
def vC1 : HK.Adr := fun _ => 181
def vC2 : HK.Adr := fun _ => 157
def vC3 : HK.Adr := fun _ => 37
def vC4 : HK.Adr := fun _ => 97
def vC5 : HK.Adr := fun _ => 109
def vC6 : HK.Adr := fun _ => 49
def vC7 : HK.Adr := fun _ => 121
def vC8 : HK.Adr := fun _ => 73
def vC9 : HK.Adr := fun _ => 85
def vC10 : HK.Adr := fun _ => 133
def vC11 : HK.Adr := fun _ => 145
def vC12 : HK.Adr := fun _ => 61
def vC13 : HK.Adr := fun _ => 169
def vC14 : HK.Adr := fun _ => 205
def vC15 : HK.Adr := fun _ => 217
def vC16 : HK.Adr := fun _ => 193
def vC17 : HK.Adr := fun _ => 24
def ds0 : List HK.Dk := [⟨vf0, "is_integer", "is_integer", s_is_integer, []⟩,
  ⟨vf1, "is_integer_within", "is_integer_within", s_is_integer_within, []⟩,
  ⟨vf2, "check_number", "check_number", s_check_number, []⟩,
  ⟨vf3, "check_settable", "check_settable", s_check_settable, []⟩,
  ⟨vf4, "__init__", "Record.__init__", s_Record_init, []⟩,
  ⟨vf5, "integer_now", "Record.integer_now", s_Record_integer_now, []⟩,
  ⟨vf6, "found_by", "Record.found_by", s_Record_found_by, []⟩,
  ⟨vf7, "is_running", "Record.is_running", s_Record_is_running, []⟩,
  ⟨vf8, "go_on_by", "Record.go_on_by", s_Record_go_on_by, []⟩,
  ⟨vf9, "go_back", "Record.go_back", s_Record_go_back, []⟩,
  ⟨vf10, "__init__", "Patch.__init__", s_Patch_init, []⟩,
  ⟨vf11, "number", "Patch.number", s_Patch_number, []⟩,
  ⟨vf12, "number", "CarefulPatch.number", s_CarefulPatch_number, []⟩,
  ⟨vf13, "number", "StrictPatch.number", s_StrictPatch_number, []⟩,
  ⟨vf14, "integer", "Patch.integer", s_Patch_integer, []⟩,
  ⟨vf15, "integer", "CarefulPatch.integer", s_CarefulPatch_integer, []⟩,
  ⟨vf16, "integer", "StrictPatch.integer", s_StrictPatch_integer, []⟩,
  ⟨vf17, "saved", "Patch.saved", s_Patch_saved, []⟩,
  ⟨vf18, "saved", "CarefulPatch.saved", s_CarefulPatch_saved, []⟩,
  ⟨vf19, "saved", "StrictPatch.saved", s_StrictPatch_saved, []⟩,
  ⟨vf20, "runs", "Patch.runs", s_Patch_runs, []⟩,
  ⟨vf21, "runs", "CarefulPatch.runs", s_CarefulPatch_runs, []⟩,
  ⟨vf22, "runs", "StrictPatch.runs", s_StrictPatch_runs, []⟩,
  ⟨vf23, "left_by_stop", "Patch.left_by_stop", s_Patch_left_by_stop, []⟩,
  ⟨vf24, "left_by_stop", "CarefulPatch.left_by_stop", s_CarefulPatch_left_by_stop, ["__class__"]⟩,
  ⟨vf25, "left_by_stop", "StrictPatch.left_by_stop", s_StrictPatch_left_by_stop, ["__class__"]⟩,
  ⟨vf26, "start", "Patch.start", s_Patch_start, []⟩,
  ⟨vf27, "stop", "Patch.stop", s_Patch_stop, []⟩,
  ⟨vf28, "described", "Patch.described", s_Patch_described, []⟩,
  ⟨vf29, "start", "CarefulPatch.start", s_CarefulPatch_start, ["__class__"]⟩]
def ds1 : List HK.Dk := [⟨vf30, "start", "StrictPatch.start", s_StrictPatch_start, ["__class__"]⟩,
  ⟨vf31, "stop", "CarefulPatch.stop", s_CarefulPatch_stop, ["__class__"]⟩,
  ⟨vf32, "stop", "StrictPatch.stop", s_StrictPatch_stop, ["__class__"]⟩,
  ⟨vf33, "described", "CarefulPatch.described", s_CarefulPatch_described, ["__class__"]⟩,
  ⟨vf34, "described", "StrictPatch.described", s_StrictPatch_described, ["__class__"]⟩,
  ⟨vf35, "__init__", "Setting.__init__", s_Setting_init, []⟩,
  ⟨vf36, "integer", "Setting.integer", s_Setting_integer, []⟩,
  ⟨vf37, "present", "Setting.present", s_Setting_present, []⟩,
  ⟨vf38, "events", "Setting.events", s_Setting_events, []⟩,
  ⟨vf39, "original", "Setting.original", s_Setting_original, []⟩,
  ⟨vf40, "__len__", "Setting.__len__", s_Setting_len, []⟩,
  ⟨vf41, "_enlist", "Setting._enlist", s_Setting_enlist, []⟩,
  ⟨vf42, "_keep", "Setting._keep", s_Setting_keep, []⟩,
  ⟨vf43, "patch", "Setting.patch", s_Setting_patch, []⟩,
  ⟨vf44, "careful", "Setting.careful", s_Setting_careful, []⟩,
  ⟨vf45, "strict", "Setting.strict", s_Setting_strict, []⟩,
  ⟨vf46, "undo", "Setting.undo", s_Setting_undo, []⟩,
  ⟨vf47, "_law_source", "_law_source", s_law_source, []⟩,
  ⟨vf48, "_law_draw", "_law_draw", s_law_draw, []⟩,
  ⟨vf49, "_law_cells", "_law_cells", s_law_cells, []⟩,
  ⟨vf50, "_law_same", "_law_same", s_law_same, []⟩,
  ⟨vf51, "_law_later", "_law_later", s_law_later, []⟩,
  ⟨vf52, "_law_due", "_law_due", s_law_due, []⟩,
  ⟨vf53, "_law_seen", "_law_seen", s_law_seen, []⟩,
  ⟨vf54, "_law_patches_right", "_law_patches_right", s_law_patches_right, []⟩,
  ⟨vf55, "_law_made", "_law_made", s_law_made, []⟩,
  ⟨vf56, "_law_event", "_law_event", s_law_event, []⟩,
  ⟨vf57, "_law_pressed", "_law_pressed", s_law_pressed, []⟩,
  ⟨vf58, "are_integers", "are_integers", s_are_integers, []⟩,
  ⟨vf59, "are_events", "are_events", s_are_events, []⟩]
def ds2 : List HK.Dk := [⟨vf60, "is_history", "is_history", s_is_history, []⟩,
  ⟨vf61, "twin", "Record.twin", s_Record_twin, []⟩,
  ⟨vf62, "_check_next", "Setting._check_next", s_Setting_check_next, []⟩,
  ⟨vf63, "tried", "Setting.tried", s_Setting_tried, []⟩,
  ⟨vf64, "_law_error_name", "_law_error_name", s_law_error_name, []⟩,
  ⟨vf65, "_law_refused", "_law_refused", s_law_refused, []⟩,
  ⟨vf66, "_law_tried", "_law_tried", s_law_tried, []⟩,
  ⟨vf67, "_law_outcome", "_law_outcome", s_law_outcome, []⟩,
  ⟨vf68, "_law_line", "_law_line", s_law_line, []⟩,
  ⟨vf69, "_law_holds", "_law_holds", s_law_holds, []⟩,
  ⟨vf70, "law", "law", s_law, []⟩]
def ds : List HK.Dk := ds0 ++ (ds1 ++ (ds2))
def fs0 : List (PySem.W.Frag → Bool) := [fun K => He.eqO (PySem.W.nsIn K mainGlobals "is_integer") (some (some (.ref (vf0 K)))) && HK.funB K (vf0 K) "is_integer" [],
  fun K => He.eqO (PySem.W.nsIn K mainGlobals "is_integer_within") (some (some (.ref (vf1 K)))) && HK.funB K (vf1 K) "is_integer_within" [],
  fun K => He.eqO (PySem.W.nsIn K mainGlobals "check_number") (some (some (.ref (vf2 K)))) && HK.funB K (vf2 K) "check_number" [],
  fun K => He.eqO (PySem.W.nsIn K mainGlobals "check_settable") (some (some (.ref (vf3 K)))) && HK.funB K (vf3 K) "check_settable" [],
  fun K => He.eqO (PySem.W.findIn K (.ref (vCR K)) "__init__") (some (some (.ref (vf4 K)))) && (PySem.W.isFn K (.ref (vf4 K)) && HK.funB K (vf4 K) "Record.__init__" []),
  fun K => He.eqO (PySem.W.findIn K (.ref (vCR K)) "integer_now") (some (some (.ref (vf5 K)))) && (PySem.W.isFn K (.ref (vf5 K)) && HK.funB K (vf5 K) "Record.integer_now" []),
  fun K => He.eqO (PySem.W.findIn K (.ref (vCR K)) "found_by") (some (some (.ref (vf6 K)))) && (PySem.W.isFn K (.ref (vf6 K)) && HK.funB K (vf6 K) "Record.found_by" []),
  fun K => He.eqO (PySem.W.findIn K (.ref (vCR K)) "is_running") (some (some (.ref (vf7 K)))) && (PySem.W.isFn K (.ref (vf7 K)) && HK.funB K (vf7 K) "Record.is_running" []),
  fun K => He.eqO (PySem.W.findIn K (.ref (vCR K)) "go_on_by") (some (some (.ref (vf8 K)))) && (PySem.W.isFn K (.ref (vf8 K)) && HK.funB K (vf8 K) "Record.go_on_by" []),
  fun K => He.eqO (PySem.W.findIn K (.ref (vCR K)) "go_back") (some (some (.ref (vf9 K)))) && (PySem.W.isFn K (.ref (vf9 K)) && HK.funB K (vf9 K) "Record.go_back" []),
  fun K => He.eqO (PySem.W.findIn K (.ref (vCP K)) "__init__") (some (some (.ref (vf10 K)))) && (PySem.W.isFn K (.ref (vf10 K)) && HK.funB K (vf10 K) "Patch.__init__" []),
  fun K => HK.propB2 K (vCP K) "number" (vp11 K) (vf11 K) && HK.funB K (vf11 K) "Patch.number" [],
  fun K => HK.propB2 K (vCC K) "number" (vp12 K) (vf12 K) && HK.funB K (vf12 K) "CarefulPatch.number" [],
  fun K => HK.propB2 K (vCS K) "number" (vp13 K) (vf13 K) && HK.funB K (vf13 K) "StrictPatch.number" [],
  fun K => HK.propB2 K (vCP K) "integer" (vp14 K) (vf14 K) && HK.funB K (vf14 K) "Patch.integer" [],
  fun K => HK.propB2 K (vCC K) "integer" (vp15 K) (vf15 K) && HK.funB K (vf15 K) "CarefulPatch.integer" [],
  fun K => HK.propB2 K (vCS K) "integer" (vp16 K) (vf16 K) && HK.funB K (vf16 K) "StrictPatch.integer" [],
  fun K => HK.propB2 K (vCP K) "saved" (vp17 K) (vf17 K) && HK.funB K (vf17 K) "Patch.saved" [],
  fun K => HK.propB2 K (vCC K) "saved" (vp18 K) (vf18 K) && HK.funB K (vf18 K) "CarefulPatch.saved" [],
  fun K => HK.propB2 K (vCS K) "saved" (vp19 K) (vf19 K) && HK.funB K (vf19 K) "StrictPatch.saved" [],
  fun K => HK.propB2 K (vCP K) "runs" (vp20 K) (vf20 K) && HK.funB K (vf20 K) "Patch.runs" [],
  fun K => HK.propB2 K (vCC K) "runs" (vp21 K) (vf21 K) && HK.funB K (vf21 K) "CarefulPatch.runs" [],
  fun K => HK.propB2 K (vCS K) "runs" (vp22 K) (vf22 K) && HK.funB K (vf22 K) "StrictPatch.runs" [],
  fun K => He.eqO (PySem.W.findIn K (.ref (vCP K)) "left_by_stop") (some (some (.ref (vf23 K)))) && (PySem.W.isFn K (.ref (vf23 K)) && HK.funB K (vf23 K) "Patch.left_by_stop" []),
  fun K => He.eqO (PySem.W.findIn K (.ref (vCC K)) "left_by_stop") (some (some (.ref (vf24 K)))) && (PySem.W.isFn K (.ref (vf24 K)) && (HK.supB K (PySem.Challenge.rw_latepatches_k25_events_tried).prog.main.file (vf24 K) "CarefulPatch.left_by_stop" (vCC K) && (decide (PySem.W.ks_superIn K (vCC K) (vCC K) "left_by_stop" = some (some (.ref (vf23 K)))) && (decide (PySem.W.typeIn K (.ref (vf23 K)) = some (.type "function")) && (PySem.W.fnIn K (vf23 K) && decide (PySem.W.mroIn K (vCC K) (.ref (vCC K)) = some true)))))),
  fun K => He.eqO (PySem.W.findIn K (.ref (vCS K)) "left_by_stop") (some (some (.ref (vf25 K)))) && (PySem.W.isFn K (.ref (vf25 K)) && (HK.supB K (PySem.Challenge.rw_latepatches_k25_events_tried).prog.main.file (vf25 K) "StrictPatch.left_by_stop" (vCS K) && (decide (PySem.W.ks_superIn K (vCS K) (vCS K) "left_by_stop" = some (some (.ref (vf23 K)))) && (decide (PySem.W.typeIn K (.ref (vf23 K)) = some (.type "function")) && (PySem.W.fnIn K (vf23 K) && decide (PySem.W.mroIn K (vCS K) (.ref (vCS K)) = some true)))))),
  fun K => He.eqO (PySem.W.findIn K (.ref (vCP K)) "start") (some (some (.ref (vf26 K)))) && (PySem.W.isFn K (.ref (vf26 K)) && HK.funB K (vf26 K) "Patch.start" []),
  fun K => He.eqO (PySem.W.findIn K (.ref (vCP K)) "stop") (some (some (.ref (vf27 K)))) && (PySem.W.isFn K (.ref (vf27 K)) && HK.funB K (vf27 K) "Patch.stop" []),
  fun K => He.eqO (PySem.W.findIn K (.ref (vCP K)) "described") (some (some (.ref (vf28 K)))) && (PySem.W.isFn K (.ref (vf28 K)) && HK.funB K (vf28 K) "Patch.described" []),
  fun K => He.eqO (PySem.W.findIn K (.ref (vCC K)) "start") (some (some (.ref (vf29 K)))) && (PySem.W.isFn K (.ref (vf29 K)) && (HK.supB K (PySem.Challenge.rw_latepatches_k25_events_tried).prog.main.file (vf29 K) "CarefulPatch.start" (vCC K) && (decide (PySem.W.ks_superIn K (vCC K) (vCC K) "start" = some (some (.ref (vf26 K)))) && (decide (PySem.W.typeIn K (.ref (vf26 K)) = some (.type "function")) && (PySem.W.fnIn K (vf26 K) && decide (PySem.W.mroIn K (vCC K) (.ref (vCC K)) = some true))))))]
def fs1 : List (PySem.W.Frag → Bool) := [fun K => He.eqO (PySem.W.findIn K (.ref (vCS K)) "start") (some (some (.ref (vf30 K)))) && (PySem.W.isFn K (.ref (vf30 K)) && (HK.supB K (PySem.Challenge.rw_latepatches_k25_events_tried).prog.main.file (vf30 K) "StrictPatch.start" (vCS K) && (decide (PySem.W.ks_superIn K (vCS K) (vCS K) "start" = some (some (.ref (vf26 K)))) && (decide (PySem.W.typeIn K (.ref (vf26 K)) = some (.type "function")) && (PySem.W.fnIn K (vf26 K) && decide (PySem.W.mroIn K (vCS K) (.ref (vCS K)) = some true)))))),
  fun K => He.eqO (PySem.W.findIn K (.ref (vCC K)) "stop") (some (some (.ref (vf31 K)))) && (PySem.W.isFn K (.ref (vf31 K)) && (HK.supB K (PySem.Challenge.rw_latepatches_k25_events_tried).prog.main.file (vf31 K) "CarefulPatch.stop" (vCC K) && (decide (PySem.W.ks_superIn K (vCC K) (vCC K) "stop" = some (some (.ref (vf27 K)))) && (decide (PySem.W.typeIn K (.ref (vf27 K)) = some (.type "function")) && (PySem.W.fnIn K (vf27 K) && decide (PySem.W.mroIn K (vCC K) (.ref (vCC K)) = some true)))))),
  fun K => He.eqO (PySem.W.findIn K (.ref (vCS K)) "stop") (some (some (.ref (vf32 K)))) && (PySem.W.isFn K (.ref (vf32 K)) && (HK.supB K (PySem.Challenge.rw_latepatches_k25_events_tried).prog.main.file (vf32 K) "StrictPatch.stop" (vCS K) && (decide (PySem.W.ks_superIn K (vCS K) (vCS K) "stop" = some (some (.ref (vf27 K)))) && (decide (PySem.W.typeIn K (.ref (vf27 K)) = some (.type "function")) && (PySem.W.fnIn K (vf27 K) && decide (PySem.W.mroIn K (vCS K) (.ref (vCS K)) = some true)))))),
  fun K => He.eqO (PySem.W.findIn K (.ref (vCC K)) "described") (some (some (.ref (vf33 K)))) && (PySem.W.isFn K (.ref (vf33 K)) && (HK.supB K (PySem.Challenge.rw_latepatches_k25_events_tried).prog.main.file (vf33 K) "CarefulPatch.described" (vCC K) && (decide (PySem.W.ks_superIn K (vCC K) (vCC K) "described" = some (some (.ref (vf28 K)))) && (decide (PySem.W.typeIn K (.ref (vf28 K)) = some (.type "function")) && (PySem.W.fnIn K (vf28 K) && decide (PySem.W.mroIn K (vCC K) (.ref (vCC K)) = some true)))))),
  fun K => He.eqO (PySem.W.findIn K (.ref (vCS K)) "described") (some (some (.ref (vf34 K)))) && (PySem.W.isFn K (.ref (vf34 K)) && (HK.supB K (PySem.Challenge.rw_latepatches_k25_events_tried).prog.main.file (vf34 K) "StrictPatch.described" (vCS K) && (decide (PySem.W.ks_superIn K (vCS K) (vCS K) "described" = some (some (.ref (vf28 K)))) && (decide (PySem.W.typeIn K (.ref (vf28 K)) = some (.type "function")) && (PySem.W.fnIn K (vf28 K) && decide (PySem.W.mroIn K (vCS K) (.ref (vCS K)) = some true)))))),
  fun K => He.eqO (PySem.W.findIn K (.ref (vCG K)) "__init__") (some (some (.ref (vf35 K)))) && (PySem.W.isFn K (.ref (vf35 K)) && HK.funB K (vf35 K) "Setting.__init__" [V.int 0]),
  fun K => HK.propB2 K (vCG K) "integer" (vp36 K) (vf36 K) && HK.funB K (vf36 K) "Setting.integer" [],
  fun K => HK.propB2 K (vCG K) "present" (vp37 K) (vf37 K) && HK.funB K (vf37 K) "Setting.present" [],
  fun K => HK.propB2 K (vCG K) "events" (vp38 K) (vf38 K) && HK.funB K (vf38 K) "Setting.events" [],
  fun K => HK.propB2 K (vCG K) "original" (vp39 K) (vf39 K) && HK.funB K (vf39 K) "Setting.original" [],
  fun K => He.eqO (PySem.W.findIn K (.ref (vCG K)) "__len__") (some (some (.ref (vf40 K)))) && (PySem.W.isFn K (.ref (vf40 K)) && HK.funB K (vf40 K) "Setting.__len__" []),
  fun K => He.eqO (PySem.W.findIn K (.ref (vCG K)) "_enlist") (some (some (.ref (vf41 K)))) && (PySem.W.isFn K (.ref (vf41 K)) && HK.funB K (vf41 K) "Setting._enlist" []),
  fun K => He.eqO (PySem.W.findIn K (.ref (vCG K)) "_keep") (some (some (.ref (vf42 K)))) && (PySem.W.isFn K (.ref (vf42 K)) && HK.funB K (vf42 K) "Setting._keep" []),
  fun K => He.eqO (PySem.W.findIn K (.ref (vCG K)) "patch") (some (some (.ref (vf43 K)))) && (PySem.W.isFn K (.ref (vf43 K)) && HK.funB K (vf43 K) "Setting.patch" []),
  fun K => He.eqO (PySem.W.findIn K (.ref (vCG K)) "careful") (some (some (.ref (vf44 K)))) && (PySem.W.isFn K (.ref (vf44 K)) && HK.funB K (vf44 K) "Setting.careful" []),
  fun K => He.eqO (PySem.W.findIn K (.ref (vCG K)) "strict") (some (some (.ref (vf45 K)))) && (PySem.W.isFn K (.ref (vf45 K)) && HK.funB K (vf45 K) "Setting.strict" []),
  fun K => He.eqO (PySem.W.findIn K (.ref (vCG K)) "undo") (some (some (.ref (vf46 K)))) && (PySem.W.isFn K (.ref (vf46 K)) && HK.funB K (vf46 K) "Setting.undo" []),
  fun K => He.eqO (PySem.W.nsIn K mainGlobals "_law_source") (some (some (.ref (vf47 K)))) && HK.funB K (vf47 K) "_law_source" [],
  fun K => He.eqO (PySem.W.nsIn K mainGlobals "_law_draw") (some (some (.ref (vf48 K)))) && HK.funB K (vf48 K) "_law_draw" [],
  fun K => He.eqO (PySem.W.nsIn K mainGlobals "_law_cells") (some (some (.ref (vf49 K)))) && HK.funB K (vf49 K) "_law_cells" [],
  fun K => He.eqO (PySem.W.nsIn K mainGlobals "_law_same") (some (some (.ref (vf50 K)))) && HK.funB K (vf50 K) "_law_same" [],
  fun K => He.eqO (PySem.W.nsIn K mainGlobals "_law_later") (some (some (.ref (vf51 K)))) && HK.funB K (vf51 K) "_law_later" [],
  fun K => He.eqO (PySem.W.nsIn K mainGlobals "_law_due") (some (some (.ref (vf52 K)))) && HK.funB K (vf52 K) "_law_due" [],
  fun K => He.eqO (PySem.W.nsIn K mainGlobals "_law_seen") (some (some (.ref (vf53 K)))) && HK.funB K (vf53 K) "_law_seen" [],
  fun K => He.eqO (PySem.W.nsIn K mainGlobals "_law_patches_right") (some (some (.ref (vf54 K)))) && HK.funB K (vf54 K) "_law_patches_right" [],
  fun K => He.eqO (PySem.W.nsIn K mainGlobals "_law_made") (some (some (.ref (vf55 K)))) && HK.funB K (vf55 K) "_law_made" [],
  fun K => He.eqO (PySem.W.nsIn K mainGlobals "_law_event") (some (some (.ref (vf56 K)))) && HK.funB K (vf56 K) "_law_event" [],
  fun K => He.eqO (PySem.W.nsIn K mainGlobals "_law_pressed") (some (some (.ref (vf57 K)))) && HK.funB K (vf57 K) "_law_pressed" [],
  fun K => He.eqO (PySem.W.nsIn K mainGlobals "are_integers") (some (some (.ref (vf58 K)))) && HK.funB K (vf58 K) "are_integers" [],
  fun K => He.eqO (PySem.W.nsIn K mainGlobals "are_events") (some (some (.ref (vf59 K)))) && HK.funB K (vf59 K) "are_events" []]
def fs2 : List (PySem.W.Frag → Bool) := [fun K => He.eqO (PySem.W.nsIn K mainGlobals "is_history") (some (some (.ref (vf60 K)))) && HK.funB K (vf60 K) "is_history" [],
  fun K => He.eqO (PySem.W.findIn K (.ref (vCR K)) "twin") (some (some (.ref (vf61 K)))) && (PySem.W.isFn K (.ref (vf61 K)) && HK.funB K (vf61 K) "Record.twin" []),
  fun K => He.eqO (PySem.W.findIn K (.ref (vCG K)) "_check_next") (some (some (.ref (vf62 K)))) && (PySem.W.isFn K (.ref (vf62 K)) && HK.funB K (vf62 K) "Setting._check_next" []),
  fun K => He.eqO (PySem.W.findIn K (.ref (vCG K)) "tried") (some (some (.ref (vf63 K)))) && (PySem.W.isFn K (.ref (vf63 K)) && HK.funB K (vf63 K) "Setting.tried" []),
  fun K => He.eqO (PySem.W.nsIn K mainGlobals "_law_error_name") (some (some (.ref (vf64 K)))) && HK.funB K (vf64 K) "_law_error_name" [],
  fun K => He.eqO (PySem.W.nsIn K mainGlobals "_law_refused") (some (some (.ref (vf65 K)))) && HK.funB K (vf65 K) "_law_refused" [],
  fun K => He.eqO (PySem.W.nsIn K mainGlobals "_law_tried") (some (some (.ref (vf66 K)))) && HK.funB K (vf66 K) "_law_tried" [],
  fun K => He.eqO (PySem.W.nsIn K mainGlobals "_law_outcome") (some (some (.ref (vf67 K)))) && HK.funB K (vf67 K) "_law_outcome" [],
  fun K => He.eqO (PySem.W.nsIn K mainGlobals "_law_line") (some (some (.ref (vf68 K)))) && HK.funB K (vf68 K) "_law_line" [],
  fun K => He.eqO (PySem.W.nsIn K mainGlobals "_law_holds") (some (some (.ref (vf69 K)))) && HK.funB K (vf69 K) "_law_holds" [],
  fun K => He.eqO (PySem.W.nsIn K mainGlobals "law") (some (some (.ref (vf70 K)))) && HK.funB K (vf70 K) "law" [],
  fun K => He.eqO (PySem.W.nsIn K mainGlobals "Record") (some (some (.ref (vCR K)))) && (PySem.W.plainGet K (vCR K) Str.empty && (PySem.W.hasDictIn K (vCR K) && (PySem.W.plainOver K (vCR K) && (He.eqO (PySem.W.findIn K (.ref (vCR K)) "__setattr__") (some (some (.builtin "object.__setattr__"))) && (PySem.W.makesIn K (vCR K) && PySem.W.keepIn K (.ref (vCR K))))))),
  fun K => He.eqO (PySem.W.findIn K (.ref (vCR K)) "integers") (some none),
  fun K => He.eqO (PySem.W.findIn K (.ref (vCR K)) "past") (some none),
  fun K => He.eqO (PySem.W.findIn K (.ref (vCR K)) "presents") (some none),
  fun K => He.eqO (PySem.W.nsIn K mainGlobals "Patch") (some (some (.ref (vCP K)))) && (PySem.W.plainGet K (vCP K) Str.empty && (PySem.W.hasDictIn K (vCP K) && (PySem.W.plainOver K (vCP K) && (He.eqO (PySem.W.findIn K (.ref (vCP K)) "__setattr__") (some (some (.builtin "object.__setattr__"))) && (PySem.W.makesIn K (vCP K) && PySem.W.keepIn K (.ref (vCP K))))))),
  fun K => He.eqO (PySem.W.findIn K (.ref (vCP K)) "_record") (some none),
  fun K => He.eqO (PySem.W.findIn K (.ref (vCP K)) "_number") (some none),
  fun K => He.eqO (PySem.W.nsIn K mainGlobals "CarefulPatch") (some (some (.ref (vCC K)))) && (PySem.W.plainGet K (vCC K) Str.empty && (PySem.W.hasDictIn K (vCC K) && (PySem.W.plainOver K (vCC K) && (He.eqO (PySem.W.findIn K (.ref (vCC K)) "__setattr__") (some (some (.builtin "object.__setattr__"))) && (PySem.W.makesIn K (vCC K) && PySem.W.keepIn K (.ref (vCC K))))))),
  fun K => He.eqO (PySem.W.findIn K (.ref (vCC K)) "_record") (some none),
  fun K => He.eqO (PySem.W.findIn K (.ref (vCC K)) "_number") (some none),
  fun K => He.eqO (PySem.W.nsIn K mainGlobals "StrictPatch") (some (some (.ref (vCS K)))) && (PySem.W.plainGet K (vCS K) Str.empty && (PySem.W.hasDictIn K (vCS K) && (PySem.W.plainOver K (vCS K) && (He.eqO (PySem.W.findIn K (.ref (vCS K)) "__setattr__") (some (some (.builtin "object.__setattr__"))) && (PySem.W.makesIn K (vCS K) && PySem.W.keepIn K (.ref (vCS K))))))),
  fun K => He.eqO (PySem.W.findIn K (.ref (vCS K)) "_record") (some none),
  fun K => He.eqO (PySem.W.findIn K (.ref (vCS K)) "_number") (some none),
  fun K => He.eqO (PySem.W.nsIn K mainGlobals "Setting") (some (some (.ref (vCG K)))) && (PySem.W.plainGet K (vCG K) Str.empty && (PySem.W.hasDictIn K (vCG K) && (PySem.W.plainOver K (vCG K) && (He.eqO (PySem.W.findIn K (.ref (vCG K)) "__setattr__") (some (some (.builtin "object.__setattr__"))) && (PySem.W.makesIn K (vCG K) && PySem.W.keepIn K (.ref (vCG K))))))),
  fun K => He.eqO (PySem.W.findIn K (.ref (vCG K)) "_record") (some none),
  fun K => He.eqO (PySem.W.findIn K (.ref (vCG K)) "_patches") (some none),
  fun K => (He.Fa.int "FARTHEST" 1000000000000000000000000000000).ok K,
  fun K => (He.Fa.int "LAST_PATCH" 100).ok K,
  fun K => (He.Fa.int "MOST_EVENTS" 200).ok K]
def fs3 : List (PySem.W.Frag → Bool) := [fun K => He.eqO (PySem.W.nsIn K mainGlobals "len") (some none),
  fun K => He.eqO (PySem.W.nsIn K mainGlobals "list") (some none),
  fun K => He.eqO (PySem.W.nsIn K mainGlobals "int") (some none),
  fun K => He.eqO (PySem.W.nsIn K mainGlobals "bool") (some none),
  fun K => He.eqO (PySem.W.nsIn K mainGlobals "str") (some none),
  fun K => He.eqO (PySem.W.nsIn K mainGlobals "tuple") (some none),
  fun K => He.eqO (PySem.W.nsIn K mainGlobals "max") (some none),
  fun K => He.eqO (PySem.W.nsIn K mainGlobals "min") (some none),
  fun K => He.eqO (PySem.W.nsIn K mainGlobals "range") (some none),
  fun K => He.eqO (PySem.W.nsIn K mainGlobals "repr") (some none),
  fun K => He.eqO (PySem.W.nsIn K mainGlobals "isinstance") (some none),
  fun K => He.eqO (PySem.W.nsIn K mainGlobals "type") (some none),
  fun K => He.eqO (PySem.W.nsIn K mainGlobals "all") (some none),
  fun K => He.eqO (PySem.W.nsIn K mainGlobals "set") (some none),
  fun K => He.eqO (PySem.W.nsIn K mainGlobals "zip") (some none),
  fun K => He.eqO (PySem.W.nsIn K mainGlobals "enumerate") (some none),
  fun K => He.eqO (PySem.W.nsIn K mainGlobals "sorted") (some none),
  fun K => He.eqO (PySem.W.nsIn K mainGlobals "abs") (some none),
  fun K => He.eqO (PySem.W.nsIn K mainGlobals "super") (some none),
  fun K => He.eqO (PySem.W.nsIn K mainGlobals "dict") (some none),
  fun K => He.eqO (PySem.W.nsIn K mainGlobals "ValueError") (some none),
  fun K => decide (PySem.W.nsIn K cStatics "thirdparty.any" = some none),
  fun K => PySem.W.readsIn K (vCG K) (.type "type"),
  fun K => decide (PySem.W.specialIn K (.ref (vCG K)) "__getattribute__" = some (some (.builtin "type.__getattribute__"))),
  fun K => HK.conI K (vCG K) "MOST" 100,
  fun K => decide (PySem.W.findIn K (.ref (vCC K)) "__init__" = some (some (.ref (vf10 K)))),
  fun K => decide (PySem.W.findIn K (.ref (vCS K)) "__init__" = some (some (.ref (vf10 K)))),
  fun K => decide (PySem.W.nsIn K mainGlobals "EmptyHistoryError" = some (some (.ref (vC0 K)))),
  fun K => PySem.W.excIn K (vC0 K) [.type "ValueError", .type "Exception", .type "BaseException", .type "object"] "ValueError.__new__",
  fun K => PySem.W.keepIn K (.ref (vC0 K))]
def fs4 : List (PySem.W.Frag → Bool) := [fun K => decide (PySem.W.nsIn K mainGlobals "FullError" = some (some (.ref (vC1 K)))),
  fun K => PySem.W.excIn K (vC1 K) [.type "ValueError", .type "Exception", .type "BaseException", .type "object"] "ValueError.__new__",
  fun K => PySem.W.keepIn K (.ref (vC1 K)),
  fun K => decide (PySem.W.nsIn K mainGlobals "InvalidFormatError" = some (some (.ref (vC2 K)))),
  fun K => PySem.W.excIn K (vC2 K) [.type "ValueError", .type "Exception", .type "BaseException", .type "object"] "ValueError.__new__",
  fun K => PySem.W.keepIn K (.ref (vC2 K)),
  fun K => decide (PySem.W.nsIn K mainGlobals "InvalidHistoryError" = some (some (.ref (vC3 K)))),
  fun K => PySem.W.excIn K (vC3 K) [.type "ValueError", .type "Exception", .type "BaseException", .type "object"] "ValueError.__new__",
  fun K => PySem.W.keepIn K (.ref (vC3 K)),
  fun K => decide (PySem.W.nsIn K mainGlobals "InvalidNumberError" = some (some (.ref (vC4 K)))),
  fun K => PySem.W.excIn K (vC4 K) [.type "ValueError", .type "Exception", .type "BaseException", .type "object"] "ValueError.__new__",
  fun K => PySem.W.keepIn K (.ref (vC4 K)),
  fun K => decide (PySem.W.nsIn K mainGlobals "InvalidOrderError" = some (some (.ref (vC5 K)))),
  fun K => PySem.W.excIn K (vC5 K) [.type "ValueError", .type "Exception", .type "BaseException", .type "object"] "ValueError.__new__",
  fun K => PySem.W.keepIn K (.ref (vC5 K)),
  fun K => decide (PySem.W.nsIn K mainGlobals "InvalidPatchError" = some (some (.ref (vC6 K)))),
  fun K => PySem.W.excIn K (vC6 K) [.type "ValueError", .type "Exception", .type "BaseException", .type "object"] "ValueError.__new__",
  fun K => PySem.W.keepIn K (.ref (vC6 K)),
  fun K => decide (PySem.W.nsIn K mainGlobals "InvalidPieceError" = some (some (.ref (vC7 K)))),
  fun K => PySem.W.excIn K (vC7 K) [.type "ValueError", .type "Exception", .type "BaseException", .type "object"] "ValueError.__new__",
  fun K => PySem.W.keepIn K (.ref (vC7 K)),
  fun K => decide (PySem.W.nsIn K mainGlobals "InvalidPresentsError" = some (some (.ref (vC8 K)))),
  fun K => PySem.W.excIn K (vC8 K) [.type "ValueError", .type "Exception", .type "BaseException", .type "object"] "ValueError.__new__",
  fun K => PySem.W.keepIn K (.ref (vC8 K)),
  fun K => decide (PySem.W.nsIn K mainGlobals "InvalidShapeError" = some (some (.ref (vC9 K)))),
  fun K => PySem.W.excIn K (vC9 K) [.type "ValueError", .type "Exception", .type "BaseException", .type "object"] "ValueError.__new__",
  fun K => PySem.W.keepIn K (.ref (vC9 K)),
  fun K => decide (PySem.W.nsIn K mainGlobals "InvalidStateError" = some (some (.ref (vC10 K)))),
  fun K => PySem.W.excIn K (vC10 K) [.type "ValueError", .type "Exception", .type "BaseException", .type "object"] "ValueError.__new__",
  fun K => PySem.W.keepIn K (.ref (vC10 K))]
def fs5 : List (PySem.W.Frag → Bool) := [fun K => decide (PySem.W.nsIn K mainGlobals "InvalidTouchesError" = some (some (.ref (vC11 K)))),
  fun K => PySem.W.excIn K (vC11 K) [.type "ValueError", .type "Exception", .type "BaseException", .type "object"] "ValueError.__new__",
  fun K => PySem.W.keepIn K (.ref (vC11 K)),
  fun K => decide (PySem.W.nsIn K mainGlobals "InvalidValueError" = some (some (.ref (vC12 K)))),
  fun K => PySem.W.excIn K (vC12 K) [.type "ValueError", .type "Exception", .type "BaseException", .type "object"] "ValueError.__new__",
  fun K => PySem.W.keepIn K (.ref (vC12 K)),
  fun K => decide (PySem.W.nsIn K mainGlobals "MismatchError" = some (some (.ref (vC13 K)))),
  fun K => PySem.W.excIn K (vC13 K) [.type "ValueError", .type "Exception", .type "BaseException", .type "object"] "ValueError.__new__",
  fun K => PySem.W.keepIn K (.ref (vC13 K)),
  fun K => decide (PySem.W.nsIn K mainGlobals "NotRunningError" = some (some (.ref (vC14 K)))),
  fun K => PySem.W.excIn K (vC14 K) [.type "ValueError", .type "Exception", .type "BaseException", .type "object"] "ValueError.__new__",
  fun K => PySem.W.keepIn K (.ref (vC14 K)),
  fun K => decide (PySem.W.nsIn K mainGlobals "OutOfOrderError" = some (some (.ref (vC15 K)))),
  fun K => PySem.W.excIn K (vC15 K) [.type "ValueError", .type "Exception", .type "BaseException", .type "object"] "ValueError.__new__",
  fun K => PySem.W.keepIn K (.ref (vC15 K)),
  fun K => decide (PySem.W.nsIn K mainGlobals "StartedError" = some (some (.ref (vC16 K)))),
  fun K => PySem.W.excIn K (vC16 K) [.type "ValueError", .type "Exception", .type "BaseException", .type "object"] "ValueError.__new__",
  fun K => PySem.W.keepIn K (.ref (vC16 K)),
  fun K => decide (PySem.W.nsIn K mainGlobals "LatepatchError" = some (some (.ref (vC17 K)))),
  fun K => PySem.W.excIn K (vC17 K) [.type "ValueError", .type "Exception", .type "BaseException", .type "object"] "ValueError.__new__",
  fun K => PySem.W.keepIn K (.ref (vC17 K)),
  fun K => ((List.range 18).all fun d => ecB K ((Ex [(vC0 K), (vC1 K), (vC2 K), (vC3 K), (vC4 K), (vC5 K), (vC6 K), (vC7 K), (vC8 K), (vC9 K), (vC10 K), (vC11 K), (vC12 K), (vC13 K), (vC14 K), (vC15 K), (vC16 K), (vC17 K)]) d)),
  fun K => ((List.range 18).all fun d => tyB K ((Ex [(vC0 K), (vC1 K), (vC2 K), (vC3 K), (vC4 K), (vC5 K), (vC6 K), (vC7 K), (vC8 K), (vC9 K), (vC10 K), (vC11 K), (vC12 K), (vC13 K), (vC14 K), (vC15 K), (vC16 K), (vC17 K)]) d)),
  fun K => ((List.range 18).all fun d => (List.range 17).all fun j => decide (PySem.W.subIn K (.ref ((Ex [(vC0 K), (vC1 K), (vC2 K), (vC3 K), (vC4 K), (vC5 K), (vC6 K), (vC7 K), (vC8 K), (vC9 K), (vC10 K), (vC11 K), (vC12 K), (vC13 K), (vC14 K), (vC15 K), (vC16 K), (vC17 K)]) d)) (.ref ((Ex [(vC0 K), (vC1 K), (vC2 K), (vC3 K), (vC4 K), (vC5 K), (vC6 K), (vC7 K), (vC8 K), (vC9 K), (vC10 K), (vC11 K), (vC12 K), (vC13 K), (vC14 K), (vC15 K), (vC16 K), (vC17 K)]) j)) = some (decide (j = d)))),
  fun K => ((List.range 18).all fun d => decide (PySem.W.subIn K (.ref ((Ex [(vC0 K), (vC1 K), (vC2 K), (vC3 K), (vC4 K), (vC5 K), (vC6 K), (vC7 K), (vC8 K), (vC9 K), (vC10 K), (vC11 K), (vC12 K), (vC13 K), (vC14 K), (vC15 K), (vC16 K), (vC17 K)]) d)) (.ref ((Ex [(vC0 K), (vC1 K), (vC2 K), (vC3 K), (vC4 K), (vC5 K), (vC6 K), (vC7 K), (vC8 K), (vC9 K), (vC10 K), (vC11 K), (vC12 K), (vC13 K), (vC14 K), (vC15 K), (vC16 K), (vC17 K)]) 17)) = some true)),
  fun K => decide (PySem.W.specialIn K (.builtin "object.__class__") "__get__" = some (some (.builtin "getset_descriptor.__get__"))),
  fun K => decide (PySem.W.takesIn K (.builtin "object.__class__") = some true)]
def fs : List (PySem.W.Frag → Bool) := fs0 ++ (fs1 ++ (fs2 ++ (fs3 ++ (fs4 ++ (fs5)))))
def nms0 : List PySem.Str := ["__name__",
  "LatepatchError",
  "InvalidHistoryError",
  "InvalidPatchError",
  "InvalidValueError",
  "InvalidPresentsError",
  "InvalidShapeError",
  "InvalidNumberError",
  "InvalidOrderError",
  "InvalidPieceError",
  "InvalidStateError",
  "InvalidTouchesError",
  "InvalidFormatError",
  "MismatchError",
  "FullError",
  "StartedError",
  "NotRunningError",
  "OutOfOrderError",
  "EmptyHistoryError",
  "FARTHEST",
  "is_integer",
  "is_integer_within",
  "are_integers",
  "check_number",
  "check_settable",
  "LAST_PATCH",
  "MOST_EVENTS",
  "are_events",
  "is_history",
  "Record"]
def nms1 : List PySem.Str := ["Patch",
  "CarefulPatch",
  "StrictPatch",
  "Setting",
  "_law_source",
  "_law_draw",
  "_law_cells",
  "_law_same",
  "_law_later",
  "_law_due",
  "_law_seen",
  "_law_patches_right",
  "_law_made",
  "_law_event",
  "_law_pressed",
  "_law_error_name",
  "_law_refused",
  "_law_tried",
  "_law_outcome",
  "_law_line",
  "_law_holds"]
def nms : List PySem.Str := nms0 ++ (nms1)
abbrev Rw : PySem.W.OpenRow := PySem.W.OpenLaw.row PySem.Challenge.rw_latepatches_k25_events_tried
def pres0 : List Addr := [337,
  418,
  497,
  574,
  689,
  229,
  181,
  157,
  37,
  97,
  109,
  49,
  121,
  73,
  85,
  133,
  145,
  61,
  169,
  205,
  217,
  193,
  24,
  336,
  417,
  496,
  573,
  688,
  228,
  180,
  156,
  36,
  96,
  108,
  48,
  120,
  72,
  84,
  132,
  144]
def pres1 : List Addr := [60,
  168,
  204,
  216,
  192,
  23,
  238,
  237,
  245,
  244,
  257,
  256,
  264,
  263,
  292,
  291,
  306,
  305,
  313,
  312,
  320,
  319,
  327,
  326,
  334,
  333,
  355,
  354,
  363,
  362,
  361,
  438,
  437,
  436,
  515,
  514,
  513,
  371,
  370,
  369]
def pres2 : List Addr := [446,
  445,
  444,
  523,
  522,
  521,
  379,
  378,
  377,
  454,
  453,
  452,
  531,
  530,
  529,
  387,
  386,
  385,
  462,
  461,
  460,
  539,
  538,
  537,
  408,
  407,
  486,
  485,
  563,
  562,
  394,
  393,
  401,
  400,
  415,
  414,
  470,
  469,
  547,
  546]
def pres3 : List Addr := [478,
  477,
  555,
  554,
  494,
  493,
  571,
  570,
  591,
  590,
  599,
  598,
  597,
  607,
  606,
  605,
  615,
  614,
  613,
  623,
  622,
  621,
  665,
  664,
  672,
  671,
  679,
  678,
  630,
  629,
  637,
  636,
  644,
  643,
  651,
  650,
  700,
  699,
  707,
  706]
def pres4 : List Addr := [714,
  713,
  719,
  718,
  726,
  725,
  733,
  732,
  740,
  739,
  745,
  744,
  752,
  751,
  757,
  756,
  764,
  763,
  250,
  249,
  271,
  270,
  278,
  277,
  299,
  298,
  686,
  685,
  658,
  657,
  769,
  768,
  776,
  775,
  783,
  782,
  790,
  789,
  797,
  796]
def pres5 : List Addr := [804,
  803,
  811,
  810]
def pres : List Addr := pres0 ++ (pres1 ++ (pres2 ++ (pres3 ++ (pres4 ++ (pres5)))))
abbrev hk : PySem.W.Hook := HK.hookP pres 850 fs ds
def ob (s : PySem.W.SharedT) : HK.Al := HK.obsKP pres 850 fs ds (HandSHeadRun.getT s)
theorem ob_eq (s : PySem.W.SharedT) : ob s = hk.obs s.abs := HK.obsKP_eq (HandSHeadRun.getT_eq s)
theorem run (w : World) : HandSHeadRun.RunEq Rw (PySem.W.view Rw.prog [55]) hk ob 40000 nms w := by
  intro os
  kernel_rfl
set_option maxHeartbeats 0 in
theorem facts {w : World} {K : PySem.W.Frag} {h : Heap} {mg : Str → Option Value} {fa : Addr} (X : K.In h) (G : h.Ns mainGlobals mg) (hfa : mg ("law" : Str) = some (.ref fa)) (c : HK.SaysK fs ds K) :
    ∃ fd : FuncData, (∀ (s : Shared) (v : Value), BindsTo s fd ⟨[v], []⟩ [("script", v)]) ∧ ∀ base : Heap, K.In base → base.Ns mainGlobals mg → FnG (PySem.Challenge.rw_latepatches_k25_events_tried).prog w K mg base CX0 13 fa fd ["script"] (spLaw K) := by
  have h0 := He.ba (c.fact 0 rfl)
  have a0 : PySem.W.nsIn K mainGlobals "is_integer" = some (some (.ref (vf0 K))) := He.eqO_ok h0.1
  have h1 := He.ba (c.fact 1 rfl)
  have a1 : PySem.W.nsIn K mainGlobals "is_integer_within" = some (some (.ref (vf1 K))) := He.eqO_ok h1.1
  have h2 := He.ba (c.fact 2 rfl)
  have a2 : PySem.W.nsIn K mainGlobals "check_number" = some (some (.ref (vf2 K))) := He.eqO_ok h2.1
  have h3 := He.ba (c.fact 3 rfl)
  have a3 : PySem.W.nsIn K mainGlobals "check_settable" = some (some (.ref (vf3 K))) := He.eqO_ok h3.1
  have h4 := He.ba (c.fact 4 rfl)
  have a4 : PySem.W.findIn K (.ref (vCR K)) "__init__" = some (some (.ref (vf4 K))) := He.eqO_ok h4.1
  have i4 : PySem.W.isFn K (.ref (vf4 K)) = true := (He.ba h4.2).1
  have h4 := And.intro h4.1 (He.ba h4.2).2
  have h5 := He.ba (c.fact 5 rfl)
  have a5 : PySem.W.findIn K (.ref (vCR K)) "integer_now" = some (some (.ref (vf5 K))) := He.eqO_ok h5.1
  have i5 : PySem.W.isFn K (.ref (vf5 K)) = true := (He.ba h5.2).1
  have h5 := And.intro h5.1 (He.ba h5.2).2
  have h6 := He.ba (c.fact 6 rfl)
  have a6 : PySem.W.findIn K (.ref (vCR K)) "found_by" = some (some (.ref (vf6 K))) := He.eqO_ok h6.1
  have i6 : PySem.W.isFn K (.ref (vf6 K)) = true := (He.ba h6.2).1
  have h6 := And.intro h6.1 (He.ba h6.2).2
  have h7 := He.ba (c.fact 7 rfl)
  have a7 : PySem.W.findIn K (.ref (vCR K)) "is_running" = some (some (.ref (vf7 K))) := He.eqO_ok h7.1
  have i7 : PySem.W.isFn K (.ref (vf7 K)) = true := (He.ba h7.2).1
  have h7 := And.intro h7.1 (He.ba h7.2).2
  have h8 := He.ba (c.fact 8 rfl)
  have a8 : PySem.W.findIn K (.ref (vCR K)) "go_on_by" = some (some (.ref (vf8 K))) := He.eqO_ok h8.1
  have i8 : PySem.W.isFn K (.ref (vf8 K)) = true := (He.ba h8.2).1
  have h8 := And.intro h8.1 (He.ba h8.2).2
  have h9 := He.ba (c.fact 9 rfl)
  have a9 : PySem.W.findIn K (.ref (vCR K)) "go_back" = some (some (.ref (vf9 K))) := He.eqO_ok h9.1
  have i9 : PySem.W.isFn K (.ref (vf9 K)) = true := (He.ba h9.2).1
  have h9 := And.intro h9.1 (He.ba h9.2).2
  have h10 := He.ba (c.fact 10 rfl)
  have a10 : PySem.W.findIn K (.ref (vCP K)) "__init__" = some (some (.ref (vf10 K))) := He.eqO_ok h10.1
  have i10 : PySem.W.isFn K (.ref (vf10 K)) = true := (He.ba h10.2).1
  have h10 := And.intro h10.1 (He.ba h10.2).2
  have h11 := He.ba (c.fact 11 rfl)
  have pp11 : PropOf K (vCP K) "number" (vp11 K) (vf11 K) := HK.prop_ok2 h11.1
  have h12 := He.ba (c.fact 12 rfl)
  have pp12 : PropOf K (vCC K) "number" (vp12 K) (vf12 K) := HK.prop_ok2 h12.1
  have h13 := He.ba (c.fact 13 rfl)
  have pp13 : PropOf K (vCS K) "number" (vp13 K) (vf13 K) := HK.prop_ok2 h13.1
  have h14 := He.ba (c.fact 14 rfl)
  have pp14 : PropOf K (vCP K) "integer" (vp14 K) (vf14 K) := HK.prop_ok2 h14.1
  have h15 := He.ba (c.fact 15 rfl)
  have pp15 : PropOf K (vCC K) "integer" (vp15 K) (vf15 K) := HK.prop_ok2 h15.1
  have h16 := He.ba (c.fact 16 rfl)
  have pp16 : PropOf K (vCS K) "integer" (vp16 K) (vf16 K) := HK.prop_ok2 h16.1
  have h17 := He.ba (c.fact 17 rfl)
  have pp17 : PropOf K (vCP K) "saved" (vp17 K) (vf17 K) := HK.prop_ok2 h17.1
  have h18 := He.ba (c.fact 18 rfl)
  have pp18 : PropOf K (vCC K) "saved" (vp18 K) (vf18 K) := HK.prop_ok2 h18.1
  have h19 := He.ba (c.fact 19 rfl)
  have pp19 : PropOf K (vCS K) "saved" (vp19 K) (vf19 K) := HK.prop_ok2 h19.1
  have h20 := He.ba (c.fact 20 rfl)
  have pp20 : PropOf K (vCP K) "runs" (vp20 K) (vf20 K) := HK.prop_ok2 h20.1
  have h21 := He.ba (c.fact 21 rfl)
  have pp21 : PropOf K (vCC K) "runs" (vp21 K) (vf21 K) := HK.prop_ok2 h21.1
  have h22 := He.ba (c.fact 22 rfl)
  have pp22 : PropOf K (vCS K) "runs" (vp22 K) (vf22 K) := HK.prop_ok2 h22.1
  have h23 := He.ba (c.fact 23 rfl)
  have a23 : PySem.W.findIn K (.ref (vCP K)) "left_by_stop" = some (some (.ref (vf23 K))) := He.eqO_ok h23.1
  have i23 : PySem.W.isFn K (.ref (vf23 K)) = true := (He.ba h23.2).1
  have h23 := And.intro h23.1 (He.ba h23.2).2
  have h24 := He.ba (c.fact 24 rfl)
  have a24 : PySem.W.findIn K (.ref (vCC K)) "left_by_stop" = some (some (.ref (vf24 K))) := He.eqO_ok h24.1
  have i24 : PySem.W.isFn K (.ref (vf24 K)) = true := (He.ba h24.2).1
  have hs24 := He.ba (He.ba h24.2).2
  have ht24 := He.ba hs24.2
  have hu24 := He.ba ht24.2
  have hv24 := He.ba hu24.2
  have h25 := He.ba (c.fact 25 rfl)
  have a25 : PySem.W.findIn K (.ref (vCS K)) "left_by_stop" = some (some (.ref (vf25 K))) := He.eqO_ok h25.1
  have i25 : PySem.W.isFn K (.ref (vf25 K)) = true := (He.ba h25.2).1
  have hs25 := He.ba (He.ba h25.2).2
  have ht25 := He.ba hs25.2
  have hu25 := He.ba ht25.2
  have hv25 := He.ba hu25.2
  have h26 := He.ba (c.fact 26 rfl)
  have a26 : PySem.W.findIn K (.ref (vCP K)) "start" = some (some (.ref (vf26 K))) := He.eqO_ok h26.1
  have i26 : PySem.W.isFn K (.ref (vf26 K)) = true := (He.ba h26.2).1
  have h26 := And.intro h26.1 (He.ba h26.2).2
  have h27 := He.ba (c.fact 27 rfl)
  have a27 : PySem.W.findIn K (.ref (vCP K)) "stop" = some (some (.ref (vf27 K))) := He.eqO_ok h27.1
  have i27 : PySem.W.isFn K (.ref (vf27 K)) = true := (He.ba h27.2).1
  have h27 := And.intro h27.1 (He.ba h27.2).2
  have h28 := He.ba (c.fact 28 rfl)
  have a28 : PySem.W.findIn K (.ref (vCP K)) "described" = some (some (.ref (vf28 K))) := He.eqO_ok h28.1
  have i28 : PySem.W.isFn K (.ref (vf28 K)) = true := (He.ba h28.2).1
  have h28 := And.intro h28.1 (He.ba h28.2).2
  have h29 := He.ba (c.fact 29 rfl)
  have a29 : PySem.W.findIn K (.ref (vCC K)) "start" = some (some (.ref (vf29 K))) := He.eqO_ok h29.1
  have i29 : PySem.W.isFn K (.ref (vf29 K)) = true := (He.ba h29.2).1
  have hs29 := He.ba (He.ba h29.2).2
  have ht29 := He.ba hs29.2
  have hu29 := He.ba ht29.2
  have hv29 := He.ba hu29.2
  have h30 := He.ba (c.fact 30 rfl)
  have a30 : PySem.W.findIn K (.ref (vCS K)) "start" = some (some (.ref (vf30 K))) := He.eqO_ok h30.1
  have i30 : PySem.W.isFn K (.ref (vf30 K)) = true := (He.ba h30.2).1
  have hs30 := He.ba (He.ba h30.2).2
  have ht30 := He.ba hs30.2
  have hu30 := He.ba ht30.2
  have hv30 := He.ba hu30.2
  have h31 := He.ba (c.fact 31 rfl)
  have a31 : PySem.W.findIn K (.ref (vCC K)) "stop" = some (some (.ref (vf31 K))) := He.eqO_ok h31.1
  have i31 : PySem.W.isFn K (.ref (vf31 K)) = true := (He.ba h31.2).1
  have hs31 := He.ba (He.ba h31.2).2
  have ht31 := He.ba hs31.2
  have hu31 := He.ba ht31.2
  have hv31 := He.ba hu31.2
  have h32 := He.ba (c.fact 32 rfl)
  have a32 : PySem.W.findIn K (.ref (vCS K)) "stop" = some (some (.ref (vf32 K))) := He.eqO_ok h32.1
  have i32 : PySem.W.isFn K (.ref (vf32 K)) = true := (He.ba h32.2).1
  have hs32 := He.ba (He.ba h32.2).2
  have ht32 := He.ba hs32.2
  have hu32 := He.ba ht32.2
  have hv32 := He.ba hu32.2
  have h33 := He.ba (c.fact 33 rfl)
  have a33 : PySem.W.findIn K (.ref (vCC K)) "described" = some (some (.ref (vf33 K))) := He.eqO_ok h33.1
  have i33 : PySem.W.isFn K (.ref (vf33 K)) = true := (He.ba h33.2).1
  have hs33 := He.ba (He.ba h33.2).2
  have ht33 := He.ba hs33.2
  have hu33 := He.ba ht33.2
  have hv33 := He.ba hu33.2
  have h34 := He.ba (c.fact 34 rfl)
  have a34 : PySem.W.findIn K (.ref (vCS K)) "described" = some (some (.ref (vf34 K))) := He.eqO_ok h34.1
  have i34 : PySem.W.isFn K (.ref (vf34 K)) = true := (He.ba h34.2).1
  have hs34 := He.ba (He.ba h34.2).2
  have ht34 := He.ba hs34.2
  have hu34 := He.ba ht34.2
  have hv34 := He.ba hu34.2
  have h35 := He.ba (c.fact 35 rfl)
  have a35 : PySem.W.findIn K (.ref (vCG K)) "__init__" = some (some (.ref (vf35 K))) := He.eqO_ok h35.1
  have i35 : PySem.W.isFn K (.ref (vf35 K)) = true := (He.ba h35.2).1
  have h35 := And.intro h35.1 (He.ba h35.2).2
  have h36 := He.ba (c.fact 36 rfl)
  have pp36 : PropOf K (vCG K) "integer" (vp36 K) (vf36 K) := HK.prop_ok2 h36.1
  have h37 := He.ba (c.fact 37 rfl)
  have pp37 : PropOf K (vCG K) "present" (vp37 K) (vf37 K) := HK.prop_ok2 h37.1
  have h38 := He.ba (c.fact 38 rfl)
  have pp38 : PropOf K (vCG K) "events" (vp38 K) (vf38 K) := HK.prop_ok2 h38.1
  have h39 := He.ba (c.fact 39 rfl)
  have pp39 : PropOf K (vCG K) "original" (vp39 K) (vf39 K) := HK.prop_ok2 h39.1
  have h40 := He.ba (c.fact 40 rfl)
  have a40 : PySem.W.findIn K (.ref (vCG K)) "__len__" = some (some (.ref (vf40 K))) := He.eqO_ok h40.1
  have i40 : PySem.W.isFn K (.ref (vf40 K)) = true := (He.ba h40.2).1
  have h40 := And.intro h40.1 (He.ba h40.2).2
  have h41 := He.ba (c.fact 41 rfl)
  have a41 : PySem.W.findIn K (.ref (vCG K)) "_enlist" = some (some (.ref (vf41 K))) := He.eqO_ok h41.1
  have i41 : PySem.W.isFn K (.ref (vf41 K)) = true := (He.ba h41.2).1
  have h41 := And.intro h41.1 (He.ba h41.2).2
  have h42 := He.ba (c.fact 42 rfl)
  have a42 : PySem.W.findIn K (.ref (vCG K)) "_keep" = some (some (.ref (vf42 K))) := He.eqO_ok h42.1
  have i42 : PySem.W.isFn K (.ref (vf42 K)) = true := (He.ba h42.2).1
  have h42 := And.intro h42.1 (He.ba h42.2).2
  have h43 := He.ba (c.fact 43 rfl)
  have a43 : PySem.W.findIn K (.ref (vCG K)) "patch" = some (some (.ref (vf43 K))) := He.eqO_ok h43.1
  have i43 : PySem.W.isFn K (.ref (vf43 K)) = true := (He.ba h43.2).1
  have h43 := And.intro h43.1 (He.ba h43.2).2
  have h44 := He.ba (c.fact 44 rfl)
  have a44 : PySem.W.findIn K (.ref (vCG K)) "careful" = some (some (.ref (vf44 K))) := He.eqO_ok h44.1
  have i44 : PySem.W.isFn K (.ref (vf44 K)) = true := (He.ba h44.2).1
  have h44 := And.intro h44.1 (He.ba h44.2).2
  have h45 := He.ba (c.fact 45 rfl)
  have a45 : PySem.W.findIn K (.ref (vCG K)) "strict" = some (some (.ref (vf45 K))) := He.eqO_ok h45.1
  have i45 : PySem.W.isFn K (.ref (vf45 K)) = true := (He.ba h45.2).1
  have h45 := And.intro h45.1 (He.ba h45.2).2
  have h46 := He.ba (c.fact 46 rfl)
  have a46 : PySem.W.findIn K (.ref (vCG K)) "undo" = some (some (.ref (vf46 K))) := He.eqO_ok h46.1
  have i46 : PySem.W.isFn K (.ref (vf46 K)) = true := (He.ba h46.2).1
  have h46 := And.intro h46.1 (He.ba h46.2).2
  have h47 := He.ba (c.fact 47 rfl)
  have a47 : PySem.W.nsIn K mainGlobals "_law_source" = some (some (.ref (vf47 K))) := He.eqO_ok h47.1
  have h48 := He.ba (c.fact 48 rfl)
  have a48 : PySem.W.nsIn K mainGlobals "_law_draw" = some (some (.ref (vf48 K))) := He.eqO_ok h48.1
  have h49 := He.ba (c.fact 49 rfl)
  have a49 : PySem.W.nsIn K mainGlobals "_law_cells" = some (some (.ref (vf49 K))) := He.eqO_ok h49.1
  have h50 := He.ba (c.fact 50 rfl)
  have a50 : PySem.W.nsIn K mainGlobals "_law_same" = some (some (.ref (vf50 K))) := He.eqO_ok h50.1
  have h51 := He.ba (c.fact 51 rfl)
  have a51 : PySem.W.nsIn K mainGlobals "_law_later" = some (some (.ref (vf51 K))) := He.eqO_ok h51.1
  have h52 := He.ba (c.fact 52 rfl)
  have a52 : PySem.W.nsIn K mainGlobals "_law_due" = some (some (.ref (vf52 K))) := He.eqO_ok h52.1
  have h53 := He.ba (c.fact 53 rfl)
  have a53 : PySem.W.nsIn K mainGlobals "_law_seen" = some (some (.ref (vf53 K))) := He.eqO_ok h53.1
  have h54 := He.ba (c.fact 54 rfl)
  have a54 : PySem.W.nsIn K mainGlobals "_law_patches_right" = some (some (.ref (vf54 K))) := He.eqO_ok h54.1
  have h55 := He.ba (c.fact 55 rfl)
  have a55 : PySem.W.nsIn K mainGlobals "_law_made" = some (some (.ref (vf55 K))) := He.eqO_ok h55.1
  have h56 := He.ba (c.fact 56 rfl)
  have a56 : PySem.W.nsIn K mainGlobals "_law_event" = some (some (.ref (vf56 K))) := He.eqO_ok h56.1
  have h57 := He.ba (c.fact 57 rfl)
  have a57 : PySem.W.nsIn K mainGlobals "_law_pressed" = some (some (.ref (vf57 K))) := He.eqO_ok h57.1
  have h58 := He.ba (c.fact 58 rfl)
  have a58 : PySem.W.nsIn K mainGlobals "are_integers" = some (some (.ref (vf58 K))) := He.eqO_ok h58.1
  have h59 := He.ba (c.fact 59 rfl)
  have a59 : PySem.W.nsIn K mainGlobals "are_events" = some (some (.ref (vf59 K))) := He.eqO_ok h59.1
  have h60 := He.ba (c.fact 60 rfl)
  have a60 : PySem.W.nsIn K mainGlobals "is_history" = some (some (.ref (vf60 K))) := He.eqO_ok h60.1
  have h61 := He.ba (c.fact 61 rfl)
  have a61 : PySem.W.findIn K (.ref (vCR K)) "twin" = some (some (.ref (vf61 K))) := He.eqO_ok h61.1
  have i61 : PySem.W.isFn K (.ref (vf61 K)) = true := (He.ba h61.2).1
  have h61 := And.intro h61.1 (He.ba h61.2).2
  have h62 := He.ba (c.fact 62 rfl)
  have a62 : PySem.W.findIn K (.ref (vCG K)) "_check_next" = some (some (.ref (vf62 K))) := He.eqO_ok h62.1
  have i62 : PySem.W.isFn K (.ref (vf62 K)) = true := (He.ba h62.2).1
  have h62 := And.intro h62.1 (He.ba h62.2).2
  have h63 := He.ba (c.fact 63 rfl)
  have a63 : PySem.W.findIn K (.ref (vCG K)) "tried" = some (some (.ref (vf63 K))) := He.eqO_ok h63.1
  have i63 : PySem.W.isFn K (.ref (vf63 K)) = true := (He.ba h63.2).1
  have h63 := And.intro h63.1 (He.ba h63.2).2
  have h64 := He.ba (c.fact 64 rfl)
  have a64 : PySem.W.nsIn K mainGlobals "_law_error_name" = some (some (.ref (vf64 K))) := He.eqO_ok h64.1
  have h65 := He.ba (c.fact 65 rfl)
  have a65 : PySem.W.nsIn K mainGlobals "_law_refused" = some (some (.ref (vf65 K))) := He.eqO_ok h65.1
  have h66 := He.ba (c.fact 66 rfl)
  have a66 : PySem.W.nsIn K mainGlobals "_law_tried" = some (some (.ref (vf66 K))) := He.eqO_ok h66.1
  have h67 := He.ba (c.fact 67 rfl)
  have a67 : PySem.W.nsIn K mainGlobals "_law_outcome" = some (some (.ref (vf67 K))) := He.eqO_ok h67.1
  have h68 := He.ba (c.fact 68 rfl)
  have a68 : PySem.W.nsIn K mainGlobals "_law_line" = some (some (.ref (vf68 K))) := He.eqO_ok h68.1
  have h69 := He.ba (c.fact 69 rfl)
  have a69 : PySem.W.nsIn K mainGlobals "_law_holds" = some (some (.ref (vf69 K))) := He.eqO_ok h69.1
  have h70 := He.ba (c.fact 70 rfl)
  have a70 : PySem.W.nsIn K mainGlobals "law" = some (some (.ref (vf70 K))) := He.eqO_ok h70.1
  have hcCR := He.ba (c.fact 71 rfl)
  have aCCR : PySem.W.nsIn K mainGlobals "Record" = some (some (.ref (vCR K))) := He.eqO_ok hcCR.1
  have hcCR := He.ba hcCR.2
  have pgCR := hcCR.1
  have hcCR := He.ba hcCR.2
  have hdCR := hcCR.1
  have hcCR := He.ba hcCR.2
  have poCR := hcCR.1
  have hcCR := He.ba hcCR.2
  have saCR := He.eqO_ok hcCR.1
  have hcCR := He.ba hcCR.2
  have mkCR := hcCR.1
  have kcCR := hcCR.2
  have clCR : Cls K (vCR K) := ⟨pgCR, hdCR, poCR, saCR⟩
  have nCR0 : PySem.W.findIn K (.ref (vCR K)) "integers" = some none := He.eqO_ok (c.fact 72 rfl)
  have nCR1 : PySem.W.findIn K (.ref (vCR K)) "past" = some none := He.eqO_ok (c.fact 73 rfl)
  have nCR2 : PySem.W.findIn K (.ref (vCR K)) "presents" = some none := He.eqO_ok (c.fact 74 rfl)
  have hcCP := He.ba (c.fact 75 rfl)
  have aCCP : PySem.W.nsIn K mainGlobals "Patch" = some (some (.ref (vCP K))) := He.eqO_ok hcCP.1
  have hcCP := He.ba hcCP.2
  have pgCP := hcCP.1
  have hcCP := He.ba hcCP.2
  have hdCP := hcCP.1
  have hcCP := He.ba hcCP.2
  have poCP := hcCP.1
  have hcCP := He.ba hcCP.2
  have saCP := He.eqO_ok hcCP.1
  have hcCP := He.ba hcCP.2
  have mkCP := hcCP.1
  have kcCP := hcCP.2
  have clCP : Cls K (vCP K) := ⟨pgCP, hdCP, poCP, saCP⟩
  have nCP0 : PySem.W.findIn K (.ref (vCP K)) "_record" = some none := He.eqO_ok (c.fact 76 rfl)
  have nCP1 : PySem.W.findIn K (.ref (vCP K)) "_number" = some none := He.eqO_ok (c.fact 77 rfl)
  have hcCC := He.ba (c.fact 78 rfl)
  have aCCC : PySem.W.nsIn K mainGlobals "CarefulPatch" = some (some (.ref (vCC K))) := He.eqO_ok hcCC.1
  have hcCC := He.ba hcCC.2
  have pgCC := hcCC.1
  have hcCC := He.ba hcCC.2
  have hdCC := hcCC.1
  have hcCC := He.ba hcCC.2
  have poCC := hcCC.1
  have hcCC := He.ba hcCC.2
  have saCC := He.eqO_ok hcCC.1
  have hcCC := He.ba hcCC.2
  have mkCC := hcCC.1
  have kcCC := hcCC.2
  have clCC : Cls K (vCC K) := ⟨pgCC, hdCC, poCC, saCC⟩
  have nCC0 : PySem.W.findIn K (.ref (vCC K)) "_record" = some none := He.eqO_ok (c.fact 79 rfl)
  have nCC1 : PySem.W.findIn K (.ref (vCC K)) "_number" = some none := He.eqO_ok (c.fact 80 rfl)
  have hcCS := He.ba (c.fact 81 rfl)
  have aCCS : PySem.W.nsIn K mainGlobals "StrictPatch" = some (some (.ref (vCS K))) := He.eqO_ok hcCS.1
  have hcCS := He.ba hcCS.2
  have pgCS := hcCS.1
  have hcCS := He.ba hcCS.2
  have hdCS := hcCS.1
  have hcCS := He.ba hcCS.2
  have poCS := hcCS.1
  have hcCS := He.ba hcCS.2
  have saCS := He.eqO_ok hcCS.1
  have hcCS := He.ba hcCS.2
  have mkCS := hcCS.1
  have kcCS := hcCS.2
  have clCS : Cls K (vCS K) := ⟨pgCS, hdCS, poCS, saCS⟩
  have nCS0 : PySem.W.findIn K (.ref (vCS K)) "_record" = some none := He.eqO_ok (c.fact 82 rfl)
  have nCS1 : PySem.W.findIn K (.ref (vCS K)) "_number" = some none := He.eqO_ok (c.fact 83 rfl)
  have hcCG := He.ba (c.fact 84 rfl)
  have aCCG : PySem.W.nsIn K mainGlobals "Setting" = some (some (.ref (vCG K))) := He.eqO_ok hcCG.1
  have hcCG := He.ba hcCG.2
  have pgCG := hcCG.1
  have hcCG := He.ba hcCG.2
  have hdCG := hcCG.1
  have hcCG := He.ba hcCG.2
  have poCG := hcCG.1
  have hcCG := He.ba hcCG.2
  have saCG := He.eqO_ok hcCG.1
  have hcCG := He.ba hcCG.2
  have mkCG := hcCG.1
  have kcCG := hcCG.2
  have clCG : Cls K (vCG K) := ⟨pgCG, hdCG, poCG, saCG⟩
  have nCG0 : PySem.W.findIn K (.ref (vCG K)) "_record" = some none := He.eqO_ok (c.fact 85 rfl)
  have nCG1 : PySem.W.findIn K (.ref (vCG K)) "_patches" = some none := He.eqO_ok (c.fact 86 rfl)
  obtain ⟨t_FARTHEST, mgi_FARTHEST⟩ := He.int_ok X G (c.fact 87 rfl)
  obtain ⟨t_LAST_PATCH, mgi_LAST_PATCH⟩ := He.int_ok X G (c.fact 88 rfl)
  obtain ⟨t_MOST_EVENTS, mgi_MOST_EVENTS⟩ := He.int_ok X G (c.fact 89 rfl)
  have z_len : PySem.W.nsIn K mainGlobals "len" = some none := He.eqO_ok (c.fact 90 rfl)
  have z_list : PySem.W.nsIn K mainGlobals "list" = some none := He.eqO_ok (c.fact 91 rfl)
  have z_int : PySem.W.nsIn K mainGlobals "int" = some none := He.eqO_ok (c.fact 92 rfl)
  have z_bool : PySem.W.nsIn K mainGlobals "bool" = some none := He.eqO_ok (c.fact 93 rfl)
  have z_str : PySem.W.nsIn K mainGlobals "str" = some none := He.eqO_ok (c.fact 94 rfl)
  have z_tuple : PySem.W.nsIn K mainGlobals "tuple" = some none := He.eqO_ok (c.fact 95 rfl)
  have z_max : PySem.W.nsIn K mainGlobals "max" = some none := He.eqO_ok (c.fact 96 rfl)
  have z_min : PySem.W.nsIn K mainGlobals "min" = some none := He.eqO_ok (c.fact 97 rfl)
  have z_range : PySem.W.nsIn K mainGlobals "range" = some none := He.eqO_ok (c.fact 98 rfl)
  have z_repr : PySem.W.nsIn K mainGlobals "repr" = some none := He.eqO_ok (c.fact 99 rfl)
  have z_isinstance : PySem.W.nsIn K mainGlobals "isinstance" = some none := He.eqO_ok (c.fact 100 rfl)
  have z_type : PySem.W.nsIn K mainGlobals "type" = some none := He.eqO_ok (c.fact 101 rfl)
  have z_all : PySem.W.nsIn K mainGlobals "all" = some none := He.eqO_ok (c.fact 102 rfl)
  have z_set : PySem.W.nsIn K mainGlobals "set" = some none := He.eqO_ok (c.fact 103 rfl)
  have z_zip : PySem.W.nsIn K mainGlobals "zip" = some none := He.eqO_ok (c.fact 104 rfl)
  have z_enumerate : PySem.W.nsIn K mainGlobals "enumerate" = some none := He.eqO_ok (c.fact 105 rfl)
  have z_sorted : PySem.W.nsIn K mainGlobals "sorted" = some none := He.eqO_ok (c.fact 106 rfl)
  have z_abs : PySem.W.nsIn K mainGlobals "abs" = some none := He.eqO_ok (c.fact 107 rfl)
  have z_super : PySem.W.nsIn K mainGlobals "super" = some none := He.eqO_ok (c.fact 108 rfl)
  have z_dict : PySem.W.nsIn K mainGlobals "dict" = some none := He.eqO_ok (c.fact 109 rfl)
  have z_ValueError : PySem.W.nsIn K mainGlobals "ValueError" = some none := He.eqO_ok (c.fact 110 rfl)
  have tp : ((PySem.Challenge.rw_latepatches_k25_events_tried).prog.main.scope.names.lookup ("super" : Str)).isSome = false := by (first | rfl | kernel_rfl)
  have sop : PySem.W.nsIn K cStatics "thirdparty.any" = some none := HK.dec_ok (c.fact 111 rfl)
  have crd : PySem.W.readsIn K (vCG K) (.type "type") = true := (c.fact 112 rfl)
  have cga : PySem.W.specialIn K (.ref (vCG K)) "__getattribute__" = some (some (.builtin "type.__getattribute__")) := HK.dec_ok (c.fact 113 rfl)
  obtain ⟨tkM, cat⟩ := HK.conI_ok (c.fact 114 rfl)
  have inCC : PySem.W.findIn K (.ref (vCC K)) "__init__" = some (some (.ref (vf10 K))) := HK.dec_ok (c.fact 115 rfl)
  have inCS : PySem.W.findIn K (.ref (vCS K)) "__init__" = some (some (.ref (vf10 K))) := HK.dec_ok (c.fact 116 rfl)
  have gC0 : PySem.W.nsIn K mainGlobals "EmptyHistoryError" = some (some (.ref (vC0 K))) := HK.dec_ok (c.fact 117 rfl)
  have xC0 : PySem.W.excIn K (vC0 K) [.type "ValueError", .type "Exception", .type "BaseException", .type "object"] "ValueError.__new__" = true := (c.fact 118 rfl)
  have kC0 : PySem.W.keepIn K (.ref (vC0 K)) = true := (c.fact 119 rfl)
  have gC1 : PySem.W.nsIn K mainGlobals "FullError" = some (some (.ref (vC1 K))) := HK.dec_ok (c.fact 120 rfl)
  have xC1 : PySem.W.excIn K (vC1 K) [.type "ValueError", .type "Exception", .type "BaseException", .type "object"] "ValueError.__new__" = true := (c.fact 121 rfl)
  have kC1 : PySem.W.keepIn K (.ref (vC1 K)) = true := (c.fact 122 rfl)
  have gC2 : PySem.W.nsIn K mainGlobals "InvalidFormatError" = some (some (.ref (vC2 K))) := HK.dec_ok (c.fact 123 rfl)
  have xC2 : PySem.W.excIn K (vC2 K) [.type "ValueError", .type "Exception", .type "BaseException", .type "object"] "ValueError.__new__" = true := (c.fact 124 rfl)
  have kC2 : PySem.W.keepIn K (.ref (vC2 K)) = true := (c.fact 125 rfl)
  have gC3 : PySem.W.nsIn K mainGlobals "InvalidHistoryError" = some (some (.ref (vC3 K))) := HK.dec_ok (c.fact 126 rfl)
  have xC3 : PySem.W.excIn K (vC3 K) [.type "ValueError", .type "Exception", .type "BaseException", .type "object"] "ValueError.__new__" = true := (c.fact 127 rfl)
  have kC3 : PySem.W.keepIn K (.ref (vC3 K)) = true := (c.fact 128 rfl)
  have gC4 : PySem.W.nsIn K mainGlobals "InvalidNumberError" = some (some (.ref (vC4 K))) := HK.dec_ok (c.fact 129 rfl)
  have xC4 : PySem.W.excIn K (vC4 K) [.type "ValueError", .type "Exception", .type "BaseException", .type "object"] "ValueError.__new__" = true := (c.fact 130 rfl)
  have kC4 : PySem.W.keepIn K (.ref (vC4 K)) = true := (c.fact 131 rfl)
  have gC5 : PySem.W.nsIn K mainGlobals "InvalidOrderError" = some (some (.ref (vC5 K))) := HK.dec_ok (c.fact 132 rfl)
  have xC5 : PySem.W.excIn K (vC5 K) [.type "ValueError", .type "Exception", .type "BaseException", .type "object"] "ValueError.__new__" = true := (c.fact 133 rfl)
  have kC5 : PySem.W.keepIn K (.ref (vC5 K)) = true := (c.fact 134 rfl)
  have gC6 : PySem.W.nsIn K mainGlobals "InvalidPatchError" = some (some (.ref (vC6 K))) := HK.dec_ok (c.fact 135 rfl)
  have xC6 : PySem.W.excIn K (vC6 K) [.type "ValueError", .type "Exception", .type "BaseException", .type "object"] "ValueError.__new__" = true := (c.fact 136 rfl)
  have kC6 : PySem.W.keepIn K (.ref (vC6 K)) = true := (c.fact 137 rfl)
  have gC7 : PySem.W.nsIn K mainGlobals "InvalidPieceError" = some (some (.ref (vC7 K))) := HK.dec_ok (c.fact 138 rfl)
  have xC7 : PySem.W.excIn K (vC7 K) [.type "ValueError", .type "Exception", .type "BaseException", .type "object"] "ValueError.__new__" = true := (c.fact 139 rfl)
  have kC7 : PySem.W.keepIn K (.ref (vC7 K)) = true := (c.fact 140 rfl)
  have gC8 : PySem.W.nsIn K mainGlobals "InvalidPresentsError" = some (some (.ref (vC8 K))) := HK.dec_ok (c.fact 141 rfl)
  have xC8 : PySem.W.excIn K (vC8 K) [.type "ValueError", .type "Exception", .type "BaseException", .type "object"] "ValueError.__new__" = true := (c.fact 142 rfl)
  have kC8 : PySem.W.keepIn K (.ref (vC8 K)) = true := (c.fact 143 rfl)
  have gC9 : PySem.W.nsIn K mainGlobals "InvalidShapeError" = some (some (.ref (vC9 K))) := HK.dec_ok (c.fact 144 rfl)
  have xC9 : PySem.W.excIn K (vC9 K) [.type "ValueError", .type "Exception", .type "BaseException", .type "object"] "ValueError.__new__" = true := (c.fact 145 rfl)
  have kC9 : PySem.W.keepIn K (.ref (vC9 K)) = true := (c.fact 146 rfl)
  have gC10 : PySem.W.nsIn K mainGlobals "InvalidStateError" = some (some (.ref (vC10 K))) := HK.dec_ok (c.fact 147 rfl)
  have xC10 : PySem.W.excIn K (vC10 K) [.type "ValueError", .type "Exception", .type "BaseException", .type "object"] "ValueError.__new__" = true := (c.fact 148 rfl)
  have kC10 : PySem.W.keepIn K (.ref (vC10 K)) = true := (c.fact 149 rfl)
  have gC11 : PySem.W.nsIn K mainGlobals "InvalidTouchesError" = some (some (.ref (vC11 K))) := HK.dec_ok (c.fact 150 rfl)
  have xC11 : PySem.W.excIn K (vC11 K) [.type "ValueError", .type "Exception", .type "BaseException", .type "object"] "ValueError.__new__" = true := (c.fact 151 rfl)
  have kC11 : PySem.W.keepIn K (.ref (vC11 K)) = true := (c.fact 152 rfl)
  have gC12 : PySem.W.nsIn K mainGlobals "InvalidValueError" = some (some (.ref (vC12 K))) := HK.dec_ok (c.fact 153 rfl)
  have xC12 : PySem.W.excIn K (vC12 K) [.type "ValueError", .type "Exception", .type "BaseException", .type "object"] "ValueError.__new__" = true := (c.fact 154 rfl)
  have kC12 : PySem.W.keepIn K (.ref (vC12 K)) = true := (c.fact 155 rfl)
  have gC13 : PySem.W.nsIn K mainGlobals "MismatchError" = some (some (.ref (vC13 K))) := HK.dec_ok (c.fact 156 rfl)
  have xC13 : PySem.W.excIn K (vC13 K) [.type "ValueError", .type "Exception", .type "BaseException", .type "object"] "ValueError.__new__" = true := (c.fact 157 rfl)
  have kC13 : PySem.W.keepIn K (.ref (vC13 K)) = true := (c.fact 158 rfl)
  have gC14 : PySem.W.nsIn K mainGlobals "NotRunningError" = some (some (.ref (vC14 K))) := HK.dec_ok (c.fact 159 rfl)
  have xC14 : PySem.W.excIn K (vC14 K) [.type "ValueError", .type "Exception", .type "BaseException", .type "object"] "ValueError.__new__" = true := (c.fact 160 rfl)
  have kC14 : PySem.W.keepIn K (.ref (vC14 K)) = true := (c.fact 161 rfl)
  have gC15 : PySem.W.nsIn K mainGlobals "OutOfOrderError" = some (some (.ref (vC15 K))) := HK.dec_ok (c.fact 162 rfl)
  have xC15 : PySem.W.excIn K (vC15 K) [.type "ValueError", .type "Exception", .type "BaseException", .type "object"] "ValueError.__new__" = true := (c.fact 163 rfl)
  have kC15 : PySem.W.keepIn K (.ref (vC15 K)) = true := (c.fact 164 rfl)
  have gC16 : PySem.W.nsIn K mainGlobals "StartedError" = some (some (.ref (vC16 K))) := HK.dec_ok (c.fact 165 rfl)
  have xC16 : PySem.W.excIn K (vC16 K) [.type "ValueError", .type "Exception", .type "BaseException", .type "object"] "ValueError.__new__" = true := (c.fact 166 rfl)
  have kC16 : PySem.W.keepIn K (.ref (vC16 K)) = true := (c.fact 167 rfl)
  have gC17 : PySem.W.nsIn K mainGlobals "LatepatchError" = some (some (.ref (vC17 K))) := HK.dec_ok (c.fact 168 rfl)
  have xC17 : PySem.W.excIn K (vC17 K) [.type "ValueError", .type "Exception", .type "BaseException", .type "object"] "ValueError.__new__" = true := (c.fact 169 rfl)
  have kC17 : PySem.W.keepIn K (.ref (vC17 K)) = true := (c.fact 170 rfl)
  have hEc : ((List.range 18).all fun d => ecB K ((Ex [(vC0 K), (vC1 K), (vC2 K), (vC3 K), (vC4 K), (vC5 K), (vC6 K), (vC7 K), (vC8 K), (vC9 K), (vC10 K), (vC11 K), (vC12 K), (vC13 K), (vC14 K), (vC15 K), (vC16 K), (vC17 K)]) d)) = true := (c.fact 171 rfl)
  have hTy : ((List.range 18).all fun d => tyB K ((Ex [(vC0 K), (vC1 K), (vC2 K), (vC3 K), (vC4 K), (vC5 K), (vC6 K), (vC7 K), (vC8 K), (vC9 K), (vC10 K), (vC11 K), (vC12 K), (vC13 K), (vC14 K), (vC15 K), (vC16 K), (vC17 K)]) d)) = true := (c.fact 172 rfl)
  have hSu : ((List.range 18).all fun d => (List.range 17).all fun j => decide (PySem.W.subIn K (.ref ((Ex [(vC0 K), (vC1 K), (vC2 K), (vC3 K), (vC4 K), (vC5 K), (vC6 K), (vC7 K), (vC8 K), (vC9 K), (vC10 K), (vC11 K), (vC12 K), (vC13 K), (vC14 K), (vC15 K), (vC16 K), (vC17 K)]) d)) (.ref ((Ex [(vC0 K), (vC1 K), (vC2 K), (vC3 K), (vC4 K), (vC5 K), (vC6 K), (vC7 K), (vC8 K), (vC9 K), (vC10 K), (vC11 K), (vC12 K), (vC13 K), (vC14 K), (vC15 K), (vC16 K), (vC17 K)]) j)) = some (decide (j = d)))) = true := (c.fact 173 rfl)
  have hLp : ((List.range 18).all fun d => decide (PySem.W.subIn K (.ref ((Ex [(vC0 K), (vC1 K), (vC2 K), (vC3 K), (vC4 K), (vC5 K), (vC6 K), (vC7 K), (vC8 K), (vC9 K), (vC10 K), (vC11 K), (vC12 K), (vC13 K), (vC14 K), (vC15 K), (vC16 K), (vC17 K)]) d)) (.ref ((Ex [(vC0 K), (vC1 K), (vC2 K), (vC3 K), (vC4 K), (vC5 K), (vC6 K), (vC7 K), (vC8 K), (vC9 K), (vC10 K), (vC11 K), (vC12 K), (vC13 K), (vC14 K), (vC15 K), (vC16 K), (vC17 K)]) 17)) = some true)) = true := (c.fact 174 rfl)
  have hN : PySem.W.specialIn K (.builtin "object.__class__") "__get__" = some (some (.builtin "getset_descriptor.__get__")) := HK.dec_ok (c.fact 175 rfl)
  have hTk : PySem.W.takesIn K (.builtin "object.__class__") = some true := HK.dec_ok (c.fact 176 rfl)
  have e := hfa.symm.trans (PySem.W.mg_of X G a70)
  cases e
  have B : NoB mg := ⟨PySem.W.mg_none_of X G z_len, PySem.W.mg_none_of X G z_list, PySem.W.mg_none_of X G z_int, PySem.W.mg_none_of X G z_bool, PySem.W.mg_none_of X G z_str, PySem.W.mg_none_of X G z_tuple, PySem.W.mg_none_of X G z_max, PySem.W.mg_none_of X G z_min, PySem.W.mg_none_of X G z_range, PySem.W.mg_none_of X G z_repr, PySem.W.mg_none_of X G z_isinstance, PySem.W.mg_none_of X G z_type, PySem.W.mg_none_of X G z_all, PySem.W.mg_none_of X G z_set, PySem.W.mg_none_of X G z_zip, PySem.W.mg_none_of X G z_enumerate, PySem.W.mg_none_of X G z_sorted, PySem.W.mg_none_of X G z_abs⟩
  have T : TxtL K (vCR K) (vCP K) (vCC K) (vCS K) (vCG K) := ⟨clCR, clCP, clCC, clCS, clCG, nCR0, nCR1, nCR2, nCP0, nCP1, nCC0, nCC1, nCS0, nCS1, nCG0, nCG1⟩
  have R : Err K mg (Ex [(vC0 K), (vC1 K), (vC2 K), (vC3 K), (vC4 K), (vC5 K), (vC6 K), (vC7 K), (vC8 K), (vC9 K), (vC10 K), (vC11 K), (vC12 K), (vC13 K), (vC14 K), (vC15 K), (vC16 K), (vC17 K)]) := { c0 := PySem.W.mg_of X G gC0, x0 := xC0, k0 := kC0, c1 := PySem.W.mg_of X G gC1, x1 := xC1, k1 := kC1, c2 := PySem.W.mg_of X G gC2, x2 := xC2, k2 := kC2, c3 := PySem.W.mg_of X G gC3, x3 := xC3, k3 := kC3, c4 := PySem.W.mg_of X G gC4, x4 := xC4, k4 := kC4, c5 := PySem.W.mg_of X G gC5, x5 := xC5, k5 := kC5, c6 := PySem.W.mg_of X G gC6, x6 := xC6, k6 := kC6, c7 := PySem.W.mg_of X G gC7, x7 := xC7, k7 := kC7, c8 := PySem.W.mg_of X G gC8, x8 := xC8, k8 := kC8, c9 := PySem.W.mg_of X G gC9, x9 := xC9, k9 := kC9, c10 := PySem.W.mg_of X G gC10, x10 := xC10, k10 := kC10, c11 := PySem.W.mg_of X G gC11, x11 := xC11, k11 := kC11, c12 := PySem.W.mg_of X G gC12, x12 := xC12, k12 := kC12, c13 := PySem.W.mg_of X G gC13, x13 := xC13, k13 := kC13, c14 := PySem.W.mg_of X G gC14, x14 := xC14, k14 := kC14, c15 := PySem.W.mg_of X G gC15, x15 := xC15, k15 := kC15, c16 := PySem.W.mg_of X G gC16, x16 := xC16, k16 := kC16, c17 := PySem.W.mg_of X G gC17, x17 := xC17, k17 := kC17, ec := ec_of hEc hN hTk, kit := kit_of hSu hTy, kitL := kitL_of hLp hTy, kitV := kitV_of hTy, b := fun d h => (ty_of hTy d (by omega)).2.2.2, t := fun d h => (ty_of hTy d (by omega)).2.1, m := fun d h => exm_of hLp hTy d (by omega) }
  have RS : Er K mg "StartedError" ((Ex [(vC0 K), (vC1 K), (vC2 K), (vC3 K), (vC4 K), (vC5 K), (vC6 K), (vC7 K), (vC8 K), (vC9 K), (vC10 K), (vC11 K), (vC12 K), (vC13 K), (vC14 K), (vC15 K), (vC16 K), (vC17 K)]) 16) := ⟨R.c16, R.x16, R.k16, R.b 16 (by decide), R.t 16 (by decide)⟩
  have RR : Er K mg "NotRunningError" ((Ex [(vC0 K), (vC1 K), (vC2 K), (vC3 K), (vC4 K), (vC5 K), (vC6 K), (vC7 K), (vC8 K), (vC9 K), (vC10 K), (vC11 K), (vC12 K), (vC13 K), (vC14 K), (vC15 K), (vC16 K), (vC17 K)]) 14) := ⟨R.c14, R.x14, R.k14, R.b 14 (by decide), R.t 14 (by decide)⟩
  have RO : Er K mg "OutOfOrderError" ((Ex [(vC0 K), (vC1 K), (vC2 K), (vC3 K), (vC4 K), (vC5 K), (vC6 K), (vC7 K), (vC8 K), (vC9 K), (vC10 K), (vC11 K), (vC12 K), (vC13 K), (vC14 K), (vC15 K), (vC16 K), (vC17 K)]) 15) := ⟨R.c15, R.x15, R.k15, R.b 15 (by decide), R.t 15 (by decide)⟩
  have RF : Er K mg "FullError" ((Ex [(vC0 K), (vC1 K), (vC2 K), (vC3 K), (vC4 K), (vC5 K), (vC6 K), (vC7 K), (vC8 K), (vC9 K), (vC10 K), (vC11 K), (vC12 K), (vC13 K), (vC14 K), (vC15 K), (vC16 K), (vC17 K)]) 1) := ⟨R.c1, R.x1, R.k1, R.b 1 (by decide), R.t 1 (by decide)⟩
  have RE : Er K mg "EmptyHistoryError" ((Ex [(vC0 K), (vC1 K), (vC2 K), (vC3 K), (vC4 K), (vC5 K), (vC6 K), (vC7 K), (vC8 K), (vC9 K), (vC10 K), (vC11 K), (vC12 K), (vC13 K), (vC14 K), (vC15 K), (vC16 K), (vC17 K)]) 0) := ⟨R.c0, R.x0, R.k0, R.b 0 (by decide), R.t 0 (by decide)⟩
  have RH : Er K mg "InvalidHistoryError" ((Ex [(vC0 K), (vC1 K), (vC2 K), (vC3 K), (vC4 K), (vC5 K), (vC6 K), (vC7 K), (vC8 K), (vC9 K), (vC10 K), (vC11 K), (vC12 K), (vC13 K), (vC14 K), (vC15 K), (vC16 K), (vC17 K)]) 3) := ⟨R.c3, R.x3, R.k3, R.b 3 (by decide), R.t 3 (by decide)⟩
  have X3 : Ex3 K ((Ex [(vC0 K), (vC1 K), (vC2 K), (vC3 K), (vC4 K), (vC5 K), (vC6 K), (vC7 K), (vC8 K), (vC9 K), (vC10 K), (vC11 K), (vC12 K), (vC13 K), (vC14 K), (vC15 K), (vC16 K), (vC17 K)]) 16) ((Ex [(vC0 K), (vC1 K), (vC2 K), (vC3 K), (vC4 K), (vC5 K), (vC6 K), (vC7 K), (vC8 K), (vC9 K), (vC10 K), (vC11 K), (vC12 K), (vC13 K), (vC14 K), (vC15 K), (vC16 K), (vC17 K)]) 14) ((Ex [(vC0 K), (vC1 K), (vC2 K), (vC3 K), (vC4 K), (vC5 K), (vC6 K), (vC7 K), (vC8 K), (vC9 K), (vC10 K), (vC11 K), (vC12 K), (vC13 K), (vC14 K), (vC15 K), (vC16 K), (vC17 K)]) 15) := ⟨exm_own R.x16 (R.b 16 (by decide)) (R.t 16 (by decide)) (sub_of hSu 16 16 (by decide) (by decide)), exm_own R.x16 (R.b 16 (by decide)) (R.t 16 (by decide)) (sub_of hSu 14 16 (by decide) (by decide)), exm_own R.x14 (R.b 14 (by decide)) (R.t 14 (by decide)) (sub_of hSu 14 14 (by decide) (by decide)), exm_own R.x16 (R.b 16 (by decide)) (R.t 16 (by decide)) (sub_of hSu 15 16 (by decide) (by decide)), exm_own R.x14 (R.b 14 (by decide)) (R.t 14 (by decide)) (sub_of hSu 15 14 (by decide) (by decide)), exm_own R.x15 (R.b 15 (by decide)) (R.t 15 (by decide)) (sub_of hSu 15 15 (by decide) (by decide))⟩
  obtain ⟨fd0, Fx0⟩ := HK.fun_ok (c.fn 0 rfl) rfl h0.2
  have F0 : L2.Fun K "is_integer" "is_integer" s_is_integer (vf0 K) fd0 := Fx0
  have k0 : PySem.W.keepIn K (.ref (vf0 K)) = true := F0.kp
  have b0 := F0.binds (ps := ["value"]) fun _ _ _ _ _ _ us hl => match us, hl with | [_], _ => rfl
  obtain ⟨fd1, Fx1⟩ := HK.fun_ok (c.fn 1 rfl) rfl h1.2
  have F1 : L2.Fun K "is_integer_within" "is_integer_within" s_is_integer_within (vf1 K) fd1 := Fx1
  have k1 : PySem.W.keepIn K (.ref (vf1 K)) = true := F1.kp
  have b1 := F1.binds (ps := ["value", "least", "greatest"]) fun _ _ _ _ _ _ us hl => match us, hl with | [_, _, _], _ => rfl
  obtain ⟨fd2, Fx2⟩ := HK.fun_ok (c.fn 2 rfl) rfl h2.2
  have F2 : L2.Fun K "check_number" "check_number" s_check_number (vf2 K) fd2 := Fx2
  have k2 : PySem.W.keepIn K (.ref (vf2 K)) = true := F2.kp
  have b2 := F2.binds (ps := ["value", "least", "greatest"]) fun _ _ _ _ _ _ us hl => match us, hl with | [_, _, _], _ => rfl
  obtain ⟨fd3, Fx3⟩ := HK.fun_ok (c.fn 3 rfl) rfl h3.2
  have F3 : L2.Fun K "check_settable" "check_settable" s_check_settable (vf3 K) fd3 := Fx3
  have k3 : PySem.W.keepIn K (.ref (vf3 K)) = true := F3.kp
  have b3 := F3.binds (ps := ["value"]) fun _ _ _ _ _ _ us hl => match us, hl with | [_], _ => rfl
  obtain ⟨fd4, Fx4⟩ := HK.fun_ok (c.fn 4 rfl) rfl h4.2
  have F4 : L2.Fun K "__init__" "Record.__init__" s_Record_init (vf4 K) fd4 := Fx4
  have k4 : PySem.W.keepIn K (.ref (vf4 K)) = true := F4.kp
  have b4 := F4.binds (ps := ["self", "integers", "past", "presents"]) fun _ _ _ _ _ _ us hl => match us, hl with | [_, _, _, _], _ => rfl
  obtain ⟨fd5, Fx5⟩ := HK.fun_ok (c.fn 5 rfl) rfl h5.2
  have F5 : L2.Fun K "integer_now" "Record.integer_now" s_Record_integer_now (vf5 K) fd5 := Fx5
  have k5 : PySem.W.keepIn K (.ref (vf5 K)) = true := F5.kp
  have b5 := F5.binds (ps := ["self"]) fun _ _ _ _ _ _ us hl => match us, hl with | [_], _ => rfl
  obtain ⟨fd6, Fx6⟩ := HK.fun_ok (c.fn 6 rfl) rfl h6.2
  have F6 : L2.Fun K "found_by" "Record.found_by" s_Record_found_by (vf6 K) fd6 := Fx6
  have k6 : PySem.W.keepIn K (.ref (vf6 K)) = true := F6.kp
  have b6 := F6.binds (ps := ["self", "number"]) fun _ _ _ _ _ _ us hl => match us, hl with | [_, _], _ => rfl
  obtain ⟨fd7, Fx7⟩ := HK.fun_ok (c.fn 7 rfl) rfl h7.2
  have F7 : L2.Fun K "is_running" "Record.is_running" s_Record_is_running (vf7 K) fd7 := Fx7
  have k7 : PySem.W.keepIn K (.ref (vf7 K)) = true := F7.kp
  have b7 := F7.binds (ps := ["self", "number"]) fun _ _ _ _ _ _ us hl => match us, hl with | [_, _], _ => rfl
  obtain ⟨fd8, Fx8⟩ := HK.fun_ok (c.fn 8 rfl) rfl h8.2
  have F8 : L2.Fun K "go_on_by" "Record.go_on_by" s_Record_go_on_by (vf8 K) fd8 := Fx8
  have k8 : PySem.W.keepIn K (.ref (vf8 K)) = true := F8.kp
  have b8 := F8.binds (ps := ["self", "event", "present"]) fun _ _ _ _ _ _ us hl => match us, hl with | [_, _, _], _ => rfl
  obtain ⟨fd9, Fx9⟩ := HK.fun_ok (c.fn 9 rfl) rfl h9.2
  have F9 : L2.Fun K "go_back" "Record.go_back" s_Record_go_back (vf9 K) fd9 := Fx9
  have k9 : PySem.W.keepIn K (.ref (vf9 K)) = true := F9.kp
  have b9 := F9.binds (ps := ["self"]) fun _ _ _ _ _ _ us hl => match us, hl with | [_], _ => rfl
  obtain ⟨fd10, Fx10⟩ := HK.fun_ok (c.fn 10 rfl) rfl h10.2
  have F10 : L2.Fun K "__init__" "Patch.__init__" s_Patch_init (vf10 K) fd10 := Fx10
  have k10 : PySem.W.keepIn K (.ref (vf10 K)) = true := F10.kp
  have b10 := F10.binds (ps := ["self", "record", "number"]) fun _ _ _ _ _ _ us hl => match us, hl with | [_, _, _], _ => rfl
  obtain ⟨fd11, Fx11⟩ := HK.fun_ok (c.fn 11 rfl) rfl h11.2
  have F11 : L2.Fun K "number" "Patch.number" s_Patch_number (vf11 K) fd11 := Fx11
  have k11 : PySem.W.keepIn K (.ref (vf11 K)) = true := F11.kp
  have b11 := F11.binds (ps := ["self"]) fun _ _ _ _ _ _ us hl => match us, hl with | [_], _ => rfl
  obtain ⟨fd12, Fx12⟩ := HK.fun_ok (c.fn 12 rfl) rfl h12.2
  have F12 : L2.Fun K "number" "CarefulPatch.number" s_CarefulPatch_number (vf12 K) fd12 := Fx12
  have k12 : PySem.W.keepIn K (.ref (vf12 K)) = true := F12.kp
  have b12 := F12.binds (ps := ["self"]) fun _ _ _ _ _ _ us hl => match us, hl with | [_], _ => rfl
  obtain ⟨fd13, Fx13⟩ := HK.fun_ok (c.fn 13 rfl) rfl h13.2
  have F13 : L2.Fun K "number" "StrictPatch.number" s_StrictPatch_number (vf13 K) fd13 := Fx13
  have k13 : PySem.W.keepIn K (.ref (vf13 K)) = true := F13.kp
  have b13 := F13.binds (ps := ["self"]) fun _ _ _ _ _ _ us hl => match us, hl with | [_], _ => rfl
  obtain ⟨fd14, Fx14⟩ := HK.fun_ok (c.fn 14 rfl) rfl h14.2
  have F14 : L2.Fun K "integer" "Patch.integer" s_Patch_integer (vf14 K) fd14 := Fx14
  have k14 : PySem.W.keepIn K (.ref (vf14 K)) = true := F14.kp
  have b14 := F14.binds (ps := ["self"]) fun _ _ _ _ _ _ us hl => match us, hl with | [_], _ => rfl
  obtain ⟨fd15, Fx15⟩ := HK.fun_ok (c.fn 15 rfl) rfl h15.2
  have F15 : L2.Fun K "integer" "CarefulPatch.integer" s_CarefulPatch_integer (vf15 K) fd15 := Fx15
  have k15 : PySem.W.keepIn K (.ref (vf15 K)) = true := F15.kp
  have b15 := F15.binds (ps := ["self"]) fun _ _ _ _ _ _ us hl => match us, hl with | [_], _ => rfl
  obtain ⟨fd16, Fx16⟩ := HK.fun_ok (c.fn 16 rfl) rfl h16.2
  have F16 : L2.Fun K "integer" "StrictPatch.integer" s_StrictPatch_integer (vf16 K) fd16 := Fx16
  have k16 : PySem.W.keepIn K (.ref (vf16 K)) = true := F16.kp
  have b16 := F16.binds (ps := ["self"]) fun _ _ _ _ _ _ us hl => match us, hl with | [_], _ => rfl
  obtain ⟨fd17, Fx17⟩ := HK.fun_ok (c.fn 17 rfl) rfl h17.2
  have F17 : L2.Fun K "saved" "Patch.saved" s_Patch_saved (vf17 K) fd17 := Fx17
  have k17 : PySem.W.keepIn K (.ref (vf17 K)) = true := F17.kp
  have b17 := F17.binds (ps := ["self"]) fun _ _ _ _ _ _ us hl => match us, hl with | [_], _ => rfl
  obtain ⟨fd18, Fx18⟩ := HK.fun_ok (c.fn 18 rfl) rfl h18.2
  have F18 : L2.Fun K "saved" "CarefulPatch.saved" s_CarefulPatch_saved (vf18 K) fd18 := Fx18
  have k18 : PySem.W.keepIn K (.ref (vf18 K)) = true := F18.kp
  have b18 := F18.binds (ps := ["self"]) fun _ _ _ _ _ _ us hl => match us, hl with | [_], _ => rfl
  obtain ⟨fd19, Fx19⟩ := HK.fun_ok (c.fn 19 rfl) rfl h19.2
  have F19 : L2.Fun K "saved" "StrictPatch.saved" s_StrictPatch_saved (vf19 K) fd19 := Fx19
  have k19 : PySem.W.keepIn K (.ref (vf19 K)) = true := F19.kp
  have b19 := F19.binds (ps := ["self"]) fun _ _ _ _ _ _ us hl => match us, hl with | [_], _ => rfl
  obtain ⟨fd20, Fx20⟩ := HK.fun_ok (c.fn 20 rfl) rfl h20.2
  have F20 : L2.Fun K "runs" "Patch.runs" s_Patch_runs (vf20 K) fd20 := Fx20
  have k20 : PySem.W.keepIn K (.ref (vf20 K)) = true := F20.kp
  have b20 := F20.binds (ps := ["self"]) fun _ _ _ _ _ _ us hl => match us, hl with | [_], _ => rfl
  obtain ⟨fd21, Fx21⟩ := HK.fun_ok (c.fn 21 rfl) rfl h21.2
  have F21 : L2.Fun K "runs" "CarefulPatch.runs" s_CarefulPatch_runs (vf21 K) fd21 := Fx21
  have k21 : PySem.W.keepIn K (.ref (vf21 K)) = true := F21.kp
  have b21 := F21.binds (ps := ["self"]) fun _ _ _ _ _ _ us hl => match us, hl with | [_], _ => rfl
  obtain ⟨fd22, Fx22⟩ := HK.fun_ok (c.fn 22 rfl) rfl h22.2
  have F22 : L2.Fun K "runs" "StrictPatch.runs" s_StrictPatch_runs (vf22 K) fd22 := Fx22
  have k22 : PySem.W.keepIn K (.ref (vf22 K)) = true := F22.kp
  have b22 := F22.binds (ps := ["self"]) fun _ _ _ _ _ _ us hl => match us, hl with | [_], _ => rfl
  obtain ⟨fd23, Fx23⟩ := HK.fun_ok (c.fn 23 rfl) rfl h23.2
  have F23 : L2.Fun K "left_by_stop" "Patch.left_by_stop" s_Patch_left_by_stop (vf23 K) fd23 := Fx23
  have k23 : PySem.W.keepIn K (.ref (vf23 K)) = true := F23.kp
  have b23 := F23.binds (ps := ["self", "record"]) fun _ _ _ _ _ _ us hl => match us, hl with | [_, _], _ => rfl
  obtain ⟨cc24, cda24, fdx24, Zx24, _, kV24, dc24, pm24, an24, ct24, ef24⟩ := HK.sup_ok (P := (PySem.Challenge.rw_latepatches_k25_events_tried).prog) (mg := mg) (D := (vCC K)) (c.fn 24 rfl) rfl hs24.1 (PySem.W.mg_none_of X G z_super) tp
  have Z24 : SupF (PySem.Challenge.rw_latepatches_k25_events_tried).prog K mg "left_by_stop" "CarefulPatch.left_by_stop" s_CarefulPatch_left_by_stop (vf24 K) cc24 cda24 (vCC K) fdx24 := Zx24
  have SM24 : SupM K (vCC K) "left_by_stop" (vf23 K) := ⟨HK.dec_ok ht24.1, HK.dec_ok hu24.1, hv24.1, HK.dec_ok hv24.2, sop⟩
  have b24 : Binds K fdx24 ["self", "record"] [] := by
    rw [ef24]
    exact fun s us X hl => by
      have h : us.length = 2 := by simpa using hl
      match us, h with
      | [_, _], _ => exact BindsTo.of_eq rfl
  have k24 : PySem.W.keepIn K (.ref (vf24 K)) = true := Zx24.F.kp
  obtain ⟨cc25, cda25, fdx25, Zx25, _, kV25, dc25, pm25, an25, ct25, ef25⟩ := HK.sup_ok (P := (PySem.Challenge.rw_latepatches_k25_events_tried).prog) (mg := mg) (D := (vCS K)) (c.fn 25 rfl) rfl hs25.1 (PySem.W.mg_none_of X G z_super) tp
  have Z25 : SupF (PySem.Challenge.rw_latepatches_k25_events_tried).prog K mg "left_by_stop" "StrictPatch.left_by_stop" s_StrictPatch_left_by_stop (vf25 K) cc25 cda25 (vCS K) fdx25 := Zx25
  have SM25 : SupM K (vCS K) "left_by_stop" (vf23 K) := ⟨HK.dec_ok ht25.1, HK.dec_ok hu25.1, hv25.1, HK.dec_ok hv25.2, sop⟩
  have b25 : Binds K fdx25 ["self", "record"] [] := by
    rw [ef25]
    exact fun s us X hl => by
      have h : us.length = 2 := by simpa using hl
      match us, h with
      | [_, _], _ => exact BindsTo.of_eq rfl
  have k25 : PySem.W.keepIn K (.ref (vf25 K)) = true := Zx25.F.kp
  obtain ⟨fd26, Fx26⟩ := HK.fun_ok (c.fn 26 rfl) rfl h26.2
  have F26 : L2.Fun K "start" "Patch.start" s_Patch_start (vf26 K) fd26 := Fx26
  have k26 : PySem.W.keepIn K (.ref (vf26 K)) = true := F26.kp
  have b26 := F26.binds (ps := ["self"]) fun _ _ _ _ _ _ us hl => match us, hl with | [_], _ => rfl
  obtain ⟨fd27, Fx27⟩ := HK.fun_ok (c.fn 27 rfl) rfl h27.2
  have F27 : L2.Fun K "stop" "Patch.stop" s_Patch_stop (vf27 K) fd27 := Fx27
  have k27 : PySem.W.keepIn K (.ref (vf27 K)) = true := F27.kp
  have b27 := F27.binds (ps := ["self"]) fun _ _ _ _ _ _ us hl => match us, hl with | [_], _ => rfl
  obtain ⟨fd28, Fx28⟩ := HK.fun_ok (c.fn 28 rfl) rfl h28.2
  have F28 : L2.Fun K "described" "Patch.described" s_Patch_described (vf28 K) fd28 := Fx28
  have k28 : PySem.W.keepIn K (.ref (vf28 K)) = true := F28.kp
  have b28 := F28.binds (ps := ["self"]) fun _ _ _ _ _ _ us hl => match us, hl with | [_], _ => rfl
  obtain ⟨cc29, cda29, fdx29, Zx29, _, kV29, dc29, pm29, an29, ct29, ef29⟩ := HK.sup_ok (P := (PySem.Challenge.rw_latepatches_k25_events_tried).prog) (mg := mg) (D := (vCC K)) (c.fn 29 rfl) rfl hs29.1 (PySem.W.mg_none_of X G z_super) tp
  have Z29 : SupF (PySem.Challenge.rw_latepatches_k25_events_tried).prog K mg "start" "CarefulPatch.start" s_CarefulPatch_start (vf29 K) cc29 cda29 (vCC K) fdx29 := Zx29
  have SM29 : SupM K (vCC K) "start" (vf26 K) := ⟨HK.dec_ok ht29.1, HK.dec_ok hu29.1, hv29.1, HK.dec_ok hv29.2, sop⟩
  have b29 : Binds K fdx29 ["self"] [] := by
    rw [ef29]
    exact fun s us X hl => by
      have h : us.length = 1 := by simpa using hl
      match us, h with
      | [_], _ => exact BindsTo.of_eq rfl
  have k29 : PySem.W.keepIn K (.ref (vf29 K)) = true := Zx29.F.kp
  obtain ⟨cc30, cda30, fdx30, Zx30, _, kV30, dc30, pm30, an30, ct30, ef30⟩ := HK.sup_ok (P := (PySem.Challenge.rw_latepatches_k25_events_tried).prog) (mg := mg) (D := (vCS K)) (c.fn 30 rfl) rfl hs30.1 (PySem.W.mg_none_of X G z_super) tp
  have Z30 : SupF (PySem.Challenge.rw_latepatches_k25_events_tried).prog K mg "start" "StrictPatch.start" s_StrictPatch_start (vf30 K) cc30 cda30 (vCS K) fdx30 := Zx30
  have SM30 : SupM K (vCS K) "start" (vf26 K) := ⟨HK.dec_ok ht30.1, HK.dec_ok hu30.1, hv30.1, HK.dec_ok hv30.2, sop⟩
  have b30 : Binds K fdx30 ["self"] [] := by
    rw [ef30]
    exact fun s us X hl => by
      have h : us.length = 1 := by simpa using hl
      match us, h with
      | [_], _ => exact BindsTo.of_eq rfl
  have k30 : PySem.W.keepIn K (.ref (vf30 K)) = true := Zx30.F.kp
  obtain ⟨cc31, cda31, fdx31, Zx31, _, kV31, dc31, pm31, an31, ct31, ef31⟩ := HK.sup_ok (P := (PySem.Challenge.rw_latepatches_k25_events_tried).prog) (mg := mg) (D := (vCC K)) (c.fn 31 rfl) rfl hs31.1 (PySem.W.mg_none_of X G z_super) tp
  have Z31 : SupF (PySem.Challenge.rw_latepatches_k25_events_tried).prog K mg "stop" "CarefulPatch.stop" s_CarefulPatch_stop (vf31 K) cc31 cda31 (vCC K) fdx31 := Zx31
  have SM31 : SupM K (vCC K) "stop" (vf27 K) := ⟨HK.dec_ok ht31.1, HK.dec_ok hu31.1, hv31.1, HK.dec_ok hv31.2, sop⟩
  have b31 : Binds K fdx31 ["self"] [] := by
    rw [ef31]
    exact fun s us X hl => by
      have h : us.length = 1 := by simpa using hl
      match us, h with
      | [_], _ => exact BindsTo.of_eq rfl
  have k31 : PySem.W.keepIn K (.ref (vf31 K)) = true := Zx31.F.kp
  obtain ⟨cc32, cda32, fdx32, Zx32, _, kV32, dc32, pm32, an32, ct32, ef32⟩ := HK.sup_ok (P := (PySem.Challenge.rw_latepatches_k25_events_tried).prog) (mg := mg) (D := (vCS K)) (c.fn 32 rfl) rfl hs32.1 (PySem.W.mg_none_of X G z_super) tp
  have Z32 : SupF (PySem.Challenge.rw_latepatches_k25_events_tried).prog K mg "stop" "StrictPatch.stop" s_StrictPatch_stop (vf32 K) cc32 cda32 (vCS K) fdx32 := Zx32
  have SM32 : SupM K (vCS K) "stop" (vf27 K) := ⟨HK.dec_ok ht32.1, HK.dec_ok hu32.1, hv32.1, HK.dec_ok hv32.2, sop⟩
  have b32 : Binds K fdx32 ["self"] [] := by
    rw [ef32]
    exact fun s us X hl => by
      have h : us.length = 1 := by simpa using hl
      match us, h with
      | [_], _ => exact BindsTo.of_eq rfl
  have k32 : PySem.W.keepIn K (.ref (vf32 K)) = true := Zx32.F.kp
  obtain ⟨cc33, cda33, fdx33, Zx33, _, kV33, dc33, pm33, an33, ct33, ef33⟩ := HK.sup_ok (P := (PySem.Challenge.rw_latepatches_k25_events_tried).prog) (mg := mg) (D := (vCC K)) (c.fn 33 rfl) rfl hs33.1 (PySem.W.mg_none_of X G z_super) tp
  have Z33 : SupF (PySem.Challenge.rw_latepatches_k25_events_tried).prog K mg "described" "CarefulPatch.described" s_CarefulPatch_described (vf33 K) cc33 cda33 (vCC K) fdx33 := Zx33
  have SM33 : SupM K (vCC K) "described" (vf28 K) := ⟨HK.dec_ok ht33.1, HK.dec_ok hu33.1, hv33.1, HK.dec_ok hv33.2, sop⟩
  have b33 : Binds K fdx33 ["self"] [] := by
    rw [ef33]
    exact fun s us X hl => by
      have h : us.length = 1 := by simpa using hl
      match us, h with
      | [_], _ => exact BindsTo.of_eq rfl
  have k33 : PySem.W.keepIn K (.ref (vf33 K)) = true := Zx33.F.kp
  obtain ⟨cc34, cda34, fdx34, Zx34, _, kV34, dc34, pm34, an34, ct34, ef34⟩ := HK.sup_ok (P := (PySem.Challenge.rw_latepatches_k25_events_tried).prog) (mg := mg) (D := (vCS K)) (c.fn 34 rfl) rfl hs34.1 (PySem.W.mg_none_of X G z_super) tp
  have Z34 : SupF (PySem.Challenge.rw_latepatches_k25_events_tried).prog K mg "described" "StrictPatch.described" s_StrictPatch_described (vf34 K) cc34 cda34 (vCS K) fdx34 := Zx34
  have SM34 : SupM K (vCS K) "described" (vf28 K) := ⟨HK.dec_ok ht34.1, HK.dec_ok hu34.1, hv34.1, HK.dec_ok hv34.2, sop⟩
  have b34 : Binds K fdx34 ["self"] [] := by
    rw [ef34]
    exact fun s us X hl => by
      have h : us.length = 1 := by simpa using hl
      match us, h with
      | [_], _ => exact BindsTo.of_eq rfl
  have k34 : PySem.W.keepIn K (.ref (vf34 K)) = true := Zx34.F.kp
  obtain ⟨fd35, Fx35⟩ := HK.funD_ok (dvs := [V.int 0]) (c.fn 35 rfl) rfl h35.2
  have F35 : FunD K "__init__" "Setting.__init__" (defArgs s_Setting_init) (defBody s_Setting_init) (defScope s_Setting_init) [.int 0] [] (vf35 K) fd35 := Fx35
  obtain ⟨fd36, Fx36⟩ := HK.fun_ok (c.fn 36 rfl) rfl h36.2
  have F36 : L2.Fun K "integer" "Setting.integer" s_Setting_integer (vf36 K) fd36 := Fx36
  have k36 : PySem.W.keepIn K (.ref (vf36 K)) = true := F36.kp
  have b36 := F36.binds (ps := ["self"]) fun _ _ _ _ _ _ us hl => match us, hl with | [_], _ => rfl
  obtain ⟨fd37, Fx37⟩ := HK.fun_ok (c.fn 37 rfl) rfl h37.2
  have F37 : L2.Fun K "present" "Setting.present" s_Setting_present (vf37 K) fd37 := Fx37
  have k37 : PySem.W.keepIn K (.ref (vf37 K)) = true := F37.kp
  have b37 := F37.binds (ps := ["self"]) fun _ _ _ _ _ _ us hl => match us, hl with | [_], _ => rfl
  obtain ⟨fd38, Fx38⟩ := HK.fun_ok (c.fn 38 rfl) rfl h38.2
  have F38 : L2.Fun K "events" "Setting.events" s_Setting_events (vf38 K) fd38 := Fx38
  have k38 : PySem.W.keepIn K (.ref (vf38 K)) = true := F38.kp
  have b38 := F38.binds (ps := ["self"]) fun _ _ _ _ _ _ us hl => match us, hl with | [_], _ => rfl
  obtain ⟨fd39, Fx39⟩ := HK.fun_ok (c.fn 39 rfl) rfl h39.2
  have F39 : L2.Fun K "original" "Setting.original" s_Setting_original (vf39 K) fd39 := Fx39
  have k39 : PySem.W.keepIn K (.ref (vf39 K)) = true := F39.kp
  have b39 := F39.binds (ps := ["self"]) fun _ _ _ _ _ _ us hl => match us, hl with | [_], _ => rfl
  obtain ⟨fd40, Fx40⟩ := HK.fun_ok (c.fn 40 rfl) rfl h40.2
  have F40 : L2.Fun K "__len__" "Setting.__len__" s_Setting_len (vf40 K) fd40 := Fx40
  have k40 : PySem.W.keepIn K (.ref (vf40 K)) = true := F40.kp
  have b40 := F40.binds (ps := ["self"]) fun _ _ _ _ _ _ us hl => match us, hl with | [_], _ => rfl
  obtain ⟨fd41, Fx41⟩ := HK.fun_ok (c.fn 41 rfl) rfl h41.2
  have F41 : L2.Fun K "_enlist" "Setting._enlist" s_Setting_enlist (vf41 K) fd41 := Fx41
  have k41 : PySem.W.keepIn K (.ref (vf41 K)) = true := F41.kp
  have b41 := F41.binds (ps := ["self", "integer"]) fun _ _ _ _ _ _ us hl => match us, hl with | [_, _], _ => rfl
  obtain ⟨fd42, Fx42⟩ := HK.fun_ok (c.fn 42 rfl) rfl h42.2
  have F42 : L2.Fun K "_keep" "Setting._keep" s_Setting_keep (vf42 K) fd42 := Fx42
  have k42 : PySem.W.keepIn K (.ref (vf42 K)) = true := F42.kp
  have b42 := F42.binds (ps := ["self", "patch"]) fun _ _ _ _ _ _ us hl => match us, hl with | [_, _], _ => rfl
  obtain ⟨fd43, Fx43⟩ := HK.fun_ok (c.fn 43 rfl) rfl h43.2
  have F43 : L2.Fun K "patch" "Setting.patch" s_Setting_patch (vf43 K) fd43 := Fx43
  have k43 : PySem.W.keepIn K (.ref (vf43 K)) = true := F43.kp
  have b43 := F43.binds (ps := ["self", "number"]) fun _ _ _ _ _ _ us hl => match us, hl with | [_, _], _ => rfl
  obtain ⟨fd44, Fx44⟩ := HK.fun_ok (c.fn 44 rfl) rfl h44.2
  have F44 : L2.Fun K "careful" "Setting.careful" s_Setting_careful (vf44 K) fd44 := Fx44
  have k44 : PySem.W.keepIn K (.ref (vf44 K)) = true := F44.kp
  have b44 := F44.binds (ps := ["self", "number"]) fun _ _ _ _ _ _ us hl => match us, hl with | [_, _], _ => rfl
  obtain ⟨fd45, Fx45⟩ := HK.fun_ok (c.fn 45 rfl) rfl h45.2
  have F45 : L2.Fun K "strict" "Setting.strict" s_Setting_strict (vf45 K) fd45 := Fx45
  have k45 : PySem.W.keepIn K (.ref (vf45 K)) = true := F45.kp
  have b45 := F45.binds (ps := ["self", "number"]) fun _ _ _ _ _ _ us hl => match us, hl with | [_, _], _ => rfl
  obtain ⟨fd46, Fx46⟩ := HK.fun_ok (c.fn 46 rfl) rfl h46.2
  have F46 : L2.Fun K "undo" "Setting.undo" s_Setting_undo (vf46 K) fd46 := Fx46
  have k46 : PySem.W.keepIn K (.ref (vf46 K)) = true := F46.kp
  have b46 := F46.binds (ps := ["self"]) fun _ _ _ _ _ _ us hl => match us, hl with | [_], _ => rfl
  obtain ⟨fd47, Fx47⟩ := HK.fun_ok (c.fn 47 rfl) rfl h47.2
  have F47 : L2.Fun K "_law_source" "_law_source" s_law_source (vf47 K) fd47 := Fx47
  have k47 : PySem.W.keepIn K (.ref (vf47 K)) = true := F47.kp
  have b47 := F47.binds (ps := ["cell", "nth"]) fun _ _ _ _ _ _ us hl => match us, hl with | [_, _], _ => rfl
  obtain ⟨fd48, Fx48⟩ := HK.fun_ok (c.fn 48 rfl) rfl h48.2
  have F48 : L2.Fun K "_law_draw" "_law_draw" s_law_draw (vf48 K) fd48 := Fx48
  have k48 : PySem.W.keepIn K (.ref (vf48 K)) = true := F48.kp
  have b48 := F48.binds (ps := ["source", "size"]) fun _ _ _ _ _ _ us hl => match us, hl with | [_, _], _ => rfl
  obtain ⟨fd49, Fx49⟩ := HK.fun_ok (c.fn 49 rfl) rfl h49.2
  have F49 : L2.Fun K "_law_cells" "_law_cells" s_law_cells (vf49 K) fd49 := Fx49
  have k49 : PySem.W.keepIn K (.ref (vf49 K)) = true := F49.kp
  have b49 := F49.binds (ps := ["script", "most"]) fun _ _ _ _ _ _ us hl => match us, hl with | [_, _], _ => rfl
  obtain ⟨fd50, Fx50⟩ := HK.fun_ok (c.fn 50 rfl) rfl h50.2
  have F50 : L2.Fun K "_law_same" "_law_same" s_law_same (vf50 K) fd50 := Fx50
  have k50 : PySem.W.keepIn K (.ref (vf50 K)) = true := F50.kp
  have b50 := F50.binds (ps := ["found", "expected"]) fun _ _ _ _ _ _ us hl => match us, hl with | [_, _], _ => rfl
  obtain ⟨fd51, Fx51⟩ := HK.fun_ok (c.fn 51 rfl) rfl h51.2
  have F51 : L2.Fun K "_law_later" "_law_later" s_law_later (vf51 K) fd51 := Fx51
  have k51 : PySem.W.keepIn K (.ref (vf51 K)) = true := F51.kp
  have b51 := F51.binds (ps := ["state", "words", "event"]) fun _ _ _ _ _ _ us hl => match us, hl with | [_, _, _], _ => rfl
  obtain ⟨fd52, Fx52⟩ := HK.fun_ok (c.fn 52 rfl) rfl h52.2
  have F52 : L2.Fun K "_law_due" "_law_due" s_law_due (vf52 K) fd52 := Fx52
  have k52 : PySem.W.keepIn K (.ref (vf52 K)) = true := F52.kp
  have b52 := F52.binds (ps := ["state", "integers"]) fun _ _ _ _ _ _ us hl => match us, hl with | [_, _], _ => rfl
  obtain ⟨fd53, Fx53⟩ := HK.fun_ok (c.fn 53 rfl) rfl h53.2
  have F53 : L2.Fun K "_law_seen" "_law_seen" s_law_seen (vf53 K) fd53 := Fx53
  have k53 : PySem.W.keepIn K (.ref (vf53 K)) = true := F53.kp
  have b53 := F53.binds (ps := ["one"]) fun _ _ _ _ _ _ us hl => match us, hl with | [_], _ => rfl
  obtain ⟨fd54, Fx54⟩ := HK.fun_ok (c.fn 54 rfl) rfl h54.2
  have F54 : L2.Fun K "_law_patches_right" "_law_patches_right" s_law_patches_right (vf54 K) fd54 := Fx54
  have k54 : PySem.W.keepIn K (.ref (vf54 K)) = true := F54.kp
  have b54 := F54.binds (ps := ["some", "state", "words", "integers"]) fun _ _ _ _ _ _ us hl => match us, hl with | [_, _, _, _], _ => rfl
  obtain ⟨fd55, Fx55⟩ := HK.fun_ok (c.fn 55 rfl) rfl h55.2
  have F55 : L2.Fun K "_law_made" "_law_made" s_law_made (vf55 K) fd55 := Fx55
  have k55 : PySem.W.keepIn K (.ref (vf55 K)) = true := F55.kp
  have b55 := F55.binds (ps := ["source", "one", "most", "style"]) fun _ _ _ _ _ _ us hl => match us, hl with | [_, _, _, _], _ => rfl
  obtain ⟨fd56, Fx56⟩ := HK.fun_ok (c.fn 56 rfl) rfl h56.2
  have F56 : L2.Fun K "_law_event" "_law_event" s_law_event (vf56 K) fd56 := Fx56
  have k56 : PySem.W.keepIn K (.ref (vf56 K)) = true := F56.kp
  have b56 := F56.binds (ps := ["source", "state", "most"]) fun _ _ _ _ _ _ us hl => match us, hl with | [_, _, _], _ => rfl
  obtain ⟨fd57, Fx57⟩ := HK.fun_ok (c.fn 57 rfl) rfl h57.2
  have F57 : L2.Fun K "_law_pressed" "_law_pressed" s_law_pressed (vf57 K) fd57 := Fx57
  have k57 : PySem.W.keepIn K (.ref (vf57 K)) = true := F57.kp
  have b57 := F57.binds (ps := ["some", "event"]) fun _ _ _ _ _ _ us hl => match us, hl with | [_, _], _ => rfl
  obtain ⟨fd58, Fx58⟩ := HK.fun_ok (c.fn 58 rfl) rfl h58.2
  have F58 : L2.Fun K "are_integers" "are_integers" s_are_integers (vf58 K) fd58 := Fx58
  have k58 : PySem.W.keepIn K (.ref (vf58 K)) = true := F58.kp
  have b58 := F58.binds (ps := ["value", "least", "greatest", "most"]) fun _ _ _ _ _ _ us hl => match us, hl with | [_, _, _, _], _ => rfl
  obtain ⟨fd59, Fx59⟩ := HK.fun_ok (c.fn 59 rfl) rfl h59.2
  have F59 : L2.Fun K "are_events" "are_events" s_are_events (vf59 K) fd59 := Fx59
  have k59 : PySem.W.keepIn K (.ref (vf59 K)) = true := F59.kp
  have b59 := F59.binds (ps := ["value"]) fun _ _ _ _ _ _ us hl => match us, hl with | [_], _ => rfl
  obtain ⟨fd60, Fx60⟩ := HK.fun_ok (c.fn 60 rfl) rfl h60.2
  have F60 : L2.Fun K "is_history" "is_history" s_is_history (vf60 K) fd60 := Fx60
  have k60 : PySem.W.keepIn K (.ref (vf60 K)) = true := F60.kp
  have b60 := F60.binds (ps := ["value"]) fun _ _ _ _ _ _ us hl => match us, hl with | [_], _ => rfl
  obtain ⟨fd61, Fx61⟩ := HK.fun_ok (c.fn 61 rfl) rfl h61.2
  have F61 : L2.Fun K "twin" "Record.twin" s_Record_twin (vf61 K) fd61 := Fx61
  have k61 : PySem.W.keepIn K (.ref (vf61 K)) = true := F61.kp
  have b61 := F61.binds (ps := ["self"]) fun _ _ _ _ _ _ us hl => match us, hl with | [_], _ => rfl
  obtain ⟨fd62, Fx62⟩ := HK.fun_ok (c.fn 62 rfl) rfl h62.2
  have F62 : L2.Fun K "_check_next" "Setting._check_next" s_Setting_check_next (vf62 K) fd62 := Fx62
  have k62 : PySem.W.keepIn K (.ref (vf62 K)) = true := F62.kp
  have b62 := F62.binds (ps := ["self", "record", "event"]) fun _ _ _ _ _ _ us hl => match us, hl with | [_, _, _], _ => rfl
  obtain ⟨fd63, Fx63⟩ := HK.fun_ok (c.fn 63 rfl) rfl h63.2
  have F63 : L2.Fun K "tried" "Setting.tried" s_Setting_tried (vf63 K) fd63 := Fx63
  have k63 : PySem.W.keepIn K (.ref (vf63 K)) = true := F63.kp
  obtain ⟨fd64, Fx64⟩ := HK.fun_ok (c.fn 64 rfl) rfl h64.2
  have F64 : L2.Fun K "_law_error_name" "_law_error_name" s_law_error_name (vf64 K) fd64 := Fx64
  have k64 : PySem.W.keepIn K (.ref (vf64 K)) = true := F64.kp
  have b64 := F64.binds (ps := ["caught"]) fun _ _ _ _ _ _ us hl => match us, hl with | [_], _ => rfl
  obtain ⟨fd65, Fx65⟩ := HK.fun_ok (c.fn 65 rfl) rfl h65.2
  have F65 : L2.Fun K "_law_refused" "_law_refused" s_law_refused (vf65 K) fd65 := Fx65
  have k65 : PySem.W.keepIn K (.ref (vf65 K)) = true := F65.kp
  have b65 := F65.binds (ps := ["call", "given"]) fun _ _ _ _ _ _ us hl => match us, hl with | [_, _], _ => rfl
  obtain ⟨fd66, Fx66⟩ := HK.fun_ok (c.fn 66 rfl) rfl h66.2
  have F66 : L2.Fun K "_law_tried" "_law_tried" s_law_tried (vf66 K) fd66 := Fx66
  have k66 : PySem.W.keepIn K (.ref (vf66 K)) = true := F66.kp
  have b66 := F66.binds (ps := ["one", "g"]) fun _ _ _ _ _ _ us hl => match us, hl with | [_, _], _ => rfl
  obtain ⟨fd67, Fx67⟩ := HK.fun_ok (c.fn 67 rfl) rfl h67.2
  have F67 : L2.Fun K "_law_outcome" "_law_outcome" s_law_outcome (vf67 K) fd67 := Fx67
  have k67 : PySem.W.keepIn K (.ref (vf67 K)) = true := F67.kp
  have b67 := F67.binds (ps := ["one", "g"]) fun _ _ _ _ _ _ us hl => match us, hl with | [_, _], _ => rfl
  obtain ⟨fd68, Fx68⟩ := HK.fun_ok (c.fn 68 rfl) rfl h68.2
  have F68 : L2.Fun K "_law_line" "_law_line" s_law_line (vf68 K) fd68 := Fx68
  have k68 : PySem.W.keepIn K (.ref (vf68 K)) = true := F68.kp
  have b68 := F68.binds (ps := ["source", "state", "words", "size"]) fun _ _ _ _ _ _ us hl => match us, hl with | [_, _, _, _], _ => rfl
  obtain ⟨fd69, Fx69⟩ := HK.fun_ok (c.fn 69 rfl) rfl h69.2
  have F69 : L2.Fun K "_law_holds" "_law_holds" s_law_holds (vf69 K) fd69 := Fx69
  have k69 : PySem.W.keepIn K (.ref (vf69 K)) = true := F69.kp
  have b69 := F69.binds (ps := ["source", "script"]) fun _ _ _ _ _ _ us hl => match us, hl with | [_, _], _ => rfl
  obtain ⟨fd70, Fx70⟩ := HK.fun_ok (c.fn 70 rfl) rfl h70.2
  have F70 : L2.Fun K "law" "law" s_law (vf70 K) fd70 := Fx70
  have k70 : PySem.W.keepIn K (.ref (vf70 K)) = true := F70.kp
  obtain ⟨⟨oc, od, kV, doc, pm, an, cdv, ct, osl, rfl, lk, hc⟩, kp⟩ := F70
  have F70 := fun_mk (st := s_law) lk hc kp
  refine ⟨PySem.W.fnOf "law" "law" (defArgs s_law) (defBody s_law) (defScope s_law) .none kV doc pm an cdv ct, fun s v => .of_eq rfl, fun base _ _ => ?_⟩
  have T_is_integer : Cal (PySem.Challenge.rw_latepatches_k25_events_tried).prog w K mg base 1 "is_integer" _ := ⟨(vf0 K), _, ["value"], ok_is_integer F0 B, PySem.W.mg_of X G a0, F0.kp, b0⟩
  have T_is_integer_O : Cal (PySem.Challenge.rw_latepatches_k25_events_tried).prog w K mg base 1 "is_integer" (spIsIntO K) := ⟨(vf0 K), _, ["value"], ok_is_integer_O F0 B, PySem.W.mg_of X G a0, F0.kp, b0⟩
  have T_is_integer_within : Cal (PySem.Challenge.rw_latepatches_k25_events_tried).prog w K mg base 2 "is_integer_within" _ := ⟨(vf1 K), _, ["value", "least", "greatest"], ok_is_integer_within F1 T_is_integer, PySem.W.mg_of X G a1, F1.kp, b1⟩
  have T_is_integer_within_O : Cal (PySem.Challenge.rw_latepatches_k25_events_tried).prog w K mg base 2 "is_integer_within" (spWithinO K) := ⟨(vf1 K), _, ["value", "least", "greatest"], ok_is_integer_within_O F1 T_is_integer_O, PySem.W.mg_of X G a1, F1.kp, b1⟩
  have T_check_number : Cal (PySem.Challenge.rw_latepatches_k25_events_tried).prog w K mg base 3 "check_number" _ := ⟨(vf2 K), _, ["value", "least", "greatest"], ok_check_number F2 T_is_integer_within, PySem.W.mg_of X G a2, F2.kp, b2⟩
  have T_check_settable : Cal (PySem.Challenge.rw_latepatches_k25_events_tried).prog w K mg base 4 "check_settable" _ := ⟨(vf3 K), _, ["value"], ok_check_settable F3 mgi_FARTHEST T_check_number, PySem.W.mg_of X G a3, F3.kp, b3⟩
  have T_mk_Record : Mak (PySem.Challenge.rw_latepatches_k25_events_tried).prog w K mg base 1 "Record" (vCR K) _ := ⟨(vf4 K), _, ["self", "integers", "past", "presents"], ⟨mkCR, a4, i4, kcCR⟩, ok_Record_init F4 B T, PySem.W.mg_of X G aCCR, b4⟩
  have T_Record_integer_now : MetV (PySem.Challenge.rw_latepatches_k25_events_tried).prog w K mg base 1 (Is (vCR K)) "integer_now" _ := metV clCR ⟨a5, i5, k5⟩ (ok_Record_integer_now F5 T) b5
  have T_Record_found_by : MetV (PySem.Challenge.rw_latepatches_k25_events_tried).prog w K mg base 1 (Is (vCR K)) "found_by" _ := metV clCR ⟨a6, i6, k6⟩ (ok_Record_found_by F6 T) b6
  have T_Record_is_running : MetV (PySem.Challenge.rw_latepatches_k25_events_tried).prog w K mg base 1 (Is (vCR K)) "is_running" _ := metV clCR ⟨a7, i7, k7⟩ (ok_Record_is_running F7 T) b7
  have T_Record_go_on_by : MetV (PySem.Challenge.rw_latepatches_k25_events_tried).prog w K mg base 1 (Is (vCR K)) "go_on_by" _ := metV clCR ⟨a8, i8, k8⟩ (ok_Record_go_on_by F8 T) b8
  have T_Record_go_back : MetV (PySem.Challenge.rw_latepatches_k25_events_tried).prog w K mg base 1 (Is (vCR K)) "go_back" _ := metV clCR ⟨a9, i9, k9⟩ (ok_Record_go_back F9 T) b9
  have T_mk_Patch : Mak (PySem.Challenge.rw_latepatches_k25_events_tried).prog w K mg base 1 "Patch" (vCP K) _ := ⟨(vf10 K), _, ["self", "record", "number"], ⟨mkCP, a10, i10, kcCP⟩, ok_Patch_init F10 T, PySem.W.mg_of X G aCCP, b10⟩
  have T_mk_CarefulPatch : Mak (PySem.Challenge.rw_latepatches_k25_events_tried).prog w K mg base 1 "CarefulPatch" (vCC K) _ := ⟨(vf10 K), _, ["self", "record", "number"], ⟨mkCC, inCC, i10, kcCC⟩, ok_Patch_init F10 T, PySem.W.mg_of X G aCCC, b10⟩
  have T_mk_StrictPatch : Mak (PySem.Challenge.rw_latepatches_k25_events_tried).prog w K mg base 1 "StrictPatch" (vCS K) _ := ⟨(vf10 K), _, ["self", "record", "number"], ⟨mkCS, inCS, i10, kcCS⟩, ok_Patch_init F10 T, PySem.W.mg_of X G aCCS, b10⟩
  have FM_Patch_number : FnOk (PySem.Challenge.rw_latepatches_k25_events_tried).prog w K mg base (L2N.CX (PySem.Challenge.rw_latepatches_k25_events_tried).prog w) 1 (vf11 K) _ ["self"] _ := ok_Patch_number F11 T
  have MM_Patch_number : PropOf K (vCP K) "number" (vp11 K) (vf11 K) := pp11
  have B_Patch_number := b11
  have FM_CarefulPatch_number : FnOk (PySem.Challenge.rw_latepatches_k25_events_tried).prog w K mg base (L2N.CX (PySem.Challenge.rw_latepatches_k25_events_tried).prog w) 1 (vf12 K) _ ["self"] _ := ok_CarefulPatch_number F12 T
  have MM_CarefulPatch_number : PropOf K (vCC K) "number" (vp12 K) (vf12 K) := pp12
  have B_CarefulPatch_number := b12
  have FM_StrictPatch_number : FnOk (PySem.Challenge.rw_latepatches_k25_events_tried).prog w K mg base (L2N.CX (PySem.Challenge.rw_latepatches_k25_events_tried).prog w) 1 (vf13 K) _ ["self"] _ := ok_StrictPatch_number F13 T
  have MM_StrictPatch_number : PropOf K (vCS K) "number" (vp13 K) (vf13 K) := pp13
  have B_StrictPatch_number := b13
  have T_AnyPatch_number := prp3 T MM_Patch_number FM_Patch_number B_Patch_number MM_CarefulPatch_number FM_CarefulPatch_number B_CarefulPatch_number MM_StrictPatch_number FM_StrictPatch_number B_StrictPatch_number
  have FM_Patch_integer : FnOk (PySem.Challenge.rw_latepatches_k25_events_tried).prog w K mg base (L2N.CX (PySem.Challenge.rw_latepatches_k25_events_tried).prog w) 1 (vf14 K) _ ["self"] _ := ok_Patch_integer F14 T
  have MM_Patch_integer : PropOf K (vCP K) "integer" (vp14 K) (vf14 K) := pp14
  have B_Patch_integer := b14
  have FM_CarefulPatch_integer : FnOk (PySem.Challenge.rw_latepatches_k25_events_tried).prog w K mg base (L2N.CX (PySem.Challenge.rw_latepatches_k25_events_tried).prog w) 1 (vf15 K) _ ["self"] _ := ok_CarefulPatch_integer F15 T
  have MM_CarefulPatch_integer : PropOf K (vCC K) "integer" (vp15 K) (vf15 K) := pp15
  have B_CarefulPatch_integer := b15
  have FM_StrictPatch_integer : FnOk (PySem.Challenge.rw_latepatches_k25_events_tried).prog w K mg base (L2N.CX (PySem.Challenge.rw_latepatches_k25_events_tried).prog w) 1 (vf16 K) _ ["self"] _ := ok_StrictPatch_integer F16 T
  have MM_StrictPatch_integer : PropOf K (vCS K) "integer" (vp16 K) (vf16 K) := pp16
  have B_StrictPatch_integer := b16
  have T_AnyPatch_integer := prp3 T MM_Patch_integer FM_Patch_integer B_Patch_integer MM_CarefulPatch_integer FM_CarefulPatch_integer B_CarefulPatch_integer MM_StrictPatch_integer FM_StrictPatch_integer B_StrictPatch_integer
  have FM_Patch_saved : FnOk (PySem.Challenge.rw_latepatches_k25_events_tried).prog w K mg base (L2N.CX (PySem.Challenge.rw_latepatches_k25_events_tried).prog w) 2 (vf17 K) _ ["self"] _ := ok_Patch_saved F17 T T_Record_found_by
  have MM_Patch_saved : PropOf K (vCP K) "saved" (vp17 K) (vf17 K) := pp17
  have B_Patch_saved := b17
  have FM_CarefulPatch_saved : FnOk (PySem.Challenge.rw_latepatches_k25_events_tried).prog w K mg base (L2N.CX (PySem.Challenge.rw_latepatches_k25_events_tried).prog w) 2 (vf18 K) _ ["self"] _ := ok_CarefulPatch_saved F18 T T_Record_found_by
  have MM_CarefulPatch_saved : PropOf K (vCC K) "saved" (vp18 K) (vf18 K) := pp18
  have B_CarefulPatch_saved := b18
  have FM_StrictPatch_saved : FnOk (PySem.Challenge.rw_latepatches_k25_events_tried).prog w K mg base (L2N.CX (PySem.Challenge.rw_latepatches_k25_events_tried).prog w) 2 (vf19 K) _ ["self"] _ := ok_StrictPatch_saved F19 T T_Record_found_by
  have MM_StrictPatch_saved : PropOf K (vCS K) "saved" (vp19 K) (vf19 K) := pp19
  have B_StrictPatch_saved := b19
  have T_AnyPatch_saved := prp3 T MM_Patch_saved FM_Patch_saved B_Patch_saved MM_CarefulPatch_saved FM_CarefulPatch_saved B_CarefulPatch_saved MM_StrictPatch_saved FM_StrictPatch_saved B_StrictPatch_saved
  have FM_Patch_runs : FnOk (PySem.Challenge.rw_latepatches_k25_events_tried).prog w K mg base (L2N.CX (PySem.Challenge.rw_latepatches_k25_events_tried).prog w) 2 (vf20 K) _ ["self"] _ := ok_Patch_runs F20 T T_Record_is_running
  have MM_Patch_runs : PropOf K (vCP K) "runs" (vp20 K) (vf20 K) := pp20
  have B_Patch_runs := b20
  have FM_CarefulPatch_runs : FnOk (PySem.Challenge.rw_latepatches_k25_events_tried).prog w K mg base (L2N.CX (PySem.Challenge.rw_latepatches_k25_events_tried).prog w) 2 (vf21 K) _ ["self"] _ := ok_CarefulPatch_runs F21 T T_Record_is_running
  have MM_CarefulPatch_runs : PropOf K (vCC K) "runs" (vp21 K) (vf21 K) := pp21
  have B_CarefulPatch_runs := b21
  have FM_StrictPatch_runs : FnOk (PySem.Challenge.rw_latepatches_k25_events_tried).prog w K mg base (L2N.CX (PySem.Challenge.rw_latepatches_k25_events_tried).prog w) 2 (vf22 K) _ ["self"] _ := ok_StrictPatch_runs F22 T T_Record_is_running
  have MM_StrictPatch_runs : PropOf K (vCS K) "runs" (vp22 K) (vf22 K) := pp22
  have B_StrictPatch_runs := b22
  have T_AnyPatch_runs := prp3 T MM_Patch_runs FM_Patch_runs B_Patch_runs MM_CarefulPatch_runs FM_CarefulPatch_runs B_CarefulPatch_runs MM_StrictPatch_runs FM_StrictPatch_runs B_StrictPatch_runs
  have FM_Patch_left_by_stop : FnOk (PySem.Challenge.rw_latepatches_k25_events_tried).prog w K mg base (L2N.CX (PySem.Challenge.rw_latepatches_k25_events_tried).prog w) 2 (vf23 K) _ ["self", "record"] _ := ok_Patch_left_by_stop F23 T T_Record_found_by
  have MM_Patch_left_by_stop : Meth K (vCP K) "left_by_stop" (vf23 K) := ⟨a23, i23, k23⟩
  have B_Patch_left_by_stop := b23
  have FM_CarefulPatch_left_by_stop := ok_CarefulPatch_left_by_stop (w := w) (base := base) (eO := (Ex [(vC0 K), (vC1 K), (vC2 K), (vC3 K), (vC4 K), (vC5 K), (vC6 K), (vC7 K), (vC8 K), (vC9 K), (vC10 K), (vC11 K), (vC12 K), (vC13 K), (vC14 K), (vC15 K), (vC16 K), (vC17 K)]) 15) Z24 T SM24 FM_Patch_left_by_stop B_Patch_left_by_stop
  have MM_CarefulPatch_left_by_stop : Meth K (vCC K) "left_by_stop" (vf24 K) := ⟨a24, i24, k24⟩
  have B_CarefulPatch_left_by_stop := b24
  have FM_StrictPatch_left_by_stop := ok_StrictPatch_left_by_stop (w := w) (base := base) Z25 RO T SM25 FM_Patch_left_by_stop B_Patch_left_by_stop
  have MM_StrictPatch_left_by_stop : Meth K (vCS K) "left_by_stop" (vf25 K) := ⟨a25, i25, k25⟩
  have B_StrictPatch_left_by_stop := b25
  have T_AnyPatch_left_by_stop : MetC (PySem.Challenge.rw_latepatches_k25_events_tried).prog w K mg base 3 (Kind3 (vCP K) (vCC K) (vCS K)) "left_by_stop" (spLeft (vCR K) ((Ex [(vC0 K), (vC1 K), (vC2 K), (vC3 K), (vC4 K), (vC5 K), (vC6 K), (vC7 K), (vC8 K), (vC9 K), (vC10 K), (vC11 K), (vC12 K), (vC13 K), (vC14 K), (vC15 K), (vC16 K), (vC17 K)]) 15)) := met3 T MM_Patch_left_by_stop (left_P FM_Patch_left_by_stop) B_Patch_left_by_stop MM_CarefulPatch_left_by_stop FM_CarefulPatch_left_by_stop B_CarefulPatch_left_by_stop MM_StrictPatch_left_by_stop FM_StrictPatch_left_by_stop B_StrictPatch_left_by_stop
  have FM_Patch_start : FnOk (PySem.Challenge.rw_latepatches_k25_events_tried).prog w K mg base (L2N.CX (PySem.Challenge.rw_latepatches_k25_events_tried).prog w) 4 (vf26 K) _ ["self"] _ := ok_Patch_start F26 T RS T_AnyPatch_saved T_Record_go_on_by T_Record_integer_now
  have MM_Patch_start : Meth K (vCP K) "start" (vf26 K) := ⟨a26, i26, k26⟩
  have B_Patch_start := b26
  have FM_Patch_stop : FnOk (PySem.Challenge.rw_latepatches_k25_events_tried).prog w K mg base (L2N.CX (PySem.Challenge.rw_latepatches_k25_events_tried).prog w) 4 (vf27 K) _ ["self"] _ := ok_Patch_stop F27 T RR T_AnyPatch_runs T_AnyPatch_left_by_stop T_Record_go_on_by T_Record_integer_now
  have MM_Patch_stop : Meth K (vCP K) "stop" (vf27 K) := ⟨a27, i27, k27⟩
  have B_Patch_stop := b27
  have FM_Patch_described : FnOk (PySem.Challenge.rw_latepatches_k25_events_tried).prog w K mg base (L2N.CX (PySem.Challenge.rw_latepatches_k25_events_tried).prog w) 1 (vf28 K) _ ["self"] _ := ok_Patch_described F28 T
  have MM_Patch_described : Meth K (vCP K) "described" (vf28 K) := ⟨a28, i28, k28⟩
  have B_Patch_described := b28
  have FM_CarefulPatch_start := ok_CarefulPatch_start (w := w) (base := base) (CP := (vCP K)) (CC := (vCC K)) (CS := (vCS K)) Z29 SM29 FM_Patch_start B_Patch_start
  have MM_CarefulPatch_start : Meth K (vCC K) "start" (vf29 K) := ⟨a29, i29, k29⟩
  have B_CarefulPatch_start := b29
  have FM_StrictPatch_start := ok_StrictPatch_start (w := w) (base := base) (CP := (vCP K)) (CC := (vCC K)) (CS := (vCS K)) Z30 SM30 FM_Patch_start B_Patch_start
  have MM_StrictPatch_start : Meth K (vCS K) "start" (vf30 K) := ⟨a30, i30, k30⟩
  have B_StrictPatch_start := b30
  have T_AnyPatch_start : MetC (PySem.Challenge.rw_latepatches_k25_events_tried).prog w K mg base 5 (Kind3 (vCP K) (vCC K) (vCS K)) "start" (spStartC (vCR K) ((Ex [(vC0 K), (vC1 K), (vC2 K), (vC3 K), (vC4 K), (vC5 K), (vC6 K), (vC7 K), (vC8 K), (vC9 K), (vC10 K), (vC11 K), (vC12 K), (vC13 K), (vC14 K), (vC15 K), (vC16 K), (vC17 K)]) 16)) := met3 T MM_Patch_start (start_P FM_Patch_start) B_Patch_start MM_CarefulPatch_start FM_CarefulPatch_start B_CarefulPatch_start MM_StrictPatch_start FM_StrictPatch_start B_StrictPatch_start
  have FM_CarefulPatch_stop := ok_CarefulPatch_stop (w := w) (base := base) (CP := (vCP K)) (CC := (vCC K)) (CS := (vCS K)) Z31 SM31 FM_Patch_stop B_Patch_stop
  have MM_CarefulPatch_stop : Meth K (vCC K) "stop" (vf31 K) := ⟨a31, i31, k31⟩
  have B_CarefulPatch_stop := b31
  have FM_StrictPatch_stop := ok_StrictPatch_stop (w := w) (base := base) (CP := (vCP K)) (CC := (vCC K)) (CS := (vCS K)) Z32 SM32 FM_Patch_stop B_Patch_stop
  have MM_StrictPatch_stop : Meth K (vCS K) "stop" (vf32 K) := ⟨a32, i32, k32⟩
  have B_StrictPatch_stop := b32
  have T_AnyPatch_stop : MetC (PySem.Challenge.rw_latepatches_k25_events_tried).prog w K mg base 5 (Kind3 (vCP K) (vCC K) (vCS K)) "stop" (spStopK (vCR K) ((Ex [(vC0 K), (vC1 K), (vC2 K), (vC3 K), (vC4 K), (vC5 K), (vC6 K), (vC7 K), (vC8 K), (vC9 K), (vC10 K), (vC11 K), (vC12 K), (vC13 K), (vC14 K), (vC15 K), (vC16 K), (vC17 K)]) 14) ((Ex [(vC0 K), (vC1 K), (vC2 K), (vC3 K), (vC4 K), (vC5 K), (vC6 K), (vC7 K), (vC8 K), (vC9 K), (vC10 K), (vC11 K), (vC12 K), (vC13 K), (vC14 K), (vC15 K), (vC16 K), (vC17 K)]) 15)) := met3 T MM_Patch_stop (stop_P FM_Patch_stop) B_Patch_stop MM_CarefulPatch_stop FM_CarefulPatch_stop B_CarefulPatch_stop MM_StrictPatch_stop FM_StrictPatch_stop B_StrictPatch_stop
  have FM_CarefulPatch_described := ok_CarefulPatch_described (w := w) (base := base) (CP := (vCP K)) (CC := (vCC K)) (CS := (vCS K)) Z33 SM33 FM_Patch_described B_Patch_described
  have MM_CarefulPatch_described : Meth K (vCC K) "described" (vf33 K) := ⟨a33, i33, k33⟩
  have B_CarefulPatch_described := b33
  have FM_StrictPatch_described := ok_StrictPatch_described (w := w) (base := base) (CP := (vCP K)) (CC := (vCC K)) (CS := (vCS K)) Z34 SM34 FM_Patch_described B_Patch_described
  have MM_StrictPatch_described : Meth K (vCS K) "described" (vf34 K) := ⟨a34, i34, k34⟩
  have B_StrictPatch_described := b34
  have T_AnyPatch_described : MetC (PySem.Challenge.rw_latepatches_k25_events_tried).prog w K mg base 2 (Kind3 (vCP K) (vCC K) (vCS K)) "described" spDesc := met3 T MM_Patch_described (desc_P FM_Patch_described) B_Patch_described MM_CarefulPatch_described FM_CarefulPatch_described B_CarefulPatch_described MM_StrictPatch_described FM_StrictPatch_described B_StrictPatch_described
  have FL35 := FnOk.low (ok_Setting_init F35 T (calN T_check_settable) T_mk_Record)
  have T_mk_Setting : Mak (PySem.Challenge.rw_latepatches_k25_events_tried).prog w K mg base 5 "Setting" (vCG K) (SpN (spGInit (vCR K) (vCG K))) := ⟨(vf35 K), _, _, ⟨mkCG, a35, i35, kcCG⟩, FL35, PySem.W.mg_of X G aCCG, bindG2 F35⟩
  have T_mkK_Setting : MakK (PySem.Challenge.rw_latepatches_k25_events_tried).prog w K mg base 5 "Setting" (vCG K) ["original"] (fun a b => a ++ b) (SpN (spGInit (vCR K) (vCG K))) := ⟨(vf35 K), _, _, _, ⟨mkCG, a35, i35, kcCG⟩, FL35, PySem.W.mg_of X G aCCG, bindGK F35⟩
  have T_Setting_integer : PrpV (PySem.Challenge.rw_latepatches_k25_events_tried).prog w K mg base 2 (Is (vCG K)) "integer" _ := prpV clCG pp36 (ok_Setting_integer F36 T T_Record_integer_now) b36
  have T_Setting_present : PrpV (PySem.Challenge.rw_latepatches_k25_events_tried).prog w K mg base 1 (Is (vCG K)) "present" _ := prpV clCG pp37 (ok_Setting_present F37 T) b37
  have T_Setting_events : PrpV (PySem.Challenge.rw_latepatches_k25_events_tried).prog w K mg base 1 (Is (vCG K)) "events" _ := prpV clCG pp38 (ok_Setting_events F38 B T) b38
  have T_Setting_original : PrpV (PySem.Challenge.rw_latepatches_k25_events_tried).prog w K mg base 1 (Is (vCG K)) "original" _ := prpV clCG pp39 (ok_Setting_original F39 T) b39
  have T_Setting_len : Met (PySem.Challenge.rw_latepatches_k25_events_tried).prog w K mg base 1 (vCG K) "__len__" _ := ⟨(vf40 K), _, ["self"], clCG, ⟨a40, i40, k40⟩, ok_Setting_len F40 B T, b40⟩
  have T_Setting_enlist : MetV (PySem.Challenge.rw_latepatches_k25_events_tried).prog w K mg base 5 (Is (vCG K)) "_enlist" _ := metV clCG ⟨a41, i41, k41⟩ (ok_Setting_enlist F41 B T RF (PySem.W.mg_of X G aCCG) ⟨crd, cga⟩ ⟨cat, ⟨_, rfl⟩⟩ (calN T_check_settable)) b41
  have T_Setting_keep : MetV (PySem.Challenge.rw_latepatches_k25_events_tried).prog w K mg base 1 (Is (vCG K)) "_keep" _ := metV clCG ⟨a42, i42, k42⟩ (ok_Setting_keep F42 T) b42
  have T_Setting_patch : MetV (PySem.Challenge.rw_latepatches_k25_events_tried).prog w K mg base 6 (Is (vCG K)) "patch" _ := metV clCG ⟨a43, i43, k43⟩ (ok_Setting_patch F43 T T_mk_Patch T_Setting_enlist T_Setting_keep) b43
  have T_Setting_careful : MetV (PySem.Challenge.rw_latepatches_k25_events_tried).prog w K mg base 6 (Is (vCG K)) "careful" _ := metV clCG ⟨a44, i44, k44⟩ (ok_Setting_careful F44 T T_mk_CarefulPatch T_Setting_enlist T_Setting_keep) b44
  have T_Setting_strict : MetV (PySem.Challenge.rw_latepatches_k25_events_tried).prog w K mg base 6 (Is (vCG K)) "strict" _ := metV clCG ⟨a45, i45, k45⟩ (ok_Setting_strict F45 T T_mk_StrictPatch T_Setting_enlist T_Setting_keep) b45
  have T_K_Setting_strict : MetVK (PySem.Challenge.rw_latepatches_k25_events_tried).prog w K mg base 6 (Is (vCG K)) "strict" 1 ["number"] (fun a b => a ++ b) (spMake (vCR K) (vCG K) ((Ex [(vC0 K), (vC1 K), (vC2 K), (vC3 K), (vC4 K), (vC5 K), (vC6 K), (vC7 K), (vC8 K), (vC9 K), (vC10 K), (vC11 K), (vC12 K), (vC13 K), (vC14 K), (vC15 K), (vC16 K), (vC17 K)]) 1) (vCS K)) := ⟨fun C h => by
    cases h
    exact ⟨(vf45 K), _, ["self", "number"], fun a b => a ++ b, clCG, ⟨a45, i45, k45⟩, ok_Setting_strict F45 T T_mk_StrictPatch T_Setting_enlist T_Setting_keep, kb_of F45 1 ["number"] (fun a b => a ++ b) kb_gApp0 fun _ _ _ _ _ _ us ws l1 l2 => match us, ws, l1, l2 with | [_], [_], _, _ => rfl⟩⟩
  have T_Setting_undo : MetV (PySem.Challenge.rw_latepatches_k25_events_tried).prog w K mg base 2 (Is (vCG K)) "undo" _ := metV clCG ⟨a46, i46, k46⟩ (ok_Setting_undo F46 T RE T_Record_go_back) b46
  have T_law_source : Cal (PySem.Challenge.rw_latepatches_k25_events_tried).prog w K mg base 1 "_law_source" _ := ⟨(vf47 K), _, ["cell", "nth"], ok_law_source F47 B, PySem.W.mg_of X G a47, F47.kp, b47⟩
  have T_law_draw : Cal (PySem.Challenge.rw_latepatches_k25_events_tried).prog w K mg base 1 "_law_draw" _ := ⟨(vf48 K), _, ["source", "size"], ok_law_draw F48, PySem.W.mg_of X G a48, F48.kp, b48⟩
  have T_law_cells : Cal (PySem.Challenge.rw_latepatches_k25_events_tried).prog w K mg base 1 "_law_cells" _ := ⟨(vf49 K), _, ["script", "most"], ok_law_cells F49 B, PySem.W.mg_of X G a49, F49.kp, b49⟩
  have T_law_same : Cal (PySem.Challenge.rw_latepatches_k25_events_tried).prog w K mg base 3 "_law_same" _ := ⟨(vf50 K), _, ["found", "expected"], ok_law_same_D F50 B (PySem.W.mg_of X G a50) b50 2, PySem.W.mg_of X G a50, F50.kp, b50⟩
  have T_law_later : Cal (PySem.Challenge.rw_latepatches_k25_events_tried).prog w K mg base 1 "_law_later" _ := ⟨(vf51 K), _, ["state", "words", "event"], ok_law_laterW F51 B (PySem.W.mg_none_of X G z_dict), PySem.W.mg_of X G a51, F51.kp, b51⟩
  have T_law_due : Cal (PySem.Challenge.rw_latepatches_k25_events_tried).prog w K mg base 1 "_law_due" _ := ⟨(vf52 K), _, ["state", "integers"], ok_law_due F52 B, PySem.W.mg_of X G a52, F52.kp, b52⟩
  have T_law_seen : Cal (PySem.Challenge.rw_latepatches_k25_events_tried).prog w K mg base 4 "_law_seen" _ := ⟨(vf53 K), _, ["one"], ok_law_seen (CP := (vCP K)) (CC := (vCC K)) (CS := (vCS K)) F53 B T_Setting_integer T_Setting_present T_Setting_events T_Setting_original T_Setting_len, PySem.W.mg_of X G a53, F53.kp, b53⟩
  have T_law_patches_right : Cal (PySem.Challenge.rw_latepatches_k25_events_tried).prog w K mg base 4 "_law_patches_right" _ := ⟨(vf54 K), _, ["some", "state", "words", "integers"], ok_law_patches_right (CG := (vCG K)) F54 B T_AnyPatch_number T_AnyPatch_integer T_AnyPatch_saved T_AnyPatch_runs T_AnyPatch_described T_law_same, PySem.W.mg_of X G a54, F54.kp, b54⟩
  have T_law_made : Cal (PySem.Challenge.rw_latepatches_k25_events_tried).prog w K mg base 7 "_law_made" _ := ⟨(vf55 K), _, ["source", "one", "most", "style"], ok_law_made F55 B T_law_draw T_Setting_integer T_Setting_patch T_Setting_careful T_K_Setting_strict, PySem.W.mg_of X G a55, F55.kp, b55⟩
  have T_law_event : Cal (PySem.Challenge.rw_latepatches_k25_events_tried).prog w K mg base 2 "_law_event" _ := ⟨(vf56 K), _, ["source", "state", "most"], ok_law_event F56 B T_law_draw, PySem.W.mg_of X G a56, F56.kp, b56⟩
  have T_law_pressed : Cal (PySem.Challenge.rw_latepatches_k25_events_tried).prog w K mg base 6 "_law_pressed" _ := ⟨(vf57 K), _, ["some", "event"], ok_law_pressed (CG := (vCG K)) F57 B RS RR RO X3 T_AnyPatch_start T_AnyPatch_stop, PySem.W.mg_of X G a57, F57.kp, b57⟩
  have T_are_integers : Cal (PySem.Challenge.rw_latepatches_k25_events_tried).prog w K mg base 3 "are_integers" _ := ⟨(vf58 K), _, ["value", "least", "greatest", "most"], ok_are_integers_O F58 B T_is_integer_within_O, PySem.W.mg_of X G a58, F58.kp, b58⟩
  have T_are_events : Cal (PySem.Challenge.rw_latepatches_k25_events_tried).prog w K mg base 4 "are_events" _ := ⟨(vf59 K), _, ["value"], ok_are_events_O F59 B mgi_LAST_PATCH mgi_MOST_EVENTS T_are_integers, PySem.W.mg_of X G a59, F59.kp, b59⟩
  have T_is_history : Cal (PySem.Challenge.rw_latepatches_k25_events_tried).prog w K mg base 5 "is_history" _ := ⟨(vf60 K), _, ["value"], ok_is_history_O F60 B T_are_events, PySem.W.mg_of X G a60, F60.kp, b60⟩
  have T_Record_twin : MetV (PySem.Challenge.rw_latepatches_k25_events_tried).prog w K mg base 3 (Is (vCR K)) "twin" _ := metV clCR ⟨a61, i61, k61⟩ (ok_Record_twin F61 T T_mk_Record) b61
  have T_Setting_check_next : MetV (PySem.Challenge.rw_latepatches_k25_events_tried).prog w K mg base 6 (Is (vCG K)) "_check_next" _ := metV clCG ⟨a62, i62, k62⟩ (ok_Setting_check_next F62 B T RH T_is_history) b62
  have T_Setting_tried : MetR (PySem.Challenge.rw_latepatches_k25_events_tried).prog w K mg base 8 (vCG K) "tried" _ := ⟨(vf63 K), clCG, ⟨a63, i63, k63⟩, ok_Setting_tried F63 T T_Record_twin T_Setting_check_next T_AnyPatch_left_by_stop T_Record_go_on_by T_Record_integer_now⟩
  have T_law_error_name : CalE2 (PySem.Challenge.rw_latepatches_k25_events_tried).prog w K mg base 1 "_law_error_name" _ := ⟨(vf64 K), _, ["caught"], ok_law_error_name F64 B R (PySem.W.mg_none_of X G z_ValueError), PySem.W.mg_of X G a64, F64.kp, b64⟩
  have T_law_refused : Gc (PySem.Challenge.rw_latepatches_k25_events_tried).prog w K mg base 10 "_law_refused" _ := ⟨(vf65 K), _, ["call", "given"], ok_law_refused F65 B R T_law_error_name T_Setting_undo, PySem.W.mg_of X G a65, F65.kp, b65⟩
  have T_law_tried : CalN (PySem.Challenge.rw_latepatches_k25_events_tried).prog w K mg base 9 "_law_tried" _ := ⟨(vf66 K), _, ["one", "g"], ok_law_tried F66 B T_Setting_tried, PySem.W.mg_of X G a66, F66.kp, b66⟩
  have T_law_outcome : Gc (PySem.Challenge.rw_latepatches_k25_events_tried).prog w K mg base 11 "_law_outcome" _ := ⟨(vf67 K), _, ["one", "g"], ok_law_outcome F67 B R T_law_error_name T_law_tried, PySem.W.mg_of X G a67, F67.kp, b67⟩
  have T_law_line : Cal (PySem.Challenge.rw_latepatches_k25_events_tried).prog w K mg base 3 "_law_line" _ := ⟨(vf68 K), _, ["source", "state", "words", "size"], ok_law_line F68 B T_law_draw T_law_event T_law_later, PySem.W.mg_of X G a68, F68.kp, b68⟩
  have T_law_holds : Gc (PySem.Challenge.rw_latepatches_k25_events_tried).prog w K mg base 12 "_law_holds" _ := ⟨(vf69 K), _, ["source", "script"], ok_law_holds F69 B T_mk_Setting T_law_draw T_law_refused T_law_outcome T_law_made T_law_line T_law_later T_law_pressed T_law_same T_law_seen T_law_due T_law_patches_right T_Setting_undo T_Setting_events, PySem.W.mg_of X G a69, F69.kp, b69⟩
  exact ok_law F70 B T_law_cells T_law_source T_law_holds T_law_outcome T_mk_Setting T_Setting_patch T_Setting_strict T_AnyPatch_start T_Setting_tried
end L25
open PySem PySem.W PySem.Calls PyProof.Rows
set_option maxHeartbeats 0 in
theorem PySem.Challenge.cw_latepatches_k25_events_tried_holds : PySem.Challenge.rw_latepatches_k25_events_tried.Holds := by
  w_on; o_law
  refine HandSHeadRun.head_any (r := OpenLaw.row PySem.Challenge.rw_latepatches_k25_events_tried) (q := view (OpenLaw.row PySem.Challenge.rw_latepatches_k25_events_tried).prog [55]) (H := L25.hk) (ob := L25.ob) (M := 40000) (loose := L25.nms) (d := HandSHeadRun.topDef (OpenLaw.row PySem.Challenge.rw_latepatches_k25_events_tried).prog 55) (kwd := []) L25.ob_eq
    (by kernel_rfl) (fun s => by kernel_rfl) L25.run (by kernel_rfl) (by kernel_rfl) (by kernel_rfl) (by rfl) (by first | assumption | decide +kernel) (by decide +kernel) ⟨rfl, rfl, rfl, rfl, rfl, by decide +kernel⟩ ?hw ?hc
  case hw => w_witness2
  case hc =>
    refine HK.walk_ofEG (l := PySem.Challenge.rw_latepatches_k25_events_tried) (n := 63) (k := 13) (x := "script") (CX := L2.CX0) rfl (by decide) (by kernel_rfl) ⟨rfl, by decide, by decide⟩ ?F (fun _ _ _ _ z => z)
    intro w mg fa h Y G hmg0
    obtain ⟨K, KX, c⟩ := Y
    have hmg : mg ("law" : PySem.Str) = some (.ref fa) := by
      have e : (HandSHeadRun.topDef (OpenLaw.row PySem.Challenge.rw_latepatches_k25_events_tried).prog 55).name = ("law" : PySem.Str) := by kernel_rfl
      rw [← e]
      exact hmg0
    obtain ⟨fd, hb, hF⟩ := L25.facts (w := w) KX G hmg c
    exact ⟨K, fd, L25.spLaw K, KX, hb, fun H a ns hl _ hS => ⟨a, ns, rfl, hS, hl, fun _ => rfl⟩, hF⟩
