import PyProof.Rows.All
import Wide.All
import OpenK.AllK
import Wide.FinOn
import HandS.ForMost
import HandS.IsInst
import HandS.More
import HandS.Strs
import HandS.Wide
import HandS.SortInts
import HandS.Style
import HandS.Conv
import PyProof.TypeEq
import PyProof.ReprRoads
import HandS.ForExc
import HandS.Evl
import HandS.Zip
import HandS.SetFor
import HandS.Walk
import PyProof.Rows.CountFlat
import HandS.DictComp
import PyProof.Rows.SeqMore
import HandS.Text
import HandS.WideBits
import HandS.Gcd
import HandS.Defaults
import PyProof.Rows.RegReprOcc
import PyProof.StrOps2
import HandS.NamedTupSort
import KE.LtSeq
import KE.KMathG
import PyProof.Walk
import PyProof.WalkLemmas
import PyProof.Pure
import PyProof.TableTree
import PyProof.FactsTree
import HandS.Rev
import HandS.FStr
import KE.KxField
import PyProof.FString3
import PyProof.Rows.StrIntSpec
import PyProof.StrLawsChain
import PyProof.StrLawsTight
import PyProof.Rows.StrItems
import HandS.Property
import HandS.ExcOwn
import HandS.TryMany
import HandS.WordsExc
import HandS.MakeKwOnly
import HandS.GenList
import HandS.ExcIs
import HandS.ExcValue
import HandS.HotCalls
import OpenK.KMeth
import KE.KCallOwn
import HandS.DictTup
import KE.KDictList
import PyProof.InstNe
import HandS.RaiseMore
import PyProof.CallFns
import PyProof.ReprReads
import PyProof.EqKinds
import HandS.Comp
import PyProof.Rows.TupIter
import HandS.Small
import HandS.Deep
import PySem.Challenge.RW_latepatches_k69_whole_orders_effects_and
set_option Elab.async false
set_option linter.all false
set_option maxRecDepth 100000
namespace Lp
open PySem PySem.Spec PyProof.Rows L2

/-! ### operators that the layer lacks -/
def CPowW (i j : Int) : Prop := 0 ≤ j ∧ (Builtin.Int.intBits i : Int) * j ≤ 2 ^ 27
section
variable {X : Cx}
theorem op_powW : OpR X (binaryOp .Pow) (rI CPowW fun i j => .int (i ^ j.toNat)) := opI fun _ _ _ _ _ _ _ hc q => pow_int hc.1 hc.2 q
end
theorem powW_ok {i : Int} {n : Nat} {j : Int} (h : i.natAbs < 2 ^ n) (hj : 0 ≤ j) (hn : (n : Int) * j ≤ 100000000) : CPowW i j := by
  refine ⟨hj, ?_⟩
  have b := PyProof.Rows.intBits_le h
  have e : (2 : Int) ^ 27 = 134217728 := by decide
  rw [e]
  have h1 : (Builtin.Int.intBits i : Int) ≤ (n : Int) := by omega
  have h2 := Int.mul_le_mul_of_nonneg_right h1 hj
  omega

/-! ### repr -/
def rRepr (K : PySem.W.Frag) : List V → Hp → VK → Prop := fun xs H Q => ∃ (a : Addr) (d : PyData), xs = [.ref a] ∧ Dp K H (.ref a) d ∧ d.showable = true ∧ d.hasDict = false ∧ d.depth ≤ 60 ∧ d.shown.length ≤ sizeLine ∧ Q (.str d.shown) H
theorem call_repr {X : Cx} (hg : X.A.guards = some []) (hu : X.A.units + 64 < cLine) : CallR X (.builtin "repr") (rRepr X.K) := by
  intro pins s σ H xs us Q I r h
  obtain ⟨a, d, rfl, hd, h1, h2, h3, h4, q⟩ := h
  obtain ⟨u, rfl, rx⟩ := vals1 r
  obtain ⟨as, hr⟩ := Dp.reads I d _ u hd rx
  cases (show u = Value.ref a from rx)
  exact PySem.repr_of_reads' hr h1 (PyData.noDict_hsm h2) hg (by omega) (fun _ _ e => e) (fun h' t tk hk => ⟨.str d.shown, H, I.kept hk, ⟨t, rfl⟩, q⟩) h4
end Lp
set_option Elab.async false
set_option linter.all false
set_option maxRecDepth 100000
namespace Lp
open PySem PySem.Spec PyProof.Rows L2

/-! ### defs that are called where no repr is under way (guards = some []) -/
structure FnG (P : Program) (w : World) (K : PySem.W.Frag) (mg : Str → Option Value) (base : Heap) (CX : CXT) (k : Nat) (f : Addr) (fd : FuncData) (ps : List Str) (sp : Sp) : Prop where
  len : ∀ vs H Q E, sp vs H Q E → vs.length = ps.length
  runG : ∀ (A : Around) (out : List Env) (s : Shared) (H : Hp) (ar : Args) (us : List Value) (vs : List V) (Q : VK) (E : XK), A.guards = some [] → Room k A → Env0 P w K mg base A out s H →
    BindsTo s fd ar (ps.zip us) → Vals vs us → sp vs H Q E → codeAny (model P w) A (.call (.ref f) ar) (CR CX out P w H s Q E) s
section
variable {P : Program} {w : World} {K : PySem.W.Frag} {mg : Str → Option Value} {base : Heap}
theorem FnG.of {CX : CXT} {k : Nat} {f : Addr} {fd : FuncData} {ps : List Str} {sp : Sp} (F : FnOk P w K mg base CX k f fd ps sp) : FnG P w K mg base CX k f fd ps sp :=
  ⟨F.len, fun A out s H ar us vs Q E _ hr => F.run A out s H ar us vs Q E hr⟩
theorem fnG_of {CX : CXT} {k : Nat} {f : Addr} {name qual : Str} {params : Arguments} {body : List Stmt} {scope : Scope} {dV kV doc pm cdv ct oc : Value} {an od : Option Addr}
    {osl : Array (Option Value)} {N ps : List Str} {sp : Sp} (lk : K.lookup f = some ⟨oc, od, .func (PySem.W.fnOf name qual params body scope dV kV doc pm an cdv ct), osl⟩) (hcd : PySem.W.codeIn K cdv qual = true) (S : FnScope N ps scope)
    (ln : ∀ vs H Q E, sp vs H Q E → vs.length = ps.length)
    (hb : ∀ (A : Around) (out : List Env) (s : Shared) (H : Hp) (vs : List V) (Q : VK) (E : XK), A.guards = some [] → Room k (A.deeper (envOfC qual scope s.heap.objs.size f cdv)) → sp vs H Q E →
      ∃ t, PSs (cxOf CX P w K mg base N qual scope f cdv A out s H E) body t ∧ t { nx := fun _ H' => Q .non H', rt := Q } (start N vs) H) :
    FnG P w K mg base CX (k + 1) f (PySem.W.fnOf name qual params body scope dV kV doc pm an cdv ct) ps sp := by
  refine ⟨ln, fun A out s H ar us vs Q E hG room en bd rv hs => ?_⟩
  have KX : K.In s.heap := en.mod.kin.keeps fun b o e => (en.bs b o e).1
  have nl : s.heap.NoLimit := en.mod.nolimit.keeps fun b o e => (en.bs b o e).1
  have kd : ∀ y ∈ ps.zip us, scope.names.lookup y.1 = some .local ∨ (scope.names.lookup y.1 = some .cell ∧ ((cellsFrom (s.heap.objs.size + 1) scope.names []).lookup y.1).isSome = true) := by
    rintro ⟨n, v⟩ hy
    have hm := (List.of_mem_zip hy).1
    exact (S.par n hm).elim (fun q => .inl q) fun q => .inr ⟨q, PySem.W.cellsFrom_some _ _ _ (.inl q)⟩
  refine codeAny_call_function room.depth (KX _ _ lk) rfl S.co S.gen rfl (PySem.W.codeRec_of KX hcd) (bd _ _ _ _ ?_)
  refine wpAny_newFunctionEnv_cells S.kind kd fun e1 he s1 x => ?_
  subst he
  refine ⟨nl.keeps x.toInCall.keep, codeAny_func ?_⟩
  obtain ⟨t, ht, hq⟩ := hb A out s H vs Q E hG (room.deeper _) hs
  have J0 : Inv (cxOf CX P w K mg base N qual scope f cdv A out s H E) [] (start N vs) H s1 := inv_start S room.hd en (ln _ _ _ _ hs) rv x
  refine wpAny_mono (ht.run [] s1 (start N vs) H _ J0 hq) (fun fl s' h3 => ?_) fun _ _ h3 => h3
  cases fl with
  | ret u => exact let ⟨v, _, H', J, r2, q⟩ := h3; ⟨v, H', J.os, J.bare, J.base, J.hok, r2, q⟩
  | next => exact let ⟨_, H', J, q⟩ := h3; ⟨.non, H', J.os, J.bare, J.base, J.hok, rfl, q⟩
  | brk => exact (let ⟨_, _, _, q⟩ := h3; q : False).elim
  | cont => exact (let ⟨_, _, _, q⟩ := h3; q : False).elim
theorem okG {x qual : Str} {st : Stmt} {f : Addr} {fd : FuncData} {N ps : List Str} {k : Nat} {sp : Sp} (F : Fun K x qual st f fd) (S : FnScope N ps (defScope st)) (ln : ∀ vs H Q E, sp vs H Q E → vs.length = ps.length)
    (hb : ∀ (cdv : Value) (A : Around) (out : List Env) (s : Shared) (H : Hp) (vs : List V) (Q : VK) (E : XK), A.guards = some [] → Room k (A.deeper (envOfC qual (defScope st) s.heap.objs.size f cdv)) → sp vs H Q E →
      ∃ t, PSs (cxOf CX0 P w K mg base N qual (defScope st) f cdv A out s H E).nox (defBody st) t ∧ t { nx := fun _ H' => Q .non H', rt := Q } (start N vs) H) : FnG P w K mg base CX0 (k + 1) f fd ps sp := by
  obtain ⟨oc, od, kV, doc, pm, an, cdv, ct, osl, rfl, lk, hcd⟩ := F.ex
  refine fnG_of lk hcd S ln fun A out s H vs Q E hG room h => ?_
  obtain ⟨t, ht, q⟩ := hb cdv A out s H vs Q E hG room h
  exact ⟨t, ht.nox, q⟩
end
section
variable {X : Cx} {CX : CXT} {k : Nat} {f : Addr} {fd : FuncData} {ps : List Str} {sp : Sp} {dvs : List V} {ds : List Value} {E : XK} {x : Str} {p pos : Pos} {e : Expr} {es : List Expr} {t : TA}
theorem pe_callG (F : FnG X.prog X.w X.K X.mg X.base CX k f fd ps sp) (hG : X.A.guards = some []) (hr : Room k X.A) (hg : Gl X x) (hm : X.mg x = some (.ref f)) (hk : PySem.W.keepIn X.K (.ref f) = true) (hb : Binds X.K fd ps ds) (hd : Vals dvs ds) (hx : Passes CX X E)
    (ha : PA X (e :: es) t) (hdb : (x == ("__debug__" : Str)) = false := by decide) (he : starEach (e :: es) X.env = (false, eval e X.env) :: starEach es X.env := by rfl) (hpl : (backTo pos (starEach es X.env)).any (·.1) = false := by rfl) :
    PE X (.Call (.Name x p) (e :: es) [] pos) (tCall sp dvs E t) := by
  refine ⟨fun pins s σ H Q I h => wpAny_Call_Name_kw (ld_glob I hg hm ?_ hdb)⟩
  refine PySem.W.callWith_K (h₀ := X.base) I.ok.mod.kin hk (thn (ha.run pos pins s σ H _ I h) fun us s1 ⟨vs, H1, I1, r, q⟩ => ⟨I1.kIn, ?_⟩) he hpl
  have rr : Vals (vs ++ dvs) (us ++ ds) := r.append hd
  have hl : (us ++ ds).length = ps.length := rr.length.symm.trans (F.len _ _ _ _ q)
  refine wpAny_call (codeAny_mono (F.runG X.A X.stack s1 H1 ⟨us, []⟩ (us ++ ds) (vs ++ dvs) Q E hG hr I1.env0 (hb s1 us I1.kIn hl) rr q) fun r s' hq => ?_)
  cases r with
  | error e => exact hx pins σ H1 s1 e s' I1 hq
  | ok fl =>
    cases fl with
    | ret u => exact I1.after hq
    | next => exact False.elim hq
    | brk => exact False.elim hq
    | cont => exact False.elim hq
end

/-! ### the end of a law's row, for such a law -/
theorem law_callG {P : Program} {w : World} {K : PySem.W.Frag} {mg mb : Str → Option Value} {CX : CXT} {k : Nat} {fa a : Addr} {fd : FuncData} {x : Str} {sp : Sp} {s₁ : Shared} {vs : List Value} {ns : List Int}
    (KX : K.In s₁.heap) (hns : s₁.heap.Ns mainGlobals mg) (hb : s₁.heap.Ns builtinsNs mb) (hbb : ∀ x : Str, x ≠ "__name__" → mb x = bootBuiltins x) (hlim : s₁.heap.NoLimit) (hg : s₁.gens = #[])
    (ha : s₁.heap.get? a = some { cls := .type "list", data := .seq vs.toArray }) (hi : IntsAre vs ns) (hl : ns.length ≤ sizeLine) (hr : Room k callerA)
    (F : ∀ base : Heap, K.In base → base.Ns mainGlobals mg → FnG P w K mg base CX k fa fd [x] sp) (hbind : ∀ (s : Shared) (u : Value), BindsTo s fd ⟨[u], []⟩ [(x, u)])
    (hsp : ∀ H : Hp, Only H → SqL K H a (ns.map V.int) → sp [.ref a] H (fun v _ => v = .bl true) fun _ _ _ => False)
    (hCX : ∀ H e s', CX [] H s₁ (fun _ _ _ => False) e s' → False) :
    codeAny (model P w) callerA (.call (.ref fa) ⟨[.ref a], []⟩) (fun r s' => r = .ok (.ret (.bool true)) ∧ OldK s₁.heap s'.heap ∧ s'.os = s₁.os ∧ AllBare s'.gens) s₁ := by
  have rv := vals_ints hi
  have szV := hi.length
  have main : ∀ H : Hp, Only H → SqL K H a (ns.map V.int) → HOk P w H s₁.heap → (∀ b, H b ≠ none → b = a) → (H a ≠ none → K.lookup a = none) →
      codeAny (model P w) callerA (.call (.ref fa) ⟨[.ref a], []⟩) (fun r s' => r = .ok (.ret (.bool true)) ∧ OldK s₁.heap s'.heap ∧ s'.os = s₁.os ∧ AllBare s'.gens) s₁ := by
    intro H hO hS ok hA hK
    have free : ∀ {b : Addr}, b ≠ a → H b = none := fun {b} hb => by
      cases q : H b with
      | none => rfl
      | some u => exact absurd (hA b (by rw [q]; simp)) hb
    have nsK : ∀ {b : Addr} {m : Str → Option Value}, s₁.heap.Ns b m → (hidT s₁.heap H).Ns b m := by
      rintro b m ⟨o, es, ep, e, d, r⟩
      refine ⟨o, es, ep, hidT_get e (free fun z => ?_), d, r⟩
      subst z
      rw [ha] at e
      cases e
      exact nomatch (show Data.seq vs.toArray _ = Data.dict es ep from d)
    have hKb : K.In (hidT s₁.heap H) := by
      intro b o e
      refine hidT_get (KX b o e) ?_
      cases q : H b with
      | none => rfl
      | some u =>
        have z := hA b (by rw [q]; simp)
        subst z
        rw [hK (by rw [q]; simp)] at e
        cases e
    have hM : Mod K mg (hidT s₁.heap H) := ⟨hKb, nsK hns, ⟨mb, nsK hb, hbb⟩, let ⟨mc, h1, h2⟩ := hlim; ⟨mc, nsK h1, h2⟩⟩
    have e0 : Env0 P w K mg (hidT s₁.heap H) callerA [] s₁ H := ⟨rfl, hM, fun b o e => of_hidT e, Nat.le_of_eq (hidT_size _ _), trivial, fun b hb => absurd (show b ∈ ([] : List Addr) from hb) (by simp), ok, .of_eq hg⟩
    refine codeAny_mono ((F _ hKb (nsK hns)).runG callerA [] s₁ H ⟨[.ref a], []⟩ [.ref a] [.ref a] _ _ rfl hr e0 (hbind s₁ (.ref a)) (.cons rfl .nil) (hsp H hO hS)) fun r s' h => ?_
    cases r with
    | error e => exact (hCX H e s' h).elim
    | ok fl =>
      cases fl with
      | next => exact False.elim h
      | brk => exact False.elim h
      | cont => exact False.elim h
      | ret u =>
        obtain ⟨v, H', os, bare, un, hok', r', q⟩ := h
        cases (show v = .bl true from q)
        cases (show u = Value.bool true from r')
        refine ⟨rfl, OldK.of_keep fun b o e => ?_, os, bare⟩
        rcases hO b with z | ⟨ob, xs, z⟩
        · exact un.keep b o e z (fun z => absurd (show b ∈ ([] : List Addr) from z) (by simp)) (by simp)
        · obtain ⟨e1, _⟩ := ok b _ z
          obtain ⟨e2, _⟩ := hok' b _ (un.frzs b ob _ z)
          rw [e] at e1; cases e1
          exact e2
  cases hk : K.lookup a with
  | some o =>
    have e := KX a o hk
    rw [ha] at e
    cases e
    exact main (fun _ => none) (fun _ => .inl rfl) (.inr ⟨_, vs.toArray, _, hk, rfl, rfl, rfl, by rw [List.size_toArray, szV]; exact hl, by simpa using rv⟩) (fun b u z => nomatch z) (fun b z => absurd rfl z) fun z => absurd rfl z
  | none =>
    refine main (fun b => if b = a then some (.frz { cls := .type "list", data := .seq vs.toArray } (.lst (ns.map V.int))) else none) (fun b => ?_) (.inl (.inr ⟨{ cls := .type "list", data := .seq vs.toArray }, if_pos rfl⟩)) (fun b u z => ?_) (fun b z => ?_) fun _ => hk
    · by_cases h : b = a
      · exact .inr ⟨_, _, if_pos h⟩
      · exact .inl (if_neg h)
    · by_cases h : b = a
      · cases (if_pos h).symm.trans z
        subst h
        exact ⟨ha, by rw [List.length_map]; exact hl, vs, _, rv, ha⟩
      · cases (if_neg h).symm.trans z
    · by_cases h : b = a
      · exact h
      · exact absurd (if_neg h) z
theorem walk_ofG {l : PySem.W.OpenLaw} {n k : Nat} {q : Program} {loose : List Str} {XP : (Str → Option Value) → Heap → Prop} {YP : World → Heap → Prop} {d : DefRec} {K : Params → PySem.W.Frag} {CX : World → CXT} {sp : World → Sp} {x : Str}
    (hn : l.most = some n) (hn2 : n ≤ sizeLine) (hdf : d.params.defaults = []) (hr : Room k callerA)
    (hY : ∀ (w : World) (h : Heap), YP w h → (K w.params).In h)
    (F : ∀ (w : World) (mg : Str → Option Value) (fa : Addr) (h : Heap), (K w.params).In h → h.Ns mainGlobals mg → mg d.name = some (.ref fa) →
      ∃ fd : FuncData, (∀ (s : Shared) (u : Value), BindsTo s fd ⟨[u], []⟩ [(x, u)]) ∧
        ∀ base : Heap, (K w.params).In base → base.Ns mainGlobals mg → FnG l.prog w (K w.params) mg base (CX w) k fa fd [x] (sp w))
    (hsp : ∀ (w : World) (H : Hp) (a : Addr) (ns : List Int), ns.length ≤ n → Only H → SqL (K w.params) H a (ns.map V.int) → sp w [.ref a] H (fun v _ => v = .bl true) fun _ _ _ => False)
    (hCX : ∀ (w : World) (H : Hp) (s : Shared) (e : Value) (s' : Shared), CX w [] H s (fun _ _ _ => False) e s' → False) :
    PySem.W.WalkO q loose XP YP l.row.toRowW d [] (fun f vs => PySem.call f vs) := by
  refine Att.attach_call hn hdf fun w _ s₁ mg _ fa _ _ _ _ a vs ns G Y _ _ _ hmg hobj hints hlen hg => ?_
  obtain ⟨fd, hb, hF⟩ := F w mg fa _ (hY w _ Y) G.T.g hmg
  exact law_callG (hY w _ Y) G.T.g G.T.b G.T.builtins G.T.nolimit hg hobj hints (Nat.le_trans hlen hn2) hr hF hb (fun H hO hS => hsp w H a ns hlen hO hS) fun H e s' => hCX w H s₁ e s'
end Lp
set_option Elab.async false
set_option linter.all false
set_option maxRecDepth 100000
namespace Lp
open PySem PySem.Spec PyProof.Rows L2

/-- the names of the built-ins that the text leaves alone -/
structure NoB (mg : Str → Option Value) : Prop where
  len : mg "len" = none
  list : mg "list" = none
  int : mg "int" = none
  bool : mg "bool" = none
  str : mg "str" = none
  tuple : mg "tuple" = none
  max : mg "max" = none
  min : mg "min" = none
  range : mg "range" = none
  repr : mg "repr" = none
  isinstance : mg "isinstance" = none
  type : mg "type" = none
  all : mg "all" = none
  set : mg "set" = none
  zip : mg "zip" = none
  enumerate : mg "enumerate" = none
  sorted : mg "sorted" = none
  abs : mg "abs" = none

/-- a def that may be called by its name -/
structure Gc (P : Program) (w : World) (K : PySem.W.Frag) (mg : Str → Option Value) (base : Heap) (k : Nat) (x : Str) (sp : Sp) : Prop where
  ex : ∃ (f : Addr) (fd : FuncData) (ps : List Str), FnG P w K mg base CX0 k f fd ps sp ∧ mg x = some (.ref f) ∧ PySem.W.keepIn K (.ref f) = true ∧ Binds K fd ps []
theorem FnG.mono {P : Program} {w : World} {K : PySem.W.Frag} {mg : Str → Option Value} {base : Heap} {CX : CXT} {j k : Nat} {f : Addr} {fd : FuncData} {ps : List Str} {sp : Sp} (F : FnG P w K mg base CX j f fd ps sp) (h : j ≤ k) : FnG P w K mg base CX k f fd ps sp :=
  ⟨F.len, fun A out s H ar us vs Q E hG hr => F.runG A out s H ar us vs Q E hG (hr.mono h)⟩
section
variable {X : Cx} {k j : Nat} {x : Str} {sp : Sp} {p pos : Pos} {e : Expr} {es : List Expr} {t : TA}
theorem pe_g (c : Gc X.prog X.w X.K X.mg X.base k x sp) (hG : X.A.guards = some []) (hr : Room j X.A) (hk : k ≤ j) (hg : Gl X x) (ha : PA X (e :: es) t)
    (hdb : (x == ("__debug__" : Str)) = false := by decide) (he : starEach (e :: es) X.env = (false, eval e X.env) :: starEach es X.env := by rfl) (hpl : (backTo pos (starEach es X.env)).any (·.1) = false := by rfl) :
    PE X (.Call (.Name x p) (e :: es) [] pos) (tCall sp [] E0 t) := by
  obtain ⟨f, fd, ps, F, hm, kp, b⟩ := c.ex
  exact pe_callG F hG (hr.mono hk) hg hm kp b .nil pass0 ha hdb he hpl
end

/-! ### == and != of types -/
def rEqTy : R2 := fun x y H Q => ∃ a b, x = .ty a ∧ y = .ty b ∧ (∀ s' : Shared, s'.TypeIs (.type a) "type") ∧ (∀ s' : Shared, s'.TypeIs (.type b) "type") ∧ Q (.bl (decide (a = b))) H
def rNeTy : R2 := fun x y H Q => ∃ a b, x = .ty a ∧ y = .ty b ∧ (∀ s' : Shared, s'.TypeIs (.type a) "type") ∧ (∀ s' : Shared, s'.TypeIs (.type b) "type") ∧ Q (.bl (!decide (a = b))) H
section
variable {X : Cx}
theorem op_eqTy : OpR X (compareOp .Eq) rEqTy := by
  intro pins s σ H x y v u Q I rx ry h
  obtain ⟨a, b, rfl, rfl, ha, hb, q⟩ := h
  cases (show v = Value.type a from rx)
  cases (show u = Value.type b from ry)
  by_cases e : a = b
  · subst e
    exact PySem.TypeEq.eq_type_same ha ⟨.bl true, H, I, rfl, by simpa using q⟩
  · exact PySem.TypeEq.eq_type_other ha hb (by rw [ty_beq]; exact decide_eq_false e) ⟨.bl false, H, I, rfl, by simpa [e] using q⟩
end

open PySem.TypeEq
theorem slot_type_ne : Slot "type" (cmpInfo .NotEq).2.1 "object.__ne__" :=
  .of (owner := "object") (n := "__ne__") (by rw [typeLookup_type, builtinLookup_eq_fast]; kernel_rfl) (by decide +kernel) (by decide +kernel) (by decide +kernel)
    (by first | exact .inl (by decide +kernel) | exact .inr (by decide +kernel)) (by rw [isSubtype_type]; kernel_rfl)
section
variable {prog : Program} {w : World} {A : Around} {E : Value → Shared → Prop} {s : Shared} {Q : Value → Shared → Prop}
theorem ne_type_same {X : String} (hX : ∀ s' : Shared, s'.TypeIs (.type X) "type") (h : Q (.bool false) s) : wpAny (model prog w) A (compareOp .NotEq (.type X) (.type X)) Q E s := by
  show wpAny _ A (richCompare .NotEq _ _) Q E s
  refine PySem.wpAny_richCompare_same (T := "type") (hX s) (hX s) slot_type_ne (wpAny_call_entry slot_type_ne (hX s) F.entry_object_ne ?_ (F.args_object_ne_2 _ _))
  unfold Builtin.«object.__ne__»
  refine wpAny_bind (m := slotArgs "__ne__" 1 _) (wpAny_of_eq (a := ((Value.type X : Value), [Value.type X])) (by first | rfl | (simp only [slotArgs]; rfl)) ?_)
  refine wpAny_bind (wpAny_cRoomFor_or (.inl rfl) ?_)
  refine wpAny_bind (m := callSpecialIfBound? (.type X) (Str.ofString "__eq__") [.type X]) (wpAny_callSpecialIfBound?_slot (hX s) slot_type_eq
    (call_gives slot_type_eq (hX s) F.entry_object_eq (F.args_object_eq_2 _ _) (object_eq_same rfl (by simp)) ?_))
  show wpAny (model prog w) A.in1 (truthy (.bool true) >>= fun b => ret (Value.bool !b)) _ E s
  exact wpAny_bind (wpAny_of_eq (a := true) (by first | rfl | simp [truthy]) (wpAny_pure ⟨_, rfl, (by intro e; cases e), h⟩))
end

/-- a != b of the same built-in type -/
def rNeTyS : R2 := fun x y H Q => ∃ a, x = .ty a ∧ y = .ty a ∧ (∀ s' : Shared, s'.TypeIs (.type a) "type") ∧ Q (.bl false) H
theorem op_neTy {X : Cx} : OpR X (compareOp .NotEq) rNeTyS := by
  intro pins s σ H x y v u Q I rx ry h
  obtain ⟨a, rfl, rfl, ha, q⟩ := h
  cases (show v = Value.type a from rx)
  cases (show u = Value.type a from ry)
  exact ne_type_same ha ⟨.bl false, H, I, rfl, q⟩
/-! ### heaps -/
theorem same_new {H : Hp} {p : Addr} {o : HO} (h : H p = none) : Same H (upd H p o) := fun b x e => by
  rw [upd_ne (ne_of_none e h)]
  exact e
/-- all but what stands at a is as it was -/
def But (a : Addr) (H H' : Hp) : Prop := ∀ b, b ≠ a → ∀ o, H b = some o → H' b = some o
end Lp
set_option Elab.async false
set_option linter.all false
set_option maxRecDepth 100000
namespace Lp
open PySem PySem.Spec PyProof.Rows L2

/-! ### comprehensions that only add -/
def LcP (H1 : Hp) (D : Addr) (acc : Nat → List V) (i : Nat) (H : Hp) : Prop := H1 D = none ∧ Same H1 H ∧ H D = some (.lst (acc i))
section
variable {H1 H H4 : Hp} {D : Addr} {acc : Nat → List V} {i : Nat} {y : V}
theorem LcP.init (h : H1 D = none) (e : acc 0 = []) : LcP H1 D acc 0 (upd H1 D (.lst [])) := ⟨h, same_new h, by rw [upd_same, e]⟩
theorem LcP.put (p : LcP H1 D acc i H) (s : Same H H4) (e : acc (i + 1) = acc i ++ [y]) (hz : (acc i).length < 100000) :
    ∃ l, H4 D = some (.lst l) ∧ l.length < sizeLine ∧ LcP H1 D acc (i + 1) (upd H4 D (.lst (l ++ [y]))) := by
  obtain ⟨p1, p2, p3⟩ := p
  refine ⟨acc i, s _ _ p3, Nat.lt_of_lt_of_le hz (by decide), p1, fun b o h => ?_, by rw [upd_same, e]⟩
  rw [upd_ne (ne_of_none h p1)]
  exact s _ _ (p2 _ _ h)
theorem LcP.skip (p : LcP H1 D acc i H) (s : Same H H4) (e : acc (i + 1) = acc i) : LcP H1 D acc (i + 1) H4 := ⟨p.1, p.2.1.trans s, by rw [e]; exact s _ _ p.2.2⟩
end
theorem get_int {ns : List Int} {i : Nat} {x : V} (h : (ns.map V.int)[i]? = some x) : ∃ n, x = .int n ∧ ns[i]? = some n := by
  rw [List.getElem?_map] at h
  cases e : ns[i]? with
  | none => rw [e] at h; cases h
  | some n => rw [e] at h; cases h; exact ⟨n, rfl, rfl⟩
theorem mem_get {α : Type} {l : List α} {i : Nat} {x : α} (h : l[i]? = some x) : x ∈ l := List.mem_of_getElem? h
theorem lt_get {α : Type} {l : List α} {i : Nat} {x : α} (h : l[i]? = some x) : i < l.length := (List.getElem?_eq_some_iff.mp h).1
theorem take_get {α : Type} {l : List α} {i : Nat} {x : α} (h : l[i]? = some x) : l.take (i + 1) = l.take i ++ [x] := by
  rw [List.take_add_one, h]
  rfl
theorem zs {n : Nat} (h : n ≤ 100000) : n ≤ sizeLine := Nat.le_trans h (by decide)
theorem zl {n : Nat} (h : n < 100000) : n < sizeLine := Nat.lt_of_lt_of_le h (by decide)
theorem at0 {x : V} {r : List V} : atI (x :: r) 0 = some x := atI_nat (j := 0) rfl
theorem at1 {x y : V} {r : List V} : atI (x :: y :: r) 1 = some y := atI_nat (j := 1) rfl
theorem at2 {x y z : V} {r : List V} : atI (x :: y :: z :: r) 2 = some z := atI_nat (j := 2) rfl
theorem at_last {xs : List V} {y : V} : atI (xs ++ [y]) (-1) = some y := atI_last _ _
theorem dT {p : Prop} [Decidable p] (h : p) : V.bl (decide p) = V.bl true := congrArg V.bl (decide_eq_true h)
theorem dF {p : Prop} [Decidable p] (h : ¬ p) : V.bl (decide p) = V.bl false := congrArg V.bl (decide_eq_false h)
theorem nT {p : Prop} [Decidable p] (h : ¬ p) : V.bl (!decide p) = V.bl true := by rw [decide_eq_false h]; rfl
theorem nF {p : Prop} [Decidable p] (h : p) : V.bl (!decide p) = V.bl false := by rw [decide_eq_true h]; rfl
theorem vne {i j : Int} (h : i ≠ j) : ¬ V.int i = V.int j := fun e => h (V.int.inj e)

/-! ### a word behind a test, a value -/
def tMid (t : TT) : TT := fun σ H Q => ∃ M : Bool → Hp → Prop, t σ H M ∧ ∀ b H', M b H' → Q b H'
theorem pt_mid {X : Cx} {e : Expr} {t : TT} (h : PT X e t) : PT X e (tMid t) := ⟨fun pins s σ H _ I ⟨M, hm, hq⟩ => thn (h.run pins s σ H M I hm) fun b _ ⟨H', I', m⟩ => ⟨H', I', hq b H' m⟩⟩
def tMidE (t : TE) : TE := fun σ H Q => ∃ M : VK, t σ H M ∧ ∀ v H', M v H' → Q v H'
theorem pe_mid {X : Cx} {e : Expr} {t : TE} (h : PE X e t) : PE X e (tMidE t) := ⟨fun pins s σ H _ I ⟨M, hm, hq⟩ => thn (h.run pins s σ H M I hm) fun _ _ ⟨v, H', I', r, m⟩ => ⟨v, H', I', r, hq v H' m⟩⟩
/-! ### all but what stands at a is as it was -/
def Bt (a : Addr) (H H' : Hp) : Prop := ∀ b o, b ≠ a → H b = some o → H' b = some o
section
variable {a b p : Addr} {H H1 H2 H' : Hp} {o : HO}
theorem Bt.refl (a : Addr) (H : Hp) : Bt a H H := fun _ _ _ e => e
theorem Bt.trans (x : Bt a H H1) (y : Bt a H1 H2) : Bt a H H2 := fun b o n e => y b o n (x b o n e)
theorem Bt.of (x : Same H H') : Bt a H H' := fun b o _ e => x b o e
theorem Bt.at_ (a : Addr) (H : Hp) (o : HO) : Bt a H (upd H a o) := fun b u n e => by rw [upd_ne n]; exact e
theorem Bt.new (h : H p = none) : Bt a H (upd H p o) := .of (same_new h)
theorem Bt.mut (x : Bt a H H') (h : H p = none) : Bt a H (upd H' p o) := fun b u n e => by rw [upd_ne (ne_of_none e h)]; exact x b u n e
theorem Bt.add (x : Bt a H H') (h : H' p = none) : Bt a H (upd H' p o) := x.trans (.new h)
theorem Same.mut (x : Same H H') (h : H p = none) : Same H (upd H' p o) := fun b u e => by rw [upd_ne (ne_of_none e h)]; exact x b u e
theorem Same.add (x : Same H H') (h : H' p = none) : Same H (upd H' p o) := x.trans (same_new h)
theorem Bt.seq {K : PySem.W.Frag} {xs : List V} (x : Bt a H H') (n : b ≠ a) (h : SqL K H b xs) : SqL K H' b xs := by
  rcases h with (h | ⟨o, h⟩) | h
  · exact .inl (.inl (x _ _ n h))
  · exact .inl (.inr ⟨o, x _ _ n h⟩)
  · exact .inr h
end

/-! ### rules that name the written part outright: for the inside of comprehensions -/
section
variable {X : Cx} {K : PySem.W.Frag} {o e : Expr} {es : List Expr} {to : TE} {t : TA} {name : Str} {apos cpos : Pos} {T id : String} {r : V → List V → Hp → VK → Prop}
theorem k_bm (hK : X.K = K) (pa : PlainAttrs T) (slot : Slot T name id) (hty : typeOf (.builtin id) = pure (.type "method_descriptor")) (hm : MtR X id r) (ho : PE X o to) (ha : PA X (e :: es) t)
    (hbase : attributeBase o name X.env (eval o X.env) = eval o X.env := by rfl)
    (hfew : ((backTo cpos (starEach (e :: es) X.env)).all (fun x => !x.1) && (backToKw cpos (keywordEach [] X.env)).all (fun x => x.1.isSome)
      && decide ((e :: es).length + ([] : List Keyword).length + (if ([] : List Keyword).isEmpty then 0 else 1) < 30)) = true := by rfl)
    (hline : (apos.endLine == cpos.line) = true := by rfl) (hs : starEach (e :: es) X.env = (false, eval e X.env) :: starEach es X.env := by rfl) (hplain : (backTo cpos (starEach es X.env)).any (·.1) = false := by rfl) :
    PE X (.Call (.Attribute o name apos) (e :: es) [] cpos) (tBM K T r to t) := by
  subst hK
  exact pe_bm pa slot hty hm ho ha hbase hfew hline hs hplain
def rLenK (K : PySem.W.Frag) : List V → Hp → VK → Prop := fun xs H Q => ∃ p ys, xs = [.ref p] ∧ (SqL K H p ys ∨ SqT K H p ys) ∧ Q (.int ys.length) H
theorem k_len (hK : X.K = K) : CallR X (.builtin "len") (rLenK K) := by
  subst hK
  exact call_len_seq
theorem k_ix (hK : X.K = K) : IxR X (rIxL K) := by
  subst hK
  exact ix_list
theorem k_ixT (hK : X.K = K) : IxR X (rIxT K) := by
  subst hK
  exact ix_tup
theorem k_in (hK : X.K = K) : OpR X (compareOp .In) (rIn K false) := by
  subst hK
  exact op_in_seq
theorem k_notin (hK : X.K = K) : OpR X (compareOp .NotIn) (rIn K true) := by
  subst hK
  exact op_notIn_seq
theorem k_isi (hK : X.K = K) : CallR X (.builtin "isinstance") (rIsi K) := by
  subst hK
  exact call_isi
end
end Lp
set_option Elab.async false
set_option linter.all false
set_option maxRecDepth 100000
namespace Lp
open PySem PySem.Spec PyProof.Rows L2
/-! ### lists of ints as data -/
abbrev dI (ns : List Int) : PyData := .list (ns.map PyData.int)
theorem lay_ints : ∀ ns : List Int, PyData.canLayAll0 (ns.map PyData.int) = true
  | [] => rfl
  | _ :: r => by
    show (PyData.canLay0 (.int _) && PyData.canLayAll0 (r.map PyData.int)) = true
    rw [lay_ints r]
    rfl
theorem depth_ints : ∀ ns : List Int, PyData.depthAll (ns.map PyData.int) = 0
  | [] => rfl
  | _ :: r => by
    show max (PyData.depth (.int _)) (PyData.depthAll (r.map PyData.int)) = 0
    rw [depth_ints r]
    rfl
theorem shaped_ints (ns : List Int) : SeqAt.shaped (dI ns) = true := by
  show (PyData.canLayAll0 (ns.map PyData.int) && decide (PyData.depthAll (ns.map PyData.int) + 1 ≤ 64)) = true
  rw [lay_ints, depth_ints]
  rfl
theorem noDict_ints : ∀ ns : List Int, PyData.hasDictAll (ns.map PyData.int) = false
  | [] => rfl
  | _ :: r => by
    show (PyData.hasDict (.int _) || PyData.hasDictAll (r.map PyData.int)) = false
    rw [noDict_ints r]
    rfl
theorem show_ints : ∀ ns : List Int, (∀ n ∈ ns, n.natAbs.log2 < 1920) → PyData.showableAll (ns.map PyData.int) = true
  | [], _ => rfl
  | n :: r, h => by
    show (decide (n.natAbs.log2 < 1920) && PyData.showableAll (r.map PyData.int)) = true
    rw [show_ints r (fun m hm => h m (List.mem_cons_of_mem _ hm)), decide_eq_true (h n List.mem_cons_self)]
    rfl
theorem dpAll_ints {K : PySem.W.Frag} {H : Hp} : ∀ ns : List Int, DpAll K H (ns.map V.int) (ns.map PyData.int)
  | [] => .nil
  | n :: r => .cons (.int n) (dpAll_ints r)
theorem dp_ints {K : PySem.W.Frag} {H : Hp} {a : Addr} {ns : List Int} (h : SqL K H a (ns.map V.int)) : Dp K H (.ref a) (dI ns) := .lst h (dpAll_ints ns)
theorem eqvAll_ints : ∀ xs ys : List Int, PyData.eqvAll (xs.map PyData.int) (ys.map PyData.int) = decide (xs = ys)
  | [], [] => rfl
  | [], _ :: _ => rfl
  | _ :: _, [] => rfl
  | x :: r, y :: s => by
    show (PyData.eqv (.int x) (.int y) && PyData.eqvAll (r.map PyData.int) (s.map PyData.int)) = decide (x :: r = y :: s)
    rw [eqvAll_ints r s]
    show ((x == y) && decide (r = s)) = decide (x :: r = y :: s)
    by_cases e : x = y <;> by_cases e' : r = s <;> simp [e, e']
theorem eqv_ints (xs ys : List Int) : PyData.eqv (dI xs) (dI ys) = decide (xs = ys) := by
  show PyData.eqvAll (xs.map PyData.int) (ys.map PyData.int) = _
  exact eqvAll_ints xs ys
/-- [] == [], by the reading of == -/
theorem textFrom_le : ∀ (ts : List Str) (k : Nat) (acc : Str) (m : Nat), (∀ t ∈ ts, t.length ≤ m) → (textFrom k acc ts).length ≤ acc.length + ts.length * (m + 2)
  | [], k, acc, m, _ => by
    show acc.length ≤ _
    simp
  | t :: r, k, acc, m, h => by
    have ih := fun k' acc' => textFrom_le r k' acc' m (fun x hx => h x (List.mem_cons_of_mem _ hx))
    have ht := h t List.mem_cons_self
    have z := ih (k + 1) (acc ++ (if k > 0 then ", " else "" : String) ++ t)
    have e : (acc ++ (if k > 0 then ", " else "" : String) ++ t).length ≤ acc.length + 2 + t.length := by
      rw [Str.length_append, Str.length_append]
      by_cases hk : k > 0
      · rw [if_pos hk]
        exact Nat.le_refl _
      · rw [if_neg hk]
        show acc.length + 0 + t.length ≤ _
        omega
    show (textFrom (k + 1) (acc ++ (if k > 0 then ", " else "" : String) ++ t) r).length ≤ acc.length + (r.length + 1) * (m + 2)
    rw [Nat.succ_mul]
    omega
theorem num_len : ∀ n : Int, -100 ≤ n → n ≤ 100 → (Str.ofString (toString n)).length ≤ 4 := by
  intro n h0 h1
  have key : ∀ i : Fin 201, (Str.ofString (toString ((i.val : Int) - 100))).length ≤ 4 := by decide +kernel
  have e := key ⟨(n + 100).toNat, by omega⟩
  have e2 : (((n + 100).toNat : Nat) : Int) - 100 = n := by omega
  rw [e2] at e
  exact e
theorem shownAll_mem : ∀ (ns : List Int) (t : Str), t ∈ PyData.shownAll (ns.map PyData.int) → ∃ n ∈ ns, t = Str.ofString (toString n)
  | [], t, h => by
    have h' : t ∈ ([] : List Str) := h
    cases h'
  | n :: r, t, h => by
    have h' : t ∈ Str.ofString (toString n) :: PyData.shownAll (r.map PyData.int) := h
    rcases List.mem_cons.mp h' with e | e
    · exact ⟨n, List.mem_cons_self, e⟩
    · obtain ⟨m, hm, e⟩ := shownAll_mem r t e
      exact ⟨m, List.mem_cons_of_mem _ hm, e⟩
theorem shownAll_len : ∀ ns : List Int, (PyData.shownAll (ns.map PyData.int)).length = ns.length
  | [] => rfl
  | n :: r => congrArg (· + 1) (shownAll_len r)
theorem shown_ints {ns : List Int} (hb : ∀ n ∈ ns, -100 ≤ n ∧ n ≤ 100) (hl : ns.length ≤ 1000) : (dI ns).shown.length ≤ sizeLine := by
  show (textFrom 0 "[" (PyData.shownAll (ns.map PyData.int)) ++ ("]" : Str)).length ≤ sizeLine
  rw [Str.length_append]
  have z := textFrom_le (PyData.shownAll (ns.map PyData.int)) 0 "[" 4 (fun t ht => by
    obtain ⟨n, hn, e⟩ := shownAll_mem ns t ht
    rw [e]
    exact num_len n (hb n hn).1 (hb n hn).2)
  rw [shownAll_len] at z
  have e1 : ("[" : Str).length = 1 := rfl
  have e2 : ("]" : Str).length = 1 := rfl
  rw [e1] at z
  rw [e2]
  exact zs (by omega)
theorem log2_small {n : Int} (h0 : -100 ≤ n) (h1 : n ≤ 100) : n.natAbs.log2 < 1920 := by
  have h : n.natAbs < 2 ^ 7 := by omega
  exact Nat.lt_trans (PySem.Flt.log2_lt_of (by decide : 0 < 7) h) (by decide)
theorem rrepr_ints {K : PySem.W.Frag} {H : Hp} {a : Addr} {ns : List Int} {Q : VK} (hS : SqL K H a (ns.map V.int)) (hb : ∀ n ∈ ns, -100 ≤ n ∧ n ≤ 100) (hl : ns.length ≤ 1000) (q : Q (.str (dI ns).shown) H) : rRepr K [.ref a] H Q :=
  ⟨a, dI ns, rfl, dp_ints hS, show_ints ns (fun n hn => log2_small (hb n hn).1 (hb n hn).2), noDict_ints ns, by
    show PyData.depthAll (ns.map PyData.int) + 1 ≤ 60
    rw [depth_ints]
    decide, shown_ints hb hl, q⟩

/-! ### places -/
theorem erase_map {α β : Type} (f : α → β) : ∀ (l : List α) (j : Nat), (l.map f).eraseIdx j = (l.eraseIdx j).map f
  | [], _ => by simp
  | x :: r, 0 => rfl
  | x :: r, j + 1 => congrArg (f x :: ·) (erase_map f r j)
theorem get_at {al : List Int} {j : Nat} (h : j < al.length) : (al.map V.int)[j]? = some (.int al[j]) := by
  rw [List.getElem?_map, List.getElem?_eq_getElem h]
  rfl
theorem ix_at {j n : Nat} (h : j < n) : seqIndex? (j : Int) n = some j := (ixN_seq (Evl.ixN_nat h)).1
theorem nat_of {r : Int} (h : 0 ≤ r) : ∃ j : Nat, r = (j : Int) := ⟨r.toNat, by omega⟩
theorem nm {k : Nat} (h : k ≤ 100000) : -(2 ^ 63) ≤ (k : Int) ∧ (k : Int) < 2 ^ 63 := by omega
theorem free_of {a p : Addr} {H H' : Hp} (b : Bt a H H') (n : p ≠ a) (h : H' p = none) : H p = none := by
  cases e : H p with
  | none => rfl
  | some o =>
    rw [b _ _ n e] at h
    cases h
theorem erase_perm : ∀ (l : List Int) (j : Nat) (h : j < l.length), (l[j] :: l.eraseIdx j).Perm l
  | x :: r, 0, _ => .refl _
  | x :: r, j + 1, h => by
    have h' : j < r.length := Nat.lt_of_succ_lt_succ h
    exact (List.Perm.swap x (r[j]'h') (r.eraseIdx j)).trans ((erase_perm r j h').cons x)
end Lp
set_option Elab.async false
set_option linter.all false
set_option maxRecDepth 100000
namespace Lp
open PySem PySem.Spec PyProof.Rows L2
theorem lc_enum {K : PySem.W.Frag} {a : Addr} {xs : List V} {g : TG} {tt : TT} {te : TE} {vs : List Nat} {σ : L2.St} {H1 : Hp} {D : Addr} {Qd : Hp → Prop} (Pv : Nat → Hp → Prop) (h0 : Pv 0 (upd H1 D (.lst []))) (hl : ∀ i H, i ≤ xs.length → Pv i H → SqL K H a xs)
    (hs : ∀ (i : Nat) (x : V) (T : Addr) (H : Hp), xs[i]? = some x → H T = none → Pv i H → g (.ref T) (wipe σ vs) (upd H T (.tup [.int (i : Nat), x])) fun σ2 H2 => wipe σ2 vs = wipe σ vs ∧ tt σ2 H2 fun b H3 =>
      if b = true then te σ2 H3 fun y H4 => ∃ acc, H4 D = some (.lst acc) ∧ acc.length < sizeLine ∧ Pv (i + 1) (upd H4 D (.lst (acc ++ [y]))) else Pv (i + 1) H3) (hd : ∀ H, Pv xs.length H → Qd H) :
    ∃ W : Nat → Nat → Hp → Prop, (∃ m, W 0 m (upd H1 D (.lst []))) ∧ ∀ i m H, W i m H →
      ((Ite K a).stop i H ∧ Qd H) ∨ ((Ite K a).go i H ∧ ∃ Nx : Hp → Prop, (∀ H', Nx H' → ∃ m', m' < m ∧ W (i + 1) m' H') ∧ ∀ x H', (Ite K a).yld i H x H' → g x (wipe σ vs) H' fun σ2 H2 => wipe σ2 vs = wipe σ vs ∧ tt σ2 H2 fun b H3 =>
        if b = true then te σ2 H3 fun y H4 => ∃ acc, H4 D = some (.lst acc) ∧ acc.length < sizeLine ∧ Nx (upd H4 D (.lst (acc ++ [y]))) else Nx H3) := by
  refine ⟨fun i m H => m = xs.length - i ∧ i ≤ xs.length ∧ Pv i H, ⟨xs.length, by simp, Nat.zero_le _, h0⟩, ?_⟩
  rintro i m H ⟨rfl, hi, pv⟩
  have sq := hl i H hi pv
  rcases Nat.lt_or_ge i xs.length with hlt | hge
  · refine .inr ⟨⟨xs, xs[i], sq, List.getElem?_eq_getElem hlt⟩, Pv (i + 1), fun H' p' => ⟨xs.length - (i + 1), by omega, rfl, hlt, p'⟩, fun x H' y => ?_⟩
    obtain ⟨T, z, rfl, nT, rfl, ez⟩ := y
    exact hs i z T H (ez xs sq) nT pv
  · have e : i = xs.length := by omega
    subst e
    exact .inl ⟨⟨xs, sq, Nat.le_refl _⟩, hd H pv⟩
theorem cut_take (xs : List V) (k : Nat) (h : k ≤ xs.length) : cutV xs none (some (k : Int)) = xs.take k := by
  unfold cutV
  rw [HT.sIx_none, HT.sIx_nat, List.drop_zero, Nat.sub_zero, Nat.min_eq_left h]
theorem decV (i j : Int) : decide (V.int i = V.int j) = decide (i = j) := decide_eq_decide.mpr ⟨fun z => V.int.inj z, fun z => congrArg V.int z⟩
theorem k_sl {X : Cx} {K : PySem.W.Frag} (hK : X.K = K) : SlR X (rSlL K) := by
  subst hK
  exact sl_list
theorem k_tup {X : Cx} {K : PySem.W.Frag} {es : List Expr} {k : Nat} {pos : Pos} {t : TGs} {n : Nat} (hK : X.K = K) (hc : X.calm = true) (h : PGs X es t)
    (hn : (assignEach es X.env).length = n := by rfl) (hst : (assignEach es X.env).findIdx? (·.1) = none := by rfl) : PG X (.Tuple es k pos) (gTup K n t) := by
  subst hK
  exact pg_tup hc h hn hst
theorem seqN {K : PySem.W.Frag} {xs : List V} {H H1 H' : Hp} {a b : Addr} (h : SqL K H b xs) (n : H a = none) (s : Same H H1) (x : Bt a H1 H') : SqL K H' b xs := by
  rcases h with (h | ⟨o, h⟩) | h
  · exact .inl (.inl (x _ _ (ne_of_none h n) (s _ _ h)))
  · exact .inl (.inr ⟨o, x _ _ (ne_of_none h n) (s _ _ h)⟩)
  · exact .inr h
theorem rI1 {ns : List Int} (hb : ∀ n ∈ ns, -100 ≤ n ∧ n ≤ 100) : (dI ns).showable = true := show_ints ns (fun n hn => log2_small (hb n hn).1 (hb n hn).2)
theorem rI2 (ns : List Int) : (dI ns).depth ≤ 60 := by
  show PyData.depthAll (ns.map PyData.int) + 1 ≤ 60
  rw [depth_ints]
  decide
end Lp
set_option Elab.async false
set_option linter.all false
set_option maxRecDepth 100000
namespace Lp
open PySem PySem.Spec PyProof.Rows L2
theorem lc_zipL {K : PySem.W.Frag} {a b : Addr} {xs ys : List V} {g : TG} {tt : TT} {te : TE} {vs : List Nat} {σ : L2.St} {H1 : Hp} {D : Addr} {Qd : Hp → Prop} (le : xs.length = ys.length) (Pv : Nat → Hp → Prop) (h0 : Pv 0 (upd H1 D (.lst []))) (hl : ∀ i H, i ≤ xs.length → Pv i H → SqL K H a xs ∧ SqL K H b ys)
    (hs : ∀ (i : Nat) (x y : V) (T : Addr) (H : Hp), xs[i]? = some x → ys[i]? = some y → H T = none → Pv i H → g (.ref T) (wipe σ vs) (upd H T (.tup [x, y])) fun σ2 H2 => wipe σ2 vs = wipe σ vs ∧ tt σ2 H2 fun b H3 =>
      if b = true then te σ2 H3 fun y H4 => ∃ acc, H4 D = some (.lst acc) ∧ acc.length < sizeLine ∧ Pv (i + 1) (upd H4 D (.lst (acc ++ [y]))) else Pv (i + 1) H3) (hd : ∀ H, Pv xs.length H → Qd H) :
    ∃ W : Nat → Nat → Hp → Prop, (∃ m, W 0 m (upd H1 D (.lst []))) ∧ ∀ i m H, W i m H →
      ((Itz K a b).stop i H ∧ Qd H) ∨ ((Itz K a b).go i H ∧ ∃ Nx : Hp → Prop, (∀ H', Nx H' → ∃ m', m' < m ∧ W (i + 1) m' H') ∧ ∀ x H', (Itz K a b).yld i H x H' → g x (wipe σ vs) H' fun σ2 H2 => wipe σ2 vs = wipe σ vs ∧ tt σ2 H2 fun b H3 =>
        if b = true then te σ2 H3 fun y H4 => ∃ acc, H4 D = some (.lst acc) ∧ acc.length < sizeLine ∧ Nx (upd H4 D (.lst (acc ++ [y]))) else Nx H3) := by
  refine ⟨fun i m H => m = xs.length - i ∧ i ≤ xs.length ∧ Pv i H, ⟨xs.length, by simp, Nat.zero_le _, h0⟩, ?_⟩
  rintro i m H ⟨rfl, hi, pv⟩
  obtain ⟨sa, sb⟩ := hl i H hi pv
  rcases Nat.lt_or_ge i xs.length with hlt | hge
  · refine .inr ⟨⟨xs, ys, xs[i], ys[i]'(by omega), sa, sb, List.getElem?_eq_getElem hlt, List.getElem?_eq_getElem (by omega)⟩, Pv (i + 1), fun H' p' => ⟨xs.length - (i + 1), by omega, rfl, hlt, p'⟩, fun x H' y => ?_⟩
    obtain ⟨T, z1, z2, rfl, nT, rfl, e1, e2⟩ := y
    exact hs i z1 z2 T H (e1 xs sa) (e2 ys sb) nT pv
  · have e : i = xs.length := by omega
    subst e
    exact .inl ⟨⟨xs, ys, sa, sb, .inl (Nat.le_refl _)⟩, hd H pv⟩
theorem lc_zipT {K : PySem.W.Frag} {a b : Addr} {xs ys : List V} {g : TG} {tt : TT} {te : TE} {vs : List Nat} {σ : L2.St} {H1 : Hp} {D : Addr} {Qd : Hp → Prop} (le : xs.length = ys.length) (Pv : Nat → Hp → Prop) (h0 : Pv 0 (upd H1 D (.lst []))) (hl : ∀ i H, i ≤ xs.length → Pv i H → SqT K H a xs ∧ SqT K H b ys)
    (hs : ∀ (i : Nat) (x y : V) (T : Addr) (H : Hp), xs[i]? = some x → ys[i]? = some y → H T = none → Pv i H → g (.ref T) (wipe σ vs) (upd H T (.tup [x, y])) fun σ2 H2 => wipe σ2 vs = wipe σ vs ∧ tt σ2 H2 fun b H3 =>
      if b = true then te σ2 H3 fun y H4 => ∃ acc, H4 D = some (.lst acc) ∧ acc.length < sizeLine ∧ Pv (i + 1) (upd H4 D (.lst (acc ++ [y]))) else Pv (i + 1) H3) (hd : ∀ H, Pv xs.length H → Qd H) :
    ∃ W : Nat → Nat → Hp → Prop, (∃ m, W 0 m (upd H1 D (.lst []))) ∧ ∀ i m H, W i m H →
      ((RZ.ItzT K a b).stop i H ∧ Qd H) ∨ ((RZ.ItzT K a b).go i H ∧ ∃ Nx : Hp → Prop, (∀ H', Nx H' → ∃ m', m' < m ∧ W (i + 1) m' H') ∧ ∀ x H', (RZ.ItzT K a b).yld i H x H' → g x (wipe σ vs) H' fun σ2 H2 => wipe σ2 vs = wipe σ vs ∧ tt σ2 H2 fun b H3 =>
        if b = true then te σ2 H3 fun y H4 => ∃ acc, H4 D = some (.lst acc) ∧ acc.length < sizeLine ∧ Nx (upd H4 D (.lst (acc ++ [y]))) else Nx H3) := by
  refine ⟨fun i m H => m = xs.length - i ∧ i ≤ xs.length ∧ Pv i H, ⟨xs.length, by simp, Nat.zero_le _, h0⟩, ?_⟩
  rintro i m H ⟨rfl, hi, pv⟩
  obtain ⟨sa, sb⟩ := hl i H hi pv
  rcases Nat.lt_or_ge i xs.length with hlt | hge
  · refine .inr ⟨⟨xs, ys, xs[i], ys[i]'(by omega), sa, sb, List.getElem?_eq_getElem hlt, List.getElem?_eq_getElem (by omega)⟩, Pv (i + 1), fun H' p' => ⟨xs.length - (i + 1), by omega, rfl, hlt, p'⟩, fun x H' y => ?_⟩
    obtain ⟨T, z1, z2, rfl, nT, rfl, e1, e2⟩ := y
    exact hs i z1 z2 T H (e1 xs sa) (e2 ys sb) nT pv
  · have e : i = xs.length := by omega
    subst e
    exact .inl ⟨⟨xs, ys, sa, sb, .inl (Nat.le_refl _)⟩, hd H pv⟩
theorem tyx_l {K : PySem.W.Frag} {H : Hp} {a : Addr} {xs : List V} (h : SqL K H a xs) : TyX K H (.ref a) (.type "list") := by
  rcases h with (h | ⟨o, h⟩) | ⟨o, its, n, h, c, _⟩
  · exact .base (.lst h)
  · exact .base (.frz h)
  · exact .kList h c
theorem tyx_t {K : PySem.W.Frag} {H : Hp} {a : Addr} {xs : List V} (h : SqT K H a xs) : TyX K H (.ref a) (.type "tuple") := by
  rcases h with (h | ⟨o, h⟩) | ⟨o, its, n, h, c, _⟩
  · exact .base (.tup h)
  · exact .fTuple h
  · exact .kTuple h c
theorem seqT {K : PySem.W.Frag} {H H' : Hp} {a : Addr} {xs : List V} (e : Same H H') (h : SqT K H a xs) : SqT K H' a xs := by
  rcases h with (h | ⟨o, h⟩) | h
  · exact .inl (.inl (e _ _ h))
  · exact .inl (.inr ⟨o, e _ _ h⟩)
  · exact .inr h
mutual
theorem dp_same {K : PySem.W.Frag} {H H' : Hp} (s : Same H H') : ∀ {v : V} {d : PyData}, Dp K H v d → Dp K H' v d
  | _, _, .non => .non
  | _, _, .bl b => .bl b
  | _, _, .int i => .int i
  | _, _, .str x => .str x
  | _, _, .lst h1 h2 => .lst (s.seq h1) (dpAll_same s h2)
  | _, _, .tup h1 h2 => .tup (seqT s h1) (dpAll_same s h2)
theorem dpAll_same {K : PySem.W.Frag} {H H' : Hp} (s : Same H H') : ∀ {vs : List V} {ds : List PyData}, DpAll K H vs ds → DpAll K H' vs ds
  | _, _, .nil => .nil
  | _, _, .cons h1 h2 => .cons (dp_same s h1) (dpAll_same s h2)
end
theorem dpAll_len {K : PySem.W.Frag} {H : Hp} : ∀ {vs : List V} {ds : List PyData}, DpAll K H vs ds → vs.length = ds.length
  | _, _, .nil => rfl
  | _, _, .cons _ h => congrArg (· + 1) (dpAll_len h)
theorem dpAll_get {K : PySem.W.Frag} {H : Hp} : ∀ {vs : List V} {ds : List PyData} {i : Nat} {v : V}, DpAll K H vs ds → vs[i]? = some v → ∃ d, ds[i]? = some d ∧ Dp K H v d
  | _, _, 0, _, .cons h _, e => by cases e; exact ⟨_, rfl, h⟩
  | _, _, i + 1, _, .cons _ h, e => dpAll_get (i := i) h e
theorem depth_get : ∀ {ds : List PyData} {i : Nat} {d : PyData}, ds[i]? = some d → d.depth ≤ PyData.depthAll ds
  | x :: r, 0, d, e => by cases e; exact Nat.le_max_left _ _
  | x :: r, i + 1, d, e => Nat.le_trans (depth_get (ds := r) (i := i) e) (Nat.le_max_right _ _)
theorem kitA {K : PySem.W.Frag} {t c1 c2 : Value} {b : Bool} (h1 : PySem.W.kitOne K t c1 = some false) (h2 : PySem.W.kitOne K t c2 = some b) : PySem.W.kitAny K t [c1, c2] = some b := by
  unfold PySem.W.kitAny
  rw [h1]
  show PySem.W.kitAny K t [c2] = _
  unfold PySem.W.kitAny
  rw [h2]
  cases b <;> rfl
theorem kitT {K : PySem.W.Frag} {t c1 : Value} {cs : List Value} (h1 : PySem.W.kitOne K t c1 = some true) : PySem.W.kitAny K t (c1 :: cs) = some true := by
  unfold PySem.W.kitAny
  rw [h1]
/-! ### list(range(a, b, c)) -/
def tList3 (ta : TA) : TE := fun σ H Q => ta σ H fun vs H1 => ∃ (i j c : Int) (n : Nat), vs = [.int i, .int j, .int c] ∧ RgC i j c n ∧ n ≤ 100000 ∧ ∀ q, H1 q = none → Q (.ref q) (upd H1 q (.lst ((List.range n).map fun k : Nat => V.int (i + (k : Int) * c))))
theorem vals_rg3 {a c : Int} {n : Nat} {acc : Array Value} (h : ItemsOf (fun i v => ∃ t, v = .int (a + i * c) t) acc n) : Vals ((List.range n).map fun k : Nat => V.int (a + (k : Int) * c)) acc.toList := by
  have e : acc.toList.length = n := by rw [Array.length_toList]; exact h.1
  rw [← e]
  refine vals_of_get acc.toList _ fun j u hj => ?_
  obtain ⟨t, rfl⟩ := h.2 j u (by rw [← hj, Array.getElem?_toList])
  exact ⟨t, rfl⟩
theorem pe_list3 {X : Cx} {a b c : Expr} {ta : TA} {p p2 pos pos2 : Pos} (hc : X.calm = true) (hg : Gl X "list") (hm : X.mg "list" = none) (hg2 : Gl X "range") (hm2 : X.mg "range" = none) (ha : PA X [a, b, c] ta)
    (hs : starEach [a, b, c] X.env = (false, eval a X.env) :: starEach [b, c] X.env := by rfl) (hpl : (backTo pos2 (starEach [b, c] X.env)).any (·.1) = false := by rfl)
    (na : starEach [.Call (.Name "range" p2) [a, b, c] [] pos2] X.env = (false, eval (.Call (.Name "range" p2) [a, b, c] [] pos2) X.env) :: starEach [] X.env := by rfl) :
    PE X (.Call (.Name "list" p) [.Call (.Name "range" p2) [a, b, c] [] pos2] [] pos) (tList3 ta) := by
  refine ⟨fun pins s σ H Q I h => ?_⟩
  refine Call_ (ld_blt I hg hm boot_list (PyProof.Rows.callWith_type1 (args_cons (?_) na) na))
  refine Call_ (ld_blt I hg2 hm2 boot_range (PyProof.Rows.callWith_type1 (thn (ha.run pos2 pins s σ H _ I h) fun us s1 ⟨vs, H1, I1, r1, q1⟩ => ?_) hs hpl))
  obtain ⟨i, j, k, n, e, ⟨c0, c1, c2, c3⟩, hn, q⟩ := q1
  subst e
  cases r1 with
  | cons r rr =>
    cases rr with
    | cons r' rr =>
      cases rr with
      | cons r'' rr =>
        cases rr
        obtain ⟨t, rfl⟩ := r
        obtain ⟨t', rfl⟩ := r'
        obtain ⟨t'', rfl⟩ := r''
        refine call_range_3 c0 ?_ (.inl (PyProof.noPylong_small c1))
        refine args_nil ?_
        have I2 : Inv X pins σ H1 { s1 with heap := s1.heap.push { cls := .type "range", data := .fields #[.int i t, .int j t', .int k t''] } } := I1.kept (t' := s1.toks) fun b o e => Heap.get?_push_of_some _ e
        refine call_list_range (n := n) (I2.ok.hd hc) (IsRange.new ..) c2 c3 (by omega) fun h' tk acc c' hk e' hi => ?_
        refine ⟨.ref _, upd H1 _ (.lst ((List.range n).map fun m : Nat => V.int (i + (m : Int) * k))), I2.laid hk (Nat.le_refl _) (show ObjOk X.prog X.w _ _ _ (.lst _) from ⟨?_, acc.toList, c', vals_rg3 hi, ?_⟩), rfl, q _ (I2.hok.fresh (Nat.le_refl _))⟩
        · rw [List.length_map, List.length_range]
          exact zs hn
        · rw [Array.toArray_toList]; exact e'
end Lp
set_option Elab.async false
set_option linter.all false
set_option maxRecDepth 100000
namespace Lp
open PySem PySem.Spec PyProof.Rows L2
/-! ### xs.count(text) -/
theorem strCount {k : Str} : ∀ {us : List Value} {ys : List Str}, StrsAre us ys → us.countP (isStrOf k) = ys.countP (fun y => y == k)
  | _, _, .nil => rfl
  | _, _, .cons n t h => by
    have ih := strCount (k := k) h
    rw [List.countP_cons, List.countP_cons, ih] <;> rfl
def rCntS (K : PySem.W.Frag) : V → List V → Hp → VK → Prop := fun x xs H Q => ∃ (p : Addr) (ys : List Str) (k : Str), x = .ref p ∧ xs = [.str k] ∧ SqL K H p (ys.map V.str) ∧ Q (.int (ys.countP (fun y => y == k) : Nat)) H
theorem mt_lcountS {X : Cx} : MtR X "list.count" (rCntS X.K) := by
  intro pins s σ H x xs v us Q I rx rxs h
  obtain ⟨p, ys, k, rfl, rfl, hs, q⟩ := h
  cases rx
  obtain ⟨u, rfl, ru⟩ := rxs.one
  obtain ⟨t, rfl⟩ := ru
  obtain ⟨its, rv, ⟨⟨cls, dd, data, sl⟩, n, ho, hc, hdn, hd⟩, hlen⟩ := I.list hs
  simp only at hc hd
  subst hc hd
  have hi := Vals.strs rv
  refine call_meets PySem.F.slot_list_count ⟨_, ho, rfl⟩ PySem.F.entry_list_count (PySem.F.args_list_count_2 _ _)
    (SeqAt.list_countAt p its.toArray n dd sl (.str k t) (isStrOf k)) ⟨ho, fun y hy => (eq_isStrOf k t hi y (by simpa using hy)).at _ _, ?_⟩
  have ec : its.toArray.toList.countP (isStrOf k) = ys.countP (fun y => y == k) := strCount hi
  refine ⟨.int (ys.countP (fun y => y == k) : Nat), H, I.tok _, ⟨s.toks, ?_⟩, q⟩
  show Value.int ((its.toArray.toList.countP (isStrOf k) : Nat) : Int) s.toks = Value.int ((ys.countP (fun y => y == k) : Nat) : Int) s.toks
  rw [ec]
end Lp
set_option Elab.async false
set_option linter.all false
set_option maxRecDepth 100000
namespace Lp
open PySem PySem.Spec PyProof.Rows L2
/-! ### dict comprehensions over enumerate -/
theorem dc_enum {K : PySem.W.Frag} {a : Addr} {xs : List V} {g : TG} {tt : TT} {tk tv : TE} {vs : List Nat} {σ : L2.St} {H1 : Hp} {D : Addr} {Qd : Hp → Prop} (Pv : Nat → Hp → Prop) (h0 : Pv 0 (upd H1 D (.dK []))) (hl : ∀ i H, i ≤ xs.length → Pv i H → SqL K H a xs)
    (hs : ∀ (i : Nat) (x : V) (T : Addr) (H : Hp), xs[i]? = some x → H T = none → Pv i H → g (.ref T) (wipe σ vs) (upd H T (.tup [.int (i : Nat), x])) fun σ2 H2 => wipe σ2 vs = wipe σ vs ∧ tt σ2 H2 fun b H3 =>
      if b = true then tk σ2 H3 fun y H4 => tv σ2 H4 fun z H5 => ∃ kvs k, y = kV k ∧ H5 D = some (.dK kvs) ∧ kvs.length < sizeLine ∧ Pv (i + 1) (upd H5 D (.dK (putK kvs k z))) else Pv (i + 1) H3) (hd : ∀ H, Pv xs.length H → Qd H) :
    ∃ W : Nat → Nat → Hp → Prop, (∃ m, W 0 m (upd H1 D (.dK []))) ∧ ∀ i m H, W i m H →
      ((Ite K a).stop i H ∧ Qd H) ∨ ((Ite K a).go i H ∧ ∃ Nx : Hp → Prop, (∀ H', Nx H' → ∃ m', m' < m ∧ W (i + 1) m' H') ∧ ∀ x H', (Ite K a).yld i H x H' → g x (wipe σ vs) H' fun σ2 H2 => wipe σ2 vs = wipe σ vs ∧ tt σ2 H2 fun b H3 =>
        if b = true then tk σ2 H3 fun y H4 => tv σ2 H4 fun z H5 => ∃ kvs k, y = kV k ∧ H5 D = some (.dK kvs) ∧ kvs.length < sizeLine ∧ Nx (upd H5 D (.dK (putK kvs k z))) else Nx H3) := by
  refine ⟨fun i m H => m = xs.length - i ∧ i ≤ xs.length ∧ Pv i H, ⟨xs.length, by simp, Nat.zero_le _, h0⟩, ?_⟩
  rintro i m H ⟨rfl, hi, pv⟩
  have sq := hl i H hi pv
  rcases Nat.lt_or_ge i xs.length with hlt | hge
  · refine .inr ⟨⟨xs, xs[i], sq, List.getElem?_eq_getElem hlt⟩, Pv (i + 1), fun H' p' => ⟨xs.length - (i + 1), by omega, rfl, hlt, p'⟩, fun x H' y => ?_⟩
    obtain ⟨T, z, rfl, nT, rfl, e1⟩ := y
    exact hs i z T H (e1 xs sq) nT pv
  · have e : i = xs.length := by omega
    subst e
    exact .inl ⟨⟨xs, sq, Nat.le_refl _⟩, hd H pv⟩
end Lp
set_option Elab.async false
set_option linter.all false
set_option maxRecDepth 100000
namespace Lp
open PySem PySem.Spec PyProof.Rows L2
/-! ### list + list, the script's own list too -/
def rCatS (K : PySem.W.Frag) : R2 := fun x y H Q => ∃ l b xs zs, x = .ref l ∧ y = .ref b ∧ SqL K H l xs ∧ SqL K H b zs ∧ xs.length + zs.length ≤ sizeLine ∧ ∀ p, H p = none → Q (.ref p) (upd H p (.lst (xs ++ zs)))
theorem op_catS {X : Cx} : OpR X (binaryOp .Add) (rCatS X.K) := by
  intro pins s σ H x y v u Q I rx ry h
  obtain ⟨l, b, xs, zs, rfl, rfl, hl, hb, hz, q⟩ := h
  cases rx
  cases ry
  obtain ⟨its, r, ⟨⟨cls, dd, data, sl⟩, n, ho, hc, hdn, hd⟩, h1⟩ := I.list hl
  obtain ⟨its2, r2, ⟨⟨cls2, dd2, data2, sl2⟩, n2, ho2, hc2, hdn2, hd2⟩, h2⟩ := I.list hb
  simp only at hc hd hc2 hd2
  subst hc hd hc2 hd2
  have e1 := r.length
  have e2 := r2.length
  refine concat_meets ⟨_, ho, rfl⟩ ⟨_, ho2, rfl⟩ noFill_list_add seq_list_add PySem.F.slot_list_add PySem.F.entry_list_add (PySem.F.args_list_add_2 _ _) (list_addW l b its.toArray its2.toArray n n2 dd dd2 sl sl2 (by rw [List.size_toArray, List.size_toArray]; omega)) ⟨ho, ho2, ?_⟩
  have ea : its.toArray ++ its2.toArray = (its ++ its2).toArray := by simp
  rw [ea]
  exact ⟨.ref _, _, I.lnew (t' := s.toks) (r.append r2) (by rw [List.length_append]; omega), rfl, q _ I.fresh⟩
end Lp
set_option Elab.async false
set_option linter.all false
set_option maxRecDepth 100000
namespace Lp
open PySem PySem.Spec PyProof.Rows L2

/-! ### calls by keywords, of defs that are called where no repr is under way -/
structure Gk (P : Program) (w : World) (K : PySem.W.Frag) (mg : Str → Option Value) (base : Heap) (k : Nat) (x : Str) (n : Nat) (ks : List Str) (gV : List V → List V → List V) (sp : Sp) : Prop where
  ex : ∃ (f : Addr) (fd : FuncData) (ps : List Str) (g : List Value → List Value → List Value), FnG P w K mg base CX0 k f fd ps sp ∧ mg x = some (.ref f) ∧ PySem.W.keepIn K (.ref f) = true ∧ KBn K fd ps n ks g gV
theorem kb_of {K : PySem.W.Frag} {x qual : Str} {st : Stmt} {f : Addr} {fd : FuncData} {ps : List Str} (F : Fun K x qual st f fd) (n : Nat) (ks : List Str) (g : {α : Type} → List α → List α → List α)
    (hrel : ∀ {vs : List V} {us : List Value} {zs : List V} {ws : List Value}, Vals vs us → Vals zs ws → Vals (g vs zs) (g us ws))
    (h : ∀ (kV doc pm : Value) (an : Option Addr) (cdv ct : Value) (us ws : List Value), us.length = n → ws.length = ks.length → bindArgs (PySem.W.fnOf x qual (defArgs st) (defBody st) (defScope st) .none kV doc pm an cdv ct) ⟨us, ks.zip ws⟩ = pure (ps.zip (g us ws))) :
    KBn K fd ps n ks g g := by
  obtain ⟨oc, od, kV, doc, pm, an, cdv, ct, osl, rfl, lk, hcd⟩ := F.ex
  exact ⟨fun s us ws _ l1 l2 => .of_eq (h kV doc pm an cdv ct us ws l1 l2), hrel⟩
theorem kb_gApp0 {vs : List V} {us : List Value} {zs : List V} {ws : List Value} (a : Vals vs us) (b : Vals zs ws) : Vals (vs ++ zs) (us ++ ws) := a.append b
def gApp {α : Type} (us ws : List α) : List α := us ++ ws
def gRev {α : Type} (us ws : List α) : List α := us ++ ws.reverse
theorem kb_gApp {vs : List V} {us : List Value} {zs : List V} {ws : List Value} (a : Vals vs us) (b : Vals zs ws) : Vals (gApp vs zs) (gApp us ws) := a.append b
theorem vals_rev2 : ∀ {zs : List V} {ws : List Value}, Vals zs ws → Vals zs.reverse ws.reverse
  | _, _, .nil => .nil
  | _, _, .cons h t => by
    rw [List.reverse_cons, List.reverse_cons]
    exact (vals_rev2 t).append (.cons h .nil)
theorem kb_gRev {vs : List V} {us : List Value} {zs : List V} {ws : List Value} (a : Vals vs us) (b : Vals zs ws) : Vals (gRev vs zs) (gRev us ws) := a.append (vals_rev2 b)
def tCallG (n m : Nat) (sp : Sp) (gV : List V → List V → List V) (t tk : TA) : TE := fun σ H Q => t σ H fun vs H1 => tk σ H1 fun zs H2 => vs.length = n ∧ zs.length = m ∧ sp (gV vs zs) H2 Q E0
section
variable {X : Cx} {CX : CXT} {k n : Nat} {f : Addr} {fd : FuncData} {ps ks : List Str} {sp : Sp} {E : XK} {x : Str} {p pos : Pos} {e : Expr} {es : List Expr} {kws : List Keyword} {t tk : TA} {g : List Value → List Value → List Value} {gV : List V → List V → List V}
theorem run_fnG {pins : List (Addr × Obj)} {σ : L2.St} {H : Hp} {s : Shared} {Q : VK} {us ws : List Value} {vs zs : List V} (F : FnG X.prog X.w X.K X.mg X.base CX k f fd ps sp) (hG : X.A.guards = some []) (hr : Room k X.A) (hb : KBn X.K fd ps n ks g gV) (hx : Passes CX X E)
    (I : Inv X pins σ H s) (r : Vals vs us) (rz : Vals zs ws) (l1 : vs.length = n) (l2 : zs.length = ks.length) (h : sp (gV vs zs) H Q E) : wpAny (model X.prog X.w) X.A (call (.ref f) us (ks.zip ws)) (EP X pins σ Q) X.xe s := by
  have r2 := hb.rel r rz
  refine wpAny_call (codeAny_mono (F.runG X.A X.stack s H ⟨us, ks.zip ws⟩ (g us ws) (gV vs zs) Q E hG hr I.env0 (hb.to s us ws I.kIn (r.length.symm.trans l1) (rz.length.symm.trans l2)) r2 h) fun r s' hq => ?_)
  cases r with
  | error e => exact hx pins σ H s e s' I hq
  | ok fl =>
    cases fl with
    | ret u => exact I.after hq
    | next => exact False.elim hq
    | brk => exact False.elim hq
    | cont => exact False.elim hq
/-- f(k = v, ..) -/
theorem pe_gK0 {j : Nat} (c : Gk X.prog X.w X.K X.mg X.base k x 0 ks gV sp) (hG : X.A.guards = some []) (hr : Room j X.A) (hk : k ≤ j) (hg : Gl X x) (hkw : PK X kws tk)
    (hall : (backToKw pos (keywordEach kws X.env)).all (·.1.isSome) = true := by rfl) (hks : (backToKw pos (keywordEach kws X.env)).filterMap (·.1) = ks := by rfl) (hdb : (x == ("__debug__" : Str)) = false := by decide)
    (hpl : ((backTo pos (starEach [] X.env)).any (·.1) || (backToKw pos (keywordEach kws X.env)).any (·.1.isNone)) = false := by rfl) :
    PE X (.Call (.Name x p) [] kws pos) (tCallG 0 ks.length sp gV tNil tk) := by
  obtain ⟨f, fd, ps, g, F, hm, kp, hb⟩ := c.ex
  refine ⟨fun pins s σ H Q I h => ?_⟩
  refine wpAny_Call_Name_kw (ld_glob I hg hm ?_ hdb)
  refine PySem.W.callWith_KW0 (h₀ := X.base) I.ok.mod.kin kp hall ?_ hpl
  refine thn (hkw.run pos pins s σ H _ I h) fun ws s2 ⟨zs, H2, I2, rz, l1, l2, q2⟩ => ⟨I2.kIn, ?_⟩
  rw [hks]
  exact run_fnG (us := []) (vs := []) F hG (hr.mono hk) hb pass0 I2 .nil rz rfl l2 q2
/-- f(e, .., k = v, ..) -/
theorem pe_gK {j : Nat} (c : Gk X.prog X.w X.K X.mg X.base k x n ks gV sp) (hG : X.A.guards = some []) (hr : Room j X.A) (hk : k ≤ j) (hg : Gl X x) (ha : PA X (e :: es) t) (hkw : PK X kws tk)
    (hall : (backToKw pos (keywordEach kws X.env)).all (·.1.isSome) = true := by rfl) (hks : (backToKw pos (keywordEach kws X.env)).filterMap (·.1) = ks := by rfl) (hdb : (x == ("__debug__" : Str)) = false := by decide)
    (he : starEach (e :: es) X.env = (false, eval e X.env) :: starEach es X.env := by rfl) (hpl : ((backTo pos (starEach (e :: es) X.env)).any (·.1) || (backToKw pos (keywordEach kws X.env)).any (·.1.isNone)) = false := by rfl) :
    PE X (.Call (.Name x p) (e :: es) kws pos) (tCallG n ks.length sp gV t tk) := by
  obtain ⟨f, fd, ps, g, F, hm, kp, hb⟩ := c.ex
  refine ⟨fun pins s σ H Q I h => ?_⟩
  refine wpAny_Call_Name_kw (ld_glob I hg hm ?_ hdb)
  refine PySem.W.callWith_KW (h₀ := X.base) I.ok.mod.kin kp hall (thn (ha.run pos pins s σ H _ I h) fun us s1 ⟨vs, H1, I1, r, q⟩ => ?_) hpl he
  refine thn (hkw.run pos pins s1 σ H1 _ I1 q) fun ws s2 ⟨zs, H2, I2, rz, l1, l2, q2⟩ => ⟨I2.kIn, ?_⟩
  rw [hks]
  exact run_fnG F hG (hr.mono hk) hb pass0 I2 r rz l1 l2 q2
end

/-! ### i *= j of great ints -/
def ipC (C : Int → Int → Prop) (f : Int → Int → Int) : TIp := fun x y H Q => ∃ i j, x = .int i ∧ y = .int j ∧ C i j ∧ Q (.int (f i j)) H
section
variable {X : Cx}
theorem ip_mulW : PIp X .Mult (ipC CMulW fun i j => i * j) := by
  intro pins s σ H x y v u Q I r1 r2 h
  obtain ⟨i, j, e1, e2, hc, q⟩ := h
  subst e1; subst e2
  obtain ⟨t, rfl⟩ := r1
  obtain ⟨t', rfl⟩ := r2
  exact imul_int ⟨.int _, H, I.tok _, ⟨_, rfl⟩, q⟩ hc.ok
/-! ### text * int -/
theorem foldl_repN (l : List Nat) : ∀ (n : Nat) (acc : List Nat), List.foldl (fun x1 x2 => x1 ++ x2) acc.toArray (List.replicate n l.toArray) = (acc ++ (List.replicate n l).flatten).toArray
  | 0, acc => by simp
  | n + 1, acc => by
    rw [List.replicate_succ, List.foldl_cons, List.append_toArray, foldl_repN l n (acc ++ l), List.replicate_succ, List.flatten_cons, List.append_assoc]
theorem op_repS : OpR X (binaryOp .Mult) (fun x y H Q => ∃ (z : Str) (n : Nat), x = .str z ∧ y = .int (n : Int) ∧ 2 ≤ n ∧ z.length ≠ 0 ∧ z.length * n ≤ 100000 ∧ Q (.str ⟨(List.replicate n z.cps.toList).flatten.toArray⟩) H) := by
  intro pins s σ H x y v u Q I r1 r2 h
  obtain ⟨z, n, e1, e2, h1, h3, h4, q⟩ := h
  subst e1; subst e2
  obtain ⟨t, rfl⟩ := r1
  obtain ⟨t', rfl⟩ := r2
  have hn : ¬ (n : Int) < 1 := by omega
  have hz1 : 1 ≤ z.length := Nat.pos_of_ne_zero h3
  have hn2 : n ≤ 100000 := Nat.le_trans (Nat.le_mul_of_pos_left n hz1) h4
  have hb : ((n : Int) == 1 || z.length == 0) = false := by
    have a : ((n : Int) == 1) = false := beq_eq_false_iff_ne.mpr (by omega)
    have b : (z.length == 0) = false := beq_eq_false_iff_ne.mpr h3
    rw [a, b]
    rfl
  have hsz : z.length * n ≤ sizeLine := zs h4
  have f0 : List.foldl (fun x1 x2 => x1 ++ x2) #[] (List.replicate n z.cps) = (List.replicate n z.cps.toList).flatten.toArray := by
    have := foldl_repN z.cps.toList n []
    rw [List.nil_append, Array.toArray_toList] at this
    exact this
  have hl : (⟨(List.replicate n z.cps.toList).flatten.toArray⟩ : Str).length = n * z.length := by
    show ((List.replicate n z.cps.toList).flatten.toArray).size = n * z.length
    rw [List.size_toArray, List.length_flatten, List.map_replicate, List.sum_replicate_nat, Array.length_toList]
    rfl
  refine PySem.P.mul_str ?_ (fun _ _ => ?_) (fun _ _ => ?_) ?_
  · have a : ¬ (n : Int) < -(2 ^ 63 : Int) := by omega
    have b : ¬ (n : Int) ≥ 2 ^ 63 := by omega
    rw [decide_eq_false a, decide_eq_false b]
    rfl
  · have h5 : (z.length : Int) * (n : Int) ≤ 100000 := by
      have := Int.ofNat_le.mpr h4
      rwa [Int.natCast_mul] at this
    have := (Int.le_ediv_iff_mul_le (show (0 : Int) < n by omega)).mpr (show (z.length : Int) * (n : Int) ≤ 2 ^ 63 - 1 by omega)
    omega
  · have e : (n : Int).toNat = n := rfl
    rw [e]
    unfold Builtin.Str.tooLong
    exact decide_eq_false (by omega)
  · rw [if_neg hn, hb, if_neg Bool.false_ne_true]
    have e : (n : Int).toNat = n := rfl
    rw [e, f0]
    exact ⟨by rw [hl]; rw [Nat.mul_comm]; exact hsz, .str _, H, I.tok _, ⟨_, rfl⟩, q⟩
end
/-! ### math.factorial, math.comb -/
def facN : Nat → Nat
  | 0 => 1
  | n + 1 => facN n * (n + 1)
theorem fac_eq : ∀ n : Nat, Builtin.Math.factorialNat n = facN n
  | 0 => rfl
  | n + 1 => by
    have e : Builtin.Math.factorialNat (n + 1) = Builtin.Math.factorialNat n * (n + 1) := by
      unfold Builtin.Math.factorialNat
      rw [List.range_succ, List.foldl_append]
      rfl
    rw [e, fac_eq n]
    rfl
theorem fac_lt : ∀ n : Nat, n ≤ 1000 → facN n < 2 ^ (10 * n + 1)
  | 0, _ => by decide
  | n + 1, h => by
    have z := fac_lt n (by omega)
    have e : 10 * (n + 1) + 1 = (10 * n + 1) + 10 := by omega
    show facN n * (n + 1) < _
    rw [e, Nat.pow_add]
    exact Nat.mul_lt_mul_of_lt_of_le z (by have : (2 : Nat) ^ 10 = 1024 := by decide
                                           omega) (by decide)
def rFac : List V → Hp → VK → Prop := fun vs H Q => ∃ n : Nat, vs = [.int (n : Int)] ∧ n ≤ 1000 ∧ Q (.int ((facN n : Nat) : Int)) H
theorem cr_fac {X : Cx} : CallR X (.builtin "math.factorial") rFac := by
  intro pins s σ H vs us Q I r h
  obtain ⟨n, rfl, hn, q⟩ := h
  obtain ⟨u, rfl, t, rfl⟩ := vals1 r
  have hl := fac_lt n hn
  have e : Builtin.Math.factorialNat (n : Int).toNat = facN n := fac_eq n
  refine PySem.W.mg_factorial (by show ¬ (n : Int) > 2 ^ 63 - 1; omega) (by omega) (by show ¬ (n : Int) > 20000; omega) ?_ ?_
  · rw [e]
    show (facN n).log2 < bitsLine
    have b := PySem.Flt.log2_lt_of (by omega : 0 < 10 * n + 1) hl
    have e2 : bitsLine = 134217728 := by decide
    rw [e2]
    omega
  · rw [e]
    exact ⟨.int _, H, I.tok _, ⟨_, rfl⟩, q⟩
/-! ### lists of great ints as text -/
theorem shown_big {ns : List Int} (hb : ∀ n ∈ ns, n.natAbs.log2 < 1920) (hl : ns.length ≤ 40) : (dI ns).shown.length ≤ sizeLine := by
  show (textFrom 0 "[" (PyData.shownAll (ns.map PyData.int)) ++ ("]" : Str)).length ≤ sizeLine
  rw [Str.length_append]
  have z := textFrom_le (PyData.shownAll (ns.map PyData.int)) 0 "[" 1921 (fun t ht => by
    obtain ⟨n, hn, e⟩ := shownAll_mem ns t ht
    rw [e]
    exact PyProof.Rows.int_text_len_1921 (hb n hn))
  rw [shownAll_len] at z
  have e1 : ("[" : Str).length = 1 := rfl
  have e2 : ("]" : Str).length = 1 := rfl
  rw [e1] at z
  rw [e2]
  exact zs (by omega)
theorem rrepr_big {K : PySem.W.Frag} {H : Hp} {a : Addr} {ns : List Int} {Q : VK} (hS : SqL K H a (ns.map V.int)) (hb : ∀ n ∈ ns, n.natAbs.log2 < 1920) (hl : ns.length ≤ 40) (q : Q (.str (dI ns).shown) H) : rRepr K [.ref a] H Q :=
  ⟨a, dI ns, rfl, dp_ints hS, show_ints ns hb, noDict_ints ns, rI2 ns, shown_big hb hl, q⟩
theorem log_nat {n k : Nat} (h : n < 2 ^ k) (h0 : 0 < k) (hk : k ≤ 1920) : ((n : Nat) : Int).natAbs.log2 < 1920 := Nat.lt_of_lt_of_le (PySem.Flt.log2_lt_of h0 (show ((n : Nat) : Int).natAbs < 2 ^ k from h)) hk
end Lp
set_option Elab.async false
set_option linter.all false
set_option maxRecDepth 100000
namespace Lp
open PySem PySem.Spec PyProof.Rows L2
theorem filtG {α : Type} {l : List α} {f : α → Bool} {i : Nat} {e : α} (he : l[i]? = some e) : (l.take (i + 1)).filter f = (l.take i).filter f ++ (if f e = true then [e] else []) := by
  rw [take_get he, List.filter_append]
  congr 1
  simp only [List.filter_cons, List.filter_nil]
theorem filtG_len {α : Type} {l : List α} {f : α → Bool} (i : Nat) : ((l.take i).filter f).length ≤ l.length := Nat.le_trans (List.length_filter_le _ _) (by rw [List.length_take]; exact Nat.min_le_right _ _)
theorem inVI (x : Int) : ∀ ns : List Int, inV (.int x) (ns.map V.int) = decide (x ∈ ns)
  | [] => rfl
  | n :: r => by
    show (eqV (.int n) (.int x) || inV (.int x) (r.map V.int)) = _
    rw [inVI x r]
    show ((n == x) || decide (x ∈ r)) = _
    by_cases e : n = x
    · subst e
      simp
    · have e' : ¬ x = n := fun z => e z.symm
      simp [e, e']
theorem flatI (ns : List Int) : (ns.map V.int).all flatV = true := by
  rw [List.all_eq_true]
  intro v hv
  obtain ⟨n, _, rfl⟩ := List.mem_map.mp hv
  rfl
theorem notInT {x : Int} {ns : List Int} (h : x ∉ ns) : V.bl (if true = true then !inV (.int x) (ns.map V.int) else inV (.int x) (ns.map V.int)) = V.bl true := by
  rw [if_pos rfl, inVI, decide_eq_false h]
  rfl
theorem notInF {x : Int} {ns : List Int} (h : x ∈ ns) : V.bl (if true = true then !inV (.int x) (ns.map V.int) else inV (.int x) (ns.map V.int)) = V.bl false := by
  rw [if_pos rfl, inVI, decide_eq_true h]
  rfl

/-! ### rows of ints in the heap -/
def RowsR (H : Hp) (rs : List V) (rows : List (List Int)) : Prop := rs.length = rows.length ∧ ∀ (i : Nat) (row : List Int), rows[i]? = some row → ∃ a, rs[i]? = some (.ref a) ∧ H a = some (.lst (row.map V.int))
theorem RowsR.same {H H' : Hp} {rs : List V} {rows : List (List Int)} (h : RowsR H rs rows) (s : Same H H') : RowsR H' rs rows := ⟨h.1, fun i row e => by
  obtain ⟨a, b, c⟩ := h.2 i row e
  exact ⟨a, b, s _ _ c⟩⟩
theorem RowsR.upd {H : Hp} {rs : List V} {rows : List (List Int)} {q : Addr} {o : HO} (h : RowsR H rs rows) (n : V.ref q ∉ rs) : RowsR (upd H q o) rs rows := ⟨h.1, fun i row e => by
  obtain ⟨a, b, c⟩ := h.2 i row e
  have ne : a ≠ q := fun z => n (by rw [← z]; exact List.mem_of_getElem? b)
  refine ⟨a, b, ?_⟩
  rw [upd_ne ne]
  exact c⟩
theorem RowsR.nil (H : Hp) : RowsR H [] [] := ⟨rfl, fun i row e => by simp at e⟩
theorem RowsR.app {H : Hp} {rs ss : List V} {rows sows : List (List Int)} (h : RowsR H rs rows) (g : RowsR H ss sows) : RowsR H (rs ++ ss) (rows ++ sows) := by
  refine ⟨by rw [List.length_append, List.length_append, h.1, g.1], fun i row e => ?_⟩
  by_cases hi : i < rows.length
  · rw [List.getElem?_append_left hi] at e
    rw [List.getElem?_append_left (by rw [h.1]; exact hi)]
    exact h.2 i row e
  · rw [List.getElem?_append_right (by omega)] at e
    rw [List.getElem?_append_right (by rw [h.1]; omega), h.1]
    exact g.2 _ row e
theorem RowsR.one {H : Hp} {a : Addr} {row : List Int} (h : H a = some (.lst (row.map V.int))) : RowsR H [.ref a] [row] := ⟨rfl, fun i r e => by
  cases i with
  | zero => cases e; exact ⟨a, rfl, h⟩
  | succ i => simp at e⟩
theorem RowsR.dp {K : PySem.W.Frag} {H : Hp} : ∀ {rs : List V} {rows : List (List Int)}, RowsR H rs rows → DpAll K H rs (rows.map dI)
  | [], [], _ => .nil
  | [], _ :: _, h => absurd h.1 (by simp)
  | _ :: _, [], h => absurd h.1 (by simp)
  | v :: rs, r :: rows, h => by
    obtain ⟨a, b, c⟩ := h.2 0 r rfl
    have e : v = .ref a := Option.some.inj b
    subst e
    exact .cons (dp_ints (.of c)) (RowsR.dp ⟨Nat.succ.inj h.1, fun i row e => h.2 (i + 1) row e⟩)
theorem flatMap_take_len {α β : Type} {f : α → List β} (l : List α) (j : Nat) : ((l.take j).flatMap f).length ≤ (l.flatMap f).length := by
  have e : l.flatMap f = (l.take j).flatMap f ++ (l.drop j).flatMap f := by rw [← List.flatMap_append, List.take_append_drop]
  rw [e, List.length_append]
  omega
theorem flatMap_take_succ {α β : Type} {f : α → List β} {l : List α} {j : Nat} {x : α} (h : l[j]? = some x) : (l.take (j + 1)).flatMap f = (l.take j).flatMap f ++ f x := by
  rw [take_get h, List.flatMap_append]
  simp
end Lp
set_option Elab.async false
set_option linter.all false
set_option maxRecDepth 100000
namespace Lp
open PySem PySem.Spec PyProof.Rows L2
theorem rgc_two (n : Nat) (h : n ≤ 1000) : RgC 1 (2 * (n : Int)) 2 n := by
  have hs : Builtin.Range.rangeSize 1 (2 * (n : Int)) 2 = (n : Int) := by
    unfold Builtin.Range.rangeSize
    rw [if_pos (by decide)]
    by_cases h0 : n = 0
    · subst h0
      rw [if_neg (by omega)]
      rfl
    · rw [if_pos (by omega)]
      omega
  refine ⟨by decide, by decide, ?_, hs⟩
  unfold Builtin.Range.small
  rw [hs]
  have f : ∀ z : Int, -1000000 ≤ z → z ≤ 1000000 → Builtin.Range.rangeFitsLong z = true := fun z a b => by
    unfold Builtin.Range.rangeFitsLong
    rw [decide_eq_true (show -2 ^ 63 ≤ z by omega), decide_eq_true (show z < 2 ^ 63 by omega)]
    rfl
  rw [f 1 (by decide) (by decide), f (2 * (n : Int)) (by omega) (by omega), f 2 (by decide) (by decide), f (n : Int) (by omega) (by omega), if_pos (by decide), f (2 * (n : Int) + (2 - 1)) (by omega) (by omega), Bool.or_true]
  rfl
/-! ### lists of objects in the heap -/
def ObjR {α : Type} (o : α → HO) (H : Hp) (rs : List V) (l : List α) : Prop := rs.length = l.length ∧ ∀ (i : Nat) (x : α), l[i]? = some x → ∃ a, rs[i]? = some (.ref a) ∧ H a = some (o x)
section
variable {α : Type} {o : α → HO} {H H' : Hp} {rs ss : List V} {l m : List α}
theorem ObjR.same (h : ObjR o H rs l) (s : Same H H') : ObjR o H' rs l := ⟨h.1, fun i x e => by
  obtain ⟨a, b, c⟩ := h.2 i x e
  exact ⟨a, b, s _ _ c⟩⟩
theorem ObjR.upd {q : Addr} {u : HO} (h : ObjR o H rs l) (n : V.ref q ∉ rs) : ObjR o (upd H q u) rs l := ⟨h.1, fun i x e => by
  obtain ⟨a, b, c⟩ := h.2 i x e
  have ne : a ≠ q := fun z => n (by rw [← z]; exact List.mem_of_getElem? b)
  refine ⟨a, b, ?_⟩
  rw [upd_ne ne]
  exact c⟩
theorem ObjR.nil : ObjR o H [] [] := ⟨rfl, fun i x e => by simp at e⟩
theorem ObjR.app (h : ObjR o H rs l) (g : ObjR o H ss m) : ObjR o H (rs ++ ss) (l ++ m) := by
  refine ⟨by rw [List.length_append, List.length_append, h.1, g.1], fun i x e => ?_⟩
  by_cases hi : i < l.length
  · rw [List.getElem?_append_left hi] at e
    rw [List.getElem?_append_left (by rw [h.1]; exact hi)]
    exact h.2 i x e
  · rw [List.getElem?_append_right (by omega)] at e
    rw [List.getElem?_append_right (by rw [h.1]; omega), h.1]
    exact g.2 _ x e
theorem ObjR.one {a : Addr} {x : α} (h : H a = some (o x)) : ObjR o H [.ref a] [x] := ⟨rfl, fun i r e => by
  cases i with
  | zero => cases e; exact ⟨a, rfl, h⟩
  | succ i => simp at e⟩
end
theorem rep_one (b : Bool) (v : V) : (List.replicate (if b = true then (1 : Int) else 0).toNat [v]).flatten = if b = true then [v] else [] := by cases b <;> rfl
theorem rep_sz (b : Bool) (v : V) : [v].length * (if b = true then (1 : Int) else 0).toNat ≤ sizeLine := by
  cases b
  · exact Nat.zero_le _
  · exact Lp.zs (show 1 * 1 ≤ 100000 by decide)
theorem ifs_len (b : Bool) (v : V) : (if b = true then [v] else []).length ≤ 1 := by
  cases b
  · exact Nat.zero_le _
  · exact Nat.le_refl _
theorem ints_get {ns : List Int} {i : Nat} {n : Int} (h : ns[i]? = some n) : (ns.map V.int)[i]? = some (.int n) := by rw [List.getElem?_map, h]; rfl
end Lp
set_option Elab.async false
set_option linter.all false
set_option maxRecDepth 100000
namespace Lp
open PySem PySem.Spec PyProof.Rows L2
/-! ### lists of ints, by < -/
theorem firstLt_map (e r : Nat → Bool) (fin : Bool) (f : Nat → Nat) : ∀ l : List Nat, SeqAt.firstLt e r fin (l.map f) = SeqAt.firstLt (fun j => e (f j)) (fun j => r (f j)) fin l
  | [] => rfl
  | j :: t => by
    show (if e (f j) = true then SeqAt.firstLt e r fin (t.map f) else r (f j)) = (if e (f j) = true then SeqAt.firstLt (fun j => e (f j)) (fun j => r (f j)) fin t else r (f j))
    rw [firstLt_map e r fin f t]
theorem first_lex : ∀ ns ms : List Int, SeqAt.firstLt (fun j => ns.getD j 0 == ms.getD j 0) (fun j => decide (ns.getD j 0 < ms.getD j 0)) (decide (ns.length < ms.length)) (List.range (min ns.length ms.length)) = HT.lexLt ns ms
  | [], [] => rfl
  | [], _ :: _ => rfl
  | _ :: _, [] => rfl
  | n :: ns, m :: ms => by
    have e : min (n :: ns).length (m :: ms).length = min ns.length ms.length + 1 := by
      simp only [List.length_cons]
      omega
    have e2 : decide ((n :: ns).length < (m :: ms).length) = decide (ns.length < ms.length) := decide_eq_decide.mpr (by simp only [List.length_cons]; omega)
    rw [e, e2, List.range_succ_eq_map]
    show (if (n == m) = true then SeqAt.firstLt _ _ _ ((List.range (min ns.length ms.length)).map Nat.succ) else decide (n < m)) = if n = m then HT.lexLt ns ms else decide (n < m)
    rw [firstLt_map]
    by_cases h : n = m
    · rw [if_pos (beq_iff_eq.mpr h), if_pos h]
      exact first_lex ns ms
    · rw [if_neg (fun z => h (beq_iff_eq.mp z)), if_neg h]
def IsLs (h : Heap) (v : Value) (ns : List Int) : Prop := ∃ (a : Addr) (items : List Value), v = .ref a ∧ h.IsList a items.toArray ∧ IntsAre items ns
theorem IsLs.keeps {h h' : Heap} {v : Value} {ns : List Int} (x : IsLs h v ns) (k : ∀ b o, v = .ref b → h.get? b = some o → h'.get? b = some o) : IsLs h' v ns := by
  obtain ⟨a, its, rfl, ⟨o, ho, hc, n, hd⟩, hi⟩ := x
  exact ⟨a, its, rfl, ⟨o, k a o rfl ho, hc, n, hd⟩, hi⟩
theorem ints_at : ∀ {us : List Value} {ns : List Int}, IntsAre us ns → ∀ j (h : j < us.length), ∃ t, us[j] = .int (ns.getD j 0) t
  | _, _, .cons n t r, 0, _ => ⟨t, rfl⟩
  | _, _, .cons n t r, j + 1, h => by
    obtain ⟨u, e⟩ := ints_at r j (Nat.lt_of_succ_lt_succ h)
    exact ⟨u, e⟩
section
variable {prog : Program} {w : World} {A : Around} {E : Value → Shared → Prop} {s : Shared}
theorem rcLt_int (A : Around) (s : Shared) (a : Int) (t : Tok) (b : Int) (u : Tok) : SeqAt.RcLt A s (.int a t) (.int b u) (decide (a < b)) := fun prog w E Q h => by
  have z : wpAny (model prog w) A (compareOp .Lt (.int a t) (.int b u)) Q E s := lt_int h
  exact z
theorem lt_ls {v u : Value} {ns ms : List Int} {Q : Bool → Shared → Prop} (hu : A.units < cLine) (hv : IsLs s.heap v ns) (hw : IsLs s.heap u ms) (h : Q (HT.lexLt ns ms) s) : wpAny (model prog w) A (keyLt' oneType' v u) Q E s := by
  obtain ⟨a, its, rfl, la, ia⟩ := hv
  obtain ⟨b, its2, rfl, lb, ib⟩ := hw
  have l1 := ia.length
  have l2 := ib.length
  rw [keyLt'_oneType, oneLt'_eq]
  simp only [if_true]
  refine wpAny_bind (wpAny_cRoomFor hu ?_)
  refine wpAny_bind (wpAny_callSpecialIfBound?_slot la.typeIs PySem.F.slot_list_lt (SeqAt.call_list_lt (e := fun j => ns.getD j 0 == ms.getD j 0) (r := fun j => decide (ns.getD j 0 < ms.getD j 0)) la lb (fun j h1 h2 => ?_) (fun j h1 h2 _ => ?_) ?_))
  · obtain ⟨t, e⟩ := ints_at ia j (by simpa using h1)
    obtain ⟨t', e'⟩ := ints_at ib j (by simpa using h2)
    rw [List.getElem_toArray, List.getElem_toArray, e, e']
    exact SeqAt.EqAt.int_int _ t _ t'
  · obtain ⟨t, e⟩ := ints_at ia j (by simpa using h1)
    obtain ⟨t', e'⟩ := ints_at ib j (by simpa using h2)
    rw [List.getElem_toArray, List.getElem_toArray, e, e']
    exact rcLt_int _ _ _ t _ t'
  · rw [List.size_toArray, List.size_toArray, l1, l2, first_lex]
    exact wpAny_truthy_bool h
theorem ls_cmp {vs : List Value} {k : Value → List Int} (hu : A.units < cLine) (hv : ∀ v ∈ vs, IsLs s.heap v (k v)) : SrtO.Cmp prog w A s oneType' (fun p => p.1 ∈ vs) (SrtO.lt2 fun v u => HT.lexLt (k v) (k u)) := by
  intro p q hp hq
  exact lt_ls (Q := fun r s' => s' = s ∧ r = HT.lexLt (k p.1) (k q.1)) (E := fun _ _ => False) hu (hv p.1 hp) (hv q.1 hq) ⟨rfl, rfl⟩
theorem ls_sortable {a : Addr} {vs : List Value} {k : Value → List Int} (h2 : 2 ≤ vs.length) (hu : A.units < cLine) (hv : ∀ v ∈ vs, IsLs s.heap v (k v)) (ha : ∀ v ∈ vs, v ≠ .ref a) :
    SrtO.SortableO prog w A s a vs fun v u => HT.lexLt (k v) (k u) := by
  intro h' keep
  have hv' : ∀ v ∈ vs, IsLs h' v (k v) := fun v hm => (hv v hm).keeps fun b o e g => keep b o (fun z => ha v hm (by rw [e, z])) g
  refine ⟨oneType', fun Q E hq => ?_, ls_cmp (s := { s with heap := h' }) hu hv'⟩
  refine PySem.W.kas_kind (s := { s with heap := h' }) (T := .type "list") h2 (fun v hm => ?_) (by rfl) (by simp) hq
  obtain ⟨a, its, rfl, ⟨o, ho, hc, n, hd⟩, hi⟩ := hv' v hm
  rw [← hc]
  exact (PySem.W.Looks.ld ho).andThen .now
end
/-- sorted(xs), xs a list of lists of ints of any length (k says which) -/
def rSortedLL (K : PySem.W.Frag) : List V → Hp → VK → Prop := fun vs H Q => ∃ (a : Addr) (xs : List V) (k : V → List Int), vs = [V.ref a] ∧ SqL K H a xs ∧ (∀ x ∈ xs, ∃ t, x = V.ref t ∧ SqL K H t ((k x).map V.int)) ∧
  ∀ ys p, ys.Perm xs → ys.Pairwise (fun x y => HT.lexLt (k y) (k x) = false) → H p = none → Q (.ref p) (upd H p (.lst ys))
theorem cr_sortedLL {X : Cx} (hu : X.A.units + 64 < cLine) : CallR X (.builtin "sorted") (rSortedLL X.K) := by
  intro pins s σ H vs us Q I r h
  obtain ⟨a, xs, k, rfl, hs, hx, q⟩ := h
  obtain ⟨its, rv, hl, hz⟩ := I.list hs
  obtain ⟨u, rfl, ru⟩ := vals1 r
  obtain rfl : u = Value.ref a := ru
  obtain ⟨e1, e2⟩ := refs_back rv fun x m => by
    obtain ⟨t, e, _⟩ := hx x m
    exact ⟨t, e⟩
  have hv : ∀ v ∈ its, IsLs s.heap v (k (backV v)) := fun v hv => by
    obtain ⟨t, rfl⟩ := e2 v hv
    have hm : V.ref t ∈ xs := by rw [e1]; exact List.mem_map.mpr ⟨_, hv, rfl⟩
    obtain ⟨t', e, ht⟩ := hx _ hm
    cases e
    obtain ⟨its2, r2, l2, _⟩ := I.list ht
    exact ⟨t, its2, rfl, l2.isList, r2.ints⟩
  refine SrtO.sorted_ord (NtL.swo_lexL fun u => k (backV u)) hl.isList (by rw [← rv.length]; exact hz) (fun h2 h₁ a' g keep => ls_sortable h2 (by show X.A.units + 1 + 1 < cLine; omega) (fun v hm => (hv v hm).keeps fun b o _ g => (keep b o g).2) fun v hm z => ?_) fun out h1 h2 => ?_
  · obtain ⟨b, its3, e, ⟨o, ho, _⟩, _⟩ := hv v hm
    rw [z] at e
    cases e
    exact (keep _ o ho).1 rfl
  · have h3 : ∀ u ∈ out, ∃ a, u = Value.ref a := fun u hu => e2 u (h2.perm.mem_iff.mp hu)
    obtain ⟨ep, he'⟩ := PyProof.Rows.sortedAll_at s.heap its out.toArray
    have hp : (out.map backV).Perm xs := by
      rw [e1]
      exact h2.perm.map backV
    have hlen : (out.map backV).length ≤ sizeLine := by
      rw [hp.length_eq]
      exact hz
    exact ⟨.ref _, upd H (s.heap.objs.size + 1) (.lst (out.map backV)), I.laid (t' := s.toks) (fun _ _ => PyProof.Rows.sortedAll_old) (Nat.le_succ _) ⟨hlen, out, ep, vals_back h3, he'⟩, rfl, q _ _ hp (List.pairwise_map.mpr (h1.imp fun {x y} z => z)) (I.hok.fresh (Nat.le_succ _))⟩
end Lp
set_option Elab.async false
set_option linter.all false
set_option maxRecDepth 100000
namespace Lp
open PySem PySem.Spec PyProof.Rows L2
theorem all_bounds (n : Nat) : PySem.sliceBounds none none none n = (0, (n : Int), 1) := by
  simp [PySem.sliceBounds]
section
variable {prog : Program} {w : World} {A : Around} {E : Value → Shared → Prop} {s : Shared}
/-- xs[:] = ys -/
theorem whole_set {p q z : Addr} {old new : Array Value} {n1 n2 : Nat} {R : Unit → Shared → Prop} (hp : s.heap.get? p = some { cls := .type "list", data := .seq old n1 }) (hq : s.heap.get? q = some { cls := .type "list", data := .seq new n2 })
    (npq : p ≠ q) (hz : s.heap.IsSliceOf z .none .none .none) (fit : old.size + new.size ≤ sizeLine) (h : R () { s with heap := s.heap.update p (Obj.mapSeq fun xs => xs.extract 0 0 ++ new ++ xs.extract old.size xs.size) }) :
    wpAny (model prog w) A (setItem (.ref p) (.ref z) (.ref q)) R E s := by
  have tp : s.heap.IsList p old := PySem.IsL.isList hp
  have tq : s.heap.IsList q new := PySem.IsL.isList hq
  obtain ⟨oz, goz, coz, doz⟩ := id hz
  have tz : s.TypeIs (.ref z) "slice" := ⟨oz, goz, coz⟩
  have noZero : ¬ ((rawPart none == rawInt 0) = true) := Bool.false_ne_true
  have two : Builtin.List.listSameRef (.ref p) (.ref q) = false := by unfold Builtin.List.listSameRef; exact beq_eq_false_iff_ne.mpr npq
  have upper : (max (0 : Int) (old.size : Int)).toNat = old.size := by omega
  have fit' : ((fun xs : Array Value => xs.extract 0 0 ++ new ++ xs.extract old.size xs.size) old).size ≤ sizeLine + 1 := by simp only [Array.size_append, Array.size_extract]; omega
  unfold setItem; try with_reducible refine wpAny_holding ?_
  first | refine wpAny_bind (wpAny_pure ?_) | skip
  refine wpAny_bind (wpAny_sequenceKey tp.typeIs (by decide) (wpAny_bind (wpAny_callSpecial?_slot (name := Str.ofString "__setitem__") tp.typeIs slot_list_setitem (wpAny_call_entry slot_list_setitem tp.typeIs entry_list_setitem ?_ (args_list_setitem _ _ _)))))
  show wpAny _ _ (Builtin.List.listSubscript? (.ref z) >>= _) _ _ s
  refine wpAny_bind ?_
  unfold Builtin.List.listSubscript?
  refine wpAny_bind (wpAny_specialOf tz slice_no_index ?_)
  simp only [Option.isNone_none, if_true]
  refine wpAny_pure (?_ : wpAny _ _ (typeOf (.ref z) >>= _) _ _ s)
  refine wpAny_bind (wpAny_typeOf tz ?_)
  first | rw [if_neg (by decide)] | refine PySem.W.KFB.if_not (by decide) ?_
  rw [listSliceParts_eq]
  refine wpAny_bind (wpAny_bind (wpAny_field goz doz (x := .none) rfl (wpAny_bind (wpAny_listPart .none (?_ : wpAny _ _ _ _ _ _)))))
  rw [if_neg noZero]
  refine wpAny_bind (wpAny_field goz doz (x := .none) rfl (wpAny_bind (wpAny_listPart .none (wpAny_bind (wpAny_field goz doz (x := .none) rfl (wpAny_bind (wpAny_listPart .none (wpAny_pure ?_))))))))
  first | simp only [two, Bool.false_eq_true, if_false] | refine PySem.W.KFB.if_not two ?_ | (dsimp only; rw [if_neg (by rw [two]; exact Bool.false_ne_true)])
  refine wpAny_bind (m := Builtin.List.listAllItems (.ref q) "must assign iterable to extended slice") ?_
  unfold Builtin.List.listAllItems; refine wpAny_bind (wpAny_typeOf tq.typeIs ?_)
  first | refine PySem.W.KFB.if_so (by decide) ?_ | rw [if_pos (by decide)] | simp only [beq_self_eq_true, Bool.true_or, if_true]
  unfold Builtin.List.listItems; refine wpAny_bind (wpAny_seqItems hq rfl (wpAny_pure (wpAny_bind (wpAny_bind (wpAny_seqItems hp rfl (wpAny_pure ?_))))))
  refine wpAny_bind (wpAny_of_eq ((sliceIndices_raw none none none old.size (by simp)).trans (congrArg (pure : Int × Int × Int → Sem (Int × Int × Int)) (all_bounds old.size))) ?_)
  show wpAny _ _ (if ((1 : Int) == 1) = true then _ else _) _ _ s
  rw [if_pos (by decide)]; refine wpAny_bind (wpAny_rule ?_)
  first | simp only [notLongL fit, Bool.false_eq_true, if_false] | refine PySem.W.KFB.if_not (notLongL fit) ?_
  first | refine wpAny_bind (wpAny_pure ?_) | skip
  show wpAny _ _ (updateSeq p (fun xs => xs.extract 0 ((0 : Int)).toNat ++ new ++ xs.extract (max (0 : Int) (old.size : Int)).toNat xs.size) >>= _) _ _ s
  rw [upper]; refine wpAny_bind (wpAny_updateSeq (hz := Nat.le_trans (Nat.le_add_right _ _) fit) (_hz' := fit') hp rfl (wpAny_bind (wpAny_letGo ?_)))
  first | exact wpAny_bind (wpAny_pure (wpAny_pure ⟨.none, rfl, wpAny_pure h⟩)) | exact wpAny_pure ⟨.none, rfl, wpAny_pure h⟩
end
/-- the slice object of [:] -/
def SlO (a : Addr) : HO := .ext fun h => h.IsSliceOf a .none .none .none
section
variable {X : Cx} {pos : Pos}
def tSlAll : TE := fun _ H Q => ∀ p, H p = none → Q (.ref p) (upd H p (SlO p))
theorem pe_slAll : PE X (.Slice none none none pos) tSlAll := by
  refine ⟨fun pins s σ H Q I h => ?_⟩
  refine wpAny_Slice ?_
  rw [evalPart_none]
  refine wpAny_pure (wpAny_pure (wpAny_pure ?_))
  refine ⟨.ref s.heap.objs.size, upd H s.heap.objs.size (SlO s.heap.objs.size), I.laid (t' := s.toks) (fun b ob q => Heap.get?_push_of_some _ q) (Nat.le_refl _) ⟨Heap.IsSliceOf.new .., ⟨_, Heap.get?_push_size s.heap rfl⟩, fun h1 h2 x k => ?_⟩, rfl, h _ (I.hok.fresh (Nat.le_refl _))⟩
  obtain ⟨o, e, c, d⟩ := x
  exact ⟨o, k o e, c, d⟩
def sAll : TSet := fun x y z H Q => ∃ (l b sl : Addr) (xs ys : List V), x = .ref l ∧ y = .ref sl ∧ z = .ref b ∧ H sl = some (SlO sl) ∧ H l = some (.lst xs) ∧ H b = some (.lst ys) ∧ l ≠ b ∧ xs.length + ys.length ≤ sizeLine ∧ Q (upd H l (.lst ys))
theorem set_all : PSet X sAll := by
  intro pins s σ H o i v ov iv u Q I r1 r2 r3 h
  obtain ⟨l, b, sl, xs, ys, rfl, rfl, rfl, hsl, hl, hb, ne, hz, q⟩ := h
  cases r1
  cases r2
  cases r3
  obtain ⟨z, its, n, r, el, e⟩ := I.lstM hl
  obtain ⟨z2, its2, n2, r', el2, e2⟩ := I.lstM hb
  have os : ObjOk X.prog X.w H s.heap sl (SlO sl) := I.hok sl _ hsl
  refine whole_set e e2 ne os.1 (by rw [List.size_toArray, List.size_toArray]; omega) ⟨_, I.lset (its' := its2) (t' := s.toks) hl e ?_ r' (by omega), q⟩
  apply Array.toList_inj.mp
  simp
/-- xs[..] = as a target, a slice without a step -/
theorem pg_slAll {o i : Expr} {to ti : TE} {t : TSet} (ho : PE X o to) (hi : PE X i ti) (hs : PSet X t)
    (ha : ∀ v, assign (.Subscript o i pos) X.env v = (holding [v] (eval o X.env) >>= fun ov => holding [v, ov] (eval i X.env) >>= fun iv => standAt pos >>= fun _ => holding [v, ov, iv] (setItem ov iv v) >>= fun _ => release [iv, v, ov] []) := by intro _; rfl) : PG X (.Subscript o i pos) (gSub to ti t) := by
  refine ⟨fun pins s σ H v u Q I r h => ?_⟩
  rw [ha u]
  refine wpAny_bind (wpAny_holding (thn (ho.run pins s σ H _ I h) fun ov sA ⟨x, HA, IA, rA, qA⟩ => wpAny_bind (wpAny_holding (thn (hi.run pins sA σ HA _ IA qA) fun iv sB ⟨y, HB, IB, rB, qB⟩ =>
    wpAny_bind (wpAny_standAt (wpAny_bind (wpAny_holding (thn (hs pins sB σ HB x y v ov iv u _ IB rA rB r qB) fun _ sC ⟨HC, IC, qC⟩ => wpAny_release ⟨σ, HC, IC, qC⟩))))))))
end
end Lp
set_option Elab.async false
set_option linter.all false
set_option maxRecDepth 100000
namespace Lp
open PySem PySem.Calls
theorem comb_entry : entryFor table "math.comb" = some Builtin.«math.comb» := entryFor_of_tree (by kernel_rfl)
theorem comb_kind : builtinKind "math.comb" = none := by kernel_rfl
theorem comb_plain : plainId "math.comb" = true := by decide +kernel
theorem comb_args (a b : Value) : argsOk "math.comb" ⟨[a, b], []⟩ := by unfold argsOk; kernel_rfl
theorem comb_run (a : Int) (t : Tok) (b : Int) (u : Tok) (h0 : ¬ a < 0) (h1 : ¬ b < 0) (h2 : ¬ b > a) (h3 : ¬ min b (a - b) > Builtin.Math.maxSsize) (h4 : ¬ min b (a - b) > Builtin.Math.manyFactors) (h5 : ¬ min b (a - b) > 9000)
    (hs : (Builtin.Math.fallingProduct a (min b (a - b)).toNat / Builtin.Math.fallingProduct (min b (a - b)) (min b (a - b)).toNat).natAbs.log2 < bitsLine) :
    Gives (Builtin.«math.comb» ⟨[.int a t, .int b u], []⟩) (.int (Builtin.Math.fallingProduct a (min b (a - b)).toNat / Builtin.Math.fallingProduct (min b (a - b)) (min b (a - b)).toNat)) :=
  .of_wp fun M A E s Q h => by obtain ⟨hp, g, d, tk, os⟩ := s; wp_walk; (try (refine wpAny_ite_false (decide_eq_false (Nat.not_le.mpr hs)) ?_; wp_walk)); exact ⟨_, rfl, h⟩
end Lp
namespace Lp
open PySem PySem.Spec PySem.Calls PyProof.Rows L2
/-! ### binomial coefficients -/
theorem facN_pos' : ∀ n, 0 < facN n
  | 0 => by decide
  | n + 1 => Nat.mul_pos (facN_pos' n) (Nat.succ_pos n)
def chN (n k : Nat) : Nat := facN n / (facN k * facN (n - k))
def chP : Nat → Nat → Nat
  | _, 0 => 1
  | 0, _ + 1 => 0
  | n + 1, k + 1 => chP n k + chP n (k + 1)
theorem chP_zero (n : Nat) : chP n 0 = 1 := by cases n <;> rfl
theorem chP_gt : ∀ n k, n < k → chP n k = 0
  | 0, k + 1, _ => rfl
  | n + 1, k + 1, h => by
    show chP n k + chP n (k + 1) = 0
    rw [chP_gt n k (by omega), chP_gt n (k + 1) (by omega)]
theorem chP_self : ∀ n, chP n n = 1
  | 0 => rfl
  | n + 1 => by
    show chP n n + chP n (n + 1) = 1
    rw [chP_self n, chP_gt n (n + 1) (by omega)]
theorem chP_fac : ∀ n k, k ≤ n → chP n k * (facN k * facN (n - k)) = facN n
  | n, 0, _ => by
    rw [chP_zero, Nat.sub_zero]
    show 1 * (1 * facN n) = facN n
    rw [Nat.one_mul, Nat.one_mul]
  | n + 1, k + 1, h => by
    show (chP n k + chP n (k + 1)) * (facN k * (k + 1) * facN (n + 1 - (k + 1))) = facN n * (n + 1)
    have e : n + 1 - (k + 1) = n - k := by omega
    rw [e]
    have a := chP_fac n k (by omega)
    rcases Nat.lt_or_ge k n with hk | hk
    · have b := chP_fac n (k + 1) (by omega)
      have b2 : facN (n - k) = facN (n - (k + 1)) * (n - k) := by
        have e2 : n - k = (n - (k + 1)) + 1 := by omega
        rw [e2]
        rfl
      have x1 : chP n k * (facN k * (k + 1) * facN (n - k)) = facN n * (k + 1) := by
        rw [← a]
        simp only [Nat.mul_assoc, Nat.mul_comm, Nat.mul_left_comm]
      have x2 : chP n (k + 1) * (facN k * (k + 1) * facN (n - k)) = facN n * (n - k) := by
        rw [← b, b2]
        show _ = chP n (k + 1) * (facN k * (k + 1) * facN (n - (k + 1))) * (n - k)
        simp only [Nat.mul_assoc, Nat.mul_comm, Nat.mul_left_comm]
      rw [Nat.add_mul, x1, x2, ← Nat.mul_add]
      congr 1
      omega
    · have ek : k = n := by omega
      subst ek
      have x : chP k k * (facN k * (k + 1) * facN (k - k)) = chP k k * (facN k * facN (k - k)) * (k + 1) := by
        simp only [Nat.mul_assoc, Nat.mul_comm, Nat.mul_left_comm]
      rw [chP_gt k (k + 1) (by omega), Nat.add_zero, x, a]
theorem ch_eq {n k : Nat} (h : k ≤ n) : chN n k = chP n k := by
  unfold chN
  rw [← chP_fac n k h]
  exact Nat.mul_div_cancel _ (Nat.mul_pos (facN_pos' k) (facN_pos' _))
theorem ch_sym {n k : Nat} (h : k ≤ n) : chN n (n - k) = chN n k := by
  unfold chN
  have e : n - (n - k) = k := by omega
  rw [e, Nat.mul_comm]
theorem ch_le (n k : Nat) : chN n k ≤ facN n := Nat.div_le_self _ _
theorem fall_fac (n : Nat) : ∀ k, k ≤ n → Builtin.Math.fallingProduct (n : Int) k * ((facN (n - k) : Nat) : Int) = ((facN n : Nat) : Int)
  | 0, _ => by
    show 1 * _ = _
    rw [Int.one_mul, Nat.sub_zero]
  | k + 1, h => by
    have e : Builtin.Math.fallingProduct (n : Int) (k + 1) = Builtin.Math.fallingProduct (n : Int) k * ((n : Int) - (k : Int)) := by
      unfold Builtin.Math.fallingProduct
      rw [List.range_succ, List.foldl_append]
      rfl
    have ih := fall_fac n k (by omega)
    have e2 : facN (n - k) = facN (n - (k + 1)) * (n - k) := by
      have e3 : n - k = (n - (k + 1)) + 1 := by omega
      rw [e3]
      rfl
    rw [← ih, e, e2, Int.natCast_mul, Int.mul_assoc]
    congr 1
    rw [Int.mul_comm]
    congr 1
    omega
theorem comb_val {n k : Nat} (h : k ≤ n) : Builtin.Math.fallingProduct (n : Int) k / Builtin.Math.fallingProduct (k : Int) k = ((chN n k : Nat) : Int) := by
  have a := fall_fac n k h
  have b := fall_fac k k (Nat.le_refl k)
  have c := chP_fac n k h
  rw [Nat.sub_self] at b
  have b' : Builtin.Math.fallingProduct (k : Int) k = ((facN k : Nat) : Int) := by
    rw [← b]
    exact (Int.mul_one _).symm
  have fp : ((facN (n - k) : Nat) : Int) ≠ 0 := by
    have := facN_pos' (n - k)
    omega
  have a' : Builtin.Math.fallingProduct (n : Int) k = ((chP n k * facN k : Nat) : Int) := by
    refine Int.eq_of_mul_eq_mul_right fp ?_
    rw [a, ← c, ← Int.natCast_mul, Nat.mul_assoc]
  rw [a', b', ← Int.natCast_ediv, Nat.mul_div_cancel _ (facN_pos' k), ch_eq h]
def rComb : List V → Hp → VK → Prop := fun vs H Q => ∃ n k : Nat, vs = [.int (n : Int), .int (k : Int)] ∧ k ≤ n ∧ n ≤ 1000 ∧ Q (.int ((chN n k : Nat) : Int)) H
theorem cr_comb {X : Cx} : CallR X (.builtin "math.comb") rComb := by
  intro pins s σ H vs us Q I r h
  obtain ⟨n, k, rfl, hk, hn, q⟩ := h
  obtain ⟨t, u, rfl⟩ := Vals.int2 r
  obtain ⟨m, em, hm, ech⟩ : ∃ m : Nat, min (k : Int) ((n : Int) - (k : Int)) = (m : Int) ∧ m ≤ n ∧ chN n m = chN n k := by
    rcases Nat.le_total k (n - k) with c | c
    · exact ⟨k, by omega, hk, rfl⟩
    · exact ⟨n - k, by omega, by omega, ch_sym hk⟩
  have v : Builtin.Math.fallingProduct (n : Int) (min (k : Int) ((n : Int) - (k : Int))).toNat / Builtin.Math.fallingProduct (min (k : Int) ((n : Int) - (k : Int))) (min (k : Int) ((n : Int) - (k : Int))).toNat = ((chN n k : Nat) : Int) := by
    rw [em, Int.toNat_natCast, comb_val hm, ech]
  have fl := fac_lt n hn
  refine call_function_meets comb_kind comb_plain comb_entry (comb_args _ _) (comb_run (n : Int) t (k : Int) u (by omega) (by omega) (by omega) (by rw [em]; show ¬ (m : Int) > 2 ^ 63 - 1; omega) (by rw [em]; show ¬ (m : Int) > 20000; omega) (by omega) ?_).meets ?_
  · rw [v]
    show (chN n k).log2 < bitsLine
    have b := PySem.Flt.log2_lt_of (by omega : 0 < 10 * n + 1) (Nat.lt_of_le_of_lt (ch_le n k) fl)
    have e2 : bitsLine = 134217728 := by decide
    rw [e2]
    omega
  · rw [v]
    exact ⟨.int _, H, I.tok _, ⟨_, rfl⟩, q⟩
end Lp
set_option Elab.async false
set_option linter.all false
set_option maxRecDepth 100000
namespace Lp
open PySem PySem.Spec PyProof.Rows L2
/-! ### a text read from its end -/
theorem fm_all {α : Type} : ∀ m : List α, List.filterMap (fun k => m[k]?) (List.range m.length) = m
  | [] => rfl
  | a :: m => by
    rw [List.length_cons, List.range_succ_eq_map, List.filterMap_cons]
    show a :: List.filterMap (fun k => (a :: m)[k]?) (List.map Nat.succ (List.range m.length)) = a :: m
    rw [List.filterMap_map]
    exact congrArg (a :: ·) (fm_all m)
theorem fm_congr {α β : Type} {f g : α → Option β} : ∀ {l : List α}, (∀ x ∈ l, f x = g x) → l.filterMap f = l.filterMap g
  | [], _ => rfl
  | a :: l, h => by
    rw [List.filterMap_cons, List.filterMap_cons, h a (List.mem_cons_self ..), fm_congr fun x hx => h x (List.mem_cons_of_mem _ hx)]
theorem fm_rev {α : Type} (l : List α) : List.filterMap (fun k => l[l.length - 1 - k]?) (List.range l.length) = l.reverse := by
  refine Eq.trans (fm_congr (g := fun k => l.reverse[k]?) fun k hk => ?_) ((congrArg (fun n => List.filterMap (fun k => l.reverse[k]?) (List.range n)) (List.length_reverse (as := l)).symm).trans (fm_all l.reverse))
  rw [List.getElem?_reverse (List.mem_range.mp hk)]
theorem rev_idx (n : Nat) : Builtin.Str.strSliceIndices none none (-1) n = (List.range n).map fun k => n - 1 - k := by
  show sliceRange ((n : Int) - 1) (-1) (-1) = _
  have e : sliceRange ((n : Int) - 1) (-1) (-1) = List.map (fun k : Nat => ((n : Int) - 1 + (-1) * (k : Int)).toNat) (List.range (if (n : Int) - 1 > -1 then ((n : Int) - 1 - (-1) - (-1) - 1) / 1 else (0 : Int)).toNat) := rfl
  rw [e]
  have c : (if (n : Int) - 1 > -1 then ((n : Int) - 1 - (-1) - (-1) - 1) / 1 else (0 : Int)).toNat = n := by
    split <;> omega
  rw [c]
  exact List.map_congr_left fun k hk => by omega
def revS (x : Str) : Str := ⟨x.cps.toList.reverse.toArray⟩
theorem rev_made (x : Str) (t q : Tok) : sliceMade x t none none (some (-1, q)) = .str (revS x) := by
  show (if ((-1 : Int) == 1 && _) = true then _ else _) = _
  rw [if_neg (by simp)]
  show Made.str ⟨(List.filterMap (fun i => x.cps[i]?) (Builtin.Str.strSliceIndices none none (-1) x.length)).toArray⟩ = _
  rw [rev_idx, List.filterMap_map]
  have := fm_rev x.cps.toList
  simp only [Array.getElem?_toList, Array.length_toList] at this
  exact congrArg (fun l => Made.str ⟨List.toArray l⟩) this
section
variable {X : Cx}
def tRevS (te : TE) : TE := fun σ H Q => te σ H fun x H1 => ∃ z, x = .str z ∧ z.cps.size ≤ sizeLine ∧ Q (.str (revS z)) H1
theorem pe_revS {e : Expr} {te : TE} {k : Nat} {p1 p2 p3 pos : Pos} (he : PE X e te) : PE X (e.Subscript (Expr.Slice none none (some (Expr.UnaryOp UnaryOp.USub (Expr.Constant (Const.int 1) k p1) p2)) p3) pos) (tRevS te) := by
  refine ⟨fun pins s σ H Q I h => ?_⟩
  refine Subscript_ (thn (he.run pins s σ H _ I h) fun o s1 ⟨v, H1, I1, r1, q1⟩ => ?_)
  obtain ⟨z, rfl, hz, q⟩ := q1
  obtain ⟨t, rfl⟩ := r1
  refine wpAny_Slice ?_
  rw [evalPart_none]
  refine wpAny_pure (wpAny_pure ?_)
  refine thn ((po_some (pe_un un_neg pe_int)).run pins s1 σ H1 (fun o H2 => o = some (-1) ∧ H2 = H1) I1 ⟨1, rfl, _, rfl, rfl, rfl⟩) fun u s2 ⟨o, H2, I2, ip, eo, eh⟩ => ?_
  subst eo
  subst eh
  cases ip with
  | int i tk =>
    refine tail_any (typeIs_str _ _ _) F.slot_str_getitem.lookup ?_ rfl
    refine wpAny_getItem_str_slice (l := none) (u := none) (st := some (-1, tk)) (Heap.IsSliceOf.new ..) rfl ?_
    rw [rev_made]
    have I3 : Inv X pins σ H2 { s2 with heap := s2.heap.push { cls := .type "slice", data := .fields #[.none, .none, .int (-1) tk] } } := I2.kept (t' := s2.toks) fun b o e => Heap.get?_push_of_some _ e
    have hl : (revS z).length ≤ sizeLine := by
      show (z.cps.toList.reverse.toArray).size ≤ sizeLine
      rw [List.size_toArray, List.length_reverse, Array.length_toList]
      exact hz
    exact ⟨hl, .str (revS z), H2, I3.tok _, ⟨_, rfl⟩, q⟩
/-! ### list and tuple of a text -/
def chL (z : Str) : List V := z.cps.toList.map fun c => V.str ⟨#[c]⟩
theorem vals_ch {z : Str} {acc : Array Value} (h : ItemsOf (SignAt z) acc z.cps.size) : Vals (chL z) acc.toList := by
  have e : chL z = (List.range acc.toList.length).map fun j => V.str ⟨#[z.cps.toList.getD j 0]⟩ := by
    unfold chL
    rw [Array.length_toList, h.1]
    apply List.ext_getElem?
    intro i
    rw [List.getElem?_map, List.getElem?_map]
    by_cases c : i < z.cps.size
    · rw [List.getElem?_range (by omega), List.getElem?_eq_getElem (by rw [Array.length_toList]; exact c)]
      simp [c]
    · rw [List.getElem?_eq_none (by rw [Array.length_toList]; omega), List.getElem?_eq_none (by rw [List.length_range]; omega)]
      rfl
  rw [e]
  refine vals_of_get acc.toList _ fun j u hj => ?_
  obtain ⟨c, t, hc, rfl⟩ := h.2 j u (by rw [← hj, Array.getElem?_toList])
  refine ⟨t, ?_⟩
  have : z.cps.toList.getD j 0 = c := by
    rw [List.getD_eq_getElem?_getD, Array.getElem?_toList, hc]
    rfl
  rw [this]
def rLStr : List V → Hp → VK → Prop := fun xs H Q => ∃ z, xs = [.str z] ∧ z.cps.size ≤ sizeLine ∧ ∀ p, H p = none → Q (.ref p) (upd H p (.lst (chL z)))
theorem cr_listStr (hc : X.calm = true) : CallR X (.type "list") rLStr := by
  intro pins s σ H xs us Q I r h
  obtain ⟨z, rfl, hz, q⟩ := h
  cases r with
  | cons r rr =>
    cases rr
    obtain ⟨t, rfl⟩ := r
    refine call_list_str (I.ok.hd hc) z t (fun h' tk acc' c' hk e hi => ?_) hz
    refine ⟨.ref _, upd H _ (.lst (chL z)), I.laid hk (Nat.le_refl _) (show ObjOk X.prog X.w _ _ _ (.lst _) from ⟨?_, acc'.toList, c', vals_ch hi, ?_⟩), rfl, q _ (I.hok.fresh (Nat.le_refl _))⟩
    · unfold chL
      rw [List.length_map, Array.length_toList]
      exact hz
    · rw [Array.toArray_toList]; exact e
def rTStr : List V → Hp → VK → Prop := fun xs H Q => ∃ z, xs = [.str z] ∧ z.cps.size ≤ sizeLine ∧ ∀ p, H p = none → Q (.ref p) (upd H p (.tup (chL z)))
theorem cr_tupStr (hc : X.calm = true) : CallR X (.type "tuple") rTStr := by
  intro pins s σ H xs us Q I r h
  obtain ⟨z, rfl, hz, q⟩ := h
  cases r with
  | cons r rr =>
    cases rr
    obtain ⟨t, rfl⟩ := r
    refine call_tuple_str (I.ok.hd hc) z t (fun h' tk acc hk hi => ?_) hz
    have I2 : Inv X pins σ H { s with heap := h', toks := tk } := I.kept (t' := tk) hk
    refine ⟨.ref _, upd H _ (.tup (chL z)), I2.laid (fun b o e => Heap.get?_push_of_some _ e) (Nat.le_refl _) (show ObjOk X.prog X.w _ _ _ (.tup _) from ?_), rfl, q _ (I2.hok.fresh (Nat.le_refl _))⟩
    simp only [ObjOk]
    refine ⟨by unfold chL; rw [List.length_map, Array.length_toList]; exact hz, acc.toList, vals_ch hi, ?_⟩
    rw [Array.toArray_toList]
    exact ⟨_, Heap.get?_push_size _ rfl, rfl, _, rfl⟩
end
end Lp
set_option Elab.async false
set_option linter.all false
set_option maxRecDepth 100000
namespace Lp
open PySem PySem.Spec PyProof.Rows L2
section
variable {prog : Program} {w : World} {A : Around} {E : Value → Shared → Prop} {s : Shared}
theorem zipS_next_item {z TI TO i1 i2 l1 : Addr} {k1 k2 : Nat} {xs : Array Value} {ty : String} {t : Str} {tk : Tok} {x a b : Value} {c : Nat} {Q : Value → Shared → Prop}
    (nx : ∀ (s : Shared) (Q : Value → Shared → Prop) (E : Value → Shared → Prop), s.heap.IsStrIter i2 ty t tk k2 → (∀ h', h'.IsStrIter i2 ty t tk (k2 + 1) → Heap.SameBut i2 s.heap h' → Q (.str ⟨#[c]⟩ s.toks) { heap := h', gens := s.gens, drawn := s.drawn, toks := s.toks + 1, os := s.os }) → wpAny (model prog w) A (Builtin.SmallTypes.nextOf (.ref i2)) Q E s)
    (TIz : TI ≠ z) (TOz : TO ≠ z) (i1z : i1 ≠ z) (i2z : i2 ≠ z) (TITO : TI ≠ TO) (TOi1 : TO ≠ i1) (TOi2 : TO ≠ i2) (i12 : i1 ≠ i2) (l1z : l1 ≠ z)
    (hz : IsZip s.heap z TI TO .none) (hTI : IsPair s.heap TI (.ref i1) (.ref i2)) (hTO : IsPair s.heap TO a b) (h1 : s.heap.IsListIter i1 l1 k1) (h2 : s.heap.IsStrIter i2 ty t tk k2) (hl : s.heap.IsList l1 xs) (hx : xs[k1]? = some x)
    (q : ∀ h' : Heap, IsZip h' z TI TO (rawInt ↑s.heap.objs.size) → IsPair h' TO x (.str ⟨#[c]⟩ s.toks) → h'.IsListIter i1 l1 (k1 + 1) → h'.IsStrIter i2 ty t tk (k2 + 1) → IsPair h' s.heap.objs.size x (.str ⟨#[c]⟩ s.toks) → h'.objs.size = s.heap.objs.size + 1 →
      (∀ (e : Addr) (o : Obj), e ≠ z → e ≠ TO → e ≠ i1 → e ≠ i2 → s.heap.get? e = some o → h'.get? e = some o) → Q (.ref s.heap.objs.size) { heap := h', gens := s.gens, drawn := s.drawn, toks := s.toks + 1, os := s.os }) :
    wpAny (model prog w) A (Builtin.«zip.__next__» { pos := [.ref z] }) (fun fin s' => ∃ v, fin = Fin.done (Flow.ret v) ∧ Q v s') E s := by
  unfold Builtin.«zip.__next__»
  refine wpAny_bind (m := slotArgs "__next__" 0 _) (wpAny_of_eq (a := ((Value.ref z : Value), ([] : List Value))) (by first | rfl | (simp only [slotArgs]; rfl)) ?_)
  refine wpAny_bind (wpAny_field hz rfl rfl ?_)
  refine wpAny_bind (wpAny_field hz rfl rfl ?_)
  refine wpAny_bind (wpAny_seqItems hTI rfl ?_)
  refine wpAny_bind (m := Builtin.SmallTypes.ownedTupleIsFree (.ref z)) ?_
  unfold Builtin.SmallTypes.ownedTupleIsFree
  refine wpAny_bind (wpAny_field hz rfl rfl (wpAny_pure ?_))
  show wpAny _ _ (rule _ >>= _) _ _ _
  refine wpAny_bind (wpAny_rule ?_)
  refine wpAny_bind (wpAny_field hz rfl rfl ?_)
  refine wpAny_bind (wpAny_setField_rec hz (by show 0 < 5; decide) fun g1 gz1 sb1 => ?_)
  refine wpAny_bind ?_
  rw [show (#[Value.ref i1, Value.ref i2] : Array Value).toList.zipIdx = [(Value.ref i1, 0), (Value.ref i2, 1)] from rfl, List.forIn_cons]
  refine wpAny_bind (wpAny_bind (wpAny_onRaise ?_))
  show wpAny _ _ (Builtin.SmallTypes.nextOf (.ref i1) >>= fun v => pure (some v)) _ _ _
  have x1 := sb1.extBut
  have hl1 : g1.IsList l1 xs := hl.extBut x1 l1z
  refine wpAny_bind (wpAny_nextOf_list_item (h1.extBut x1 i1z) hl1 hx fun g2 it2 sb2 => ?_)
  refine wpAny_pure ?_
  have TO2 : IsPair g2 TO a b := by
    show g2.get? TO = _
    rw [sb2.2 TO TOi1, sb1.2 TO TOz]
    exact hTO
  refine wpAny_bind (wpAny_seqItems TO2 rfl ?_)
  refine wpAny_bind (wpAny_updateSeq_pair TO2 fun g3 gt3 sb3 => ?_)
  refine wpAny_bind (wpAny_letGo ?_)
  refine wpAny_pure ?_
  show wpAny _ _ (forIn [((Value.ref i2 : Value), 1)] ((none : Option PySem.Fin), ()) _) _ _ _
  rw [List.forIn_cons]
  refine wpAny_bind (wpAny_bind (wpAny_onRaise ?_))
  show wpAny _ _ (Builtin.SmallTypes.nextOf (.ref i2) >>= fun v => pure (some v)) _ _ _
  have h23 : g3.IsStrIter i2 ty t tk k2 := ((h2.extBut x1 i2z).extBut sb2.extBut i12.symm).extBut sb3.extBut TOi2.symm
  refine wpAny_bind (nx _ _ _ h23 fun g4 it4 sb4 => ?_)
  refine wpAny_pure ?_
  have TO4 : IsPair g4 TO x b := by
    show g4.get? TO = _
    rw [sb4.2 TO TOi2]
    exact gt3
  refine wpAny_bind (wpAny_seqItems TO4 rfl ?_)
  refine wpAny_bind (wpAny_updateSeq_pair TO4 fun g5 gt5 sb5 => ?_)
  refine wpAny_bind (wpAny_letGo ?_)
  refine wpAny_pure ?_
  show wpAny _ _ (forIn [] ((none : Option PySem.Fin), ()) _) _ _ _
  rw [List.forIn_nil]
  refine wpAny_pure ?_
  refine wpAny_bind (wpAny_seqItems gt5 rfl ?_)
  refine wpAny_bind (wpAny_newTuple ?_ (by show 2 ≤ sizeLine; decide))
  refine wpAny_bind ?_
  unfold Builtin.SmallTypes.ownedTupleHandOut
  have gz5 : g5.get? z = some { cls := Value.type "zip", data := Data.fields #[Value.ellipsis, Value.bool false, Value.bool false, Value.ref TI, Value.ref TO] } := by
    rw [sb5.2 z TOz.symm, sb4.2 z i2z.symm, sb3.2 z TOz.symm, sb2.2 z i1z.symm]
    exact gz1
  show wpAny _ _ (setField (.ref z) 0 (rawInt ↑g5.objs.size) >>= fun _ => setField (.ref z) 1 (.bool false)) _ _ _
  have zlt : z < g5.objs.size := Heap.lt_size gz5
  refine wpAny_bind (wpAny_setField_rec (Heap.get?_push_of_some _ gz5) (by show 0 < 5; decide) fun g6 gz6 sb6 => ?_)
  refine wpAny_setField_rec gz6 (by show 1 < 5; decide) fun g7 gz7 sb7 => ?_
  refine wpAny_pure ⟨_, rfl, ?_⟩
  have sz : g5.objs.size = s.heap.objs.size := by rw [sb5.1, sb4.1, sb3.1, sb2.1, sb1.1]
  rw [← sz] at q
  have at7 : ∀ e : Addr, e ≠ z → g7.get? e = (g5.push { cls := Value.type "tuple", data := Data.seq (#[x, b].setIfInBounds 1 (.str ⟨#[c]⟩ s.toks)).toList.toArray }).get? e := fun e he => by
    rw [sb7.2 e he, sb6.2 e he]
  refine q g7 gz7 ?_ ?_ ?_ ?_ ?_ ?_
  · show g7.get? TO = _
    rw [at7 TO TOz]
    exact Heap.get?_push_of_some _ gt5
  · have y := ((it2.extBut sb3.extBut TOi1.symm).extBut sb4.extBut i12).extBut sb5.extBut TOi1.symm
    obtain ⟨o, h, c1, c2⟩ := y
    exact ⟨o, by rw [at7 i1 i1z]; exact Heap.get?_push_of_some _ h, c1, c2⟩
  · obtain ⟨o, h, c1, c2⟩ := it4.extBut sb5.extBut TOi2.symm
    exact ⟨o, by rw [at7 i2 i2z]; exact Heap.get?_push_of_some _ h, c1, c2⟩
  · show g7.get? g5.objs.size = _
    rw [at7 _ (Nat.ne_of_gt zlt)]
    exact Heap.get?_push_size _ rfl
  · rw [sb7.1, sb6.1]
    exact Heap.size_push ..
  · intro e o n1 n2 n3 n4 he
    rw [at7 e n1]
    refine Heap.get?_push_of_some _ ?_
    rw [sb5.2 e n2, sb4.2 e n4, sb3.2 e n2, sb2.2 e n3, sb1.2 e n1]
    exact he
theorem zipS_next_end {z TI TO i1 i2 l1 : Addr} {k1 : Nat} {xs : Array Value} {Q : PySem.Fin → Shared → Prop} (hh : A.handled = none)
    (i1z : i1 ≠ z) (l1z : l1 ≠ z)
    (hz : IsZip s.heap z TI TO .none) (hTI : IsPair s.heap TI (.ref i1) (.ref i2)) (h1 : s.heap.IsListIter i1 l1 k1) (hl : s.heap.IsList l1 xs) (hx : xs[k1]? = none)
    (q : ∀ (h' : Heap) (e : Addr), (∀ (c : Addr) (o : Obj), c ≠ z → c ≠ TO → c ≠ i1 → c ≠ i2 → s.heap.get? c = some o → h'.get? c = some o) → (∃ o, h'.get? e = some o ∧ o.cls = Value.type "StopIteration") → E (.ref e) { heap := h', gens := s.gens, drawn := s.drawn, toks := s.toks, os := s.os }) :
    wpAny (model prog w) A (Builtin.«zip.__next__» { pos := [.ref z] }) Q E s := by
  unfold Builtin.«zip.__next__»
  refine wpAny_bind (m := slotArgs "__next__" 0 _) (wpAny_of_eq (a := ((Value.ref z : Value), ([] : List Value))) (by first | rfl | (simp only [slotArgs]; rfl)) ?_)
  refine wpAny_bind (wpAny_field hz rfl rfl ?_)
  refine wpAny_bind (wpAny_field hz rfl rfl ?_)
  refine wpAny_bind (wpAny_seqItems hTI rfl ?_)
  refine wpAny_bind (m := Builtin.SmallTypes.ownedTupleIsFree (.ref z)) ?_
  unfold Builtin.SmallTypes.ownedTupleIsFree
  refine wpAny_bind (wpAny_field hz rfl rfl (wpAny_pure ?_))
  show wpAny _ _ (rule _ >>= _) _ _ _
  refine wpAny_bind (wpAny_rule ?_)
  refine wpAny_bind (wpAny_field hz rfl rfl ?_)
  refine wpAny_bind (wpAny_setField_rec hz (by show 0 < 5; decide) fun g1 gz1 sb1 => ?_)
  refine wpAny_bind ?_
  rw [show (#[Value.ref i1, Value.ref i2] : Array Value).toList.zipIdx = [(Value.ref i1, 0), (Value.ref i2, 1)] from rfl, List.forIn_cons]
  refine wpAny_bind (wpAny_bind (wpAny_onRaise ?_))
  show wpAny _ _ (Builtin.SmallTypes.nextOf (.ref i1) >>= fun v => pure (some v)) _ _ _
  have x1 := sb1.extBut
  have hl1 : g1.IsList l1 xs := hl.extBut x1 l1z
  refine wpAny_bind (wpAny_nextOf_list_end hh (h1.extBut x1 i1z) hl1 hx fun g2 e x2 so => ?_)
  refine wpAny_setField_rec (x2 z _ i1z.symm gz1) (by show 0 < 5; decide) fun g3 gz3 sb3 => ?_
  refine q g3 e (fun c o n1 n2 n3 n4 hc => ?_) ?_
  · rw [sb3.2 c n1]
    refine x2 c o n3 ?_
    rw [sb1.2 c n1]
    exact hc
  · obtain ⟨o, ho, hc⟩ := so
    by_cases ez : e = z
    · subst ez
      rw [x2 e _ i1z.symm gz1] at ho
      cases ho
      exact absurd (show Value.type "zip" = Value.type "StopIteration" from hc) (by decide)
    · exact ⟨o, by rw [sb3.2 e ez]; exact ho, hc⟩
/-- how an iterator of a text goes on -/
def NxS (prog : Program) (w : World) (ty : String) : Prop := ∀ (A : Around) (E : Value → Shared → Prop) (s : Shared) (it : Addr) (x : Str) (t : Tok) (i c : Nat) (Q : Value → Shared → Prop), s.heap.IsStrIter it ty x t i → x.cps[i]? = some c →
  (∀ h' : Heap, h'.IsStrIter it ty x t (i + 1) → Heap.SameBut it s.heap h' → Q (.str ⟨#[c]⟩ s.toks) { heap := h', gens := s.gens, drawn := s.drawn, toks := s.toks + 1, os := s.os }) → wpAny (model prog w) A (Builtin.SmallTypes.nextOf (.ref it)) Q E s
theorem nxs_ascii : NxS prog w "str_ascii_iterator" := fun _ _ _ _ _ _ _ _ _ h1 h2 h3 => wpAny_nextOf_ascii_item h1 h2 h3
theorem nxs_wide : NxS prog w "str_iterator" := fun _ _ _ _ _ _ _ _ _ h1 h2 h3 => wpAny_nextOf_wide_item h1 h2 h3
theorem pyNext_zipS_item {z TI TO i1 i2 l1 : Addr} {k1 : Nat} {xs : Array Value} {ty : String} {t : Str} {tk : Tok} {x a b : Value} {c : Nat} {Q : Option Value → Shared → Prop}
    (nx : NxS prog w ty) (D : ZipApart z TI TO i1 i2 l1 l1)
    (hz : IsZip s.heap z TI TO .none) (hTI : IsPair s.heap TI (.ref i1) (.ref i2)) (hTO : IsPair s.heap TO a b) (h1 : s.heap.IsListIter i1 l1 k1) (h2 : s.heap.IsStrIter i2 ty t tk k1) (hl : s.heap.IsList l1 xs) (hx : xs[k1]? = some x) (hc : t.cps[k1]? = some c)
    (q : ∀ h' : Heap, IsZip h' z TI TO (rawInt ↑s.heap.objs.size) → IsPair h' TO x (.str ⟨#[c]⟩ s.toks) → h'.IsListIter i1 l1 (k1 + 1) → h'.IsStrIter i2 ty t tk (k1 + 1) → IsPair h' s.heap.objs.size x (.str ⟨#[c]⟩ s.toks) → h'.objs.size = s.heap.objs.size + 1 →
      (∀ (e : Addr) (o : Obj), e ≠ z → e ≠ TO → e ≠ i1 → e ≠ i2 → s.heap.get? e = some o → h'.get? e = some o) → Q (some (.ref s.heap.objs.size)) { heap := h', gens := s.gens, drawn := s.drawn, toks := s.toks + 1, os := s.os }) :
    wpAny (model prog w) A (pyNext (.ref z)) Q E s := by
  have hT : s.TypeIs (.ref z) "zip" := ⟨_, hz, rfl⟩
  unfold pyNext
  exact wpAny_bind (wpAny_attempt (wpAny_callSpecial?_slot hT F.slot_zip_next (wpAny_call_entry F.slot_zip_next hT F.entry_zip_next
    (zipS_next_item (fun s Q E h k => nx _ E s i2 t tk k1 c Q h hc k) D.TIz D.TOz D.i1z D.i2z D.TITO D.TOi1 D.TOi2 D.i12 D.l1z hz hTI hTO h1 h2 hl hx fun h' a1 a2 a3 a4 a5 a6 a7 => wpAny_pure (q h' a1 a2 a3 a4 a5 a6 a7)) (F.args_zip_next_1 (.ref z)))))
theorem pyNext_zipS_end {z TI TO i1 i2 l1 : Addr} {k1 : Nat} {xs : Array Value} {Q : Option Value → Shared → Prop} (hh : A.handled = none) (D : ZipApart z TI TO i1 i2 l1 l1)
    (hz : IsZip s.heap z TI TO .none) (hTI : IsPair s.heap TI (.ref i1) (.ref i2)) (h1 : s.heap.IsListIter i1 l1 k1) (hl : s.heap.IsList l1 xs) (hx : xs[k1]? = none)
    (q : ∀ h' : Heap, (∀ (c : Addr) (o : Obj), c ≠ z → c ≠ TO → c ≠ i1 → c ≠ i2 → s.heap.get? c = some o → h'.get? c = some o) → Q none { heap := h', gens := s.gens, drawn := s.drawn, toks := s.toks, os := s.os }) :
    wpAny (model prog w) A (pyNext (.ref z)) Q E s := by
  have hT : s.TypeIs (.ref z) "zip" := ⟨_, hz, rfl⟩
  unfold pyNext
  exact wpAny_bind (wpAny_attempt (wpAny_callSpecial?_slot hT F.slot_zip_next (wpAny_call_entry F.slot_zip_next hT F.entry_zip_next
    (zipS_next_end hh D.i1z D.l1z hz hTI h1 hl hx fun h' e hk he => by
      obtain ⟨o, ho, hc⟩ := he
      exact wpAny_bind (wpAny_isInstance ⟨o, ho, hc⟩ isSubtype_stop (wpAny_pure (q h' hk)))) (F.args_zip_next_1 (.ref z)))))
def zsH1 (h : Heap) (l1 : Addr) : Heap := h.push { cls := .type "list_iterator", data := .fields #[.ref l1, .int 0 0] }
def zsH2 (h : Heap) (l1 : Addr) (x : Str) (t : Tok) : Heap := (zsH1 h l1).push { cls := .type "str_ascii_iterator", data := .fields #[.str x t, .int 0 0] }
def zsH3 (h : Heap) (l1 : Addr) (x : Str) (t : Tok) : Heap := (zsH2 h l1 x t).push { cls := .type "tuple", data := .seq #[.ref h.objs.size, .ref (zsH1 h l1).objs.size] }
def zsH4 (h : Heap) (l1 : Addr) (x : Str) (t : Tok) : Heap := (zsH3 h l1 x t).push { cls := .type "tuple", data := .seq #[.none, .none] }
def zsH5 (h : Heap) (l1 : Addr) (x : Str) (t : Tok) : Heap := (zsH4 h l1 x t).push { cls := .type "zip", data := .fields #[.none, .bool false, .bool false, .ref (zsH2 h l1 x t).objs.size, .ref (zsH3 h l1 x t).objs.size] }
end
theorem meets_zipS_new (l1 : Addr) (x : Str) (t : Tok) (xs : Array Value) (ha : (x.cps.all fun c => decide (c < 128)) = true) : Meets (Builtin.«zip.__new__» { pos := [.type "zip", .ref l1, .str x t] }) fun _ R s =>
    s.heap.IsList l1 xs ∧ R (Except.ok (Flow.ret (.ref (zsH4 s.heap l1 x t).objs.size))) { heap := zsH5 s.heap l1 x t, gens := s.gens, drawn := s.drawn, toks := s.toks, os := s.os } :=
  Meets.of_wp fun prog w A R s h => by
    obtain ⟨hp, g, d, tk, os⟩ := s
    obtain ⟨hl1, hR⟩ := h
    unfold Builtin.«zip.__new__»
    refine wpAny_bind ?_
    unfold Builtin.SmallTypes.newClass
    refine wpAny_bind (m := isType _) (wpAny_pure ?_)
    refine wpAny_ite_false rfl ?_
    refine wpAny_bind (wpAny_of_eq sub_zip (wpAny_ite_false rfl (wpAny_pure ?_)))
    refine wpAny_ite_false rfl ?_
    refine wpAny_bind (m := Builtin.SmallTypes.iterAll _) ?_
    unfold Builtin.SmallTypes.iterAll
    refine wpAny_bind ?_
    rw [List.forIn_cons]
    refine wpAny_bind (wpAny_bind (wpAny_holding (wpAny_pyIter_list hl1 (wpAny_pure ?_))))
    show wpAny _ _ (forIn [Value.str x t] _ _) _ _ _
    rw [List.forIn_cons]
    refine wpAny_bind (wpAny_bind (wpAny_holding (wpAny_pyIter_ascii ha (wpAny_pure ?_))))
    show wpAny _ _ (forIn [] _ _) _ _ _
    rw [List.forIn_nil]
    refine wpAny_pure (wpAny_pure ?_)
    refine wpAny_bind (wpAny_newTuple ?_ (by show 2 ≤ sizeLine; decide))
    refine wpAny_bind (wpAny_newTuple ?_ (by show 2 ≤ sizeLine; decide))
    refine wpAny_bind ?_
    unfold Builtin.SmallTypes.newRecord
    show wpAny _ _ (newObj _ _) _ _ _
    unfold newObj
    refine wpAny_bind (wpAny_alloc' ?_)
    refine wpAny_pure ?_
    exact wpAny_pure ⟨_, rfl, hR⟩
theorem call_zipS {prog : Program} {w : World} {A : Around} {E : Value → Shared → Prop} {s : Shared} {l1 : Addr} {xs : Array Value} {x : Str} {t : Tok} {Q : Value → Shared → Prop} (ha : (x.cps.all fun c => decide (c < 128)) = true) (hl1 : s.heap.IsList l1 xs)
    (h : ∀ h' : Heap, IsZip h' (s.heap.objs.size + 4) (s.heap.objs.size + 2) (s.heap.objs.size + 3) .none → IsPair h' (s.heap.objs.size + 2) (.ref s.heap.objs.size) (.ref (s.heap.objs.size + 1)) → IsPair h' (s.heap.objs.size + 3) .none .none → h'.IsListIter s.heap.objs.size l1 0 →
      h'.IsStrIter (s.heap.objs.size + 1) "str_ascii_iterator" x t 0 → h'.objs.size = s.heap.objs.size + 5 → (∀ (c : Addr) (o : Obj), s.heap.get? c = some o → h'.get? c = some o) → Q (.ref (s.heap.objs.size + 4)) { heap := h', gens := s.gens, drawn := s.drawn, toks := s.toks, os := s.os }) :
    wpAny (model prog w) A (call (.type "zip") [.ref l1, .str x t]) Q E s := by
  have z1 : (zsH1 s.heap l1).objs.size = s.heap.objs.size + 1 := Heap.size_push ..
  have z2 : (zsH2 s.heap l1 x t).objs.size = s.heap.objs.size + 2 := (Heap.size_push ..).trans (by rw [z1])
  have z3 : (zsH3 s.heap l1 x t).objs.size = s.heap.objs.size + 3 := (Heap.size_push ..).trans (by rw [z2])
  have z4 : (zsH4 s.heap l1 x t).objs.size = s.heap.objs.size + 4 := (Heap.size_push ..).trans (by rw [z3])
  have z5 : (zsH5 s.heap l1 x t).objs.size = s.heap.objs.size + 5 := (Heap.size_push ..).trans (by rw [z4])
  have g5 : (zsH5 s.heap l1 x t).get? (zsH4 s.heap l1 x t).objs.size = _ := Heap.get?_push_size _ rfl
  have g4 : (zsH5 s.heap l1 x t).get? (zsH3 s.heap l1 x t).objs.size = _ := Heap.get?_push_of_some _ (Heap.get?_push_size _ rfl)
  have g3 : (zsH5 s.heap l1 x t).get? (zsH2 s.heap l1 x t).objs.size = _ := Heap.get?_push_of_some _ (Heap.get?_push_of_some _ (Heap.get?_push_size _ rfl))
  have g2 : (zsH5 s.heap l1 x t).get? (zsH1 s.heap l1).objs.size = _ := Heap.get?_push_of_some _ (Heap.get?_push_of_some _ (Heap.get?_push_of_some _ (Heap.get?_push_size _ rfl)))
  have g1 : (zsH5 s.heap l1 x t).get? s.heap.objs.size = _ := Heap.get?_push_of_some _ (Heap.get?_push_of_some _ (Heap.get?_push_of_some _ (Heap.get?_push_of_some _ (Heap.get?_push_size _ rfl))))
  have gk : ∀ (c : Addr) (o : Obj), s.heap.get? c = some o → (zsH5 s.heap l1 x t).get? c = some o := fun c o e => Heap.get?_push_of_some _ (Heap.get?_push_of_some _ (Heap.get?_push_of_some _ (Heap.get?_push_of_some _ (Heap.get?_push_of_some _ e))))
  rw [z1] at g2 g3
  rw [z2] at g3 g5
  rw [z3] at g4 g5
  rw [z4] at g5
  refine callType_new F.called_zip (by decide) (F.typeCall_zip_2 (.ref l1) (.str x t)) (F.newCall_zip_2 (.ref l1) (.str x t)) (fun obj => F.args_object_init_3 obj (.ref l1) (.str x t)) F.entry_zip_new (meets_zipS_new l1 x t xs ha) ⟨hl1, ?_⟩
  show Shared.TypeIs _ (.ref (zsH4 s.heap l1 x t).objs.size) "zip" ∧ Q (.ref (zsH4 s.heap l1 x t).objs.size) _
  rw [z4]
  exact ⟨⟨_, g5, rfl⟩, h _ g5 g3 g4 ⟨_, g1, rfl, rfl⟩ ⟨_, g2, rfl, rfl⟩ z5 gk⟩
/-! ### for one, sign in zip(a list, a text) -/
def ItzS (K : PySem.W.Frag) (a : Addr) (z : Str) : It where
  go i H := ∃ xs x c, SqL K H a xs ∧ xs[i]? = some x ∧ z.cps[i]? = some c
  yld i H v H' := ∃ T x c, v = V.ref T ∧ H T = none ∧ H' = upd H T (.tup [x, .str ⟨#[c]⟩]) ∧ (∀ xs, SqL K H a xs → xs[i]? = some x) ∧ z.cps[i]? = some c
  stop i H := ∃ xs, SqL K H a xs ∧ xs.length ≤ i
theorem walk_zipS {K : PySem.W.Frag} {a : Addr} {xs : List V} {z : Str} (le : xs.length = z.cps.size) :
    Walk (ItzS K a z) xs.length (fun H => SqL K H a xs) (fun i H v H' => ∃ T x c, v = V.ref T ∧ H T = none ∧ H' = upd H T (.tup [x, .str ⟨#[c]⟩]) ∧ xs[i]? = some x ∧ z.cps[i]? = some c) where
  goes i H hi h := ⟨xs, _, _, h, List.getElem?_eq_getElem hi, Array.getElem?_eq_getElem (by omega)⟩
  stops H h := ⟨xs, h, Nat.le_refl _⟩
  yields i H v H' hi h y := by
    obtain ⟨T, x, c, e1, e2, e3, e4, e5⟩ := y
    exact ⟨T, x, c, e1, e2, e3, e4 xs h, e5⟩
theorem turn_zipS {P : Program} {w : World} {K : PySem.W.Frag} {elts : List Expr} {kk : Nat} {tpos : Pos} {a z TI TO i1 i2 : Addr} {x : Str} {t : Tok} (D : ZipApart z TI TO i1 i2 a a) :
    Turn P w K (Expr.Tuple elts kk tpos) (ItzS K a x) [z, TI, TO, i1, i2] z fun i h => IsZip h z TI TO .none ∧ IsPair h TI (.ref i1) (.ref i2) ∧ (∃ x y, IsPair h TO x y) ∧ h.IsListIter i1 a i ∧ h.IsStrIter i2 "str_ascii_iterator" x t i where
  mem := by simp
  obj i h st c hc := by
    obtain ⟨hz, hTI, ⟨u, v, hTO⟩, ⟨o1, e1, _, d1⟩, ⟨o2, e2, _, d2⟩⟩ := st
    simp only [List.mem_cons, List.not_mem_nil, or_false] at hc
    rcases hc with rfl | rfl | rfl | rfl | rfl
    · exact ⟨_, hz, fun v q => nomatch q⟩
    · exact ⟨_, hTI, fun v q => nomatch q⟩
    · exact ⟨_, hTO, fun v q => nomatch q⟩
    · exact ⟨_, e1, fun v q => by rw [d1] at q; cases q⟩
    · exact ⟨_, e2, fun v q => by rw [d2] at q; cases q⟩
  keep i h h' st k := by
    obtain ⟨hz, hTI, ⟨u, v, hTO⟩, ⟨o1, e1, c1, d1⟩, ⟨o2, e2, c2, d2⟩⟩ := st
    exact ⟨k z (by simp) _ hz, k TI (by simp) _ hTI, ⟨u, v, k TO (by simp) _ hTO⟩, ⟨o1, k i1 (by simp) _ e1, c1, d1⟩, ⟨o2, k i2 (by simp) _ e2, c2, d2⟩⟩
  item X hP hw hK hc i pins s σ H E I hf st hg := by
    subst hP
    subst hw
    subst hK
    obtain ⟨hz, hTI, ⟨x0, y0, hTO⟩, h1, h2⟩ := st
    obtain ⟨xs, v, c, hq, hx, hcx⟩ := hg
    obtain ⟨its, rv, p, _⟩ := I.list hq
    obtain ⟨u, hu, ru⟩ := rv.get hx
    have hzl := Heap.lt_size hz
    refine pyNext_zipS_item nxs_ascii D hz hTI hTO h1 h2 p.isList (by rw [List.getElem?_toArray]; exact hu) hcx fun h' z' TO' h1' h2' hT hsz hk => ?_
    refine ⟨.ref s.heap.objs.size, rfl, wpAny_letOwnedTupleGo_zip z' fun h'' z'' sb => ?_⟩
    have hT2 : h''.get? s.heap.objs.size = _ := (sb.2 s.heap.objs.size (Nat.ne_of_gt hzl)).trans hT
    have new : ObjOk X.prog X.w (upd H s.heap.objs.size (.tup [v, .str ⟨#[c]⟩])) h'' s.heap.objs.size (.tup [v, .str ⟨#[c]⟩]) := ⟨by show 2 ≤ sizeLine; decide, [u, .str ⟨#[c]⟩ s.toks], .cons ru (.cons ⟨_, rfl⟩ .nil), ⟨_, hT2, rfl, 0, rfl⟩⟩
    have I1 := I.turnedNew (h' := h'') (t' := s.toks + 1) (ch := [z, TI, TO, i1, i2]) (T := s.heap.objs.size) (ob := .tup [v, .str ⟨#[c]⟩]) (fun e o hb q => by
      simp only [List.mem_cons, List.not_mem_nil, or_false, not_or] at hb
      rw [sb.2 e hb.1]
      exact hk e o hb.1 hb.2.2.1 hb.2.2.2.1 hb.2.2.2.2 q) hf (Nat.le_refl _) new
    have fr : H s.heap.objs.size = none := I.hok.fresh (Nat.le_refl _)
    have lt : ∀ b : Addr, b ∈ [z, TI, TO, i1, i2] → b ≠ s.heap.objs.size := fun b hb => by
      simp only [List.mem_cons, List.not_mem_nil, or_false] at hb
      obtain ⟨o1, e1, _⟩ := h1
      obtain ⟨o2, e2, _⟩ := h2
      rcases hb with rfl | rfl | rfl | rfl | rfl
      · exact Nat.ne_of_lt hzl
      · exact Nat.ne_of_lt (Heap.lt_size hTI)
      · exact Nat.ne_of_lt (Heap.lt_size hTO)
      · exact Nat.ne_of_lt (Heap.lt_size e1)
      · exact Nat.ne_of_lt (Heap.lt_size e2)
    refine ⟨.ref _, _, I1, rfl, ⟨_, v, c, rfl, fr, rfl, fun xs2 q2 => by rw [I.list_inj q2 hq]; exact hx, hcx⟩, ⟨z'', (sb.2 TI D.TIz).trans (hk TI _ D.TIz D.TITO D.TIi1 D.TIi2 hTI), ⟨_, _, (sb.2 TO D.TOz).trans TO'⟩, h1'.extBut sb.extBut D.i1z, h2'.extBut sb.extBut D.i2z⟩, fun b hb => ?_⟩
    rw [upd_ne (lt b hb)]
    exact (hf b hb).1
  done X hP hw hK hc i pins s σ H E I hf st hg := by
    subst hP
    subst hw
    subst hK
    obtain ⟨hz, hTI, _, h1, h2⟩ := st
    obtain ⟨xs, hq, hle⟩ := hg
    obtain ⟨its, rv, p, _⟩ := I.list hq
    have hl := rv.length
    refine pyNext_zipS_end (I.ok.hd hc) D hz hTI h1 p.isList (by rw [List.getElem?_toArray]; exact List.getElem?_eq_none (by omega)) fun h' hk => ⟨rfl, I.turnedL (ch := [z, TI, TO, i1, i2]) (fun e o hb q => ?_) hf⟩
    simp only [List.mem_cons, List.not_mem_nil, or_false, not_or] at hb
    exact hk e o hb.1 hb.2.2.1 hb.2.2.2.1 hb.2.2.2.2 q
  self A i s Q E st h := wpAny_pyIter_zip st.1 h
def iZipS (K : PySem.W.Frag) (ta : TA) : TI := fun σ H R => ta σ H fun vs H1 => ∃ a xs z, vs = [V.ref a, .str z] ∧ SqL K H1 a xs ∧ (z.cps.all fun c => decide (c < 128)) = true ∧ R (ItzS K a z) H1
theorem pi_zipS {X : Cx} {e e2 : Expr} {ta : TA} {p pos tpos : Pos} {elts : List Expr} {kk : Nat} (hg : Gl X "zip") (hm : X.mg "zip" = none) (ha : PA X [e, e2] ta)
    (hs : starEach [e, e2] X.env = (false, eval e X.env) :: starEach [e2] X.env := by rfl) (hpl : (backTo pos (starEach [e2] X.env)).any (·.1) = false := by rfl) :
    PI X (.Tuple elts kk tpos) (.Call (.Name "zip" p) [e, e2] [] pos) (iZipS X.K ta) := by
  refine ⟨fun pins s σ H R I h => ?_⟩
  refine Call_ (ld_blt I hg hm boot_zip (PyProof.Rows.callWith_type1 (thn (ha.run pos pins s σ H _ I h) fun us s1 ⟨vs, H1, I1, r1, q1⟩ => ?_) hs hpl))
  obtain ⟨a, xs, z, ev, hq, hz, q⟩ := q1
  subst ev
  cases r1 with
  | cons r rr =>
    cases rr with
    | cons r' rr =>
      cases rr
      obtain ⟨t', rfl⟩ := r'
      cases (show _ = Value.ref a from r)
      obtain ⟨its, rv, pl, _⟩ := I1.list hq
      refine call_zipS hz pl.isList fun h' a1 a2 a3 a4 a5 a6 a7 => wpAny_pyIter_zip a1 ?_
      have fp : ∀ b : Addr, b ∈ [s1.heap.objs.size + 4, s1.heap.objs.size + 2, s1.heap.objs.size + 3, s1.heap.objs.size, s1.heap.objs.size + 1] → s1.heap.objs.size ≤ b := fun b hb => by
        simp only [List.mem_cons, List.not_mem_nil, or_false] at hb
        rcases hb with rfl | rfl | rfl | rfl | rfl <;> omega
      exact ⟨_, _, _, ItzS X.K a z, H1, rfl, I1.kept (t' := s1.toks) a7, turn_zipS (W.ktu_apart _ a a pl.lt pl.lt), ⟨a1, a2, ⟨_, _, a3⟩, a4, a5⟩, fun b hb => I1.fpOk (fp b hb) (I1.hok.fresh (fp b hb)), q⟩
end Lp
set_option Elab.async false
set_option linter.all false
set_option maxRecDepth 100000
namespace Lp
open PySem PySem.Spec PyProof.Rows L2
/-! ### set(a list of ints) -/
theorem call_set_listI {P : Program} {w : World} {A : Around} {E : Value → Shared → Prop} {s : Shared} {l : Addr} {items : Array Value} (ns : List Int) {Q : Value → Shared → Prop} (hh : A.handled = none) (hl : s.heap.IsList l items) (hit : IntsAre items.toList ns) (hb : ns.length + 1 < scanBound)
    (h : ∀ (h' : Heap) (tk c : Nat), SetR w h' s.heap.objs.size (fun j => decide (j ∈ ns)) c → c ≤ ns.length → (∀ (b : Addr) (o : Obj), s.heap.get? b = some o → h'.get? b = some o) → Q (.ref s.heap.objs.size) { heap := h', gens := s.gens, drawn := s.drawn, toks := tk, os := s.os }) :
    wpAny (model P w) A (call (.type "set") [.ref l]) Q E s := by
  have hisz : items.size = ns.length := by
    have q := hit.length
    rwa [Array.length_toList] at q
  obtain ⟨c, tl, hmro⟩ := F.called_set.mro
  have hmade := F.called_set.made
  have hsub := F.called_set.sub
  refine wpAny_call (codeAny_of_tree ?_)
  refine wpAny_pure ⟨Code.quiet_builtin _ (by decide +kernel), codeAny_builtin F.entry_type_call ?_⟩
  rw [Around.under_plain (weight_type_call_type "set" [.ref l] []) rfl]
  have h1 := F.called_set.notType
  have h2 := F.called_set.canCreate
  have hct := F.typeCall_set_1 (.ref l)
  unfold Builtin.«type.__call__»
  refine wpAny_ite_false rfl (wpAny_ite_false rfl ?_)
  refine wpAny_bind (wpAny_of_eq hct ?_)
  refine wpAny_bind (wpAny_of_eq hmro (wpAny_ite_false rfl ?_))
  refine wpAny_bind (wpAny_of_eq hmade ?_)
  refine wpAny_bind (wpAny_pure (wpAny_bind (wpAny_holding (wpAny_call (codeAny_mono (code_set_led1 (.ref l) (Q₁ := fun obj s₁ => obj = .ref s.heap.objs.size ∧ s₁ = { heap := s.heap.push { cls := .type "set", data := .set #[] 0 (SetTable.fresh 0 0 !w.params.followText "set-order") }, gens := s.gens, drawn := s.drawn, toks := s.toks, os := s.os }) (E := E) ⟨rfl, rfl⟩) fun r s₁ hr => ?_)))))
  cases r with
  | error e => exact hr
  | ok fl =>
    cases fl with
    | next => exact hr.elim
    | brk => exact hr.elim
    | cont => exact hr.elim
    | ret v =>
      obtain ⟨rfl, rfl⟩ := hr
      have hS : (s.heap.push { cls := .type "set", data := .set #[] 0 (SetTable.fresh 0 0 !w.params.followText "set-order") }).get? s.heap.objs.size = _ := Heap.get?_push_size s.heap rfl
      have hT : Shared.TypeIs { heap := s.heap.push { cls := .type "set", data := .set #[] 0 (SetTable.fresh 0 0 !w.params.followText "set-order") }, gens := s.gens, drawn := s.drawn, toks := s.toks, os := s.os } (.ref s.heap.objs.size) "set" := ⟨_, hS, rfl⟩
      have hli := F.called_set.init.lookup
      have hbi := F.called_set.init.bind (.ref s.heap.objs.size)
      refine wpAny_bind (wpAny_isInstance hT hsub (wpAny_ite_false rfl (wpAny_bind (wpAny_holding ?_))))
      unfold callSpecial?
      refine wpAny_bind (wpAny_specialOf hT hli (wpAny_holding (wpAny_bind (wpAny_of_eq hbi (wpAny_bind (wpAny_call (codeAny_mono (R := wants (fun r s₂ => r = Value.none ∧ ∃ h' tk c, s₂ = { heap := h', gens := s.gens, drawn := s.drawn, toks := tk, os := s.os } ∧ SetR w h' s.heap.objs.size (fun j => decide (j ∈ ns)) c ∧ c ≤ ns.length ∧ ∀ (b : Addr) (o : Obj), s.heap.get? b = some o → h'.get? b = some o) E) (codeAny_call_builtin F.called_set.init.plain F.entry_set_init (check_set_init_1 hT ?_)) fun r s₂ hr => ?_)))))))
      · obtain ⟨ol, hol, hcl, nl, hdl⟩ := hl
        obtain ⟨ocls, odict, odata, oslots⟩ := ol
        cases (show ocls = Value.type "list" from hcl)
        cases (show odata = Data.seq items nl from hdl)
        have hol' := Heap.get?_push_of_some { cls := .type "set", data := .set #[] 0 (SetTable.fresh 0 0 !w.params.followText "set-order") } hol
        have hsls := F.sub_list_set
        have hslf := F.sub_list_frozenset
        have hl1 : (s.heap.push { cls := .type "set", data := .set #[] 0 (SetTable.fresh 0 0 !w.params.followText "set-order") }).IsList l items := ⟨_, hol', rfl, nl, rfl⟩
        unfold Builtin.«set.__init__»
        refine wpAny_bind (wpAny_ite_true rfl (wpAny_pure ?_))
        refine wpAny_bind (wpAny_bind (wpAny_bind (wpAny_typeOf hT (wpAny_ite_false rfl (wpAny_pure (wpAny_pure ?_))))))
        refine wpAny_bind ?_
        unfold checkCount
        refine wpAny_ite_false rfl (wpAny_ite_false rfl (wpAny_ite_false rfl (wpAny_pure ?_)))
        refine wpAny_bind ?_
        unfold Builtin.Frozenset.addrOf
        refine wpAny_pure ?_
        refine wpAny_bind ?_
        unfold setUsed
        refine wpAny_bind ?_
        unfold setState
        refine wpAny_bind (wpAny_load' hS (wpAny_ite_false rfl (wpAny_pure (wpAny_pure (wpAny_ite_false rfl ?_)))))
        refine wpAny_bind ?_
        unfold Builtin.Frozenset.updateFrom
        refine wpAny_bind ?_
        unfold Builtin.Frozenset.isAnySet
        refine wpAny_bind (m := isInstance (.ref l) (.type "set")) (wpAny_isInstance hl1.typeIs hsls ?_)
        show wpAny _ _ (isInstance (.ref l) (.type "frozenset")) _ _ _
        refine wpAny_isInstance hl1.typeIs hslf ?_
        refine wpAny_ite_false rfl ?_
        refine wpAny_bind (wpAny_typeOf hl1.typeIs (wpAny_ite_false rfl ?_))
        refine wpAny_bind (wpAny_pyIter_list hl1 ?_)
        refine wpAny_bind (wpAny_runValue ?_)
        have hlS := Heap.lt_size hol
        have hneI : l ≠ (s.heap.push { cls := .type "set", data := .set #[] 0 (SetTable.fresh 0 0 !w.params.followText "set-order") }).objs.size := by
          rw [Heap.size_push]
          exact Nat.ne_of_lt (Nat.lt_succ_of_lt hlS)
        have hSf : ¬ s.heap.objs.size ∈ [(s.heap.push { cls := .type "set", data := .set #[] 0 (SetTable.fresh 0 0 !w.params.followText "set-order") }).objs.size, l] := by
          rw [Heap.size_push]
          intro hm
          rcases List.mem_cons.mp hm with e | e
          · exact Nat.ne_of_lt (Nat.lt_succ_self _) e
          · exact Nat.ne_of_gt hlS (List.mem_singleton.mp e)
        have hval : ∀ (i : Nat) (v : Value), items[i]? = some v → ∃ k t, ns[i]? = some k ∧ v = Value.int k t := fun i v hv => by
          have hi : i < ns.length := by
            rw [← hisz]
            exact (Array.getElem?_eq_some_iff.mp hv).1
          obtain ⟨t, e⟩ := hit.int_at i v (by rw [Array.getElem?_toList]; exact hv)
          exact ⟨ns[i], t, List.getElem?_eq_getElem hi, by rw [e, List.getD_eq_getElem?_getD, List.getElem?_eq_getElem hi]; rfl⟩
        refine set_update_ints (Walks.toS (Walks.list (A := A.in1.in1.in1) (show A.in1.in1.in1.handled = none from hh) _ l hneI items)) s.heap.objs.size hSf ns hisz hb hval (items.size - 0) 0 _ rfl (Nat.zero_le _) ⟨⟨_, Heap.get?_push_size _ rfl, rfl, rfl⟩, hl1.push _⟩ ⟨0, Nat.le_refl 0, setR_new_at (Heap.get?_push_of_some _ hS)⟩ fun s' c' hm hc' hS' => ?_
        obtain ⟨h', g2, d', tk', os'⟩ := s'
        have eg := hm.gens
        have ed := hm.drawn
        have eo := hm.os
        cases eg
        cases ed
        cases eo
        have hk : ∀ (b : Addr) (o : Obj), s.heap.get? b = some o → h'.get? b = some o := fun b o e => by
          have hlt := Heap.lt_size e
          refine hm.heap b o ?_ (Heap.get?_push_of_some _ (Heap.get?_push_of_some _ e))
          intro hb'
          rcases List.mem_cons.mp hb' with e1 | e1
          · exact Nat.ne_of_lt hlt e1
          · rw [List.mem_singleton] at e1
            have e2 : b = s.heap.objs.size + 1 := e1.trans (Heap.size_push ..)
            rw [e2] at hlt
            exact absurd hlt (Nat.not_lt_of_le (Nat.le_succ _))
        exact wpAny_pure (wpAny_pure ⟨rfl, h', tk', c', rfl, hS', by rw [← hisz]; exact hc', hk⟩)
      · cases r with
        | error e => exact hr
        | ok fl =>
          cases fl with
          | next => exact hr.elim
          | brk => exact hr.elim
          | cont => exact hr.elim
          | ret v =>
            obtain ⟨rfl, h', tk, c', rfl, hs, hc, hk⟩ := hr
            exact wpAny_pure (wpAny_ite_false rfl (wpAny_pure (h h' tk c' hs hc hk)))
def rSetL (K : PySem.W.Frag) (w : World) : List V → Hp → VK → Prop := fun xs H Q => ∃ (a : Addr) (ns : List Int), xs = [V.ref a] ∧ SqL K H a (ns.map V.int) ∧ ns.length ≤ 60 ∧ ∀ (p : Addr) (c : Nat), H p = none → c ≤ ns.length → Q (.ref p) (upd H p (SetO w p (fun j => decide (j ∈ ns)) c))
theorem cr_setL {X : Cx} (hc : X.calm = true) : CallR X (.type "set") (rSetL X.K X.w) := by
  intro pins s σ H xs us Q I r h
  obtain ⟨a, ns, rfl, hq, hl, q⟩ := h
  cases r with
  | cons r rr =>
    cases rr
    cases (show _ = Value.ref a from r)
    obtain ⟨its, rv, p, _⟩ := I.list hq
    refine call_set_listI ns (I.ok.hd hc) p.isList (RZ.intsAre_vals rv) (Nat.lt_of_le_of_lt (Nat.succ_le_succ hl) (by decide)) fun h' tk c hs hcn hk => ?_
    refine ⟨.ref _, upd H _ (SetO X.w s.heap.objs.size (fun j => decide (j ∈ ns)) c), I.laid hk (Nat.le_refl _) ⟨hs, ?_, fun h1 h2 x k => ?_⟩, rfl, q _ c (I.hok.fresh (Nat.le_refl _)) hcn⟩
    · obtain ⟨o, _, _, _, e, _⟩ := hs
      exact ⟨o, e⟩
    · obtain ⟨o, es, ep, t, e, r⟩ := x
      exact ⟨o, es, ep, t, k o e, r⟩
theorem op_ltLL {X : Cx} (hu : X.A.units + 64 < cLine) : OpR X (compareOp .Lt) (fun x y H Q => ∃ (a b : Addr) (xs ys : List Int), x = V.ref a ∧ y = V.ref b ∧ SqL X.K H a (xs.map V.int) ∧ SqL X.K H b (ys.map V.int) ∧ Q (.bl (HT.lexLt xs ys)) H) := by
  intro pins s σ H x y v u Q I r1 r2 h
  obtain ⟨a, b, xs, ys, rfl, rfl, h1, h2, q⟩ := h
  cases (show v = Value.ref a from r1)
  cases (show u = Value.ref b from r2)
  obtain ⟨its, rv, p, _⟩ := I.list h1
  obtain ⟨its2, rv2, p2, _⟩ := I.list h2
  have ia := RZ.intsAre_vals rv
  have ib := RZ.intsAre_vals rv2
  have l1 := ia.length
  have l2 := ib.length
  show wpAny _ _ (richCompare .Lt _ _) _ _ s
  refine SeqAt.RcLt.lists (e := fun j => xs.getD j 0 == ys.getD j 0) (r := fun j => decide (xs.getD j 0 < ys.getD j 0)) p.isList p2.isList (by omega) (fun j h1 h2 => ?_) (fun j h1 h2 _ => ?_) _ _ _ _ ?_
  · obtain ⟨t, e⟩ := ints_at ia j (by simpa using h1)
    obtain ⟨t', e'⟩ := ints_at ib j (by simpa using h2)
    rw [List.getElem_toArray, List.getElem_toArray, e, e']
    exact SeqAt.EqAt.int_int _ t _ t'
  · obtain ⟨t, e⟩ := ints_at ia j (by simpa using h1)
    obtain ⟨t', e'⟩ := ints_at ib j (by simpa using h2)
    rw [List.getElem_toArray, List.getElem_toArray, e, e']
    exact rcLt_int _ _ _ t _ t'
  · rw [List.size_toArray, List.size_toArray, l1, l2, first_lex]
    exact ⟨.bl _, H, I, rfl, q⟩
end Lp
set_option Elab.async false
set_option linter.all false
set_option maxRecDepth 100000
namespace Lp
open PySem PySem.Spec PyProof.Rows L2
/-! ### a space, so many times -/
def spc (n : Nat) : Str := ⟨(List.replicate n 32).toArray⟩
theorem spc1 : spc 1 = (" " : Str) := by decide +kernel
theorem spc_len (n : Nat) : (spc n).length = n := by
  show ((List.replicate n 32).toArray).size = n
  rw [List.size_toArray, List.length_replicate]
section
variable {X : Cx}
theorem op_repB : OpR X (binaryOp .Mult) (fun x y H Q => ∃ n : Nat, x = .str (" " : Str) ∧ y = .int (n : Int) ∧ n ≤ 1000 ∧ Q (.str (spc n)) H) := by
  intro pins s σ H x y v u Q I r1 r2 h
  obtain ⟨n, e1, e2, hn, q⟩ := h
  subst e1; subst e2
  obtain ⟨t, rfl⟩ := r1
  obtain ⟨t', rfl⟩ := r2
  have hz : (" " : Str).length = 1 := by decide +kernel
  have hc : (" " : Str).cps = [32].toArray := by decide +kernel
  refine PySem.P.mul_str ?_ (fun c _ => ?_) (fun _ _ => ?_) ?_
  · rw [decide_eq_false (show ¬ (n : Int) < -(2 ^ 63 : Int) by omega), decide_eq_false (show ¬ (n : Int) ≥ 2 ^ 63 by omega)]
    rfl
  · rw [hz]
    have := (Int.le_ediv_iff_mul_le (show (0 : Int) < n by omega)).mpr (show ((1 : Nat) : Int) * (n : Int) ≤ 2 ^ 63 - 1 by omega)
    omega
  · rw [hz]
    unfold Builtin.Str.tooLong
    refine decide_eq_false ?_
    have e : (n : Int).toNat = n := rfl
    have z := zs (show n ≤ 100000 by omega)
    omega
  · by_cases h0 : n = 0
    · subst h0
      rw [if_pos (by decide)]
      exact ⟨by decide, .str _, H, I.tok _, ⟨_, rfl⟩, q⟩
    · rw [if_neg (show ¬ (n : Int) < 1 by omega), hz]
      by_cases h1 : n = 1
      · subst h1
        rw [if_pos (by rfl)]
        rw [spc1] at q
        exact ⟨.str _, H, I, ⟨_, rfl⟩, q⟩
      · have hb : ((n : Int) == 1 || (1 : Nat) == 0) = false := by
          rw [beq_eq_false_iff_ne.mpr (show (n : Int) ≠ 1 by omega)]
          rfl
        rw [hb, if_neg Bool.false_ne_true]
        have e : (n : Int).toNat = n := rfl
        have f0 : List.foldl (fun x1 x2 => x1 ++ x2) #[] (List.replicate n [32].toArray) = (List.replicate n 32).toArray := by
          have := foldl_repN [32] n []
          rw [List.nil_append] at this
          rw [this]
          congr 1
          clear this hb h1 h0 q
          induction n with
          | zero => rfl
          | succ m ih => rw [List.replicate_succ, List.flatten_cons, ih (by omega) rfl, List.replicate_succ]; rfl
        rw [e, hc, f0]
        exact ⟨by rw [show (⟨(List.replicate n 32).toArray⟩ : Str).length = n from spc_len n]; exact zs (by omega), .str _, H, I.tok _, ⟨_, rfl⟩, q⟩
/-! ### an int, written in a form -/
def FmtI (i : Int) (sp y : Str) : Prop := ∀ (prog : Program) (w : World) (A : Around) (E : Value → Shared → Prop) (s : Shared) (t : Tok) (Q : Value → Shared → Prop), (∀ t' k, Q (.str y t') { s with toks := k }) → wpAny (model prog w) A (formatField (.int i t) sp) Q E s
def tFmtS (te ts : TE) : TE := fun σ H Q => te σ H fun x H1 => ts σ H1 fun y H2 => ∃ (i : Int) (f z : Str), x = .int i ∧ y = .str f ∧ FmtI i f z ∧ Q (.str z) H2
theorem pe_fmtS {e sp : Expr} {te ts : TE} {pos : Pos} (he : PE X e te) (hs : PE X sp ts) : PE X (.FormattedValue e (-1) (some sp) pos) (tFmtS te ts) := by
  refine ⟨fun pins s σ H Q I h => ?_⟩
  refine wpAny_FormattedValue_spec (thn (he.run pins s σ H _ I h) fun v s1 ⟨x, H1, I1, r1, q1⟩ => thn (hs.run pins s1 σ H1 _ I1 q1) fun u s2 ⟨y, H2, I2, r2, i, f, z, e1, e2, hf, q⟩ => ?_)
  subst e1
  subst e2
  obtain ⟨t, rfl⟩ := r1
  obtain ⟨t', rfl⟩ := r2
  exact ⟨f, t', rfl, hf _ _ _ _ _ _ _ fun _ _ => ⟨.str z, H2, I2.tok _, ⟨_, rfl⟩, q⟩⟩
end
open Builtin Builtin.Int Builtin.Float in
def fmF (f : FormatSpec) (i : Int) : Str := intField' f (decide (i < 0)) [] ((Nat.toDigits 10 i.natAbs).map fun c => (if (100 : Nat) == 88 then c.toUpper else c).toNat) [] 3
abbrev fs3 : Builtin.Float.FormatSpec := { align := 62, width := some 3 }
abbrev fs4 : Builtin.Float.FormatSpec := { align := 62, width := some 4 }
abbrev fs5 : Builtin.Float.FormatSpec := { align := 62, width := some 5, sign := some 43 }
abbrev fsD : Builtin.Float.FormatSpec := { align := 62, sign := some 43, type := some 100 }
section
open Builtin Builtin.Int Builtin.Float PySem.W
theorem par3 : parseFormatSpec (">3" : Str).cps.toList "int" 62 = .ok fs3 := by kernel_rfl
theorem par4 : parseFormatSpec (">4" : Str).cps.toList "int" 62 = .ok fs4 := by kernel_rfl
theorem par5 : parseFormatSpec (">+5" : Str).cps.toList "int" 62 = .ok fs5 := by kernel_rfl
theorem parD : parseFormatSpec ("+d" : Str).cps.toList "int" 62 = .ok fsD := by kernel_rfl
theorem fmt_3 {i : Int} (hi : i.natAbs.log2 < 1920) (hl : (fmF fs3 i).length ≤ sizeLine) : FmtI i (">3" : Str) (fmF fs3 i) := by
  intro prog w A E s t Q h
  refine KXf.field_int rfl (by decide +kernel) (by decide +kernel) (fun u => KPc.meets_of ?_) h
  intro _ _ _ _ _ _ hh
  unfold Builtin.«int.__format__»; refine wpAny_bind (wpAny_of_eq (a := (_, _)) rfl (wpAny_bind (wpAny_of_eq (a := _) rfl ?_)))
  kxf_if; refine wpAny_bind (wpAny_typeNameOf (T := "str") (typeIs_str _ _ _) (by decide) fun _ => wpAny_bind (wpAny_of_eq (a := some _) rfl ?_))
  kxf_if; kxf_if; refine wpAny_bind (wpAny_typeNameOfCut_int ?_); rw [par3]
  have e100 : (none : Option Nat).getD (if ((">3" : Str).cps.back? == some 0) = true then 0 else 100) = 100 := by decide +kernel
  dsimp only
  rw [e100]
  refine wpAny_ite (KPc.ite_yes (by decide +kernel) ?_)
  refine wpAny_bind (m := Builtin.overDigitLimit? i) (wpAny_of_eq (PySem.overDigitLimit_small hi) (KXf.ret_text (T := fmF fs3 i) rfl hl ?_))
  assumption
theorem fmt_4 {i : Int} (hi : i.natAbs.log2 < 1920) (hl : (fmF fs4 i).length ≤ sizeLine) : FmtI i (">4" : Str) (fmF fs4 i) := by
  intro prog w A E s t Q h
  refine KXf.field_int rfl (by decide +kernel) (by decide +kernel) (fun u => KPc.meets_of ?_) h
  intro _ _ _ _ _ _ hh
  unfold Builtin.«int.__format__»; refine wpAny_bind (wpAny_of_eq (a := (_, _)) rfl (wpAny_bind (wpAny_of_eq (a := _) rfl ?_)))
  kxf_if; refine wpAny_bind (wpAny_typeNameOf (T := "str") (typeIs_str _ _ _) (by decide) fun _ => wpAny_bind (wpAny_of_eq (a := some _) rfl ?_))
  kxf_if; kxf_if; refine wpAny_bind (wpAny_typeNameOfCut_int ?_); rw [par4]
  have e100 : (none : Option Nat).getD (if ((">4" : Str).cps.back? == some 0) = true then 0 else 100) = 100 := by decide +kernel
  dsimp only
  rw [e100]
  refine wpAny_ite (KPc.ite_yes (by decide +kernel) ?_)
  refine wpAny_bind (m := Builtin.overDigitLimit? i) (wpAny_of_eq (PySem.overDigitLimit_small hi) (KXf.ret_text (T := fmF fs4 i) rfl hl ?_))
  assumption
theorem fmt_5 {i : Int} (hi : i.natAbs.log2 < 1920) (hl : (fmF fs5 i).length ≤ sizeLine) : FmtI i (">+5" : Str) (fmF fs5 i) := by
  intro prog w A E s t Q h
  refine KXf.field_int rfl (by decide +kernel) (by decide +kernel) (fun u => KPc.meets_of ?_) h
  intro _ _ _ _ _ _ hh
  unfold Builtin.«int.__format__»; refine wpAny_bind (wpAny_of_eq (a := (_, _)) rfl (wpAny_bind (wpAny_of_eq (a := _) rfl ?_)))
  kxf_if; refine wpAny_bind (wpAny_typeNameOf (T := "str") (typeIs_str _ _ _) (by decide) fun _ => wpAny_bind (wpAny_of_eq (a := some _) rfl ?_))
  kxf_if; kxf_if; refine wpAny_bind (wpAny_typeNameOfCut_int ?_); rw [par5]
  have e100 : (none : Option Nat).getD (if ((">+5" : Str).cps.back? == some 0) = true then 0 else 100) = 100 := by decide +kernel
  dsimp only
  rw [e100]
  refine wpAny_ite (KPc.ite_yes (by decide +kernel) ?_)
  refine wpAny_bind (m := Builtin.overDigitLimit? i) (wpAny_of_eq (PySem.overDigitLimit_small hi) (KXf.ret_text (T := fmF fs5 i) rfl hl ?_))
  assumption
theorem fmt_D {i : Int} (hi : i.natAbs.log2 < 1920) (hl : (fmF fsD i).length ≤ sizeLine) : FmtI i ("+d" : Str) (fmF fsD i) := by
  intro prog w A E s t Q h
  refine KXf.field_int rfl (by decide +kernel) (by decide +kernel) (fun u => KPc.meets_of ?_) h
  intro _ _ _ _ _ _ hh
  unfold Builtin.«int.__format__»; refine wpAny_bind (wpAny_of_eq (a := (_, _)) rfl (wpAny_bind (wpAny_of_eq (a := _) rfl ?_)))
  kxf_if; refine wpAny_bind (wpAny_typeNameOf (T := "str") (typeIs_str _ _ _) (by decide) fun _ => wpAny_bind (wpAny_of_eq (a := some _) rfl ?_))
  kxf_if; kxf_if; refine wpAny_bind (wpAny_typeNameOfCut_int ?_); rw [parD]
  have e100 : (some 100 : Option Nat).getD (if (("+d" : Str).cps.back? == some 0) = true then 0 else 100) = 100 := by decide +kernel
  dsimp only
  rw [e100]
  refine wpAny_ite (KPc.ite_yes (by decide +kernel) ?_)
  refine wpAny_bind (m := Builtin.overDigitLimit? i) (wpAny_of_eq (PySem.overDigitLimit_small hi) (KXf.ret_text (T := fmF fsD i) rfl hl ?_))
  assumption
end
end Lp
set_option Elab.async false
set_option linter.all false
set_option maxRecDepth 100000
namespace Lp
open PySem PySem.Spec PyProof.Rows L2
/-! ### dict comprehensions over a range -/
theorem dc_range {lo : Int} {n : Nat} {g : TG} {tt : TT} {tk tv : TE} {vs : List Nat} {σ : L2.St} {H1 : Hp} {D : Addr} {Qd : Hp → Prop} (Pv : Nat → Hp → Prop) (h0 : Pv 0 (upd H1 D (.dK [])))
    (hs : ∀ (i : Nat) (H : Hp), i < n → Pv i H → g (.int (lo + i)) (wipe σ vs) H fun σ2 H2 => wipe σ2 vs = wipe σ vs ∧ tt σ2 H2 fun b H3 =>
      if b = true then tk σ2 H3 fun y H4 => tv σ2 H4 fun z H5 => ∃ kvs k, y = kV k ∧ H5 D = some (.dK kvs) ∧ kvs.length < sizeLine ∧ Pv (i + 1) (upd H5 D (.dK (putK kvs k z))) else Pv (i + 1) H3) (hd : ∀ H, Pv n H → Qd H) :
    ∃ W : Nat → Nat → Hp → Prop, (∃ m, W 0 m (upd H1 D (.dK []))) ∧ ∀ i m H, W i m H →
      ((Itr lo n).stop i H ∧ Qd H) ∨ ((Itr lo n).go i H ∧ ∃ Nx : Hp → Prop, (∀ H', Nx H' → ∃ m', m' < m ∧ W (i + 1) m' H') ∧ ∀ x H', (Itr lo n).yld i H x H' → g x (wipe σ vs) H' fun σ2 H2 => wipe σ2 vs = wipe σ vs ∧ tt σ2 H2 fun b H3 =>
        if b = true then tk σ2 H3 fun y H4 => tv σ2 H4 fun z H5 => ∃ kvs k, y = kV k ∧ H5 D = some (.dK kvs) ∧ kvs.length < sizeLine ∧ Nx (upd H5 D (.dK (putK kvs k z))) else Nx H3) := by
  refine ⟨fun i m H => m = n - i ∧ i ≤ n ∧ Pv i H, ⟨n, by simp, Nat.zero_le _, h0⟩, ?_⟩
  rintro i m H ⟨rfl, hi, pv⟩
  rcases Nat.lt_or_ge i n with hlt | hge
  · refine .inr ⟨hlt, Pv (i + 1), fun H' p' => ⟨n - (i + 1), by omega, rfl, hlt, p'⟩, fun x H' y => ?_⟩
    obtain ⟨rfl, rfl⟩ := y
    exact hs i _ hlt pv
  · have e : i = n := by omega
    subst e
    exact .inl ⟨Nat.le_refl _, hd H pv⟩
/-! ### words with single spaces between -/
abbrev jn (l : List Str) : Str := Str.join (" " : Str) l
theorem jn_snoc (x : Str) : ∀ l : List Str, jn (l ++ [x]) = if l = [] then x else jn l ++ (" " : Str) ++ x
  | [] => rfl
  | [y] => rfl
  | y :: z :: r => by
    have ih := jn_snoc x (z :: r)
    rw [if_neg (by simp)] at ih
    rw [if_neg (by simp)]
    show y ++ (" " : Str) ++ jn (z :: r ++ [x]) = y ++ (" " : Str) ++ jn (z :: r) ++ (" " : Str) ++ x
    rw [ih]
    simp only [Str.append_assoc]
theorem space1 : (" " : Str) = ⟨#[32]⟩ := by decide +kernel
def jc : List (List Nat) → List Nat
  | [] => []
  | [x] => x
  | x :: y :: r => x ++ 32 :: jc (y :: r)
theorem jn_jc : ∀ l : List Str, (jn l).cps.toList = jc (l.map fun x => x.cps.toList)
  | [] => rfl
  | [x] => rfl
  | x :: y :: r => by
    have ih := jn_jc (y :: r)
    show (x ++ (" " : Str) ++ jn (y :: r)).cps.toList = x.cps.toList ++ 32 :: jc ((y :: r).map fun x => x.cps.toList)
    rw [← ih, space1, Str.cps_append, Str.cps_append]
    simp
theorem cut32 : ∀ {x y a b : List Nat}, 32 ∉ x → 32 ∉ y → x ++ 32 :: a = y ++ 32 :: b → x = y ∧ a = b
  | [], [], a, b, _, _, h => ⟨rfl, (List.cons.inj h).2⟩
  | [], c :: y, a, b, _, hy, h => absurd ((List.cons.inj h).1 ▸ List.mem_cons_self) hy
  | c :: x, [], a, b, hx, _, h => absurd ((List.cons.inj h).1 ▸ List.mem_cons_self) hx
  | c :: x, d :: y, a, b, hx, hy, h => by
    obtain ⟨e1, e2⟩ := List.cons.inj h
    obtain ⟨e3, e4⟩ := cut32 (fun z => hx (List.mem_cons_of_mem _ z)) (fun z => hy (List.mem_cons_of_mem _ z)) e2
    exact ⟨by rw [e1, e3], e4⟩
theorem jc_inj : ∀ {l m : List (List Nat)}, l ≠ [] → m ≠ [] → (∀ x ∈ l, 32 ∉ x) → (∀ x ∈ m, 32 ∉ x) → jc l = jc m → l = m
  | [], _, h, _, _, _, _ => absurd rfl h
  | _ :: _, [], _, h, _, _, _ => absurd rfl h
  | [x], [y], _, _, _, _, h => by rw [show x = y from h]
  | [x], y :: z :: r, _, _, hx, _, h => absurd (show 32 ∈ x by rw [show x = y ++ 32 :: jc (z :: r) from h]; simp) (hx x List.mem_cons_self)
  | x :: z :: r, [y], _, _, _, hy, h => absurd (show 32 ∈ y by rw [← show x ++ 32 :: jc (z :: r) = y from h]; simp) (hy y List.mem_cons_self)
  | x :: z :: r, y :: u :: s, _, _, hx, hy, h => by
    obtain ⟨e1, e2⟩ := cut32 (hx x List.mem_cons_self) (hy y List.mem_cons_self) (show x ++ 32 :: jc (z :: r) = y ++ 32 :: jc (u :: s) from h)
    rw [e1, jc_inj (l := z :: r) (m := u :: s) (by simp) (by simp) (fun q hq => hx q (List.mem_cons_of_mem _ hq)) (fun q hq => hy q (List.mem_cons_of_mem _ hq)) e2]
theorem map_cps_inj : ∀ {l m : List Str}, (l.map fun x => x.cps.toList) = (m.map fun x => x.cps.toList) → l = m
  | [], [], _ => rfl
  | [], _ :: _, h => nomatch h
  | _ :: _, [], h => nomatch h
  | x :: l, y :: m, h => by
    obtain ⟨e1, e2⟩ := List.cons.inj h
    have e3 : x = y := Str.ext' (Array.toList_inj.mp e1)
    rw [e3, map_cps_inj e2]
theorem split_jn {l : List Str} (h : l ≠ []) (hf : ∀ x ∈ l, 32 ∉ x.cps.toList) : Txt.split (jn l) (" " : Str) = l := by
  have e1 : jn (Txt.split (jn l) (" " : Str)) = jn l := StrLaws.join_split _ _
  have e2 : ∀ p ∈ Txt.split (jn l) (" " : Str), 32 ∉ p.cps.toList := by
    rw [space1]
    exact StrLaws.split_free _ 32
  have e3 : Txt.split (jn l) (" " : Str) ≠ [] := fun z => by
    have := split_pos (jn l) (" " : Str)
    rw [z] at this
    simp at this
  refine map_cps_inj (jc_inj (by simpa using e3) (by simpa using h) ?_ ?_ ?_)
  · intro x hx
    obtain ⟨p, hp, rfl⟩ := List.mem_map.mp hx
    exact e2 p hp
  · intro x hx
    obtain ⟨p, hp, rfl⟩ := List.mem_map.mp hx
    exact hf p hp
  · rw [← jn_jc, ← jn_jc, e1]
end Lp
set_option Elab.async false
set_option linter.all false
set_option maxRecDepth 100000
namespace Lp
open PySem PySem.Spec PyProof.Rows L2
/-! ### defs, methods, classes, properties that may be used by their names -/
structure Cal (P : Program) (w : World) (K : PySem.W.Frag) (mg : Str → Option Value) (base : Heap) (k : Nat) (x : Str) (sp : Sp) : Prop where
  ex : ∃ (f : Addr) (fd : FuncData) (ps : List Str), FnOk P w K mg base CX0 k f fd ps sp ∧ mg x = some (.ref f) ∧ PySem.W.keepIn K (.ref f) = true ∧ Binds K fd ps []
structure Met (P : Program) (w : World) (K : PySem.W.Frag) (mg : Str → Option Value) (base : Heap) (k : Nat) (C : Addr) (m : Str) (sp : Sp) : Prop where
  ex : ∃ (f : Addr) (fd : FuncData) (ps : List Str), Cls K C ∧ Meth K C m f ∧ FnOk P w K mg base CX0 k f fd ps sp ∧ Binds K fd ps []
structure Mak (P : Program) (w : World) (K : PySem.W.Frag) (mg : Str → Option Value) (base : Heap) (k : Nat) (x : Str) (C : Addr) (sp : Sp) : Prop where
  ex : ∃ (f : Addr) (fd : FuncData) (ps : List Str), Mk K C f ∧ FnOk P w K mg base CX0 k f fd ps sp ∧ mg x = some (.ref C) ∧ Binds K fd ps []
structure Prp (P : Program) (w : World) (K : PySem.W.Frag) (mg : Str → Option Value) (base : Heap) (k : Nat) (C : Addr) (f : Str) (sp : Sp) : Prop where
  ex : ∃ (p g : Addr) (fd : FuncData) (ps : List Str), Cls K C ∧ PropOf K C f p g ∧ FnOk P w K mg base CX0 k g fd ps sp ∧ Binds K fd ps []
theorem Cal.gc {P : Program} {w : World} {K : PySem.W.Frag} {mg : Str → Option Value} {base : Heap} {k : Nat} {x : Str} {sp : Sp} (c : Cal P w K mg base k x sp) : Gc P w K mg base k x sp := by
  obtain ⟨f, fd, ps, F, h⟩ := c.ex
  exact ⟨f, fd, ps, .of F, h⟩
section
variable {X : Cx} {k j : Nat} {C : Addr} {x m f : Str} {sp : Sp} {p pos apos : Pos} {e o : Expr} {es : List Expr} {ta : TE} {t : TA}
theorem pe_c (c : Cal X.prog X.w X.K X.mg X.base k x sp) (hr : Room j X.A) (hk : k ≤ j) (hg : Gl X x) (ha : PA X (e :: es) t)
    (hdb : (x == ("__debug__" : Str)) = false := by decide) (he : starEach (e :: es) X.env = (false, eval e X.env) :: starEach es X.env := by rfl) (hpl : (backTo pos (starEach es X.env)).any (·.1) = false := by rfl) :
    PE X (.Call (.Name x p) (e :: es) [] pos) (tCall sp [] E0 t) := by
  obtain ⟨g, fd, ps, F, hm, kp, b⟩ := c.ex
  exact pe_call F (hr.mono hk) hg hm kp b .nil pass0 ha hdb he hpl
theorem pe_mk (c : Mak X.prog X.w X.K X.mg X.base k x C sp) (hr : Room j X.A) (hk : k + 1 ≤ j) (hg : Gl X x) (ha : PA X (e :: es) t)
    (hdb : (x == ("__debug__" : Str)) = false := by decide) (he : starEach (e :: es) X.env = (false, eval e X.env) :: starEach es X.env := by rfl) (hpl : (backTo pos (starEach es X.env)).any (·.1) = false := by rfl) :
    PE X (.Call (.Name x p) (e :: es) [] pos) (tMake C sp [] E0 t) := by
  obtain ⟨g, fd, ps, M, F, hm, b⟩ := c.ex
  exact pe_make M F (hr.mono hk) hg hm b .nil pass0 ha hdb he hpl
theorem pe_mt {pl : Sem Bool} (c : Met X.prog X.w X.K X.mg X.base k C m sp) (hr : Room j X.A) (hk : k ≤ j) (he : PE X o ta) (ha : PA X (e :: es) t)
    (hst : starEach (e :: es) X.env = (false, eval e X.env) :: starEach es X.env := by rfl) (hpl : (backTo pos (starEach es X.env)).any (·.1) = false := by rfl)
    (ht : eval (.Call (.Attribute o m apos) (e :: es) [] pos) X.env = (eval o X.env >>= fun ov => standAt apos.atName >>= fun _ => holding [ov] (getMethod ov m pl) >>= fun r => callWith pos r.1 r.2 (backTo pos (starEach (e :: es) X.env)) (backToKw pos (keywordEach [] X.env))) := by rfl) :
    PE X (.Call (.Attribute o m apos) (e :: es) [] pos) (tMeth C m sp [] E0 ta t) := by
  obtain ⟨g, fd, ps, hc, hm, F, b⟩ := c.ex
  exact pe_meth (pl := pl) he hc hm F (hr.mono hk) b .nil pass0 ha hst hpl ht
theorem pe_mt0 {pl : Sem Bool} (c : Met X.prog X.w X.K X.mg X.base k C m sp) (hr : Room j X.A) (hk : k ≤ j) (he : PE X o ta)
    (ht : eval (.Call (.Attribute o m apos) [] [] pos) X.env = (eval o X.env >>= fun ov => standAt apos.atName >>= fun _ => holding [ov] (getMethod ov m pl) >>= fun r => callWith pos r.1 r.2 (backTo pos (starEach [] X.env)) (backToKw pos (keywordEach [] X.env))) := by rfl) :
    PE X (.Call (.Attribute o m apos) [] [] pos) (tMeth C m sp [] E0 ta tNil) := by
  obtain ⟨g, fd, ps, hc, hm, F, b⟩ := c.ex
  exact pe_meth0 (pl := pl) he hc hm F (hr.mono hk) b .nil pass0 ht
theorem pe_pr (c : Prp X.prog X.w X.K X.mg X.base k C f sp) (hr : Room j X.A) (hk : k + 1 ≤ j) (he : PE X e ta) (hab : attributeBase e f X.env (eval e X.env) = eval e X.env := by rfl) : PE X (.Attribute e f pos) (tProp C sp [] E0 ta) := by
  obtain ⟨p, g, fd, ps, hc, hp, F, b⟩ := c.ex
  exact pe_prop he hc hp F (hr.mono hk) b .nil pass0 hab
end
/-! ### slices that end one before the end -/
theorem cut_init (xs : List V) : cutV xs none (some (-1)) = xs.dropLast := by
  have e : HT.sIx xs.length xs.length (some (-1)) = xs.length - 1 := by
    show (if (-1 : Int) < 0 then ((-1 : Int) + (xs.length : Int)).toNat else min (-1 : Int).toNat xs.length) = _
    rw [if_pos (by decide)]
    omega
  unfold cutV
  rw [HT.sIx_none, e, List.drop_zero, Nat.sub_zero, List.dropLast_eq_take]
end Lp
set_option Elab.async false
set_option linter.all false
set_option maxRecDepth 100000
namespace Lp
open PySem PySem.Spec PyProof.Rows L2
/-! ### methods that may raise, called where it is caught -/
structure MetX (P : Program) (w : World) (K : PySem.W.Frag) (mg : Str → Option Value) (base : Heap) (k : Nat) (C : Addr) (m : Str) (sp : Sp) : Prop where
  ex : ∃ (f : Addr) (fd : FuncData) (ps : List Str), Cls K C ∧ Meth K C m f ∧ FnOk P w K mg base (L2.CX P w) k f fd ps sp ∧ Binds K fd ps []
def tMtX0 (C : Addr) (m : Str) (sp : Sp) (W : WX) (ta : TE) : TE := fun σ H Q => ta σ H fun x H1 => ∃ a dx fs, x = .ref a ∧ H1 a = some (.ins C dx fs) ∧ fs.lookup m = none ∧ sp [x] H1 Q (WE W σ)
/-- classes made by keywords alone -/
structure MakK (P : Program) (w : World) (K : PySem.W.Frag) (mg : Str → Option Value) (base : Heap) (k : Nat) (x : Str) (C : Addr) (ks : List Str) (gV : List V → List V → List V) (sp : Sp) : Prop where
  ex : ∃ (f : Addr) (fd : FuncData) (ps : List Str) (g : List Value → List Value → List Value), Mk K C f ∧ FnOk P w K mg base CX0 k f fd ps sp ∧ mg x = some (.ref C) ∧ KBn K fd ps 1 ks g gV
section
variable {X : Cx} {k j : Nat} {C : Addr} {x m : Str} {sp : Sp} {p pos apos : Pos} {o : Expr} {ta : TE} {tk' : TA} {kws : List Keyword} {ks : List Str} {gV : List V → List V → List V}
theorem pe_mtX0 {pl : Sem Bool} {W : WX} (c : MetX X.prog X.w X.K X.mg X.base k C m sp) (hr : Room j X.A) (hk : k ≤ j) (tk : Takes X W) (he : PE X o ta)
    (ht : eval (.Call (.Attribute o m apos) [] [] pos) X.env = (eval o X.env >>= fun ov => standAt apos.atName >>= fun _ => holding [ov] (getMethod ov m pl) >>= fun r => callWith pos r.1 r.2 (backTo pos (starEach [] X.env)) (backToKw pos (keywordEach [] X.env))) := by rfl) :
    PE X (.Call (.Attribute o m apos) [] [] pos) (tMtX0 C m sp W ta) := by
  obtain ⟨g, fd, ps, hc, hm, F, b⟩ := c.ex
  refine ⟨fun pins s σ H Q I h => ?_⟩
  refine PySem.W.methodCall_KW (pl := pl) (thn (he.run pins s σ H _ I h) fun u s1 ⟨y, H1, I1, rx, a, dx, fs, ex, ea, l, q⟩ => ?_) ht
  subst ex
  obtain rfl : u = Value.ref a := rx
  refine getmeth_ok I1 ea hc hm l (PySem.W.callWith_K0 (first := [.ref a]) I1.kIn hm.kp ?_)
  exact run_fnS (us := [.ref a]) (vs := [.ref a]) F (hr.mono hk) b (passAt tk σ) I1 (.cons rfl .nil) q
theorem pe_mkK (c : MakK X.prog X.w X.K X.mg X.base k x C ks gV sp) (hr : Room j X.A) (hk : k + 1 ≤ j) (hg : Gl X x) (hkw : PK X kws tk')
    (hall : (backToKw pos (keywordEach kws X.env)).all (·.1.isSome) = true := by rfl) (hks : (backToKw pos (keywordEach kws X.env)).filterMap (·.1) = ks := by rfl) (hdb : (x == ("__debug__" : Str)) = false := by decide)
    (hpl : ((backTo pos (starEach [] X.env)).any (·.1) || (backToKw pos (keywordEach kws X.env)).any (·.1.isNone)) = false := by rfl) : PE X (.Call (.Name x p) [] kws pos) (tMakeK C 0 ks.length sp gV E0 tNil tk') := by
  obtain ⟨f, fd, ps, g, M, F, hm, hb⟩ := c.ex
  exact pe_makeK0 M F (hr.mono hk) hg hm hb pass0 hkw hall hks hdb hpl
end
end Lp
set_option Elab.async false
set_option linter.all false
set_option maxRecDepth 100000
set_option maxHeartbeats 1000000
namespace Lp
open PySem PySem.Spec PyProof.Rows L2 GenW
/-! ### yield from a list -/
section
variable {prog : Program} {w : World} {A : Around} {E : Value → Shared → Prop} {s : Shared}
theorem special_lst_item {it l : Addr} {i : Nat} {items : Array Value} {x : Value} {Q : Option Value → Shared → Prop} (hit : s.heap.IsListIter it l i)
    (hl : s.heap.IsList l items) (hx : items[i]? = some x)
    (hQ : ∀ h', h'.IsListIter it l (i + 1) → Heap.SameBut it s.heap h' → Q (some x) { s with heap := h' }) :
    wpAny (model prog w) A (callSpecial? (.ref it) "__next__") Q E s := by
  obtain ⟨o, ho, hc, hd⟩ := id hit
  obtain ⟨ol, hol, _, nl, hdl⟩ := hl
  refine wpAny_callSpecial?_slot (name := Str.ofString "__next__") hit.typeIs slot_listiter_next (wpAny_call_entry slot_listiter_next hit.typeIs entry_listiter_next ?_ (args_listiter_next _))
  show wpAny _ _ (field (.ref it) 0 >>= _) _ _ s
  refine wpAny_bind (wpAny_field ho hd (x := .ref l) rfl ?_)
  show wpAny _ _ (if (Value.ref l == Value.none) = true then _ else _) _ _ s
  rw [if_neg (show ¬ ((Value.ref l == Value.none) = true) from Bool.false_ne_true)]
  show wpAny _ _ (field (.ref it) 1 >>= _) _ _ s
  refine wpAny_bind (wpAny_field ho hd (x := .int i 0) rfl ?_)
  show wpAny _ _ (seqItems? (.ref l) >>= _) _ _ s
  refine wpAny_bind (wpAny_seqItems hol hdl ?_)
  simp only [Int.toNat_natCast, hx]
  refine wpAny_bind (wpAny_setField ho hd (by simp) (wpAny_pure ⟨x, rfl, hQ _ ?_ (Heap.SameBut.update ..)⟩))
  exact ⟨_, Heap.get?_update_self _ ho (Obj.isFreed_of_fields (Obj.data_mapFields hd _)), (Obj.cls_mapFields ..).trans hc, by
    rw [Obj.data_mapFields hd]; simp [rawInt]⟩
theorem special_lst_end {it l : Addr} {i : Nat} {items : Array Value} {Q : Option Value → Shared → Prop} (hh : A.handled = none) (hit : s.heap.IsListIter it l i) (hl : s.heap.IsList l items) (hx : items[i]? = none)
    (hE : ∀ e h', StopX e h' → Heap.ExtBut it s.heap h' → E e { s with heap := h' }) : wpAny (model prog w) A (callSpecial? (.ref it) "__next__") Q E s := by
  obtain ⟨o, ho, hc, hd⟩ := id hit
  obtain ⟨ol, hol, _, nl, hdl⟩ := hl
  refine wpAny_callSpecial?_slot (name := Str.ofString "__next__") hit.typeIs slot_listiter_next (wpAny_call_entry slot_listiter_next hit.typeIs entry_listiter_next ?_ (args_listiter_next _))
  show wpAny _ _ (field (.ref it) 0 >>= _) _ _ s
  refine wpAny_bind (wpAny_field ho hd (x := .ref l) rfl ?_)
  show wpAny _ _ (if (Value.ref l == Value.none) = true then _ else _) _ _ s
  rw [if_neg (show ¬ ((Value.ref l == Value.none) = true) from Bool.false_ne_true)]
  show wpAny _ _ (field (.ref it) 1 >>= _) _ _ s
  refine wpAny_bind (wpAny_field ho hd (x := .int i 0) rfl ?_)
  show wpAny _ _ (seqItems? (.ref l) >>= _) _ _ s
  refine wpAny_bind (wpAny_seqItems hol hdl ?_)
  simp only [Int.toNat_natCast, hx]
  refine wpAny_bind (wpAny_rule (wpAny_bind (wpAny_setField ho hd (by simp) ?_)))
  show wpAny _ _ (newExc (.type "StopIteration") [] >>= _) _ _ _
  refine wpAny_bind ?_
  simp only [newExc, newTuple]
  refine wpAny_bind (wpAny_newObj_type ?_ (by size_fits))
  refine wpAny_bind (m := firstArgMember _ _) (wpAny_of_eq (a := Value.none) (by first | rfl | (simp only [firstArgMember]; rfl)) ?_)
  refine wpAny_newObj_type ?_ (by size_fits)
  simp only [raiseNew]
  refine wpAny_bind (wpAny_handled ?_)
  first | rw [show A.in1.handled = none from hh] | rw [hh]
  refine wpAny_bind (wpAny_pure (wpAny_throw ?_))
  refine hE _ _ ⟨_, _, _, rfl, Heap.get?_push_size _ rfl, rfl, rfl, ?_⟩ (((Heap.SameBut.update ..).extBut.push _).push _)
  first
    | rfl
    | (rw [Array.getElem?_append_left (by decide)]; rfl)
    | kernel_rfl
end
section
variable {X : Cx} {e : Expr} {te : TE}
def tYfLst (te : TE) : TYf := fun σ H Q => te σ H fun x H1 => ∃ a xs, x = .ref a ∧ H1 a = some (.lst xs) ∧ Q xs H1
theorem close_lst : typeLookup (.type "list_iterator") "close" = pure none := by rw [typeLookup_type, builtinLookup_eq_fast]; kernel_rfl
theorem yf_lst (he : PE X e te) : YfE X e (tYfLst te) := by
  refine ⟨fun pins s σ H Q I h => ?_⟩
  refine thn (he.run pins s σ H _ I h) fun v s1 ⟨x, H1, I1, r1, a, xs, ex, ha, hq⟩ => ?_
  subst ex
  obtain rfl : v = Value.ref a := r1
  obtain ⟨hlen, its, c, rits, hg⟩ := I1.hok a _ ha
  have ht : s1.heap.IsList a its.toArray := ⟨_, hg, rfl, _, rfl⟩
  refine ⟨"list", ht.typeIs, by decide, wpAny_pyIter_list ht ?_⟩
  have ksz : ∀ b o, s1.heap.get? b = some o → b ≠ s1.heap.objs.size := fun b o e => Nat.ne_of_lt (Heap.lt_size e)
  have kp : ∀ b o, s1.heap.get? b = some o → (s1.heap.push { cls := .type "list_iterator", data := .fields #[.ref a, .int 0 0] }).get? b = some o := fun b o e => Heap.get?_push_of_some _ e
  refine ⟨s1.heap.objs.size, H1, xs, fun j h => h.IsListIter s1.heap.objs.size a j ∧ h.IsList a its.toArray, rfl, I1.kept (t' := s1.toks) kp, .inr I1.sz, Nat.ne_of_gt I1.lt, fun y c hy => ?_, I1.hok.fresh (Nat.le_refl _), fun p hp => ?_,
    ⟨⟨_, Heap.get?_push_size _ rfl, rfl, rfl⟩, ⟨_, kp _ _ hg, rfl, _, rfl⟩⟩, ⟨⟨"list_iterator", fun j h q => ?_, close_lst, by decide⟩, fun j h h' q hk => ?_, fun A' j x s2 Q' E' hA hx q hQ => ?_, fun A' s2 Q' E' hA q hE => ?_⟩, hq⟩
  · obtain ⟨v, o, ho, _⟩ := I1.cell y c hy
    exact ksz c o ho
  · exact ksz p.1 _ (I1.pin p hp).1
  · obtain ⟨⟨o, ho, hc, _⟩, _⟩ := q
    exact ⟨o, ho, hc⟩
  · obtain ⟨⟨o, ho, r⟩, o2, ho2, r2⟩ := q
    exact ⟨⟨o, hk _ o (.inl rfl) ho, r⟩, o2, hk _ o2 (.inr (by rw [ha]; exact fun z => by cases z)) ho2, r2⟩
  · obtain ⟨q1, q2⟩ := q
    obtain ⟨u, hu, ru⟩ := rits.get hx
    have hne : a ≠ s1.heap.objs.size := Nat.ne_of_lt (Heap.lt_size hg)
    exact special_lst_item q1 q2 (x := u) (by simpa using hu) fun h' q1' hs => hQ u h' s2.toks ru ⟨q1', (by obtain ⟨o2, ho2, r2⟩ := q2; exact ⟨o2, hs.extBut _ _ hne ho2, r2⟩)⟩ fun b o hb eb => hs.extBut b o hb eb
  · obtain ⟨q1, q2⟩ := q
    have hnone : its.toArray[xs.length]? = none := by
      have e := rits.length
      have e2 : its[xs.length]? = none := List.getElem?_eq_none_iff.mpr (by omega)
      simpa using e2
    exact special_lst_end hA q1 q2 hnone fun e h' hS hk => hE e h' s2.toks hS fun b o hb eb => hk b o hb eb
end
/-! ### generator defs by their names -/
section
variable {P : Program} {w : World} {K : PySem.W.Frag} {mg : Str → Option Value} {base : Heap}
theorem okGen {x qual : Str} {st : Stmt} {f : Addr} {fd : FuncData} {N ps : List Str} {k : Nat} {sp : SpG} (F : Fun K x qual st f fd) (S : GScope N ps (defScope st)) (ln : ∀ vs H Q E, sp vs H Q E → vs.length = ps.length)
    (hb : ∀ (cdv : Value) (A : Around) (outer : List Env) (s : Shared) (H : Hp) (vs : List V) (Q : List V → Hp → Prop) (E : XK) (pn : List (Addr × Obj)), Room k (A.deeper (envOfC qual (defScope st) s.heap.objs.size f cdv)) → sp vs H Q E →
      ∃ t, GSs (gcxOf P w K mg base N qual (defScope st) f cdv A outer s H E pn) (defBody st) t ∧ t { nx := fun ys _ H' => Q ys H', rt := fun ys v H' => v = .non ∧ Q ys H' } [] (start N vs) H) : GFn P w K mg base (k + 1) f fd ps sp := by
  obtain ⟨oc, od, kV, doc, pm, an, cdv, ct, osl, rfl, lk, hcd⟩ := F.ex
  exact gfn_of lk hcd S ln (hb cdv)
structure Gnr (P : Program) (w : World) (K : PySem.W.Frag) (mg : Str → Option Value) (base : Heap) (k : Nat) (x : Str) (sp : SpG) : Prop where
  ex : ∃ (f : Addr) (fd : FuncData) (ps : List Str), GFn P w K mg base k f fd ps sp ∧ mg x = some (.ref f) ∧ PySem.W.keepIn K (.ref f) = true ∧ Binds K fd ps []
end
section
variable {X : Cx} {k j : Nat} {x nm : Str} {sp : SpG} {p p2 pos pos' : Pos} {e : Expr} {es : List Expr} {t : TA}
theorem noStop0 {K : PySem.W.Frag} : NoStop K E0 := fun _ _ _ h => h.elim
theorem passes0 : Passes (CX X.prog X.w) X E0 := fun pins σ H s1 e s' I h => by
  obtain ⟨a, B, H', cls, d, _, _, _, _, _, _, _, z⟩ := h
  exact z.elim
/-- list(f(e, ..)) of a generator def -/
theorem pe_lg (c : Gnr X.prog X.w X.K X.mg X.base k x sp) (hr : Room j X.A) (hk : k + 3 ≤ j) (hg : Gl X x) (ha : PA X (e :: es) t) (hg2 : Gl X nm) (hmg : X.mg nm = none) (hv : bootBuiltins nm = some (.type "list")) (hnm : nm ≠ "__name__" := by decide) (hdb2 : (nm == ("__debug__" : Str)) = false := by decide)
    (hdb : (x == ("__debug__" : Str)) = false := by decide) (he : starEach (e :: es) X.env = (false, eval e X.env) :: starEach es X.env := by rfl) (hpl : (backTo pos' (starEach es X.env)).any (·.1) = false := by rfl)
    (he2 : starEach [.Call (.Name x p2) (e :: es) [] pos'] X.env = (false, eval (.Call (.Name x p2) (e :: es) [] pos') X.env) :: starEach [] X.env := by rfl) :
    PE X (.Call (.Name nm p) [.Call (.Name x p2) (e :: es) [] pos'] [] pos) (tListG (L2.tCallG sp [] E0 t)) := by
  obtain ⟨g, fd, ps, F, hm, kp, b⟩ := c.ex
  exact pe_listG (pgen_call F (hr.mono (by omega)) hg hm kp b .nil ha hdb he hpl) passes0 noStop0 (hr.mono hk) hg2 hmg hv hnm hdb2 he2
end
end Lp
set_option Elab.async false
set_option linter.all false
set_option maxRecDepth 100000
set_option maxHeartbeats 1000000
namespace Lp
open PySem PySem.Spec PyProof.Rows L2
/-! ### isinstance of an exception that is a value, or that an outer suite holds -/
def rIsX (K : PySem.W.Frag) : List V → Hp → VK → Prop := fun xs H Q => ∃ (a D : Addr) (c : V) (cv : Value) (b : Bool), xs = [.ref a, c] ∧ H a = some (ExO (.ref D) a) ∧ ExcC K D ∧ (∀ u, RelV c u → u = cv) ∧ PySem.W.kitOne K (.ref D) cv = some b ∧ Q (.bl b) H
theorem call_isX {X : Cx} : CallR X (.builtin "isinstance") (rIsX X.K) := by
  intro pins s σ H xs us Q I r h
  obtain ⟨a, D, c, cv, b, rfl, ha, C, hcv, e, q⟩ := h
  cases r with
  | cons rx rr =>
    cases rr with
    | cons rt rr =>
      cases rr
      cases rx
      cases hcv _ rt
      obtain ⟨⟨oe, vs, hget, hz, hv, _⟩, _, _⟩ := I.hok a _ ha
      have J : PySem.W.InstAt s.heap a oe D none := by
        obtain ⟨oc, od, oda, osl⟩ := oe
        obtain ⟨h1, h2⟩ := hz
        dsimp only at h1 h2 hv
        subst h1 h2 hv
        exact ⟨hget, rfl, rfl, trivial⟩
      exact PySem.W.kia_one (PySem.W.handS_kitx_exc C.hg C.hk C.hs C.hd C.ha C.hn C.ht C.hm) I.kIn J e (fun z => nomatch z) fun tk => ⟨.bl b, H, I.kept (t' := tk) fun _ _ z => z, rfl, q⟩
def rIsP (K : PySem.W.Frag) (p : Addr × Obj) : List V → Hp → VK → Prop := fun xs H Q => ∃ (D : Addr) (c : V) (cv : Value) (b : Bool), xs = [.ref p.1, c] ∧ Zc (.ref D) none p.2 ∧ (∃ vs, p.2.data = .fields vs) ∧ ExcC K D ∧ (∀ u, RelV c u → u = cv) ∧ PySem.W.kitOne K (.ref D) cv = some b ∧ Q (.bl b) H
theorem call_isP {X : Cx} {p : Addr × Obj} (hp : p ∈ X.pn) : CallR X (.builtin "isinstance") (rIsP X.K p) := by
  intro pins s σ H xs us Q I r h
  obtain ⟨D, c, cv, b, rfl, hz, ⟨vs, hv⟩, C, hcv, e, q⟩ := h
  cases r with
  | cons rx rr =>
    cases rr with
    | cons rt rr =>
      cases rr
      cases rx
      cases hcv _ rt
      have hget := (I.pin p (List.mem_append_left _ hp)).1
      obtain ⟨a, oe⟩ := p
      have J : PySem.W.InstAt s.heap a oe D none := by
        obtain ⟨oc, od, oda, osl⟩ := oe
        obtain ⟨h1, h2⟩ := hz
        dsimp only at h1 h2 hv
        subst h1 h2 hv
        exact ⟨hget, rfl, rfl, trivial⟩
      exact PySem.W.kia_one (PySem.W.handS_kitx_exc C.hg C.hk C.hs C.hd C.ha C.hn C.ht C.hm) I.kIn J e (fun z => nomatch z) fun tk => ⟨.bl b, H, I.kept (t' := tk) fun _ _ z => z, rfl, q⟩
/-! ### defs that are given the exception that is held -/
structure FnE (P : Program) (w : World) (K : PySem.W.Frag) (mg : Str → Option Value) (base : Heap) (k : Nat) (f : Addr) (fd : FuncData) (ps : List Str) (sp : Addr × Obj → Sp) : Prop where
  len : ∀ p vs H Q E, sp p vs H Q E → vs.length = ps.length
  run : ∀ (p : Addr × Obj) (A : Around) (out : List Env) (s : Shared) (H : Hp) (ar : Args) (us : List Value) (vs : List V) (Q : VK) (E : XK), L2H.RoomH k A → L2H.PinOk out H s p → Env0 P w K mg base A out s H →
    BindsTo s fd ar (ps.zip us) → Vals vs us → sp p vs H Q E → codeAny (model P w) A (.call (.ref f) ar) (CR CX0 out P w H s Q E) s
section
variable {P : Program} {w : World} {K : PySem.W.Frag} {mg : Str → Option Value} {base : Heap}
theorem okE {x qual : Str} {st : Stmt} {f : Addr} {fd : FuncData} {N ps : List Str} {k : Nat} {sp : Addr × Obj → Sp} (F : Fun K x qual st f fd) (S : FnScope N ps (defScope st)) (ln : ∀ p vs H Q E, sp p vs H Q E → vs.length = ps.length)
    (hb : ∀ (cdv : Value) (p : Addr × Obj) (A : Around) (out : List Env) (s : Shared) (H : Hp) (vs : List V) (Q : VK) (E : XK), L2H.RoomH k (A.deeper (envOfC qual (defScope st) s.heap.objs.size f cdv)) → sp p vs H Q E →
      ∃ t, PSs (L2H.cxH CX0 P w K mg base N qual (defScope st) f cdv A out s H E p) (defBody st) t ∧ t { nx := fun _ H' => Q .non H', rt := Q } (start N vs) H) : FnE P w K mg base (k + 1) f fd ps sp := by
  obtain ⟨oc, od, kV, doc, pm, an, cdv, ct, osl, rfl, lk, hcd⟩ := F.ex
  refine ⟨ln, fun p A out s H ar us vs Q E room hpin en bd rv hs => ?_⟩
  have KX : K.In s.heap := en.mod.kin.keeps fun b o e => (en.bs b o e).1
  have nl : s.heap.NoLimit := en.mod.nolimit.keeps fun b o e => (en.bs b o e).1
  have kd : ∀ y ∈ ps.zip us, (defScope st).names.lookup y.1 = some .local ∨ ((defScope st).names.lookup y.1 = some .cell ∧ ((cellsFrom (s.heap.objs.size + 1) (defScope st).names []).lookup y.1).isSome = true) := by
    rintro ⟨n, v⟩ hy
    have hm := (List.of_mem_zip hy).1
    exact (S.par n hm).elim (fun q => .inl q) fun q => .inr ⟨q, PySem.W.cellsFrom_some _ _ _ (.inl q)⟩
  refine codeAny_call_function room.depth (KX _ _ lk) rfl S.co S.gen rfl (PySem.W.codeRec_of KX hcd) (bd _ _ _ _ ?_)
  refine wpAny_newFunctionEnv_cells S.kind kd fun e1 he s1 x => ?_
  subst he
  refine ⟨nl.keeps x.toInCall.keep, codeAny_func ?_⟩
  obtain ⟨t, ht, hq⟩ := hb cdv p A out s H vs Q E (room.deeper _) hs
  have J0 : Inv (L2H.cxH CX0 P w K mg base N qual (defScope st) f cdv A out s H E p) [] (start N vs) H s1 := L2H.inv_startH S hpin en (ln _ _ _ _ _ hs) rv x
  refine wpAny_mono (ht.run [] s1 (start N vs) H _ J0 hq) (fun fl s' h3 => ?_) fun _ _ h3 => h3
  cases fl with
  | ret u => exact let ⟨v, _, H', J, r2, q⟩ := h3; ⟨v, H', J.os, J.bare, J.base, J.hok, r2, q⟩
  | next => exact let ⟨_, H', J, q⟩ := h3; ⟨.non, H', J.os, J.bare, J.base, J.hok, rfl, q⟩
  | brk => exact (let ⟨_, _, _, q⟩ := h3; q : False).elim
  | cont => exact (let ⟨_, _, _, q⟩ := h3; q : False).elim
structure CalE (P : Program) (w : World) (K : PySem.W.Frag) (mg : Str → Option Value) (base : Heap) (k : Nat) (x : Str) (sp : Addr × Obj → Sp) : Prop where
  ex : ∃ (f : Addr) (fd : FuncData) (ps : List Str), FnE P w K mg base k f fd ps sp ∧ mg x = some (.ref f) ∧ PySem.W.keepIn K (.ref f) = true ∧ Binds K fd ps []
structure CalX (P : Program) (w : World) (K : PySem.W.Frag) (mg : Str → Option Value) (base : Heap) (k : Nat) (x : Str) (sp : Sp) : Prop where
  ex : ∃ (f : Addr) (fd : FuncData) (ps : List Str), FnOk P w K mg base (L2.CX P w) k f fd ps sp ∧ mg x = some (.ref f) ∧ PySem.W.keepIn K (.ref f) = true ∧ Binds K fd ps []
end
section
variable {X : Cx} {k j : Nat} {x : Str} {p pos : Pos} {e : Expr} {es : List Expr} {t : TA}
def tCe (sp : Addr × Obj → Sp) (pr : Addr × Obj) (t : TA) : TE := fun σ H Q => t σ H fun vs H1 => sp pr vs H1 Q E0
theorem pe_ce {sp : Addr × Obj → Sp} {pr : Addr × Obj} (c : CalE X.prog X.w X.K X.mg X.base k x sp) (hr : L2H.RoomH k X.A) (hp : pr ∈ X.pn) (hg : Gl X x) (ha : PA X (e :: es) t)
    (hdb : (x == ("__debug__" : Str)) = false := by decide) (he : starEach (e :: es) X.env = (false, eval e X.env) :: starEach es X.env := by rfl) (hpl : (backTo pos (starEach es X.env)).any (·.1) = false := by rfl) :
    PE X (.Call (.Name x p) (e :: es) [] pos) (tCe sp pr t) := by
  obtain ⟨f, fd, ps, F, hm, kp, hb⟩ := c.ex
  refine ⟨fun pins s σ H Q I h => ?_⟩
  refine wpAny_Call_Name_kw (ld_glob I hg hm ?_ hdb)
  refine PySem.W.callWith_K (h₀ := X.base) I.ok.mod.kin kp (thn (ha.run pos pins s σ H _ I h) fun us s1 ⟨vs, H1, I1, r, q⟩ => ⟨I1.kIn, ?_⟩) he hpl
  have hl : us.length = ps.length := by rw [← r.length]; exact F.len _ _ _ _ _ q
  have b := hb s1 us I1.kIn (by rw [List.append_nil]; exact hl)
  rw [List.append_nil] at b
  have P1 := I1.pin pr (List.mem_append_left _ hp)
  have hpin : L2H.PinOk X.stack H1 s1 pr := ⟨P1.1, P1.2.1, fun hm => (List.mem_cons.mp (I1.stkSub pr.1 hm)).elim P1.2.2.1 P1.2.2.2.1, P1.2.2.2.2⟩
  refine wpAny_call (codeAny_mono (F.run pr X.A X.stack s1 H1 ⟨us, []⟩ us vs Q E0 hr hpin I1.env0 b r q) fun r s' hq => ?_)
  cases r with
  | error e => exact pass0 pins σ H1 s1 e s' I1 hq
  | ok fl =>
    cases fl with
    | ret u => exact I1.after hq
    | next => exact False.elim hq
    | brk => exact False.elim hq
    | cont => exact False.elim hq
def tCx (sp : Sp) (W : WX) (t : TA) : TE := fun σ H Q => t σ H fun vs H1 => sp vs H1 Q (WE W σ)
theorem pe_cx {sp : Sp} {W : WX} (c : CalX X.prog X.w X.K X.mg X.base k x sp) (hr : Room j X.A) (hk : k ≤ j) (tk : Takes X W) (hg : Gl X x) (ha : PA X (e :: es) t)
    (hdb : (x == ("__debug__" : Str)) = false := by decide) (he : starEach (e :: es) X.env = (false, eval e X.env) :: starEach es X.env := by rfl) (hpl : (backTo pos (starEach es X.env)).any (·.1) = false := by rfl) :
    PE X (.Call (.Name x p) (e :: es) [] pos) (tCx sp W t) := by
  obtain ⟨f, fd, ps, F, hm, kp, hb⟩ := c.ex
  refine ⟨fun pins s σ H Q I h => ?_⟩
  refine wpAny_Call_Name_kw (ld_glob I hg hm ?_ hdb)
  refine PySem.W.callWith_K (h₀ := X.base) I.ok.mod.kin kp (thn (ha.run pos pins s σ H _ I h) fun us s1 ⟨vs, H1, I1, r, q⟩ => ⟨I1.kIn, ?_⟩) he hpl
  exact run_fnS F (hr.mono hk) hb (passAt tk σ) I1 r q
end
/-! ### != of two built-in types -/
section
variable {M : Model} {A : Around} {E : Value → Shared → Prop} {s : Shared}
theorem richNe_decline {a b : Value} {T id : String} {k : Bool} {Q : Value → Shared → Prop} (ha : ∀ s' : Shared, s'.TypeIs a T) (hb : ∀ s' : Shared, s'.TypeIs b T)
    (h1 : Slot T (cmpInfo .NotEq).2.1 id) (h2 : Slot T (cmpInfo .NotEq).2.2 id) (hv : [a, b].any Value.onHeap = false) (hk : isSame a b = pure k)
    (hc : wpAny M A (call (.builtin id) [a, b]) (fun v s₁ => v = .notImplemented ∧ wpAny M A (call (.builtin id) [b, a]) (fun v s₂ => v = .notImplemented ∧ Q (.bool !k) s₂) E s₁) E s) :
    wpAny M A (richCompare .NotEq a b) Q E s := by
  rcases hi : cmpInfo CmpOp.NotEq with ⟨sym, f, r⟩
  rw [hi] at h1 h2
  simp only [richCompare, hi, (ha s).oneThing_none]
  try with_reducible refine wpAny_holding ?_
  refine wpAny_bind (wpAny_cRoomFor_or (.inl hv) ?_)
  refine wpAny_bind (wpAny_typeOf (ha s) (wpAny_bind (wpAny_typeOf (hb s) ?_)))
  simp only [bne_self_eq_false, Bool.false_eq_true, if_false, pure_bind, Bool.not_false, if_true]
  refine wpAny_bind (m := tryCompare a _ b) (wpAny_tryCompare_declines (ha s) h1 (wpAny_mono hc (fun v s₁ h₁ => ⟨h₁.1, ?_⟩) fun _ _ x => x))
  refine wpAny_bind (m := tryCompare b _ a) (wpAny_tryCompare_declines (hb s₁) h2 (wpAny_mono h₁.2 (fun v s₂ h₂ => ⟨h₂.1, ?_⟩) fun _ _ x => x))
  first
    | exact wpAny_bind (wpAny_rule (wpAny_bind (wpAny_of_eq hk (wpAny_pure h₂.2))))
    | exact wpAny_bind (wpAny_of_eq hk (wpAny_pure h₂.2))
end
section
variable {prog : Program} {w : World} {A : Around} {E : Value → Shared → Prop} {s : Shared} {Q : Value → Shared → Prop}
theorem slot_type_ne2 : Slot "type" (cmpInfo .NotEq).2.2 "object.__ne__" := slot_type_ne
theorem call_object_ne {X Y : String} (hX : ∀ s' : Shared, s'.TypeIs (.type X) "type") (hne : (Value.type X == Value.type Y) = false) (h : Q .notImplemented s) : wpAny (model prog w) A (call (.builtin "object.__ne__") [.type X, .type Y]) Q E s := by
  refine wpAny_call_entry slot_type_ne (hX s) F.entry_object_ne ?_ (F.args_object_ne_2 _ _)
  unfold Builtin.«object.__ne__»
  refine wpAny_bind (m := slotArgs "__ne__" 1 _) (wpAny_of_eq (a := ((Value.type X : Value), [Value.type Y])) (by first | rfl | (simp only [slotArgs]; rfl)) ?_)
  refine wpAny_bind (wpAny_cRoomFor_or (.inl rfl) ?_)
  refine wpAny_bind (m := callSpecialIfBound? (.type X) (Str.ofString "__eq__") [.type Y]) (wpAny_callSpecialIfBound?_slot (hX s) PySem.TypeEq.slot_type_eq
    (call_gives PySem.TypeEq.slot_type_eq (hX s) F.entry_object_eq (F.args_object_eq_2 _ _) (PySem.TypeEq.object_eq_other rfl hne) ?_))
  first
    | exact wpAny_pure ⟨_, rfl, h⟩
    | exact wpAny_pure h
    | exact wpAny_pure ⟨_, rfl, rfl, h⟩
theorem ne_type_other {X Y : String} (hX : ∀ s' : Shared, s'.TypeIs (.type X) "type") (hY : ∀ s' : Shared, s'.TypeIs (.type Y) "type") (hne : (Value.type X == Value.type Y) = false) (hne' : (Value.type Y == Value.type X) = false) (h : Q (.bool true) s) : wpAny (model prog w) A (compareOp .NotEq (.type X) (.type Y)) Q E s := by
  show wpAny _ A (richCompare .NotEq _ _) Q E s
  exact richNe_decline (T := "type") (k := false) hX hY slot_type_ne slot_type_ne2 rfl (by rw [isSame_plain rfl, hne]) (call_object_ne hX hne ⟨rfl, call_object_ne hY hne' ⟨rfl, h⟩⟩)
end
def rNeTyG : R2 := fun x y H Q => (∃ a, x = .ty a ∧ y = .ty a ∧ (∀ s' : Shared, s'.TypeIs (.type a) "type") ∧ Q (.bl false) H) ∨ ∃ a b, x = .ty a ∧ y = .ty b ∧ (∀ s' : Shared, s'.TypeIs (.type a) "type") ∧ (∀ s' : Shared, s'.TypeIs (.type b) "type") ∧ (Value.type a == Value.type b) = false ∧ (Value.type b == Value.type a) = false ∧ Q (.bl true) H
theorem op_neTyG {X : Cx} : OpR X (compareOp .NotEq) rNeTyG := by
  intro pins s σ H x y v u Q I rx ry h
  rcases h with ⟨a, rfl, rfl, ha, q⟩ | ⟨a, b, rfl, rfl, ha, hb, n1, n2, q⟩
  · cases (show v = Value.type a from rx)
    cases (show u = Value.type a from ry)
    exact ne_type_same ha ⟨.bl false, H, I, rfl, q⟩
  · cases (show v = Value.type a from rx)
    cases (show u = Value.type b from ry)
    exact ne_type_other ha hb n1 n2 ⟨.bl true, H, I, rfl, q⟩
/-! ### xs[i] op= e; one sign * n -/
def rGetL (K : PySem.W.Frag) : V → V → Hp → VK → Prop := fun o i H Q => ∃ p xs j v, o = .ref p ∧ i = .int j ∧ SqL K H p xs ∧ 0 ≤ j ∧ atI xs j = some v ∧ Q v H
theorem get_list {X : Cx} : PGet X (rGetL X.K) := by
  intro pins s σ H o i ov iv Q I ro ri h
  obtain ⟨p, xs, k, z, rfl, rfl, hq, h0, he, q⟩ := h
  cases ro
  obtain ⟨t, rfl⟩ := ri
  obtain ⟨its, r, pl, hz⟩ := I.list hq
  obtain ⟨j, h1, h2, h3, h4, h5⟩ := atI_get he
  obtain ⟨w, ew, rw'⟩ := r.get h2
  have hj : k.toNat = j := by
    rw [seqIndex_of h0 h5] at h1
    exact Option.some.inj h1
  have hl := r.length
  have hn := line63
  exact wpAny_getItem_list pl.isList h0 (by omega) (by rw [hj]; simpa using ew) ⟨z, H, I, rw', q⟩
theorem op_repA {X : Cx} : OpR X (binaryOp .Mult) (fun x y H Q => ∃ (z : Str) (n : Nat), x = .str z ∧ y = .int (n : Int) ∧ z.length = 1 ∧ n ≤ 1000 ∧ ∀ y, Q (.str y) H) := by
  intro pins s σ H x y v u Q I r1 r2 h
  obtain ⟨z, n, e1, e2, hz, hn, q⟩ := h
  subst e1; subst e2
  obtain ⟨t, rfl⟩ := r1
  obtain ⟨t', rfl⟩ := r2
  refine PySem.P.mul_str ?_ (fun c _ => ?_) (fun _ _ => ?_) ?_
  · rw [decide_eq_false (show ¬ (n : Int) < -(2 ^ 63 : Int) by omega), decide_eq_false (show ¬ (n : Int) ≥ 2 ^ 63 by omega)]
    rfl
  · rw [hz]
    have := (Int.le_ediv_iff_mul_le (show (0 : Int) < n by omega)).mpr (show ((1 : Nat) : Int) * (n : Int) ≤ 2 ^ 63 - 1 by omega)
    omega
  · rw [hz]
    unfold Builtin.Str.tooLong
    refine decide_eq_false ?_
    have e : (n : Int).toNat = n := rfl
    have z := zs (show n ≤ 100000 by omega)
    omega
  · by_cases h0 : n = 0
    · subst h0
      rw [if_pos (by decide)]
      exact ⟨by decide, .str _, H, I.tok _, ⟨_, rfl⟩, q _⟩
    · rw [if_neg (show ¬ (n : Int) < 1 by omega), hz]
      by_cases h1 : n = 1
      · subst h1
        rw [if_pos (by rfl)]
        exact ⟨.str _, H, I, ⟨_, rfl⟩, q _⟩
      · have hb : ((n : Int) == 1 || (1 : Nat) == 0) = false := by
          rw [beq_eq_false_iff_ne.mpr (show (n : Int) ≠ 1 by omega)]
          rfl
        rw [hb, if_neg Bool.false_ne_true]
        refine ⟨?_, .str _, H, I.tok _, ⟨_, rfl⟩, q _⟩
        have f0 := foldl_repN z.cps.toList n []
        rw [List.nil_append] at f0
        have e : (n : Int).toNat = n := rfl
        have e3 : z.cps = z.cps.toList.toArray := rfl
        rw [e]
        have f1 : List.foldl (fun x1 x2 => x1 ++ x2) #[] (List.replicate n z.cps) = ((List.replicate n z.cps.toList).flatten).toArray := f0
        show (List.foldl (fun (x1 x2 : Array Nat) => x1 ++ x2) #[] (List.replicate n z.cps)).size ≤ _
        rw [f1, List.size_toArray]
        have : ∀ m : Nat, ((List.replicate m z.cps.toList).flatten).length = m := fun m => by
          induction m with
          | zero => rfl
          | succ m ih =>
            rw [List.replicate_succ, List.flatten_cons, List.length_append, ih]
            have : z.cps.toList.length = 1 := hz
            omega
        rw [this]
        exact zs (by omega)
end Lp
set_option Elab.async false
set_option linter.all false
set_option maxRecDepth 100000
set_option maxHeartbeats 1000000
namespace Lp
open PySem PySem.Spec PyProof.Rows L2
/-! ### len(x), y in x: by a method of an own class -/
section
variable {X : Cx} {k j : Nat} {C : Addr} {sp : Sp}
theorem inst_of {pins : List (Addr × Obj)} {σ : L2.St} {H : Hp} {s : Shared} {a dx : Addr} {fs : List (Str × V)} (I : Inv X pins σ H s) (e : H a = some (.ins C dx fs)) : ∃ ox od, PySem.W.InstAt s.heap a ox C od := by
  obtain ⟨mA, O, _⟩ := ins_get I.hok e
  obtain ⟨od, J, _⟩ := O.look
  exact ⟨_, _, J⟩
/-- a call of a method's def, wherever the machine stands -/
theorem run_at {A : Around} {pins : List (Addr × Obj)} {σ : L2.St} {H : Hp} {s : Shared} {f : Addr} {fd : FuncData} {ps : List Str} {us : List Value} {vs : List V} {Q : VK} {E1 : Value → Shared → Prop} (F : FnOk X.prog X.w X.K X.mg X.base CX0 k f fd ps sp) (hr : Room k A) (b : Binds X.K fd ps []) (I : Inv X pins σ H s) (en : Env0 X.prog X.w X.K X.mg X.base A X.stack s H)
    (r : Vals vs us) (q : sp vs H Q E0) : wpAny (model X.prog X.w) A (call (.ref f) us) (EP X pins σ Q) E1 s := by
  have hl : us.length = ps.length := by rw [← r.length]; exact F.len _ _ _ _ q
  have bd := b s us I.kIn (by rw [List.append_nil]; exact hl)
  rw [List.append_nil] at bd
  refine wpAny_call (codeAny_mono (F.run A X.stack s H ⟨us, []⟩ us vs Q E0 hr en bd r q) fun r s' hq => ?_)
  cases r with
  | error e => exact hq.elim
  | ok fl =>
    cases fl with
    | ret u => exact I.after hq
    | next => exact False.elim hq
    | brk => exact False.elim hq
    | cont => exact False.elim hq
def rLenO (C : Addr) (sp : Sp) : List V → Hp → VK → Prop := fun xs H Q => ∃ (a dx : Addr) (fs : List (Str × V)), xs = [.ref a] ∧ H a = some (.ins C dx fs) ∧ sp [.ref a] H (fun v H' => ∃ n : Int, v = .int n ∧ 0 ≤ n ∧ n < 2 ^ 63 ∧ Q (.int n) H') E0
theorem call_lenO (c : Met X.prog X.w X.K X.mg X.base k C "__len__" sp) (hr : Room j X.A) (hk : k + 1 ≤ j) : CallR X (.builtin "len") (rLenO C sp) := by
  intro pins s σ H xs us Q I r h
  obtain ⟨a, dx, fs, rfl, ha, q⟩ := h
  obtain ⟨f, fd, ps, hc, hm, F, b⟩ := c.ex
  obtain ⟨u, rfl, ru⟩ := vals1 r
  cases (show u = Value.ref a from ru)
  obtain ⟨ox, od, J⟩ := inst_of I ha
  refine Calls.call_function_entry PySem.kind_len PySem.plain_len PySem.entry_len (PySem.args_len1 _) ?_
  unfold Builtin.«len»
  refine wpAny_bind (m := oneArg "len" _) (wpAny_pure ?_)
  refine wpAny_bind (m := callSpecial? (.ref a) (Str.ofString "__len__")) (PySem.W.special_fn I.kIn J hm.at_ (beq_iff_eq.mp hm.fn) (wpAny_mono (run_at (A := X.A.in1) (vs := [.ref a]) F (hr.mono hk).in1 b I I.env0.in1 (.cons rfl .nil) q) (fun v s' hv => ?_) fun _ _ z => z))
  obtain ⟨v, H', I', rv, n, rfl, h0, h1, hq⟩ := hv
  obtain ⟨t, rfl⟩ := rv
  refine wpAny_bind (wpAny_holding (wpAny_pure ?_))
  refine wpAny_bind (wpAny_letGo ?_)
  show wpAny _ _ (if n < 0 then _ else _) _ _ _
  rw [if_neg (by omega)]
  show wpAny _ _ (if n ≥ 2 ^ 63 then _ else _) _ _ _
  rw [if_neg (by omega)]
  exact wpAny_bind (wpAny_mkInt (wpAny_pure ⟨_, rfl, .int n, H', I'.tok _, ⟨_, rfl⟩, hq⟩))
def tInO (C : Addr) (sp : Sp) (ty td : TE) (neg : Bool) : TE := fun σ H Q => ty σ H fun y H1 => td σ H1 fun x H2 => ∃ (a dx : Addr) (fs : List (Str × V)), x = .ref a ∧ H2 a = some (.ins C dx fs) ∧ sp [.ref a, y] H2 (fun v H' => ∃ b : Bool, v = .bl b ∧ Q (.bl (if neg then !b else b)) H') E0
theorem pc_inO {i o : Expr} {ty td : TE} (c : Met X.prog X.w X.K X.mg X.base k C "__contains__" sp) (hr : Room j X.A) (hk : k ≤ j) (hi : PE X i ty) (ho : PE X o td) : PC X .In i o (tInO C sp ty td false) := by
  obtain ⟨f, fd, ps, hc, hm, F, b⟩ := c.ex
  refine ⟨fun pins s σ H Q I h => ?_⟩
  refine thn (hi.run pins s σ H _ I h) fun iv s1 ⟨y, H1, I1, ry, q1⟩ => thn (ho.run pins s1 σ H1 _ I1 q1) fun u s2 ⟨x, H2, I2, rx, a, dx, fs, ex, ea, q2⟩ => ?_
  subst ex
  cases (show u = Value.ref a from rx)
  obtain ⟨ox, od, J⟩ := inst_of I2 ea
  refine wpAny_bind ?_
  unfold contains
  refine wpAny_holding (wpAny_bind (wpAny_bind (J.type.here ((PySem.W.looks_findIn I2.kIn hm.at_).here ?_))))
  rw [if_neg (by simp)]
  refine wpAny_bind (PySem.W.unlessNone_K I2.kIn J hm.at_ hm.fn (wpAny_mono (run_at (vs := [.ref a, y]) F (hr.mono hk) b I2 I2.env0 (.cons rfl (.cons ry .nil)) q2) (fun v s' hv => ?_) fun _ _ z => z))
  obtain ⟨v, H', I', rv, b', rfl, hq⟩ := hv
  cases rv
  refine wpAny_of_eq (a := b') (by first | rfl | simp [truthy]) ?_
  exact wpAny_pure ⟨.bl b', H', I', rfl, hq⟩
end
end Lp
namespace Lp
open PySem PySem.Spec PyProof.Rows L2
/-! ### a + b of two instances, by __add__ -/
theorem binop_own {prog : Program} {w : World} {A : Around} {E : Value → Shared → Prop} {s : Shared} {K : PySem.W.Frag} {x C f : Addr} {ox : Obj} {od : Option Obj} {op : Operator} {b : Value} {Q : Value → Shared → Prop} (kin : K.In s.heap) (J : PySem.W.InstAt s.heap x ox C od) (tb : PySem.W.Looks (model prog w) s.heap (typeOf b) (.ref C)) (sf : PySem.W.selfFirst K C = true)
    (at_ : PySem.W.findIn K (.ref C) (PySem.dunder op.info.2) = some (some (.ref f))) (isf : PySem.W.isFn K (.ref f) = true) (go : wpAny (model prog w) A (call (.ref f) [.ref x, b]) (fun v s' => v ≠ .notImplemented ∧ Q v s') E s) : wpAny (model prog w) A (binaryOp op (.ref x) b) Q E s := by
  obtain ⟨cd, e1, e2⟩ := PySem.W.any_some sf
  have e3 : ∃ rest, cd.mro = .ref C :: rest := by
    cases hq : cd.mro with
    | nil =>
      rw [hq] at e2
      cases e2
    | cons u r =>
      rw [hq, List.head?_cons] at e2
      cases (beq_iff_eq.mp e2)
      exact ⟨r, rfl⟩
  obtain ⟨rest, e3⟩ := e3
  unfold binaryOp
  refine wpAny_holding (wpAny_bind ?_)
  unfold binaryOp1
  refine wpAny_bind (J.type.here (wpAny_bind (tb.here (wpAny_bind ((PySem.W.fills_K kin e1 e3 at_).here ?_)))))
  simp only [beq_self_eq_true, if_true]
  refine wpAny_bind (wpAny_pure ?_)
  simp only [Bool.and_false, Bool.false_eq_true, if_false, Bool.false_and]
  refine wpAny_bind (wpAny_pure ?_)
  simp only [Bool.false_eq_true, if_false]
  refine wpAny_bind (m := tryMethod (.ref x) _ b) ?_
  unfold tryMethod
  refine wpAny_bind (PySem.W.special_fn kin J at_ (beq_iff_eq.mp isf) (wpAny_mono go (fun v s' hv => ?_) fun _ _ z => z))
  obtain ⟨nv, hv⟩ := hv
  cases v <;> first | exact absurd rfl nv | exact wpAny_pure (wpAny_pure (wpAny_pure hv))
section
variable {X : Cx} {k j : Nat} {C : Addr} {sp : Sp}
theorem relV_ni {v : V} {u : Value} (r : RelV v u) : u ≠ .notImplemented := by
  intro e
  subst e
  cases v <;> first | (obtain ⟨_, h⟩ := r; cases h) | cases r | (exact nomatch r)
def rAddO (C : Addr) (sp : Sp) : R2 := fun x y H Q => ∃ (a b dx dy : Addr) (fs gs : List (Str × V)), x = .ref a ∧ y = .ref b ∧ H a = some (.ins C dx fs) ∧ H b = some (.ins C dy gs) ∧ sp [.ref a, .ref b] H Q E0
theorem op_addO (c : Met X.prog X.w X.K X.mg X.base k C "__add__" sp) (hr : Room j X.A) (hk : k ≤ j) (sf : PySem.W.selfFirst X.K C = true) : OpR X (binaryOp .Add) (rAddO C sp) := by
  intro pins s σ H x y v u Q I rx ry h
  obtain ⟨a, b, dx, dy, fs, gs, rfl, rfl, ha, hb, q⟩ := h
  obtain ⟨f, fd, ps, hc, hm, F, bd⟩ := c.ex
  cases (show v = Value.ref a from rx)
  cases (show u = Value.ref b from ry)
  obtain ⟨ox, od, J⟩ := inst_of I ha
  obtain ⟨ox2, od2, J2⟩ := inst_of I hb
  refine binop_own I.kIn J J2.type sf hm.at_ hm.fn (wpAny_mono (run_at (vs := [.ref a, .ref b]) F (hr.mono hk) bd I I.env0 (.cons rfl (.cons rfl .nil)) q) (fun w s' hw => ?_) fun _ _ z => z)
  exact ⟨by obtain ⟨z, _, _, r, _⟩ := hw; exact relV_ni r, hw⟩
end
end Lp
namespace Lp
open PySem PySem.Spec PyProof.Rows L2
/-! ### a == b of two instances, by __eq__ -/
theorem eq_own {prog : Program} {w : World} {A : Around} {E : Value → Shared → Prop} {s : Shared} {K : PySem.W.Frag} {x C f : Addr} {ox : Obj} {od : Option Obj} {op : CmpOp} {b tb : Value} {Q : Value → Shared → Prop} (hu : A.units < cLine) (kin : K.In s.heap) (J : PySem.W.InstAt s.heap x ox C od) (tyb : PySem.W.Looks (model prog w) s.heap (typeOf b) tb)
    (nf : PySem.W.notFirst K C tb = true) (at_ : PySem.W.findIn K (.ref C) (cmpInfo op).2.1 = some (some (.ref f))) (isf : PySem.W.isFn K (.ref f) = true) (go : wpAny (model prog w) A (call (.ref f) [.ref x, b]) (fun v s' => v ≠ .notImplemented ∧ Q v s') E s) : wpAny (model prog w) A (richCompare op (.ref x) b) Q E s := by
  have mine : wpAny (model prog w) A (tryCompare (.ref x) (cmpInfo op).2.1 b) (fun r s' => ∃ v, r = some v ∧ Q v s') E s := by
    unfold tryCompare
    refine wpAny_bind (PySem.W.ifBound_K kin J at_ isf (wpAny_mono go (fun v s' hv => ?_) fun _ _ z => z))
    obtain ⟨nv, hv⟩ := hv
    cases v <;> first | exact absurd rfl nv | exact wpAny_pure ⟨_, rfl, hv⟩
  have last : ∀ {g : Option Value → Sem Value}, (∀ v, g (some v) = pure v) → wpAny (model prog w) A (tryCompare (.ref x) (cmpInfo op).2.1 b >>= g) Q E s := fun {g} hg => wpAny_bind (wpAny_mono mine (fun r s' ⟨v, er, hq⟩ => by rw [er, hg]; exact wpAny_pure hq) fun _ _ z => z)
  unfold richCompare
  simp only [oneThing_ref]
  refine wpAny_holding (wpAny_bind (wpAny_cRoomFor hu ?_))
  refine wpAny_bind (J.type.here (wpAny_bind (tyb.here ?_)))
  split
  · rename_i q
    have sb : PySem.W.subIn K tb (.ref C) = some false := by
      rcases Bool.or_eq_true_iff.mp nf with z | z
      · rw [beq_iff_eq.mp z] at q
        simp at q
      · exact beq_iff_eq.mp z
    refine wpAny_bind ((PySem.W.looks_subIn kin sb).here ?_)
    simp only [Bool.false_eq_true, if_false]
    exact last fun v => rfl
  · refine wpAny_bind (wpAny_pure ?_)
    simp only [Bool.false_eq_true, if_false]
    exact last fun v => rfl
section
variable {X : Cx} {k j : Nat} {C : Addr} {sp : Sp}
theorem op_eqO (c : Met X.prog X.w X.K X.mg X.base k C "__eq__" sp) (hr : Room j X.A) (hk : k ≤ j) (nf : PySem.W.notFirst X.K C (.ref C) = true) : OpR X (compareOp .Eq) (rAddO C sp) := by
  intro pins s σ H x y v u Q I rx ry h
  obtain ⟨a, b, dx, dy, fs, gs, rfl, rfl, ha, hb, q⟩ := h
  obtain ⟨f, fd, ps, hc, hm, F, bd⟩ := c.ex
  cases (show v = Value.ref a from rx)
  cases (show u = Value.ref b from ry)
  obtain ⟨ox, od, J⟩ := inst_of I ha
  obtain ⟨ox2, od2, J2⟩ := inst_of I hb
  have hu : X.A.units < cLine := by have := hr.units; omega
  show wpAny _ X.A (richCompare .Eq _ _) _ _ s
  refine eq_own (op := .Eq) hu I.kIn J J2.type nf hm.at_ hm.fn (wpAny_mono (run_at (vs := [.ref a, .ref b]) F (hr.mono hk) bd I I.env0 (.cons rfl (.cons rfl .nil)) q) (fun w s' hw => ?_) fun _ _ z => z)
  exact ⟨by obtain ⟨z, _, _, r, _⟩ := hw; exact relV_ni r, hw⟩
end
end Lp
set_option Elab.async false
set_option linter.all false
set_option maxRecDepth 100000
set_option maxHeartbeats 1000000
namespace Lp
open PySem PySem.Spec PyProof.Rows L2
/-! ### x(e, ..) of an instance, by __call__ -/
theorem inst_plain {X : Cx} {C : Addr} {pins : List (Addr × Obj)} {σ : L2.St} {H : Hp} {s : Shared} {a dx : Addr} {fs : List (Str × V)} (I : Inv X pins σ H s) (e : H a = some (.ins C dx fs)) : ∃ ox od, PySem.W.InstAt s.heap a ox C od ∧ ox.data = .plain := by
  obtain ⟨mA, O, _⟩ := ins_get I.hok e
  obtain ⟨od, J, _⟩ := O.look
  exact ⟨_, _, J, rfl⟩
theorem callWith_obj {M : Model} {A : Around} {E : Value → Shared → Prop} {s : Shared} {pos : Pos} {x : Addr} {first : List Value} {Q : Value → Shared → Prop} {args : List (Bool × Sem Value)} {kws : List (Option Str × Sem Value)} (hp : (args.any (·.1) || kws.any (·.1.isNone)) = false)
    (h : wpAny M A (evalArgs (.ref x) true args kws) (fun a s₁ => (∃ C ox od, PySem.W.InstAt s₁.heap x ox C od ∧ ox.data = .plain) ∧ wpAny M A (call (.ref x) (first ++ a.pos) a.kw) Q E s₁) E s) : wpAny M A (callWith pos (.ref x) first args kws) Q E s := by
  unfold callWith
  refine wpAny_bind (wpAny_holding (wpAny_mono h (fun a s₁ ⟨⟨C, ox, od, J, hd⟩, hq⟩ => wpAny_bind (wpAny_standAt ?_)) fun _ _ z => z))
  have kl := PySem.W.kco_keeper (M := M) J hd
  simp only [hp]
  refine wpAny_bind (kl.here ?_)
  have tl : ∀ {t : Sem Value}, wpAny M A t Q E s₁ → wpAny M A (t >>= fun r => holding [r] point >>= fun _ => pure r) Q E s₁ :=
    fun ht => wpAny_bind (wpAny_mono ht (fun r s₂ hr => wpAny_bind (wpAny_holding (wpAny_point (wpAny_pure hr)))) fun _ _ z => z)
  exact tl (wpAny_operateT hq)
section
variable {X : Cx} {k j i : Nat} {C : Addr} {sp : Sp} {x : Str} {p pos : Pos} {e : Expr} {es : List Expr} {t : TA}
def tCallO (i : Nat) (C : Addr) (sp : Sp) (t : TA) : TE := fun σ H Q => ∃ a : Addr, σ[i]? = some (some (.ref a)) ∧ t σ H fun vs H1 => ∃ (dx : Addr) (fs : List (Str × V)), H1 a = some (.ins C dx fs) ∧ sp (.ref a :: vs) H1 Q E0
theorem pe_callO (c : Met X.prog X.w X.K X.mg X.base k C "__call__" sp) (fi : ∀ f, PySem.W.findIn X.K (.ref C) "__call__" = some (some (.ref f)) → PySem.W.fnIn X.K f = true) (hr : Room j X.A) (hk : k ≤ j) (hN : X.N[i]? = some x) (hv : Vis X.env.scope x) (ha : PA X (e :: es) t)
    (hdb : (x == ("__debug__" : Str)) = false := by decide) (hcd : (x == ("__classdict__" : Str)) = false := by decide)
    (he : starEach (e :: es) X.env = (false, eval e X.env) :: starEach es X.env := by rfl) (hpl : (backTo pos (starEach es X.env)).any (·.1) = false := by rfl) : PE X (.Call (.Name x p) (e :: es) [] pos) (tCallO i C sp t) := by
  obtain ⟨f, fd, ps, hc, hm, F, b⟩ := c.ex
  refine ⟨fun pins s σ H Q I h => ?_⟩
  obtain ⟨a, hs, ht⟩ := h
  refine wpAny_Call_Name_kw (thn ((pe_var (pos := p) hN hv hdb hcd).run pins s σ H (fun v H1 => v = .ref a ∧ H1 = H) I ⟨.ref a, hs, rfl, rfl⟩) fun u s1 ⟨v, H1, I1, r1, q1⟩ => ?_)
  obtain ⟨rfl, rfl⟩ := q1
  cases r1
  have go := ha.run pos pins s1 σ _ _ I1 ht
  rw [he] at go ⊢
  refine callWith_obj (by show ((false || (backTo pos (starEach es X.env)).any (·.1)) || false) = false; rw [hpl]; rfl) (Calls.evalArgs_plain ?_)
  refine thn go fun us s2 ⟨vs, H2, I2, r, dx, fs, ea, q⟩ => ?_
  obtain ⟨ox, od, J, hd⟩ := inst_plain I2 ea
  refine ⟨⟨C, ox, od, J, hd⟩, ?_⟩
  have rr : Vals (.ref a :: vs) (.ref a :: us) := .cons rfl r
  have hl : (Value.ref a :: us).length = ps.length := by rw [← rr.length]; exact F.len _ _ _ _ q
  have bd := b s2 (.ref a :: us) I2.kIn (by rw [List.append_nil]; exact hl)
  rw [List.append_nil] at bd
  refine wpAny_call (PySem.W.kco_code I2.kIn J hd hm.at_ hm.fn (fi f hm.at_) (codeAny_mono (F.run X.A X.stack s2 H2 ⟨.ref a :: us, []⟩ (.ref a :: us) (.ref a :: vs) Q E0 (hr.mono hk) I2.env0 bd rr q) fun r s' hq => ?_))
  cases r with
  | error e => exact hq.elim
  | ok fl =>
    cases fl with
    | ret u => exact I2.after hq
    | next => exact False.elim hq
    | brk => exact False.elim hq
    | cont => exact False.elim hq
end
end Lp
set_option Elab.async false
set_option linter.all false
set_option maxRecDepth 100000
set_option maxHeartbeats 1000000
namespace Lp
open PySem PySem.Spec PyProof.Rows L2
/-! ### sorted(d) of a dict with int keys, any number of them -/
def rSortedDIO : List V → Hp → VK → Prop := fun xs H Q => ∃ (a : Addr) (kvs : List (Key × V)) (ks : List Int), xs = [.ref a] ∧ Rd H a (.dK kvs) ∧ kvs.map (·.1) = ks.map Sum.inl ∧
  ∀ (ys : List Int) (p : Addr), ys.Perm ks → ys.Pairwise (· ≤ ·) → H p = none → Q (.ref p) (upd H p (.lst (ys.map V.int)))
theorem call_sortedDIO {X : Cx} (hcalm : X.calm = true) : CallR X (.builtin "sorted") rSortedDIO := by
  intro pins s σ H xs us Q I r q
  obtain ⟨a, kvs, ks, ex, hd, hks, q⟩ := q
  subst ex
  obtain ⟨u, eu, rx⟩ := vals1 r
  subst eu
  cases rx
  obtain ⟨z, lo, vs, rel, dd⟩ := dk_rd I.hok hd
  obtain ⟨ep, hat⟩ := dd.dictAt
  have hkeys : vs.map (·.1) = ks.map Sum.inl := rel.keys.symm.trans hks
  have hl : vs.length = ks.length := by
    have e := congrArg List.length hkeys
    rw [List.length_map, List.length_map] at e
    exact e
  have hl2 : kvs.length = ks.length := by
    have e := congrArg List.length hks
    rw [List.length_map, List.length_map] at e
    exact e
  have h16 : vs.length ≤ sizeLine := by rw [hl, ← hl2]; exact z
  refine Calls.call_function_entry PyProof.Rows.kind_sorted PyProof.Rows.plain_sorted PyProof.Rows.entry_sorted (PyProof.Rows.args_sorted1 _) ?_
  unfold Builtin.«sorted»
  refine wpAny_bind (m := checkCount "sorted" 1 1 _) (wpAny_pure ?_)
  refine wpAny_bind (PySem.W.kdu_collect (A := X.A.in1) (PySem.W.kdl_dict (knd := mixKind X.prog X.w) (kvs := vs) (ep := ep) lo) (I.ok.hd hcalm) hat h16 fun h' tk acc hk hacc => ?_)
  have hal : acc.toList.length = ks.length := by rw [Array.length_toList, hacc.1, hl]
  have hS : IntsAre acc.toList ks := ints_each hal fun j v e => by
    obtain ⟨k, x, e1, e2⟩ := hacc.2 j v (by rw [← Array.getElem?_toList]; exact e)
    have e3 : (vs.map (·.1))[j]? = some k := by rw [List.getElem?_map, e1]; rfl
    rw [hkeys, List.getElem?_map] at e3
    cases e4 : ks[j]? with
    | none => rw [e4] at e3; cases e3
    | some y =>
      rw [e4] at e3
      have e5 : Sum.inl y = k := Option.some.inj e3
      subst e5
      rcases keyIs_shape (show keyIs (Sum.inl y) v = true from e2) with ⟨i, t, ek, ev⟩ | ⟨z, t, ek, ev⟩
      · cases ek
        exact ⟨y, t, rfl, ev⟩
      · cases ek
  have I1 : Inv X pins σ H { s with heap := h', toks := tk } := I.kept hk
  have hz2 : acc.toList.length ≤ sizeLine := by rw [hal, ← hl2]; exact z
  refine wpAny_bind (wpAny_newList ?_ hz2)
  have hoL : (h'.push (seqObj "list" acc.toList.toArray 0)).get? h'.objs.size = some (seqObj "list" acc.toList.toArray 0) := Heap.get?_push_size _ rfl
  show wpAny _ _ _ _ _ { s with heap := h'.push (seqObj "list" acc.toList.toArray 0), toks := tk }
  refine wpAny_bind (wpAny_holding (wpAny_call_entry PyProof.Rows.slot_list_sort ⟨_, hoL, rfl⟩ PyProof.Rows.entry_list_sort
    (SrtO.list_sort_ord (s := { s with heap := h'.push (seqObj "list" acc.toList.toArray 0), toks := tk }) SrtO.swo_int hoL hz2 (fun h2 => SrtO.ints_sortable hS h2) fun out g1 g2 => ⟨_, rfl, ?_⟩) (PyProof.Rows.args_list_sort _)))
  obtain ⟨k1, k2, k3⟩ := SrtO.ints_out hS g1 g2
  obtain ⟨e', he'⟩ := PyProof.Rows.sortedHeap_at (vs := acc.toList) (out := out.toArray) hoL
  have hlen : ((out.map SrtO.iv).map V.int).length ≤ sizeLine := by
    rw [List.length_map, k2.length_eq, ← hl2]
    exact z
  refine wpAny_pure ⟨_, rfl, .ref h'.objs.size, upd H h'.objs.size (.lst ((out.map SrtO.iv).map V.int)), I1.laid (t' := tk) (fun b u e => ?_) (Nat.le_refl _)
    (show ObjOk X.prog X.w _ _ _ (.lst ((out.map SrtO.iv).map V.int)) from ⟨hlen, out, e', vals_of_ints k1, he'⟩), rfl, q _ _ k2 k3 (I1.hok.fresh (Nat.le_refl _))⟩
  have hb : b < h'.objs.size := Heap.lt_size e
  rw [PyProof.Rows.sortedHeap_old (Nat.ne_of_lt hb) (by rw [size_push']; exact Nat.lt_succ_of_lt hb)]
  exact Heap.get?_push_of_some _ e
end Lp
set_option Elab.async false
set_option linter.all false
set_option maxRecDepth 100000
set_option maxHeartbeats 1000000
namespace Lp
open PySem PySem.Spec PyProof.Rows L2 L2.DX
/-! ### d.items() and sorted(d.items()) of a dict of ints by ints, any number of them -/
def rItemsI : V → List V → Hp → VK → Prop := fun x xs H Q => ∃ (a : Addr) (kvs : List (Key × V)), x = .ref a ∧ xs = [] ∧ H a = some (.dK kvs) ∧ ∀ p, H p = none → Q (.ref p) (upd H p (itemsO p a))
theorem mt_itemsI {X : Cx} : MtR X "dict.items" rItemsI := by
  intro pins s σ H x xs v us Q I rx rxs h
  obtain ⟨a, kvs, rfl, rfl, ha, q⟩ := h
  cases rx
  cases rxs
  obtain ⟨z, hd, vs, rel, dd⟩ := dk_of I.hok ha
  obtain ⟨o, es, ep, ho, hx, hdat, _⟩ := dd
  refine DT.callItems (es := es) (ep := ep) hd ⟨o, ho, hx, hdat⟩ ?_
  have hf : H s.heap.objs.size = none := I.hok.fresh (Nat.le_refl _)
  exact ⟨.ref s.heap.objs.size, upd H s.heap.objs.size (itemsO s.heap.objs.size a), I.laid (t' := s.toks) (fun b u e => Heap.get?_push_of_some _ e) (Nat.le_refl _) (itemsO_ok (Heap.get?_push_size _ rfl)), rfl, q _ hf⟩
abbrev entI (e : Int × Int) : Key × V := (Sum.inl e.1, V.int e.2)
def rSortItI : List V → Hp → VK → Prop := fun vs H Q => ∃ (p a : Addr) (ks : List (Int × Int)), vs = [.ref p] ∧ H p = some (itemsO p a) ∧ H a = some (.dK (ks.map entI)) ∧
  ∀ (H' : Hp) (l : Addr) (ps : List (Addr × Int × Int)), (∀ b o, H b = some o → H' b = some o) → (ps.map (·.2)).Perm ks → (ps.map (·.2)).Pairwise (fun e f => e.1 ≤ f.1) → H' l = some (.lst (ps.map fun z => V.ref z.1)) →
    (∀ z ∈ ps, H' z.1 = some (.tup [.int z.2.1, .int z.2.2])) → H l = none → (∀ z ∈ ps, H z.1 = none) → Q (.ref l) H'
def pairOf (as : List Addr) (ks : List (Int × Int)) : Value → Int × Int
  | .ref b => (ks[as.idxOf b]?).getD (0, 0)
  | _ => (0, 0)
theorem pairOf_at {as : List Addr} {ks : List (Int × Int)} (nd : as.Nodup) {j : Nat} {b : Addr} {e : Int × Int} (hj : as[j]? = some b) (he : ks[j]? = some e) : pairOf as ks (.ref b) = e := by
  obtain ⟨hl, hb⟩ := List.getElem?_eq_some_iff.mp hj
  have hi : as.idxOf b = j := by
    subst hb
    exact nd.idxOf_getElem j hl
  show (ks[as.idxOf b]?).getD (0, 0) = e
  rw [hi, he]
  rfl
theorem pairOf_all {as : List Addr} {ks : List (Int × Int)} (nd : as.Nodup) (hl : as.length = ks.length) : as.map (fun b => pairOf as ks (.ref b)) = ks := by
  refine List.ext_getElem? fun j => ?_
  rw [List.getElem?_map]
  cases hj : as[j]? with
  | none =>
    have h1 := List.getElem?_eq_none_iff.mp hj
    exact (List.getElem?_eq_none (by omega)).symm
  | some b =>
    obtain ⟨h1, _⟩ := List.getElem?_eq_some_iff.mp hj
    have he : ks[j]? = some (ks[j]'(by omega)) := List.getElem?_eq_getElem (by omega)
    rw [he]
    exact congrArg some (pairOf_at nd hj he)
def adOf : Value → Addr
  | .ref b => b
  | _ => 0
theorem adOf_ref : ∀ {out : List Value}, (∀ v ∈ out, ∃ b, v = Value.ref b) → out = (out.map adOf).map Value.ref
  | [], _ => rfl
  | v :: out, h => by
    obtain ⟨b, rfl⟩ := h v List.mem_cons_self
    show Value.ref b :: out = Value.ref b :: (out.map adOf).map Value.ref
    rw [← adOf_ref fun u hu => h u (List.mem_cons_of_mem _ hu)]
theorem adOf_map (as : List Addr) : (as.map Value.ref).map adOf = as := by
  rw [List.map_map]
  exact List.map_id as
theorem cr_sortedItemsI {X : Cx} (hc : X.calm = true) : CallR X (.builtin "sorted") rSortItI := by
  intro pins s σ H xs us Q I r h
  obtain ⟨p, a, ks, rfl, hp, ha, q⟩ := h
  obtain rfl := Vals.ref1 r
  have view : s.heap.IsItemsView p a := (show ObjOk X.prog X.w H s.heap p (itemsO p a) from I.hok p _ hp).1
  obtain ⟨z, hd, vs, rel, o, es, ep, ho, hx, hdat, hes, hprs, hn⟩ := dk_of I.hok ha
  have l1 : (ks.map entI).length = vs.length := rel.length
  have l0 : (ks.map entI).length = ks.length := List.length_map ..
  have l2 : es.size = vs.length := by rw [← hprs.length]; simp
  have hh : X.A.handled = none := I.ok.hd hc
  refine DT.sortedI (es := es) (ep := ep) hh view ⟨o, ho, hx, hdat⟩ (by omega) fun h' tk as hk hlt hl hG => ?_
  have lak : as.length = ks.length := by omega
  have nd : as.Nodup := List.Pairwise.imp (fun h => Nat.ne_of_lt h) hG.rise
  -- the pairs that were made
  have pr : ∀ (j : Nat) (b : Addr), as[j]? = some b → ∃ (e : Int × Int) (t1 t2 : Tok), ks[j]? = some e ∧ h'.get? b = some { cls := .type "tuple", data := .seq #[Value.int e.1 t1, Value.int e.2 t2] } := by
    intro j b hj
    obtain ⟨en, he, hg⟩ := hG.pairs j b hj
    obtain ⟨hjl, _⟩ := List.getElem?_eq_some_iff.mp hj
    have hkj : ks[j]? = some (ks[j]'(by omega)) := List.getElem?_eq_getElem (by omega)
    have hvj : vs[j]? = some (vs[j]'(by omega)) := List.getElem?_eq_getElem (by omega)
    obtain ⟨e1, e2⟩ := hprs.get? (e := en) (by rw [Array.getElem?_toList]; exact he) (show vs[j]? = some ((vs[j]'(by omega)).1, (vs[j]'(by omega)).2) from hvj)
    obtain ⟨x, hx1, hx2⟩ := KV.at' rel (show vs[j]? = some ((vs[j]'(by omega)).1, (vs[j]'(by omega)).2) from hvj)
    rw [List.getElem?_map, hkj] at hx1
    have e3 := Option.some.inj hx1
    have e4 : Sum.inl (ks[j]'(by omega)).1 = (vs[j]'(by omega)).1 := congrArg Prod.fst e3
    have e5 : V.int (ks[j]'(by omega)).2 = x := congrArg Prod.snd e3
    subst e5
    obtain ⟨t2, e6⟩ := hx2
    rw [← e4] at e1
    rcases keyIs_shape (show keyIs (Sum.inl (ks[j]'(by omega)).1) en.key = true from e1) with ⟨i, t, ek, ev⟩ | ⟨z, t, ek, ev⟩
    · cases ek
      refine ⟨_, t, t2, hkj, ?_⟩
      rw [hg, ev, e2, e6]
    · cases ek
  have hob : (h'.push { cls := .type "list", data := .seq (as.map Value.ref).toArray }).get? h'.objs.size = some (seqObj "list" (as.map Value.ref).toArray 0) := Heap.get?_push_size _ rfl
  have kb : ∀ b o, s.heap.get? b = some o → (h'.push { cls := .type "list", data := .seq (as.map Value.ref).toArray }).get? b = some o := fun b o e => Heap.get?_push_of_some _ (hk b o e)
  have ne0 : ∀ b o, h'.get? b = some o → b ≠ h'.objs.size := fun b o e => Nat.ne_of_lt (Heap.lt_size e)
  generalize hh2 : h'.push { cls := .type "list", data := .seq (as.map Value.ref).toArray } = h2 at hob kb ⊢
  have ka : ∀ b o, h'.get? b = some o → h2.get? b = some o := fun b o e => by rw [← hh2]; exact Heap.get?_push_of_some _ e
  have at_ : ∀ v ∈ as.map Value.ref, ∃ (j : Nat) (b : Addr), v = .ref b ∧ as[j]? = some b := by
    intro v hv'
    obtain ⟨b, hb, rfl⟩ := List.mem_map.mp hv'
    obtain ⟨j, hj⟩ := List.mem_iff_getElem?.mp hb
    exact ⟨j, b, rfl, hj⟩
  have isp : ∀ v ∈ as.map Value.ref, Srt.IsPair h2 v (pairOf as ks v).1 (pairOf as ks v).2 := by
    intro v hv'
    obtain ⟨j, b, rfl, hj⟩ := at_ v hv'
    obtain ⟨e, t1, t2, he, hg⟩ := pr j b hj
    rw [pairOf_at nd hj he]
    exact ⟨b, _, t1, t2, _, rfl, ka _ _ hg, rfl, rfl⟩
  have hz2 : (as.map Value.ref).length ≤ sizeLine := by rw [List.length_map]; omega
  refine wpAny_call_entry PyProof.Rows.slot_list_sort ⟨_, hob, rfl⟩ PyProof.Rows.entry_list_sort
    (SrtO.list_sort_ord (s := { s with heap := h2, toks := tk }) (SrtO.swo_lex (pairOf as ks)) hob hz2 (fun h2' => SrtO.pairs_sortableO (s := { s with heap := h2, toks := tk }) (by omega) isp fun o e => ?_) fun out o1 o2 => ⟨.none, rfl, ?_⟩) (PyProof.Rows.args_list_sort _)
  · have e' : some o = some (seqObj "list" (as.map Value.ref).toArray 0) := e.symm.trans hob
    cases e'
    intro c
    exact absurd (Value.type.inj c) (by decide)
  · show EP X pins σ Q (.ref h'.objs.size) { s with heap := sortedHeap h2 h'.objs.size (as.map Value.ref) out.toArray, toks := tk }
    have rfs : ∀ v ∈ out, ∃ b, v = Value.ref b := fun v hv => by
      obtain ⟨_, b, e, _⟩ := at_ v (o2.perm.mem_iff.mp hv)
      exact ⟨b, e⟩
    have eo := adOf_ref rfs
    have pz : (out.map adOf).Perm as := by
      have e := o2.perm.map adOf
      rw [adOf_map] at e
      exact e
    generalize hzs : out.map adOf = zs at eo pz
    have hall := pairOf_all nd lak
    have hperm : (zs.map fun b => pairOf as ks (.ref b)).Perm ks := by
      have e := pz.map fun b => pairOf as ks (.ref b)
      rw [hall] at e
      exact e
    have hsort : (zs.map fun b => pairOf as ks (.ref b)).Pairwise (fun e f => e.1 ≤ f.1) := by
      rw [eo] at o1
      have o3 := List.pairwise_map.mp (show ((zs.map Value.ref).Pairwise fun x y => SrtO.lexB (pairOf as ks y) (pairOf as ks x) = false) from o1)
      refine List.pairwise_map.mpr (o3.imp fun {x y} h => ?_)
      have h' := SrtO.lexB_no.mp h
      omega
    -- behind the sort
    have kF : ∀ b o, b ≠ h'.objs.size → h2.get? b = some o → (sortedHeap h2 h'.objs.size (as.map Value.ref) out.toArray).get? b = some o := fun b o hb e => (PyProof.Rows.sortedHeap_old hb (Heap.lt_size e)).trans e
    have kS : ∀ b o, s.heap.get? b = some o → (sortedHeap h2 h'.objs.size (as.map Value.ref) out.toArray).get? b = some o := fun b o e => kF b o (ne0 _ _ (hk b o e)) (kb b o e)
    obtain ⟨eF, heF⟩ := PyProof.Rows.sortedHeap_at (vs := as.map Value.ref) (out := out.toArray) hob
    have I1 : Inv X pins σ H { s with heap := sortedHeap h2 h'.objs.size (as.map Value.ref) out.toArray, toks := tk } := I.kept (t' := tk) kS
    have hn0 : H h'.objs.size = none := I.hok.fresh (Nat.le_of_lt hlt)
    have hlen : (zs.map fun z => V.ref z).length ≤ sizeLine := by
      have e := hperm.length_eq
      rw [List.length_map] at e
      rw [List.length_map]
      omega
    have rv : Vals (zs.map fun z => V.ref z) out := by
      rw [eo]
      exact vals_maps (fun z : Addr => V.ref z) (fun z => Value.ref z) zs fun _ _ => rfl
    have I2 : Inv X pins σ (upd H h'.objs.size (.lst (zs.map fun z => V.ref z))) { s with heap := sortedHeap h2 h'.objs.size (as.map Value.ref) out.toArray, toks := tk } :=
      I1.take (h' := sortedHeap h2 h'.objs.size (as.map Value.ref) out.toArray) (t' := tk) (fun b ob _ e => e) (I.fpOk (Nat.le_of_lt hlt) hn0) ⟨hlen, out, eF, rv, heF⟩
    obtain ⟨H2, I3, g, qt⟩ := takeT (P := fun b vs => vs = [V.int (pairOf as ks (.ref b)).1, V.int (pairOf as ks (.ref b)).2]) I as _ I2 nd fun b hb => by
      obtain ⟨j, hj⟩ := List.mem_iff_getElem?.mp hb
      obtain ⟨e, t1, t2, he, hg⟩ := pr j b hj
      have hbl : s.heap.objs.size ≤ b := Nat.le_of_lt (hG.above b hb)
      refine ⟨hbl, ?_, _, rfl, fun H3 => ⟨(by rw [sizeLine_eq]; show 2 ≤ 16777216; omega), [Value.int e.1 t1, Value.int e.2 t2], ?_, ⟨_, kF _ _ (ne0 _ _ hg) (ka _ _ hg), rfl, 0, rfl⟩⟩⟩
      · rw [upd_ne (ne0 _ _ hg)]
        exact I.hok.fresh hbl
      · rw [pairOf_at nd hj he]
        exact .cons ⟨t1, rfl⟩ (.cons ⟨t2, rfl⟩ .nil)
    have gr : ∀ b o, H b = some o → H2 b = some o := fun b o e => g b o (by rw [upd_ne (ne_of_none e hn0)]; exact e)
    have em : (zs.map fun b => (b, pairOf as ks (.ref b))).map (·.2) = zs.map fun b => pairOf as ks (.ref b) := by
      rw [List.map_map]
      all_goals rfl
    have em1 : ((zs.map fun b => (b, pairOf as ks (.ref b))).map fun z => V.ref z.1) = zs.map fun z => V.ref z := by
      rw [List.map_map]
      all_goals rfl
    refine ⟨.ref h'.objs.size, H2, I3, rfl, q H2 h'.objs.size (zs.map fun b => (b, pairOf as ks (.ref b))) gr (by rw [em]; exact hperm) (by rw [em]; exact hsort) (by rw [em1]; exact g _ _ upd_same) (fun z' hz' => ?_) hn0 fun z' hz' => ?_⟩
    · obtain ⟨b, hb, rfl⟩ := List.mem_map.mp hz'
      obtain ⟨vs', ev, hH⟩ := qt b (pz.mem_iff.mp hb)
      rw [ev] at hH
      exact hH
    · obtain ⟨b, hb, rfl⟩ := List.mem_map.mp hz'
      exact I.hok.fresh (Nat.le_of_lt (hG.above b (pz.mem_iff.mp hb)))
end Lp
set_option Elab.async false
set_option linter.all false
set_option maxRecDepth 100000
set_option maxHeartbeats 1000000
namespace Lp
open PySem PySem.Spec PyProof.Rows L2
/-! ### y not in x: by __contains__ of an own class -/
section
variable {X : Cx} {k j : Nat} {C : Addr} {sp : Sp}
theorem pc_notinO {i o : Expr} {ty td : TE} (c : Met X.prog X.w X.K X.mg X.base k C "__contains__" sp) (hr : Room j X.A) (hk : k ≤ j) (hi : PE X i ty) (ho : PE X o td) : PC X .NotIn i o (tInO C sp ty td true) := by
  obtain ⟨f, fd, ps, hc, hm, F, b⟩ := c.ex
  refine ⟨fun pins s σ H Q I h => ?_⟩
  refine thn (hi.run pins s σ H _ I h) fun iv s1 ⟨y, H1, I1, ry, q1⟩ => thn (ho.run pins s1 σ H1 _ I1 q1) fun u s2 ⟨x, H2, I2, rx, a, dx, fs, ex, ea, q2⟩ => ?_
  subst ex
  cases (show u = Value.ref a from rx)
  obtain ⟨ox, od, J⟩ := inst_of I2 ea
  refine wpAny_bind ?_
  unfold contains
  refine wpAny_holding (wpAny_bind (wpAny_bind (J.type.here ((PySem.W.looks_findIn I2.kIn hm.at_).here ?_))))
  rw [if_neg (by simp)]
  refine wpAny_bind (PySem.W.unlessNone_K I2.kIn J hm.at_ hm.fn (wpAny_mono (run_at (vs := [.ref a, y]) F (hr.mono hk) b I2 I2.env0 (.cons rfl (.cons ry .nil)) q2) (fun v s' hv => ?_) fun _ _ z => z))
  obtain ⟨v, H', I', rv, b', rfl, hq⟩ := hv
  cases rv
  refine wpAny_of_eq (a := b') (by first | rfl | simp [truthy]) ?_
  exact wpAny_pure ⟨.bl (!b'), H', I', rfl, hq⟩
end
end Lp
set_option Elab.async false
set_option linter.all false
set_option maxRecDepth 100000
set_option maxHeartbeats 1000000
namespace Lp
open PySem PySem.Spec PyProof.Rows L2 L2.DX
/-! ### x(e, ..) and x(k = e) of an instance, by __call__; x any expression -/
structure MetK (P : Program) (w : World) (K : PySem.W.Frag) (mg : Str → Option Value) (base : Heap) (k : Nat) (C : Addr) (m : Str) (n : Nat) (ks : List Str) (gV : List V → List V → List V) (sp : Sp) : Prop where
  ex : ∃ (f : Addr) (fd : FuncData) (ps : List Str) (g : List Value → List Value → List Value), Cls K C ∧ Meth K C m f ∧ FnOk P w K mg base CX0 k f fd ps sp ∧ KBn K fd ps n ks g gV
section
variable {X : Cx} {k j : Nat} {C : Addr} {sp : Sp} {p pos : Pos} {fe e : Expr} {es : List Expr} {t tk' : TA} {tf : TE} {kws : List Keyword} {ks : List Str} {gV : List V → List V → List V}
def tCallE (C : Addr) (sp : Sp) (tf : TE) (t : TA) : TE := fun σ H Q => tf σ H fun x H1 => ∃ a : Addr, x = .ref a ∧ t σ H1 fun vs H2 => ∃ (dx : Addr) (fs : List (Str × V)), H2 a = some (.ins C dx fs) ∧ sp (.ref a :: vs) H2 Q E0
theorem pe_callE (c : Met X.prog X.w X.K X.mg X.base k C "__call__" sp) (fi : ∀ f, PySem.W.findIn X.K (.ref C) "__call__" = some (some (.ref f)) → PySem.W.fnIn X.K f = true) (hr : Room j X.A) (hk : k ≤ j) (hf : PE X fe tf) (ha : PA X (e :: es) t)
    (hc : eval (.Call fe (e :: es) [] pos) X.env = (do callWith pos (← eval fe X.env) [] (backTo pos (starEach (e :: es) X.env)) (backToKw pos (keywordEach [] X.env))) := by rfl)
    (he : starEach (e :: es) X.env = (false, eval e X.env) :: starEach es X.env := by rfl) (hpl : (backTo pos (starEach es X.env)).any (·.1) = false := by rfl) : PE X (.Call fe (e :: es) [] pos) (tCallE C sp tf t) := by
  obtain ⟨f, fd, ps, hc', hm, F, b⟩ := c.ex
  refine ⟨fun pins s σ H Q I h => ?_⟩
  refine Call_ (thn (hf.run pins s σ H _ I h) fun u s1 ⟨v, H1, I1, r1, a, ev, ht⟩ => ?_) hc
  subst ev
  cases (show u = Value.ref a from r1)
  have go := ha.run pos pins s1 σ _ _ I1 ht
  rw [he] at go ⊢
  refine callWith_obj (by show ((false || (backTo pos (starEach es X.env)).any (·.1)) || false) = false; rw [hpl]; rfl) (Calls.evalArgs_plain ?_)
  refine thn go fun us s2 ⟨vs, H2, I2, r, dx, fs, ea, q⟩ => ?_
  obtain ⟨ox, od, J, hd⟩ := inst_plain I2 ea
  refine ⟨⟨C, ox, od, J, hd⟩, ?_⟩
  have rr : Vals (.ref a :: vs) (.ref a :: us) := .cons rfl r
  have hl : (Value.ref a :: us).length = ps.length := by rw [← rr.length]; exact F.len _ _ _ _ q
  have bd := b s2 (.ref a :: us) I2.kIn (by rw [List.append_nil]; exact hl)
  rw [List.append_nil] at bd
  refine wpAny_call (PySem.W.kco_code I2.kIn J hd hm.at_ hm.fn (fi f hm.at_) (codeAny_mono (F.run X.A X.stack s2 H2 ⟨.ref a :: us, []⟩ (.ref a :: us) (.ref a :: vs) Q E0 (hr.mono hk) I2.env0 bd rr q) fun r s' hq => ?_))
  cases r with
  | error e => exact hq.elim
  | ok fl =>
    cases fl with
    | ret u => exact I2.after hq
    | next => exact False.elim hq
    | brk => exact False.elim hq
    | cont => exact False.elim hq
def tCallEK (C : Addr) (m : Nat) (sp : Sp) (gV : List V → List V → List V) (tf : TE) (t : TA) : TE := fun σ H Q => tf σ H fun x H1 => ∃ a : Addr, x = .ref a ∧ t σ H1 fun zs H2 => ∃ (dx : Addr) (fs : List (Str × V)), zs.length = m ∧ H2 a = some (.ins C dx fs) ∧ sp (gV [.ref a] zs) H2 Q E0
theorem pe_callEK (c : MetK X.prog X.w X.K X.mg X.base k C "__call__" 1 ks gV sp) (fi : ∀ f, PySem.W.findIn X.K (.ref C) "__call__" = some (some (.ref f)) → PySem.W.fnIn X.K f = true) (hr : Room j X.A) (hk : k ≤ j) (hf : PE X fe tf) (hkw : PK X kws tk')
    (hc : eval (.Call fe [] kws pos) X.env = (do callWith pos (← eval fe X.env) [] (backTo pos (starEach [] X.env)) (backToKw pos (keywordEach kws X.env))) := by rfl)
    (hall : (backToKw pos (keywordEach kws X.env)).all (·.1.isSome) = true := by rfl) (hks : (backToKw pos (keywordEach kws X.env)).filterMap (·.1) = ks := by rfl)
    (hpl : ((backTo pos (starEach [] X.env)).any (·.1) || (backToKw pos (keywordEach kws X.env)).any (·.1.isNone)) = false := by rfl) : PE X (.Call fe [] kws pos) (tCallEK C ks.length sp gV tf tk') := by
  obtain ⟨f, fd, ps, g, hc', hm, F, b⟩ := c.ex
  refine ⟨fun pins s σ H Q I h => ?_⟩
  rw [hc]
  refine wpAny_bind (thn (hf.run pins s σ H _ I h) fun u s1 ⟨v, H1, I1, r1, a, ev, ht⟩ => ?_)
  subst ev
  cases (show u = Value.ref a from r1)
  refine callWith_obj hpl (evalArgs_kw2_nil hall ?_)
  refine thn (hkw.run pos pins s1 σ _ _ I1 ht) fun ws s2 ⟨zs, H2, I2, rz, dx, fs, lz, ea, q⟩ => ?_
  obtain ⟨ox, od, J, hd⟩ := inst_plain I2 ea
  refine ⟨⟨C, ox, od, J, hd⟩, ?_⟩
  have r0 : Vals [.ref a] [Value.ref a] := .cons rfl .nil
  have rr := b.rel r0 rz
  have bd := b.to s2 [.ref a] ws I2.kIn rfl (rz.length.symm.trans lz)
  rw [hks]
  refine wpAny_call (PySem.W.kco_code I2.kIn J hd hm.at_ hm.fn (fi f hm.at_) (codeAny_mono (F.run X.A X.stack s2 H2 ⟨[.ref a], ks.zip ws⟩ (g [.ref a] ws) (gV [.ref a] zs) Q E0 (hr.mono hk) I2.env0 bd rr q) fun r s' hq => ?_))
  cases r with
  | error e => exact hq.elim
  | ok fl =>
    cases fl with
    | ret u => exact I2.after hq
    | next => exact False.elim hq
    | brk => exact False.elim hq
    | cont => exact False.elim hq
end
/-! ### d.values() and list(d.values()) -/
def valsO (p d : Addr) : HO := .ext fun h => h.IsValuesView p d
theorem valsO_ok {P : Program} {w : World} {H : Hp} {h : Heap} {p d : Addr} (e : h.get? p = some { cls := .type "dict_values", data := .fields #[.ref d] }) : ObjOk P w H h p (valsO p d) :=
  ⟨⟨_, e, rfl, rfl⟩, ⟨_, e⟩, fun h1 h2 x k => let ⟨o, ho, r⟩ := x; ⟨o, k o ho, r⟩⟩
def rValuesI : V → List V → Hp → VK → Prop := fun x xs H Q => ∃ (a : Addr) (kvs : List (L2.Key × V)), x = .ref a ∧ xs = [] ∧ H a = some (.dK kvs) ∧ ∀ p, H p = none → Q (.ref p) (upd H p (valsO p a))
theorem mt_valuesI {X : Cx} : MtR X "dict.values" rValuesI := by
  intro pins s σ H x xs v us Q I rx rxs h
  obtain ⟨a, kvs, rfl, rfl, ha, q⟩ := h
  cases rx
  cases rxs
  obtain ⟨z, hd, vs, rel, dof⟩ := dk_of I.hok ha
  obtain ⟨ep, dat⟩ := dof.dictAt
  obtain ⟨ob, es, ho, ex, hdat, hko, hpr, hnd⟩ := id dat
  refine call_meetsIn PySem.F.slot_dict_values ⟨ob, ho, ex.1⟩ PySem.F.entry_dict_values (PySem.F.args_dict_values_1 _) (meets_dict_values (mixKind X.prog X.w) a hd) ⟨⟨vs, dof⟩, ?_⟩
  have hf : H s.heap.objs.size = none := I.hok.fresh (Nat.le_refl _)
  exact ⟨.ref s.heap.objs.size, upd H s.heap.objs.size (valsO s.heap.objs.size a), I.laid (t' := s.toks) (fun b u e => Heap.get?_push_of_some _ e) (Nat.le_refl _) (valsO_ok (Heap.get?_push_size _ rfl)), rfl, q _ hf⟩
def rListVals : List V → Hp → VK → Prop := fun xs H Q => ∃ (p a : Addr) (kvs : List (L2.Key × V)), xs = [.ref p] ∧ H p = some (valsO p a) ∧ H a = some (.dK kvs) ∧ ∀ q, H q = none → Q (.ref q) (upd H q (.lst (kvs.map (·.2))))
theorem call_listVals {X : Cx} (hc : X.calm = true) : CallR X (.type "list") rListVals := by
  intro pins s σ H xs us Q I r h
  obtain ⟨p, a, kvs, e, hp, hk, q⟩ := h
  subst e
  obtain ⟨u, eu, rx⟩ := vals1 r
  subst eu
  obtain rfl : u = Value.ref p := rx
  have view : s.heap.IsValuesView p a := (show ObjOk X.prog X.w H s.heap p (valsO p a) from I.hok p _ hp).1
  obtain ⟨z, lo, vs, rk, hd⟩ := (show ObjOk X.prog X.w H s.heap a (.dK kvs) from I.hok a _ hk)
  obtain ⟨ep, hat⟩ := hd.dictAt
  have hl : kvs.length = vs.length := Paired.length rk
  refine PySem.W.kdl_call (PySem.W.kdl_values (knd := mixKind X.prog X.w) (kvs := vs) (ep := ep)) (I.ok.hd hc) ⟨view, hat⟩ (by rw [← hl]; exact z) fun h' tk acc' c' hkeep hS hacc => ?_
  refine ⟨.ref s.heap.objs.size, upd H s.heap.objs.size (.lst (kvs.map (·.2))), I.laid hkeep (Nat.le_refl _) (show ObjOk X.prog X.w _ _ _ (.lst (kvs.map (·.2))) from ⟨?_, acc'.toList, c', ?_, ?_⟩), rfl, q _ (I.hok.fresh (Nat.le_refl _))⟩
  · rw [List.length_map]; exact z
  · have el : acc'.toList.length = acc'.size := by simp
    refine vals_of_at (by rw [List.length_map, el, hacc.1, hl]) fun j x w h1 h2 => ?_
    obtain ⟨k, hky⟩ := hacc.2 j w (by rw [← Array.getElem?_toList]; exact h2)
    obtain ⟨y, e1, e2⟩ := KV.at' rk hky
    rw [List.getElem?_map, e1] at h1
    cases h1
    exact e2
  · rw [Array.toArray_toList]; exact hS
end Lp
set_option Elab.async false
set_option linter.all false
set_option maxRecDepth 100000
set_option maxHeartbeats 1000000
namespace Lp
open PySem PySem.Spec PyProof.Rows L2
/-! ### set(xs) and sorted(set(xs)) of ints, any number of them -/
def rSetLG (K : PySem.W.Frag) (w : World) : List V → Hp → VK → Prop := fun xs H Q => ∃ (a : Addr) (ns : List Int), xs = [V.ref a] ∧ SqL K H a (ns.map V.int) ∧ ns.length ≤ 1000 ∧ ∀ (p : Addr) (c : Nat), H p = none → c ≤ ns.length → Q (.ref p) (upd H p (SetO w p (fun j => decide (j ∈ ns)) c))
theorem cr_setLG {X : Cx} (hc : X.calm = true) : CallR X (.type "set") (rSetLG X.K X.w) := by
  intro pins s σ H xs us Q I r h
  obtain ⟨a, ns, rfl, hq, hl, q⟩ := h
  cases r with
  | cons r rr =>
    cases rr
    cases (show _ = Value.ref a from r)
    obtain ⟨its, rv, p, _⟩ := I.list hq
    refine call_set_listI ns (I.ok.hd hc) p.isList (RZ.intsAre_vals rv) (Nat.lt_of_le_of_lt (Nat.succ_le_succ hl) (by decide)) fun h' tk c hs hcn hk => ?_
    refine ⟨.ref _, upd H _ (SetO X.w s.heap.objs.size (fun j => decide (j ∈ ns)) c), I.laid hk (Nat.le_refl _) ⟨hs, ?_, fun h1 h2 x k => ?_⟩, rfl, q _ c (I.hok.fresh (Nat.le_refl _)) hcn⟩
    · obtain ⟨o, _, _, _, e, _⟩ := hs
      exact ⟨o, e⟩
    · obtain ⟨o, es, ep, t, e, r⟩ := x
      exact ⟨o, es, ep, t, k o e, r⟩
section
variable {P : Program} {w : World} {A : Around} {E : Value → Shared → Prop} {s : Shared} {a : Addr}
theorem sorted_setG {S : Int → Bool} {n : Nat} {Q : Value → Shared → Prop} (R : SetR w s.heap a S n) (hh : A.handled = none) (hn : n ≤ 100000)
    (hQ : ∀ s' p (out : Array Value) (c : Nat) (ns : List Int), (∀ b o, s.heap.get? b = some o → s'.heap.get? b = some o) → s'.gens = s.gens → s'.os = s.os → s.heap.objs.size ≤ p →
      s'.heap.get? p = some (seqObj "list" out c) → IntsAre out.toList ns → ns.Pairwise (· ≤ ·) → ns.Nodup → (∀ k, k ∈ ns ↔ S k = true) → ns.length = n → Q (.ref p) s') :
    wpAny (model P w) A (call (.builtin "sorted") [.ref a]) Q E s := by
  obtain ⟨o, es, ep, t, ho, hex, hd, g, nd, hm, hb, hf, hn', hr, hl⟩ := R
  refine Calls.call_function_entry PyProof.Rows.kind_sorted PyProof.Rows.plain_sorted PyProof.Rows.entry_sorted (PyProof.Rows.args_sorted1 _) ?_
  unfold Builtin.«sorted»
  refine wpAny_bind (m := checkCount "sorted" 1 1 _) (wpAny_pure ?_)
  refine wpAny_bind (collect_set (A := A.in1) hh ⟨o, ho, hex.1, hd⟩ hf hb hr hl fun s1 vs k1 hz g1 o1 pm => ?_)
  have hvl : vs.length = n := by rw [pm.length_eq, List.length_map, Array.length_toList]; exact hn'
  have hI : IntsAre vs (vs.map Builtin.Re.reRawOf) := ints_of vs fun v hv => by
    obtain ⟨e, he, q⟩ := List.mem_map.mp (pm.mem_iff.mp hv)
    obtain ⟨k, tk, h1, _⟩ := g e he
    exact ⟨k, tk, by rw [← q]; exact h1⟩
  have pk : (vs.map Builtin.Re.reRawOf).Perm (es.toList.map keyOf) := by
    have q := pm.map Builtin.Re.reRawOf
    rw [List.map_map] at q
    exact q
  have hz2 : vs.length ≤ sizeLine := by rw [hvl]; exact zs hn
  refine wpAny_bind (wpAny_newList ?_ hz2)
  have hoL : (s1.heap.push (seqObj "list" vs.toArray 0)).get? s1.heap.objs.size = some (seqObj "list" vs.toArray 0) := Heap.get?_push_size _ rfl
  refine wpAny_bind (wpAny_holding (wpAny_call_entry PyProof.Rows.slot_list_sort ⟨_, hoL, rfl⟩ PyProof.Rows.entry_list_sort
    (SrtO.list_sort_ord SrtO.swo_int hoL hz2 (fun h2 => SrtO.ints_sortable hI h2) fun out g1' g2 => ⟨_, rfl, ?_⟩) (PyProof.Rows.args_list_sort _)))
  obtain ⟨q1, q2, q3⟩ := SrtO.ints_out hI g1' g2
  obtain ⟨c, hc⟩ := PyProof.Rows.sortedHeap_at (vs := vs) (out := out.toArray) hoL
  have pn : (out.map SrtO.iv).Perm (es.toList.map keyOf) := q2.trans pk
  refine wpAny_pure ⟨_, rfl, hQ _ s1.heap.objs.size out.toArray c (out.map SrtO.iv) (fun b u e => ?_) g1 o1 hz hc (by simpa using q1) q3 (pn.nodup_iff.mpr nd) (fun k => by rw [pn.mem_iff, ← hm k]) ?_⟩
  · have q := k1 b u e
    have hlt := Heap.lt_size q
    show (PyProof.Rows.sortedHeap (s1.heap.push (seqObj "list" vs.toArray 0)) s1.heap.objs.size vs out.toArray).get? b = some u
    rw [PyProof.Rows.sortedHeap_old (Nat.ne_of_lt hlt) (by rw [size_push']; exact Nat.lt_succ_of_lt hlt)]
    exact Heap.get?_push_of_some _ q
  · rw [pn.length_eq, List.length_map, Array.length_toList]; exact hn'
end
section
variable {X : Cx}
def rSortedSetG (w : World) : List V → Hp → VK → Prop := fun vs H Q => ∃ (a : Addr) (S : Int → Bool) (n : Nat), vs = [V.ref a] ∧ H a = some (SetO w a S n) ∧ n ≤ 100000 ∧
  ∀ (ns : List Int) (p : Addr), ns.Pairwise (· ≤ ·) → ns.Nodup → (∀ k : Int, k ∈ ns ↔ S k = true) → H p = none → Q (.ref p) (upd H p (.lst (ns.map V.int)))
theorem cr_sortedSetG (hc : X.calm = true) : CallR X (.builtin "sorted") (rSortedSetG X.w) := by
  intro pins s σ H vs us Q I r h
  obtain ⟨a, S, n, rfl, ha, h64, q⟩ := h
  have R := setO_get I ha
  rw [Vals.ref1 r]
  refine sorted_setG R (I.ok.hd hc) h64 fun s' p out c ns k g o hp hg hi hs hnd hm hl => ?_
  have hlen : (ns.map V.int).length ≤ sizeLine := by rw [List.length_map, hl]; exact zs h64
  have hn : H p = none := I.hok.fresh hp
  have J : Inv X pins σ (upd H p (.lst (ns.map V.int))) { s with heap := s'.heap, gens := s'.gens, drawn := s'.drawn, toks := s'.toks } :=
    I.call (ch := []) (Un.laid k hp hn) (I.hok.laid k hp ⟨hlen, out.toList, c, vals_of_ints hi, hg⟩) (by rw [g]; exact I.bare) (fun _ z => nomatch z)
  have e : s' = { s with heap := s'.heap, gens := s'.gens, drawn := s'.drawn, toks := s'.toks } := by
    cases s'
    cases s
    cases o
    rfl
  rw [e]
  exact ⟨.ref p, _, J, rfl, q ns p hs hnd hm hn⟩
end
end Lp
set_option Elab.async false
set_option linter.all false
set_option maxRecDepth 100000
set_option maxHeartbeats 1000000
namespace Lp
open PySem PySem.Spec PyProof.Rows L2
/-! ### a != b of two instances whose class has __eq__ alone -/
theorem one_bind (self : Value) : bindSpecial (.builtin "object.__ne__") self = pure (.builtin "object.__ne__", [self]) :=
  (Slot.of (T := "object") (name := "__ne__") (owner := "object") (n := "__ne__") (by rw [typeLookup_type, builtinLookup_eq_fast]; kernel_rfl) (by decide +kernel) (by decide +kernel) (by decide +kernel)
    (.inl (by decide +kernel)) (by rw [isSubtype_type]; kernel_rfl)).bind self
theorem ifBound_ne {M : Model} {A : Around} {E : Value → Shared → Prop} {s : Shared} {K : PySem.W.Frag} {x C : Addr} {ox : Obj} {od : Option Obj} {args : List Value} {Q : Option Value → Shared → Prop} (X : K.In s.heap) (I : PySem.W.InstAt s.heap x ox C od) (hs : PySem.W.findIn K (.ref C) "__ne__" = some (some (.builtin "object.__ne__")))
    (h : wpAny M A (call (.builtin "object.__ne__") (.ref x :: args)) (fun v => Q (some v)) E s) : wpAny M A (callSpecialIfBound? (.ref x) "__ne__" args) Q E s := by
  simp only [callSpecialIfBound?, bindSpecialIfBound?]
  refine wpAny_holding (wpAny_bind (wpAny_bind (wpAny_bind (I.type.here ((PySem.W.looks_findIn X hs).here ?_)))))
  refine wpAny_bind (wpAny_askSetting (wpAny_ite ?_))
  have fin : wpAny M A (call (.builtin "object.__ne__") ([.ref x] ++ args) >>= fun v => pure (some v)) Q E s := wpAny_bind (wpAny_mono h (fun v s' h' => wpAny_pure h') fun _ _ h' => h')
  have bnd : PySem.W.Looks M s.heap (bindSpecial (.builtin "object.__ne__") (.ref x)) (.builtin "object.__ne__", [.ref x]) := PySem.W.Looks.of_pure (one_bind _)
  split
  · exact wpAny_bind (bnd.here (wpAny_pure (by exact fin)))
  · exact wpAny_tryCatch (wpAny_bind (bnd.here (wpAny_pure (by exact fin))))
theorem ne_entry {prog : Program} {w : World} {A : Around} {E : Value → Shared → Prop} {s : Shared} {K : PySem.W.Frag} {x C f : Addr} {ox : Obj} {od : Option Obj} {b : Value} {Q : Value → Shared → Prop} (hu : A.in1.units < cLine) (X : K.In s.heap) (I : PySem.W.InstAt s.heap x ox C od)
    (hob : PySem.W.subIn K (.ref C) (.type "object") = some true) (at_ : PySem.W.findIn K (.ref C) "__eq__" = some (some (.ref f))) (isf : PySem.W.isFn K (.ref f) = true)
    (go : wpAny (model prog w) A.in1 (call (.ref f) [.ref x, b]) (fun v s' => ∃ c, v = .bool c ∧ Q (.bool (!c)) s') E s) : wpAny (model prog w) A (call (.builtin "object.__ne__") [.ref x, b]) Q E s := by
  have hi : PySem.W.Looks (model prog w) s.heap (isInstance (.ref x) (.type "object")) true := I.type.andThen (PySem.W.looks_subIn X hob)
  refine wpAny_call (codeAny_call_builtin (by decide +kernel) F.cmpEntry_ne (PySem.W.check_slot F.cmpKind_ne F.cmpSplit_ne hi (F.cmpArgs_ne _ _) ?_))
  unfold Builtin.«object.__ne__»
  refine wpAny_bind (m := slotArgs "__ne__" 1 _) (wpAny_of_eq (a := ((Value.ref x : Value), [b])) (by first | rfl | (simp only [slotArgs]; rfl)) ?_)
  refine wpAny_bind (wpAny_cRoomFor hu ?_)
  refine wpAny_bind (m := callSpecialIfBound? (.ref x) (Str.ofString "__eq__") [b]) (PySem.W.ifBound_K X I at_ isf (wpAny_mono go (fun v s' hv => ?_) fun _ _ z => z))
  obtain ⟨c, rfl, hq⟩ := hv
  show wpAny (model prog w) A.in1 (truthy (.bool c) >>= fun b => ret (Value.bool !b)) _ E s'
  exact wpAny_bind (wpAny_of_eq (a := c) (by first | rfl | simp [truthy]) (wpAny_pure hq))
theorem ne_own {prog : Program} {w : World} {A : Around} {E : Value → Shared → Prop} {s : Shared} {K : PySem.W.Frag} {x C f : Addr} {ox : Obj} {od : Option Obj} {b tb : Value} {Q : Value → Shared → Prop} (hu : A.units < cLine) (hu1 : A.in1.units < cLine) (X : K.In s.heap) (I : PySem.W.InstAt s.heap x ox C od) (tyb : PySem.W.Looks (model prog w) s.heap (typeOf b) tb)
    (nf : PySem.W.notFirst K C tb = true) (hne : PySem.W.findIn K (.ref C) "__ne__" = some (some (.builtin "object.__ne__"))) (hob : PySem.W.subIn K (.ref C) (.type "object") = some true) (at_ : PySem.W.findIn K (.ref C) "__eq__" = some (some (.ref f))) (isf : PySem.W.isFn K (.ref f) = true)
    (go : wpAny (model prog w) A.in1 (call (.ref f) [.ref x, b]) (fun v s' => ∃ c, v = .bool c ∧ Q (.bool (!c)) s') E s) : wpAny (model prog w) A (richCompare .NotEq (.ref x) b) Q E s := by
  have mine : wpAny (model prog w) A (tryCompare (.ref x) (cmpInfo .NotEq).2.1 b) (fun r s' => ∃ v, r = some v ∧ Q v s') E s := by
    show wpAny (model prog w) A (tryCompare (.ref x) "__ne__" b) _ E s
    unfold tryCompare
    have ent : wpAny (model prog w) A (call (.builtin "object.__ne__") [.ref x, b]) (fun v s' => ∃ c, v = .bool c ∧ Q (.bool c) s') E s :=
      ne_entry (Q := fun v s' => ∃ c, v = .bool c ∧ Q (.bool c) s') hu1 X I hob at_ isf (wpAny_mono go (fun v s' hv => by
        obtain ⟨c, rfl, hq⟩ := hv
        exact ⟨c, rfl, !c, rfl, hq⟩) fun _ _ z => z)
    refine wpAny_bind (ifBound_ne X I hne (wpAny_mono ent (fun v s' hv => ?_) fun _ _ z => z))
    obtain ⟨c, rfl, hq⟩ := hv
    exact wpAny_pure ⟨_, rfl, hq⟩
  have last : ∀ {g : Option Value → Sem Value}, (∀ v, g (some v) = pure v) → wpAny (model prog w) A (tryCompare (.ref x) (cmpInfo .NotEq).2.1 b >>= g) Q E s := fun {g} hg => wpAny_bind (wpAny_mono mine (fun r s' ⟨v, er, hq⟩ => by rw [er, hg]; exact wpAny_pure hq) fun _ _ z => z)
  unfold richCompare
  simp only [oneThing_ref]
  refine wpAny_holding (wpAny_bind (wpAny_cRoomFor hu ?_))
  refine wpAny_bind (I.type.here (wpAny_bind (tyb.here ?_)))
  split
  · rename_i q
    have sb : PySem.W.subIn K tb (.ref C) = some false := by
      rcases Bool.or_eq_true_iff.mp nf with z | z
      · rw [beq_iff_eq.mp z] at q
        simp at q
      · exact beq_iff_eq.mp z
    refine wpAny_bind ((PySem.W.looks_subIn X sb).here ?_)
    simp only [Bool.false_eq_true, if_false]
    exact last fun v => rfl
  · refine wpAny_bind (wpAny_pure ?_)
    simp only [Bool.false_eq_true, if_false]
    exact last fun v => rfl
section
variable {X : Cx} {k j : Nat} {C : Addr} {sp : Sp}
def rNeO (C : Addr) (sp : Sp) : R2 := fun x y H Q => ∃ (a b dx dy : Addr) (fs gs : List (Str × V)), x = .ref a ∧ y = .ref b ∧ H a = some (.ins C dx fs) ∧ H b = some (.ins C dy gs) ∧ sp [.ref a, .ref b] H (fun v H' => ∃ c : Bool, v = .bl c ∧ Q (.bl (!c)) H') E0
theorem op_neO (c : Met X.prog X.w X.K X.mg X.base k C "__eq__" sp) (hr : Room j X.A) (hk : k + 1 ≤ j) (nf : PySem.W.notFirst X.K C (.ref C) = true) (hne : PySem.W.findIn X.K (.ref C) "__ne__" = some (some (.builtin "object.__ne__"))) (hob : PySem.W.subIn X.K (.ref C) (.type "object") = some true) : OpR X (compareOp .NotEq) (rNeO C sp) := by
  intro pins s σ H x y v u Q I rx ry h
  obtain ⟨a, b, dx, dy, fs, gs, rfl, rfl, ha, hb, q⟩ := h
  obtain ⟨f, fd, ps, hc, hm, F, bd⟩ := c.ex
  cases (show v = Value.ref a from rx)
  cases (show u = Value.ref b from ry)
  obtain ⟨ox, od, J⟩ := inst_of I ha
  obtain ⟨ox2, od2, J2⟩ := inst_of I hb
  have hu : X.A.units < cLine := by have := hr.units; omega
  have hu1 : X.A.in1.units < cLine := by
    have := hr.units
    show X.A.units + 1 < cLine
    omega
  show wpAny _ X.A (richCompare .NotEq _ _) _ _ s
  refine ne_own hu hu1 I.kIn J J2.type nf hne hob hm.at_ hm.fn (wpAny_mono (run_at (A := X.A.in1) (vs := [.ref a, .ref b]) F (hr.mono hk).in1 bd I I.env0.in1 (.cons rfl (.cons rfl .nil)) q) (fun w s' hw => ?_) fun _ _ z => z)
  obtain ⟨z, H', I', r, c, rfl, hq⟩ := hw
  cases r
  exact ⟨c, rfl, .bl (!c), H', I', rfl, hq⟩
end
end Lp
set_option Elab.async false
set_option linter.all false
set_option maxRecDepth 100000
set_option maxHeartbeats 1000000
namespace Lp
open PySem PySem.Spec PyProof.Rows L2
/-! ### a == y, a != y of an instance and any value -/
section
variable {X : Cx} {k j : Nat} {C : Addr} {sp : Sp}
def rEqOV (K : PySem.W.Frag) (C : Addr) (sp : Sp) : R2 := fun x y H Q => ∃ (a dx : Addr) (fs : List (Str × V)) (t : Value), x = .ref a ∧ H a = some (.ins C dx fs) ∧ TyX K H y t ∧ PySem.W.notFirst K C t = true ∧ sp [.ref a, y] H Q E0
theorem op_eqOV (c : Met X.prog X.w X.K X.mg X.base k C "__eq__" sp) (hr : Room j X.A) (hk : k ≤ j) : OpR X (compareOp .Eq) (rEqOV X.K C sp) := by
  intro pins s σ H x y v u Q I rx ry h
  obtain ⟨a, dx, fs, t, rfl, ha, ty, nf, q⟩ := h
  obtain ⟨f, fd, ps, hc, hm, F, bd⟩ := c.ex
  cases (show v = Value.ref a from rx)
  obtain ⟨ox, od, J⟩ := inst_of I ha
  obtain ⟨P, Z, p, _⟩ := kit_of I ry ty
  have hu : X.A.units < cLine := by have := hr.units; omega
  show wpAny _ X.A (richCompare .Eq _ _) _ _ s
  refine eq_own (op := .Eq) hu I.kIn J (Z.ty _ _ I.kIn p) nf hm.at_ hm.fn (wpAny_mono (run_at (vs := [.ref a, y]) F (hr.mono hk) bd I I.env0 (.cons rfl (.cons ry .nil)) q) (fun w s' hw => ?_) fun _ _ z => z)
  exact ⟨by obtain ⟨z, _, _, r, _⟩ := hw; exact relV_ni r, hw⟩
def rNeOV (K : PySem.W.Frag) (C : Addr) (sp : Sp) : R2 := fun x y H Q => ∃ (a dx : Addr) (fs : List (Str × V)) (t : Value), x = .ref a ∧ H a = some (.ins C dx fs) ∧ TyX K H y t ∧ PySem.W.notFirst K C t = true ∧ sp [.ref a, y] H (fun v H' => ∃ c : Bool, v = .bl c ∧ Q (.bl (!c)) H') E0
theorem op_neOV (c : Met X.prog X.w X.K X.mg X.base k C "__eq__" sp) (hr : Room j X.A) (hk : k + 1 ≤ j) (hne : PySem.W.findIn X.K (.ref C) "__ne__" = some (some (.builtin "object.__ne__"))) (hob : PySem.W.subIn X.K (.ref C) (.type "object") = some true) : OpR X (compareOp .NotEq) (rNeOV X.K C sp) := by
  intro pins s σ H x y v u Q I rx ry h
  obtain ⟨a, dx, fs, t, rfl, ha, ty, nf, q⟩ := h
  obtain ⟨f, fd, ps, hc, hm, F, bd⟩ := c.ex
  cases (show v = Value.ref a from rx)
  obtain ⟨ox, od, J⟩ := inst_of I ha
  obtain ⟨P, Z, p, _⟩ := kit_of I ry ty
  have hu : X.A.units < cLine := by have := hr.units; omega
  have hu1 : X.A.in1.units < cLine := by
    have := hr.units
    show X.A.units + 1 < cLine
    omega
  show wpAny _ X.A (richCompare .NotEq _ _) _ _ s
  refine ne_own hu hu1 I.kIn J (Z.ty _ _ I.kIn p) nf hne hob hm.at_ hm.fn (wpAny_mono (run_at (A := X.A.in1) (vs := [.ref a, y]) F (hr.mono hk).in1 bd I I.env0.in1 (.cons rfl (.cons ry .nil)) q) (fun w s' hw => ?_) fun _ _ z => z)
  obtain ⟨z, H', I', r, c, rfl, hq⟩ := hw
  cases r
  exact ⟨c, rfl, .bl (!c), H', I', rfl, hq⟩
end
end Lp
set_option Elab.async false
set_option linter.all false
set_option maxRecDepth 100000
namespace Lp
open PySem PySem.Spec PyProof.Rows L2
/-! ### the same, with K told apart (for comprehensions) -/
section
variable {X : Cx} {K : PySem.W.Frag} {k j : Nat} {C : Addr} {sp : Sp}
theorem k_eqOV (e : X.K = K) (c : Met X.prog X.w X.K X.mg X.base k C "__eq__" sp) (hr : Room j X.A) (hk : k ≤ j) : OpR X (compareOp .Eq) (rEqOV K C sp) := by
  subst e
  exact op_eqOV c hr hk
theorem k_neOV (e : X.K = K) (c : Met X.prog X.w X.K X.mg X.base k C "__eq__" sp) (hr : Room j X.A) (hk : k + 1 ≤ j) (hne : PySem.W.findIn X.K (.ref C) "__ne__" = some (some (.builtin "object.__ne__"))) (hob : PySem.W.subIn X.K (.ref C) (.type "object") = some true) : OpR X (compareOp .NotEq) (rNeOV K C sp) := by
  subst e
  exact op_neOV c hr hk hne hob
end
end Lp
set_option Elab.async false
set_option linter.all false
set_option maxRecDepth 100000
namespace Lp
open PySem PySem.Spec PyProof.Rows L2
/-! ### values of any kind: None, bools, ints, texts, lists, tuples, the empty dict -/
mutual
inductive Ox (K : PySem.W.Frag) (H : Hp) : V → PyData → Prop
  | non : Ox K H .non .none
  | bl (b : Bool) : Ox K H (.bl b) (.bool b)
  | int (i : Int) : Ox K H (.int i) (.int i)
  | str (x : Str) : Ox K H (.str x) (.str x)
  | lst {a : Addr} {xs : List V} {ds : List PyData} : SqL K H a xs → OxAll K H xs ds → Ox K H (.ref a) (.list ds)
  | tup {a : Addr} {xs : List V} {ds : List PyData} : SqT K H a xs → OxAll K H xs ds → Ox K H (.ref a) (.tuple ds)
  | dct {a : Addr} : H a = some (.dK []) → Ox K H (.ref a) (.dict [])
inductive OxAll (K : PySem.W.Frag) (H : Hp) : List V → List PyData → Prop
  | nil : OxAll K H [] []
  | cons {v : V} {vs : List V} {d : PyData} {ds : List PyData} : Ox K H v d → OxAll K H vs ds → OxAll K H (v :: vs) (d :: ds)
end
section
variable {X : Cx} {pins : List (Addr × Obj)} {σ : L2.St} {H : Hp} {s : Shared}
open PySem
/-- the empty dict, as it stands -/
theorem Ox.dctAt (I : Inv X pins σ H s) {a : Addr} (ha : H a = some (.dK [])) : ∃ o es ep, s.heap.get? a = some o ∧ o.cls = .type "dict" ∧ o.data = .dict es ep ∧ es.toList = [] ∧ (a == sysModules) = false := by
  obtain ⟨_, hns, vs, hkv, o, es, ep, e1, ex, ed, _, pr, _⟩ := (show ObjOk X.prog X.w H s.heap a (.dK []) from I.hok _ _ ha)
  cases hkv
  exact ⟨o, es, ep, e1, ex.1, ed, List.length_eq_zero_iff.mp pr.length, hns⟩
mutual
theorem Ox.rk (I : Inv X pins σ H s) : ∀ (d : PyData) (v : V) (u : Value), Ox X.K H v d → RelV v u → d.showable = true → d.shown.length ≤ sizeLine → ∃ bs as, Reads s.heap u d as ∧ ReadAtMost s.heap d.depth bs ∧ ReprK X.prog X.w bs s.heap d.depth u d.shown
  | .none, _, _, h, r, _, _ => by
    cases h
    cases r
    exact ⟨[], _, Reads.none, (fun _ z => absurd z List.not_mem_nil), .of_is ReprIs.none _ _ _⟩
  | .bool b, _, _, h, r, _, _ => by
    cases h
    cases r
    exact ⟨[], _, Reads.bool b, (fun _ z => absurd z List.not_mem_nil), .of_is (ReprIs.bool b) _ _ _⟩
  | .int i, _, _, h, r, sh, _ => by
    cases h
    obtain ⟨t, rfl⟩ := r
    exact ⟨[], _, Reads.int i t, (fun _ z => absurd z List.not_mem_nil), .of_is (ReprIs.int t (of_decide_eq_true sh)) _ _ _⟩
  | .str x, _, _, h, r, _, hz => by
    cases h
    obtain ⟨t, rfl⟩ := r
    exact ⟨[], _, Reads.str x t, (fun _ z => absurd z List.not_mem_nil), .of_is (ReprIs.str x t hz) _ _ _⟩
  | .list ds, _, _, h, r, sh, hz => by
    cases h with
    | @lst a xs _ hs ha =>
      cases r
      obtain ⟨its, rv, ⟨o, n, ho, hc, _, hd⟩, _⟩ := I.list hs
      have len : (listText (PyData.shownAll ds)).length ≤ sizeLine := hz
      obtain ⟨bs, as, ra, rb, rk⟩ := Ox.rkAll I ds xs its ha rv sh (fun t ht => Nat.le_trans (listText_mem_le ht) len)
      have rr := Reads.list ho hc hd ra
      have fresh : a ∉ bs := not_mem_of_deeper rr (Nat.lt_succ_self (PyData.depthAll ds)) rb
      refine ⟨a :: bs, _, rr, ReadAtMost.cons rr (Nat.le_succ (PyData.depthAll ds)) rb, ?_⟩
      show ReprK X.prog X.w (a :: bs) s.heap (PyData.depthAll ds + 1) (.ref a) (listText (PyData.shownAll ds))
      cases its with
      | nil =>
        cases ra
        show ReprK X.prog X.w (a :: bs) s.heap _ (.ref a) (listText [])
        rw [listText_nil]
        exact ReprK.listEmpty ho hc hd
      | cons y l => exact ReprK.list ho hc hd fresh (by simpa using rk.length_eq) (fun i z e => rk.item i z (by simpa using e))
  | .tuple ds, _, _, h, r, sh, hz => by
    cases h with
    | @tup a xs _ hs ha =>
      cases r
      obtain ⟨its, rv, ⟨o, ho, hc, n, hd⟩, _⟩ := I.tuple hs
      have len : (tupleText (PyData.shownAll ds)).length ≤ sizeLine := hz
      obtain ⟨bs, as, ra, rb, rk⟩ := Ox.rkAll I ds xs its ha rv sh (fun t ht => Nat.le_trans (tupleText_mem_le ht) len)
      have rr := Reads.tuple ho hc hd ra
      have fresh : a ∉ bs := not_mem_of_deeper rr (Nat.lt_succ_self (PyData.depthAll ds)) rb
      exact ⟨a :: bs, _, rr, ReadAtMost.cons rr (Nat.le_succ (PyData.depthAll ds)) rb, ReprK.tuple ho hc hd fresh rk⟩
  | .dict kvs, _, _, h, r, _, _ => by
    cases h with
    | @dct a ha =>
      cases r
      obtain ⟨o, es, ep, e1, ec, ed, e0, hns⟩ := Ox.dctAt I ha
      have rr : Reads s.heap (.ref a) (.dict []) [a] := Reads.dict (kvs := []) (as := []) (bs := []) e1 ec ed (by rw [e0]; exact ReadsAll.nil) (by rw [e0]; exact ReadsAll.nil)
      refine ⟨[a], _, rr, ReadAtMost.cons (n := 0) rr (Nat.zero_le _) (fun _ z => absurd z List.not_mem_nil), ?_⟩
      exact ReprK.dict (d := 0) e1 ec ed hns List.not_mem_nil (by rw [e0]; exact ReprEntriesK.of_two [] [] [] .nil .nil)
theorem Ox.rkAll (I : Inv X pins σ H s) : ∀ (ds : List PyData) (vs : List V) (us : List Value), OxAll X.K H vs ds → Vals vs us → PyData.showableAll ds = true → (∀ t ∈ PyData.shownAll ds, t.length ≤ sizeLine) → ∃ bs as, ReadsAll s.heap us ds as ∧ ReadAtMost s.heap (PyData.depthAll ds) bs ∧ ReprAllK X.prog X.w bs s.heap (PyData.depthAll ds) us (PyData.shownAll ds)
  | [], _, _, h, r, _, _ => by
    cases h
    cases r
    exact ⟨[], _, ReadsAll.nil, (fun _ z => absurd z List.not_mem_nil), .nil⟩
  | d :: ds, _, _, h, r, sh, hz => by
    cases h with
    | cons h1 h2 =>
      cases r with
      | cons r1 r2 =>
        have sh2 : (d.showable && PyData.showableAll ds) = true := sh
        rw [Bool.and_eq_true] at sh2
        obtain ⟨b1, a1, q1, m1, k1⟩ := Ox.rk I d _ _ h1 r1 sh2.1 (hz _ List.mem_cons_self)
        obtain ⟨b2, a2, q2, m2, k2⟩ := Ox.rkAll I ds _ _ h2 r2 sh2.2 (fun t ht => hz t (List.mem_cons_of_mem _ ht))
        have l1 : d.depth ≤ PyData.depthAll (d :: ds) := Nat.le_max_left _ _
        have l2 : PyData.depthAll ds ≤ PyData.depthAll (d :: ds) := Nat.le_max_right _ _
        exact ⟨b1 ++ b2, _, ReadsAll.cons q1 q2, (m1.mono l1).append (m2.mono l2), .cons ((k1.more fun b z => List.mem_append_left _ z).level_le l1) (k2.more_le (fun b z => List.mem_append_right _ z) l2)⟩
end
end
section
variable {K : PySem.W.Frag} {H H' : Hp}
mutual
theorem ox_same (s : Same H H') : ∀ {v : V} {d : PyData}, Ox K H v d → Ox K H' v d
  | _, _, .non => .non
  | _, _, .bl b => .bl b
  | _, _, .int i => .int i
  | _, _, .str x => .str x
  | _, _, .lst h1 h2 => .lst (s.seq h1) (oxAll_same s h2)
  | _, _, .tup h1 h2 => .tup (seqT s h1) (oxAll_same s h2)
  | _, _, .dct h => .dct (s _ _ h)
theorem oxAll_same (s : Same H H') : ∀ {vs : List V} {ds : List PyData}, OxAll K H vs ds → OxAll K H' vs ds
  | _, _, .nil => .nil
  | _, _, .cons h1 h2 => .cons (ox_same s h1) (oxAll_same s h2)
end
mutual
theorem ox_dp : ∀ {v : V} {d : PyData}, Dp K H v d → Ox K H v d
  | _, _, .non => .non
  | _, _, .bl b => .bl b
  | _, _, .int i => .int i
  | _, _, .str x => .str x
  | _, _, .lst h1 h2 => .lst h1 (oxAll_dp h2)
  | _, _, .tup h1 h2 => .tup h1 (oxAll_dp h2)
theorem oxAll_dp : ∀ {vs : List V} {ds : List PyData}, DpAll K H vs ds → OxAll K H vs ds
  | _, _, .nil => .nil
  | _, _, .cons h1 h2 => .cons (ox_dp h1) (oxAll_dp h2)
end
theorem oxAll_len : ∀ {vs : List V} {ds : List PyData}, OxAll K H vs ds → vs.length = ds.length
  | _, _, .nil => rfl
  | _, _, .cons _ h => congrArg (· + 1) (oxAll_len h)
theorem oxAll_get : ∀ {vs : List V} {ds : List PyData} {i : Nat} {v : V}, OxAll K H vs ds → vs[i]? = some v → ∃ d, ds[i]? = some d ∧ Ox K H v d
  | _, _, 0, _, .cons h _, e => by cases e; exact ⟨_, rfl, h⟩
  | _, _, i + 1, _, .cons _ h, e => oxAll_get (i := i) h e
theorem oxAll_app : ∀ {vs ws : List V} {ds es : List PyData}, OxAll K H vs ds → OxAll K H ws es → OxAll K H (vs ++ ws) (ds ++ es)
  | _, _, _, _, .nil, h => h
  | _, _, _, _, .cons h1 h2, h => .cons h1 (oxAll_app h2 h)
theorem oxAll_take : ∀ {vs : List V} {ds : List PyData} (n : Nat), OxAll K H vs ds → OxAll K H (vs.take n) (ds.take n)
  | _, _, 0, _ => .nil
  | _, _, _ + 1, .nil => .nil
  | _, _, n + 1, .cons h1 h2 => .cons h1 (oxAll_take n h2)
theorem oxAll_drop : ∀ {vs : List V} {ds : List PyData} (n : Nat), OxAll K H vs ds → OxAll K H (vs.drop n) (ds.drop n)
  | _, _, 0, h => h
  | _, _, _ + 1, .nil => .nil
  | _, _, n + 1, .cons _ h2 => oxAll_drop n h2
theorem oxAll_ints : ∀ ns : List Int, OxAll K H (ns.map V.int) (ns.map PyData.int)
  | [] => .nil
  | n :: r => .cons (.int n) (oxAll_ints r)
end
/-- the type of a value by its data -/
def tyD : PyData → String
  | .none => "NoneType" | .bool _ => "bool" | .int _ => "int" | .str _ => "str" | .list _ => "list" | .tuple _ => "tuple" | .dict _ => "dict"
section
variable {K : PySem.W.Frag} {H : Hp}
theorem Ox.tyx {v : V} {d : PyData} (h : Ox K H v d) : TyX K H v (.type (tyD d)) := by
  cases h with
  | non => exact .base .non
  | bl b => exact .base (.bl b)
  | int i => exact .base (.int i)
  | str x => exact .base (.str x)
  | lst h1 _ => exact tyx_l h1
  | tup h1 _ => exact tyx_t h1
  | dct h => exact .base (.dK h)
theorem Ox.tyb {v : V} {d : PyData} (h : Ox K H v d) : TyB K H v (tyD d) := by
  cases h with
  | non => exact .non
  | bl b => exact .bl b
  | int i => exact .int i
  | str x => exact .str x
  | lst h1 _ => exact .lst h1
  | tup h1 _ => exact .tup h1
  | dct h => exact .dK h
theorem tyD_meta (d : PyData) : ∀ s' : Shared, s'.TypeIs (.type (tyD d)) "type" := by
  cases d with
  | none => exact PySem.TypeEq.meta_NoneType
  | bool _ => exact PySem.TypeEq.meta_bool
  | int _ => exact PySem.TypeEq.meta_int
  | str _ => exact PySem.TypeEq.meta_str
  | list _ => exact PySem.TypeEq.meta_list
  | tuple _ => exact PySem.TypeEq.meta_tuple
  | dict _ => exact PySem.TypeEq.meta_dict
end
def isI : PyData → Bool | .int _ => true | _ => false
def isB : PyData → Bool | .bool _ => true | _ => false
def isL : PyData → Bool | .list _ => true | _ => false
def isT : PyData → Bool | .tuple _ => true | _ => false
def isS : PyData → Bool | .str _ => true | _ => false
def isN : PyData → Bool | .none => true | _ => false
theorem kit_int {K : PySem.W.Frag} (d : PyData) : PySem.W.kitOne K (.type (tyD d)) (.type "int") = some (isI d || isB d) :=
  match d with
  | .none => kit_ty (show kitB "NoneType" "int" = some false by decide +kernel)
  | .bool _ => kit_ty (show kitB "bool" "int" = some true by decide +kernel)
  | .int _ => kit_ty (show kitB "int" "int" = some true by decide +kernel)
  | .str _ => kit_ty (show kitB "str" "int" = some false by decide +kernel)
  | .list _ => kit_ty (show kitB "list" "int" = some false by decide +kernel)
  | .tuple _ => kit_ty (show kitB "tuple" "int" = some false by decide +kernel)
  | .dict _ => kit_ty (show kitB "dict" "int" = some false by decide +kernel)
theorem kit_bool {K : PySem.W.Frag} (d : PyData) : PySem.W.kitOne K (.type (tyD d)) (.type "bool") = some (isB d) :=
  match d with
  | .none => kit_ty (show kitB "NoneType" "bool" = some false by decide +kernel)
  | .bool _ => kit_ty (show kitB "bool" "bool" = some true by decide +kernel)
  | .int _ => kit_ty (show kitB "int" "bool" = some false by decide +kernel)
  | .str _ => kit_ty (show kitB "str" "bool" = some false by decide +kernel)
  | .list _ => kit_ty (show kitB "list" "bool" = some false by decide +kernel)
  | .tuple _ => kit_ty (show kitB "tuple" "bool" = some false by decide +kernel)
  | .dict _ => kit_ty (show kitB "dict" "bool" = some false by decide +kernel)
theorem kit_list {K : PySem.W.Frag} (d : PyData) : PySem.W.kitOne K (.type (tyD d)) (.type "list") = some (isL d) :=
  match d with
  | .none => kit_ty (show kitB "NoneType" "list" = some false by decide +kernel)
  | .bool _ => kit_ty (show kitB "bool" "list" = some false by decide +kernel)
  | .int _ => kit_ty (show kitB "int" "list" = some false by decide +kernel)
  | .str _ => kit_ty (show kitB "str" "list" = some false by decide +kernel)
  | .list _ => kit_ty (show kitB "list" "list" = some true by decide +kernel)
  | .tuple _ => kit_ty (show kitB "tuple" "list" = some false by decide +kernel)
  | .dict _ => kit_ty (show kitB "dict" "list" = some false by decide +kernel)
theorem kit_tuple {K : PySem.W.Frag} (d : PyData) : PySem.W.kitOne K (.type (tyD d)) (.type "tuple") = some (isT d) :=
  match d with
  | .none => kit_ty (show kitB "NoneType" "tuple" = some false by decide +kernel)
  | .bool _ => kit_ty (show kitB "bool" "tuple" = some false by decide +kernel)
  | .int _ => kit_ty (show kitB "int" "tuple" = some false by decide +kernel)
  | .str _ => kit_ty (show kitB "str" "tuple" = some false by decide +kernel)
  | .list _ => kit_ty (show kitB "list" "tuple" = some false by decide +kernel)
  | .tuple _ => kit_ty (show kitB "tuple" "tuple" = some true by decide +kernel)
  | .dict _ => kit_ty (show kitB "dict" "tuple" = some false by decide +kernel)
theorem kit_str {K : PySem.W.Frag} (d : PyData) : PySem.W.kitOne K (.type (tyD d)) (.type "str") = some (isS d) :=
  match d with
  | .none => kit_ty (show kitB "NoneType" "str" = some false by decide +kernel)
  | .bool _ => kit_ty (show kitB "bool" "str" = some false by decide +kernel)
  | .int _ => kit_ty (show kitB "int" "str" = some false by decide +kernel)
  | .str _ => kit_ty (show kitB "str" "str" = some true by decide +kernel)
  | .list _ => kit_ty (show kitB "list" "str" = some false by decide +kernel)
  | .tuple _ => kit_ty (show kitB "tuple" "str" = some false by decide +kernel)
  | .dict _ => kit_ty (show kitB "dict" "str" = some false by decide +kernel)
/-- type(x) != T -/
theorem neTyL {σ : L2.St} {H : Hp} {d : PyData} {Q : VK} (q : Q (.bl (!isL d)) H) : tC (.ty "list") σ H (fun y H2 => rNeTyG (.ty (tyD d)) y H2 Q) := by
  show rNeTyG (.ty (tyD d)) (.ty "list") H Q
  cases d with
  | list ds => exact .inl ⟨_, rfl, rfl, PySem.TypeEq.meta_list, q⟩
  | none => exact .inr ⟨_, _, rfl, rfl, PySem.TypeEq.meta_NoneType, PySem.TypeEq.meta_list, (show (Value.type "NoneType" == Value.type "list") = false by decide +kernel), (show (Value.type "list" == Value.type "NoneType") = false by decide +kernel), q⟩
  | bool _ => exact .inr ⟨_, _, rfl, rfl, PySem.TypeEq.meta_bool, PySem.TypeEq.meta_list, (show (Value.type "bool" == Value.type "list") = false by decide +kernel), (show (Value.type "list" == Value.type "bool") = false by decide +kernel), q⟩
  | int _ => exact .inr ⟨_, _, rfl, rfl, PySem.TypeEq.meta_int, PySem.TypeEq.meta_list, (show (Value.type "int" == Value.type "list") = false by decide +kernel), (show (Value.type "list" == Value.type "int") = false by decide +kernel), q⟩
  | str _ => exact .inr ⟨_, _, rfl, rfl, PySem.TypeEq.meta_str, PySem.TypeEq.meta_list, (show (Value.type "str" == Value.type "list") = false by decide +kernel), (show (Value.type "list" == Value.type "str") = false by decide +kernel), q⟩
  | tuple _ => exact .inr ⟨_, _, rfl, rfl, PySem.TypeEq.meta_tuple, PySem.TypeEq.meta_list, (show (Value.type "tuple" == Value.type "list") = false by decide +kernel), (show (Value.type "list" == Value.type "tuple") = false by decide +kernel), q⟩
  | dict _ => exact .inr ⟨_, _, rfl, rfl, PySem.TypeEq.meta_dict, PySem.TypeEq.meta_list, (show (Value.type "dict" == Value.type "list") = false by decide +kernel), (show (Value.type "list" == Value.type "dict") = false by decide +kernel), q⟩
theorem neTyT {σ : L2.St} {H : Hp} {d : PyData} {Q : VK} (q : Q (.bl (!isT d)) H) : tC (.ty "tuple") σ H (fun y H2 => rNeTyG (.ty (tyD d)) y H2 Q) := by
  show rNeTyG (.ty (tyD d)) (.ty "tuple") H Q
  cases d with
  | tuple ds => exact .inl ⟨_, rfl, rfl, PySem.TypeEq.meta_tuple, q⟩
  | none => exact .inr ⟨_, _, rfl, rfl, PySem.TypeEq.meta_NoneType, PySem.TypeEq.meta_tuple, (show (Value.type "NoneType" == Value.type "tuple") = false by decide +kernel), (show (Value.type "tuple" == Value.type "NoneType") = false by decide +kernel), q⟩
  | bool _ => exact .inr ⟨_, _, rfl, rfl, PySem.TypeEq.meta_bool, PySem.TypeEq.meta_tuple, (show (Value.type "bool" == Value.type "tuple") = false by decide +kernel), (show (Value.type "tuple" == Value.type "bool") = false by decide +kernel), q⟩
  | int _ => exact .inr ⟨_, _, rfl, rfl, PySem.TypeEq.meta_int, PySem.TypeEq.meta_tuple, (show (Value.type "int" == Value.type "tuple") = false by decide +kernel), (show (Value.type "tuple" == Value.type "int") = false by decide +kernel), q⟩
  | str _ => exact .inr ⟨_, _, rfl, rfl, PySem.TypeEq.meta_str, PySem.TypeEq.meta_tuple, (show (Value.type "str" == Value.type "tuple") = false by decide +kernel), (show (Value.type "tuple" == Value.type "str") = false by decide +kernel), q⟩
  | list _ => exact .inr ⟨_, _, rfl, rfl, PySem.TypeEq.meta_list, PySem.TypeEq.meta_tuple, (show (Value.type "list" == Value.type "tuple") = false by decide +kernel), (show (Value.type "tuple" == Value.type "list") = false by decide +kernel), q⟩
  | dict _ => exact .inr ⟨_, _, rfl, rfl, PySem.TypeEq.meta_dict, PySem.TypeEq.meta_tuple, (show (Value.type "dict" == Value.type "tuple") = false by decide +kernel), (show (Value.type "tuple" == Value.type "dict") = false by decide +kernel), q⟩

/-! ### how long the text of a value is -/
mutual
def wt : PyData → Nat
  | .none => 4
  | .bool _ => 5
  | .int i => (Str.ofString (toString i)).length
  | .str x => (reprText x).length
  | .list ds => 2 + wtAll ds
  | .tuple ds => 3 + wtAll ds
  | .dict _ => 2
def wtAll : List PyData → Nat
  | [] => 0
  | d :: ds => wt d + 2 + wtAll ds
end
/-! no dict but the empty one -/
mutual
def nod : PyData → Bool
  | .dict kvs => kvs.isEmpty
  | .list ds => nodAll ds
  | .tuple ds => nodAll ds
  | _ => true
def nodAll : List PyData → Bool
  | [] => true
  | d :: ds => nod d && nodAll ds
end
def sumLen (ts : List Str) : Nat := (ts.map fun t => t.length + 2).sum
theorem textFrom_sum : ∀ (ts : List Str) (k : Nat) (acc : Str), (textFrom k acc ts).length ≤ acc.length + sumLen ts
  | [], k, acc => by
    show acc.length ≤ _
    exact Nat.le_add_right _ _
  | t :: r, k, acc => by
    have z := textFrom_sum r (k + 1) (acc ++ (if k > 0 then ", " else "" : String) ++ t)
    have e : (acc ++ (if k > 0 then ", " else "" : String) ++ t).length ≤ acc.length + 2 + t.length := by
      rw [Str.length_append, Str.length_append]
      by_cases hk : k > 0
      · rw [if_pos hk]
        exact Nat.le_refl _
      · rw [if_neg hk]
        show acc.length + 0 + t.length ≤ _
        omega
    show (textFrom (k + 1) (acc ++ (if k > 0 then ", " else "" : String) ++ t) r).length ≤ acc.length + (t.length + 2 + sumLen r)
    omega
theorem join_sum : ∀ ts : List Str, (Str.join ", " ts).length ≤ sumLen ts
  | [] => Nat.zero_le _
  | [x] => by show x.length ≤ x.length + 2 + 0; omega
  | x :: y :: r => by
    have ih := join_sum (y :: r)
    show (x ++ ", " ++ Str.join ", " (y :: r)).length ≤ x.length + 2 + sumLen (y :: r)
    have e2 : ((", " : String) : Str).length = 2 := rfl
    rw [Str.length_append, Str.length_append, e2]
    omega
mutual
theorem shown_wt : ∀ d : PyData, nod d = true → d.shown.length ≤ wt d
  | .none, _ => by decide
  | .bool b, _ => by cases b <;> decide
  | .int i, _ => Nat.le_refl _
  | .str x, _ => Nat.le_refl _
  | .list ds, h => by
    have z := textFrom_sum (PyData.shownAll ds) 0 "["
    have z2 := shownAll_wt ds h
    show (textFrom 0 "[" (PyData.shownAll ds) ++ ("]" : Str)).length ≤ 2 + wtAll ds
    rw [Str.length_append]
    have e1 : ("[" : Str).length = 1 := rfl
    have e2 : ("]" : Str).length = 1 := rfl
    omega
  | .tuple ds, h => by
    have z := join_sum (PyData.shownAll ds)
    have z2 := shownAll_wt ds h
    show (("(" : Str) ++ Str.join ", " (PyData.shownAll ds) ++ (if (PyData.shownAll ds).length == 1 then ",)" else ")" : String)).length ≤ 3 + wtAll ds
    rw [Str.length_append, Str.length_append]
    have e1 : ("(" : Str).length = 1 := rfl
    have e2 : (((if (PyData.shownAll ds).length == 1 then ",)" else ")" : String)) : Str).length ≤ 2 := by split <;> decide
    omega
  | .dict kvs, h => by
    cases kvs with
    | nil => decide
    | cons _ _ => cases h
theorem shownAll_wt : ∀ ds : List PyData, nodAll ds = true → sumLen (PyData.shownAll ds) ≤ wtAll ds
  | [], _ => Nat.le_refl _
  | d :: ds, h => by
    have h : (nod d && nodAll ds) = true := h
    rw [Bool.and_eq_true] at h
    have a := shown_wt d h.1
    have b := shownAll_wt ds h.2
    show d.shown.length + 2 + sumLen (PyData.shownAll ds) ≤ wt d + 2 + wtAll ds
    omega
end
/-- data that is to be shown: its text, its depth -/
structure Bd (m k : Nat) (d : PyData) : Prop where
  w : wt d ≤ m
  dp : d.depth ≤ k
  s : d.showable = true
  n : nod d = true
structure BdAll (m k : Nat) (ds : List PyData) : Prop where
  w : wtAll ds ≤ m
  dp : PyData.depthAll ds ≤ k
  s : PyData.showableAll ds = true
  n : nodAll ds = true
theorem Bd.mono {m k m' k' : Nat} {d : PyData} (h : Bd m k d) (a : m ≤ m') (b : k ≤ k') : Bd m' k' d := ⟨Nat.le_trans h.w a, Nat.le_trans h.dp b, h.s, h.n⟩
theorem BdAll.mono {m k m' k' : Nat} {d : List PyData} (h : BdAll m k d) (a : m ≤ m') (b : k ≤ k') : BdAll m' k' d := ⟨Nat.le_trans h.w a, Nat.le_trans h.dp b, h.s, h.n⟩
theorem Bd.list {m k : Nat} {ds : List PyData} (h : BdAll m k ds) : Bd (2 + m) (k + 1) (.list ds) := ⟨Nat.add_le_add_left h.w 2, Nat.succ_le_succ h.dp, h.s, h.n⟩
theorem Bd.tuple {m k : Nat} {ds : List PyData} (h : BdAll m k ds) : Bd (3 + m) (k + 1) (.tuple ds) := ⟨Nat.add_le_add_left h.w 3, Nat.succ_le_succ h.dp, h.s, h.n⟩
theorem BdAll.nil {k : Nat} : BdAll 0 k [] := ⟨Nat.le_refl _, Nat.zero_le _, rfl, rfl⟩
theorem BdAll.cons {m n k : Nat} {d : PyData} {ds : List PyData} (h : Bd m k d) (g : BdAll n k ds) : BdAll (m + 2 + n) k (d :: ds) := by
  refine ⟨?_, Nat.max_le.mpr ⟨h.dp, g.dp⟩, ?_, ?_⟩
  · show wt d + 2 + wtAll ds ≤ _
    have := h.w
    have := g.w
    omega
  · show (d.showable && PyData.showableAll ds) = true
    rw [h.s, g.s]
    rfl
  · show (nod d && nodAll ds) = true
    rw [h.n, g.n]
    rfl
theorem BdAll.app {m n k : Nat} {as bs : List PyData} (h : BdAll m k as) (g : BdAll n k bs) : BdAll (m + n) k (as ++ bs) := by
  induction as generalizing m with
  | nil => exact g.mono (Nat.le_add_left _ _) (Nat.le_refl _)
  | cons d r ih =>
    obtain ⟨h1, h2, h3, h4⟩ := h
    have h3 : (d.showable && PyData.showableAll r) = true := h3
    have h4 : (nod d && nodAll r) = true := h4
    rw [Bool.and_eq_true] at h3 h4
    have h2 : max d.depth (PyData.depthAll r) ≤ k := h2
    have h1 : wt d + 2 + wtAll r ≤ m := h1
    have z := ih (m := wtAll r) ⟨Nat.le_refl _, Nat.le_trans (Nat.le_max_right _ _) h2, h3.2, h4.2⟩
    refine (BdAll.cons (m := wt d) ⟨Nat.le_refl _, Nat.le_trans (Nat.le_max_left _ _) h2, h3.1, h4.1⟩ z).mono (by omega) (Nat.le_refl _)
theorem BdAll.sub {m k : Nat} {as bs : List PyData} (h : BdAll m k bs) (s : as.Sublist bs) : BdAll m k as := by
  induction s generalizing m with
  | slnil => exact h
  | cons d _ ih =>
    obtain ⟨h1, h2, h3, h4⟩ := h
    have h3 : (d.showable && _) = true := h3
    have h4 : (nod d && _) = true := h4
    rw [Bool.and_eq_true] at h3 h4
    have h1 : wt d + 2 + _ ≤ m := h1
    exact ih ⟨by omega, Nat.le_trans (Nat.le_max_right _ _) h2, h3.2, h4.2⟩
  | @cons_cons l1 l2 d _ ih =>
    obtain ⟨h1, h2, h3, h4⟩ := h
    have h3 : (d.showable && _) = true := h3
    have h4 : (nod d && _) = true := h4
    rw [Bool.and_eq_true] at h3 h4
    have h1 : wt d + 2 + wtAll l2 ≤ m := h1
    have z := ih (m := wtAll l2) ⟨Nat.le_refl _, Nat.le_trans (Nat.le_max_right _ _) h2, h3.2, h4.2⟩
    exact (BdAll.cons (m := wt d) ⟨Nat.le_refl _, Nat.le_trans (Nat.le_max_left _ _) h2, h3.1, h4.1⟩ z).mono (by omega) (Nat.le_refl _)
theorem BdAll.get {m k : Nat} {ds : List PyData} (h : BdAll m k ds) {d : PyData} (hd : d ∈ ds) : Bd m k d := by
  induction ds generalizing m with
  | nil => cases hd
  | cons x r ih =>
    obtain ⟨h1, h2, h3, h4⟩ := h
    have h3 : (x.showable && _) = true := h3
    have h4 : (nod x && _) = true := h4
    rw [Bool.and_eq_true] at h3 h4
    have h1 : wt x + 2 + wtAll r ≤ m := h1
    rcases List.mem_cons.mp hd with rfl | hd
    · exact ⟨by omega, Nat.le_trans (Nat.le_max_left _ _) h2, h3.1, h4.1⟩
    · exact ih ⟨by omega, Nat.le_trans (Nat.le_max_right _ _) h2, h3.2, h4.2⟩ hd
/-- the text of a number of at most so many digits -/
theorem bd_int {i : Int} {k : Nat} (h : i.natAbs < 10 ^ 31) : Bd 40 k (.int i) := by
  have hb : i.natAbs < 2 ^ 110 := Nat.lt_trans h (by decide)
  have hl : i.natAbs.log2 < 1920 := Nat.lt_of_lt_of_le (PySem.Flt.log2_lt_of (by decide) hb) (by decide)
  refine ⟨?_, Nat.zero_le _, by show decide (i.natAbs.log2 < 1920) = true; exact decide_eq_true hl, rfl⟩
  show (Str.ofString (toString i)).length ≤ 40
  have z := PySem.int_text_length_le10 (a := i) (k := 31) (by decide) h
  rw [PySem.ofString_length]
  omega
theorem bd_ints {k m : Nat} : ∀ {ns : List Int}, (∀ n ∈ ns, n.natAbs < 10 ^ 31) → ns.length ≤ m → BdAll (m * 42) k (ns.map PyData.int)
  | [], _, _ => BdAll.nil.mono (Nat.zero_le _) (Nat.le_refl _)
  | n :: r, h, hm => by
    have hm : r.length + 1 ≤ m := hm
    have z := bd_ints (k := k) (m := r.length) (ns := r) (fun x hx => h x (List.mem_cons_of_mem _ hx)) (Nat.le_refl _)
    exact (BdAll.cons (bd_int (k := k) (h n List.mem_cons_self)) z).mono (by omega) (Nat.le_refl _)
/-! ### repr of any value -/
def rReprO (K : PySem.W.Frag) : List V → Hp → VK → Prop := fun xs H Q => ∃ (v : V) (d : PyData), xs = [v] ∧ Ox K H v d ∧ Bd 10000000 60 d ∧ Q (.str d.shown) H
theorem call_reprO {X : Cx} (hg : X.A.guards = some []) (hu : X.A.units + 64 < cLine) : CallR X (.builtin "repr") (rReprO X.K) := by
  intro pins s σ H xs us Q I r h
  obtain ⟨v, d, rfl, hv, hb, q⟩ := h
  obtain ⟨u, rfl, rx⟩ := vals1 r
  have hl : d.shown.length ≤ sizeLine := Nat.le_trans (Nat.le_trans (shown_wt d hb.n) hb.w) (by decide)
  have hdp := hb.dp
  have hs := hb.s
  cases hv with
  | non =>
    cases (show u = Value.none from rx)
    exact call_repr_gives (T := "NoneType") rfl F.slot_NoneType_repr F.entry_NoneType_repr (F.args_NoneType_repr_1 _) gives_none_repr ⟨.str _, H, I.tok _, ⟨_, rfl⟩, q⟩ (hx := by decide)
  | bl b =>
    cases (show u = Value.bool b from rx)
    exact PySem.P.repr_of_bool ⟨.str _, H, I.tok _, ⟨_, rfl⟩, by cases b <;> exact q⟩
  | int i =>
    obtain ⟨t, rfl⟩ := (show ∃ t, u = Value.int i t from rx)
    exact PySem.P.repr_of_int (of_decide_eq_true hs) ⟨.str _, H, I.tok _, ⟨_, rfl⟩, q⟩
  | str x =>
    obtain ⟨t, rfl⟩ := (show ∃ t, u = Value.str x t from rx)
    exact PySem.P.repr_of_str ⟨.str _, H, I.tok _, ⟨_, rfl⟩, q⟩ hl
  | @lst a xs ds hL ha =>
    cases (show u = Value.ref _ from rx)
    obtain ⟨its, rv, ⟨o, n, ho, hc, _, hd⟩, _⟩ := I.list hL
    have len : (PySem.listText (PyData.shownAll ds)).length ≤ sizeLine := hl
    have hdp : PyData.depthAll ds + 1 ≤ 60 := hdp
    obtain ⟨bs, as, ra, rb, rk⟩ := Ox.rkAll I ds xs its ha rv hs (fun t ht => Nat.le_trans (PySem.listText_mem_le ht) len)
    have rr := Reads.list ho hc hd ra
    have fresh : a ∉ bs := PySem.not_mem_of_deeper rr (Nat.lt_succ_self (PyData.depthAll ds)) rb
    refine PySem.call_repr_slot (T := "list") (idr := "list.__repr__") (by omega) ⟨o, ho, hc⟩ PySem.F.slot_list_repr.toG ?_
    cases its with
    | nil =>
      cases ra
      refine PySem.call_list_repr_empty ⟨o, ho, hc⟩ ho hd ⟨_, _, rfl, .str _, H, I.tok _, ⟨_, rfl⟩, ?_⟩
      have q : Q (.str (PySem.listText [])) H := q
      rw [PySem.listText_nil] at q
      exact q
    | cons y l => exact PySem.call_list_reprK ho hc hd fresh (by simpa using rk.length_eq) (fun i z e => rk.item i z (by simpa using e)) hg (fun b _ => PySem.Clear.nil b) (by show X.A.units + 1 + (PyData.depthAll ds + 1) < cLine; omega) (fun _ _ e => e) (fun h' t tk hk => ⟨_, _, rfl, .str _, H, I.kept hk, ⟨t, rfl⟩, q⟩) len
  | @tup a xs ds hT ha =>
    cases (show u = Value.ref _ from rx)
    obtain ⟨its, rv, ⟨o, ho, hc, n, hd⟩, _⟩ := I.tuple hT
    have len : (PySem.tupleText (PyData.shownAll ds)).length ≤ sizeLine := hl
    have hdp : PyData.depthAll ds + 1 ≤ 60 := hdp
    obtain ⟨bs, as, ra, rb, rk⟩ := Ox.rkAll I ds xs its ha rv hs (fun t ht => Nat.le_trans (PySem.tupleText_mem_le ht) len)
    have rr := Reads.tuple ho hc hd ra
    have fresh : a ∉ bs := PySem.not_mem_of_deeper rr (Nat.lt_succ_self (PyData.depthAll ds)) rb
    refine PySem.call_repr_slot (T := "tuple") (idr := "tuple.__repr__") (by omega) ⟨o, ho, hc⟩ PySem.F.slot_tuple_repr ?_
    exact PySem.call_tuple_reprK ho hc hd fresh rk hg (fun b _ => PySem.Clear.nil b) (by show X.A.units + 1 + (PyData.depthAll ds + 1) < cLine; omega) (fun _ _ e => e) (fun h' t tk hk => ⟨_, _, rfl, .str _, H, I.kept hk, ⟨t, rfl⟩, q⟩) len
  | @dct a ha =>
    cases (show u = Value.ref _ from rx)
    obtain ⟨o, es, ep, e1, ec, ed, e0, hns⟩ := Ox.dctAt I ha
    refine PySem.call_repr_slot (T := "dict") (idr := "dict.__repr__") (by omega) ⟨o, e1, ec⟩ PySem.F.slot_dict_repr ?_
    exact PySem.call_dict_reprK (d := 0) (as := []) e1 ec ed hns List.not_mem_nil (by rw [e0]; exact PySem.ReprEntriesK.of_two [] [] [] .nil .nil) hg (fun b _ => PySem.Clear.nil b) (by show X.A.units + 1 + (0 + 1) < cLine; omega) (fun _ _ e => e) (fun h' t tk hk => ⟨_, _, rfl, .str _, H, I.kept hk, ⟨t, rfl⟩, q⟩) (by decide)
end Lp
set_option Elab.async false
set_option linter.all false
set_option maxRecDepth 100000
set_option maxHeartbeats 1000000
namespace Lp
open PySem PySem.Spec PyProof.Rows L2
/-! ### a weaker promise of the same def -/
section
variable {P : Program} {w : World} {K : PySem.W.Frag} {mg : Str → Option Value} {base : Heap} {k : Nat} {x : Str} {sp sp' : Sp}
theorem FnOk.weak {CX : CXT} {f : Addr} {fd : FuncData} {ps : List Str} (F : FnOk P w K mg base CX k f fd ps sp) (h : ∀ vs H Q E, sp' vs H Q E → sp vs H Q E) : FnOk P w K mg base CX k f fd ps sp' :=
  ⟨fun vs H Q E s => F.len vs H Q E (h _ _ _ _ s), fun A out s H ar us vs Q E r e b v s1 => F.run A out s H ar us vs Q E r e b v (h _ _ _ _ s1)⟩
theorem FnG.weak {CX : CXT} {f : Addr} {fd : FuncData} {ps : List Str} (F : FnG P w K mg base CX k f fd ps sp) (h : ∀ vs H Q E, sp' vs H Q E → sp vs H Q E) : FnG P w K mg base CX k f fd ps sp' :=
  ⟨fun vs H Q E s => F.len vs H Q E (h _ _ _ _ s), fun A out s H ar us vs Q E g r e b v s1 => F.runG A out s H ar us vs Q E g r e b v (h _ _ _ _ s1)⟩
theorem cal_weak (c : Cal P w K mg base k x sp) (h : ∀ vs H Q E, sp' vs H Q E → sp vs H Q E) : Cal P w K mg base k x sp' := by
  obtain ⟨f, fd, ps, F, r⟩ := c.ex
  exact ⟨f, fd, ps, Lp.FnOk.weak F h, r⟩
theorem gc_weak (c : Gc P w K mg base k x sp) (h : ∀ vs H Q E, sp' vs H Q E → sp vs H Q E) : Gc P w K mg base k x sp' := by
  obtain ⟨f, fd, ps, F, r⟩ := c.ex
  exact ⟨f, fd, ps, Lp.FnG.weak F h, r⟩
end
/-! ### len(set(xs)), xs a list of ints -/
theorem firstMet_le (ns : List Int) : ∀ i : Nat, i ≤ ns.length → (PyProof.Rows.firstMet (fun j => ns.getD j 0) i).length ≤ i ∧ ((PyProof.Rows.firstMet (fun j => ns.getD j 0) i).length = i → PyProof.Rows.firstMet (fun j => ns.getD j 0) i = ns.take i ∧ (ns.take i).Nodup)
  | 0, _ => ⟨Nat.le_refl _, fun _ => ⟨by rw [List.take_zero]; rfl, by rw [List.take_zero]; exact List.nodup_nil⟩⟩
  | i + 1, h => by
    obtain ⟨h1, h2⟩ := firstMet_le ns i (by omega)
    have hlt : i < ns.length := h
    have e : ns.getD i 0 = ns[i] := by rw [List.getD_eq_getElem?_getD, List.getElem?_eq_getElem hlt] <;> rfl
    have st : PyProof.Rows.firstMet (fun j => ns.getD j 0) (i + 1) = if (PyProof.Rows.firstMet (fun j => ns.getD j 0) i).any (· == ns.getD i 0) = true then PyProof.Rows.firstMet (fun j => ns.getD j 0) i else PyProof.Rows.firstMet (fun j => ns.getD j 0) i ++ [ns.getD i 0] := by
      rw [PyProof.Rows.firstMet_succ]
      rfl
    rw [st]
    by_cases c : (PyProof.Rows.firstMet (fun j => ns.getD j 0) i).any (· == ns.getD i 0) = true
    · rw [if_pos c]
      exact ⟨by omega, fun z => by omega⟩
    · rw [if_neg c, List.length_append]
      refine ⟨by show _ + 1 ≤ _; omega, fun z => ?_⟩
      have z : (PyProof.Rows.firstMet (fun j => ns.getD j 0) i).length + 1 = i + 1 := z
      obtain ⟨a, b⟩ := h2 (by omega)
      have t : ns.take (i + 1) = ns.take i ++ [ns[i]] := take_get (List.getElem?_eq_getElem hlt)
      rw [a, e] at c
      rw [a, e, t]
      refine ⟨rfl, List.nodup_append.mpr ⟨b, List.nodup_cons.mpr ⟨List.not_mem_nil, List.nodup_nil⟩, fun x hx y hy q => c ?_⟩⟩
      rw [List.mem_singleton] at hy
      subst hy
      subst q
      exact List.any_eq_true.mpr ⟨_, hx, beq_self_eq_true _⟩
theorem firstMet_len (ns : List Int) : (PyProof.Rows.firstMet (fun j => ns.getD j 0) ns.length).length = ns.length ↔ ns.Nodup := by
  constructor
  · intro h
    have := ((firstMet_le ns ns.length (Nat.le_refl _)).2 h).2
    rwa [List.take_length] at this
  · intro h
    rw [RZ.firstMet_nodup h ns.length (Nat.le_refl _), List.take_length]
def tLenSetG (K : PySem.W.Frag) (ta : TE) : TE := fun σ H Q => ta σ H fun x H1 => ∃ (l : Addr) (ns : List Int), x = .ref l ∧ SqL K H1 l (ns.map V.int) ∧ ns.length ≤ 4000 ∧ ∀ c : Nat, (c = ns.length ↔ ns.Nodup) → Q (.int (c : Int)) H1
theorem pe_lenSetG {X : Cx} {a : Expr} {ta : TE} {p p2 q pos : Pos} (hg : Gl X "len") (hm : X.mg "len" = none) (hg2 : Gl X "set") (hm2 : X.mg "set" = none) (ha : PE X a ta) (hc : X.calm = true := by rfl)
    (na : starEach [a] X.env = (false, eval a X.env) :: starEach [] X.env := by rfl) : PE X (.Call (.Name "len" p) [.Call (.Name "set" p2) [a] [] q] [] pos) (tLenSetG X.K ta) := by
  refine ⟨fun pins s σ H Q I h => ?_⟩
  refine Call_ (ld_blt I hg hm boot_len ?_)
  refine PyProof.Rows.callWith_builtin1 (PyProof.Rows.args_cons ?_ rfl) rfl rfl
  refine Call_ (ld_blt I hg2 hm2 boot_set ?_)
  refine PyProof.Rows.callWith_type1 (PyProof.Rows.args_cons (thn (ha.run pins s σ H _ I h) fun v s1 ⟨x, H1, I1, r1, q1⟩ => PyProof.Rows.args_nil ?_) na) na rfl
  obtain ⟨l, ns, rfl, hq, hl, q1⟩ := q1
  cases r1
  obtain ⟨its, r, pl, hz⟩ := I1.list hq
  have hlen : its.toArray.size = ns.length := by rw [List.size_toArray, ← r.length, List.length_map]
  refine call_set_list (I1.ok.hd hc) pl.isList (by simpa using RZ.intsAre_vals r) (by rw [hlen]; unfold scanBound; omega) fun h' tk hS hk => ?_
  refine PyProof.Rows.args_nil ?_
  rw [hlen] at hS
  have hc2 := firstMet_len ns
  have hc3 := (firstMet_le ns ns.length (Nat.le_refl _)).1
  obtain ⟨o, es, ep, t, ho, hex, hd, _, _, _, hf, hn⟩ := hS
  have I2 : Inv X pins σ H1 { s1 with heap := h', toks := tk } := I1.kept fun b o e => hk b o (Heap.lt_size e) e
  exact call_len_set ho hex hd hf (by rw [hn] <;> omega) ⟨.int ((PyProof.Rows.firstMet (fun j => ns.getD j 0) ns.length).length : Nat), H1, I2.tok _, ⟨_, by rw [hn]⟩, q1 _ hc2⟩
/-! ### xs != [] -/
def rNeNil (K : PySem.W.Frag) : R2 := fun x y H Q => ∃ (a b : Addr) (xs : List V), x = .ref a ∧ y = .ref b ∧ SqL K H a xs ∧ SqL K H b [] ∧ Q (.bl (!xs.isEmpty)) H
theorem op_neNil {X : Cx} (hu : X.A.units + 64 < cLine) : OpR X (compareOp .NotEq) (rNeNil X.K) := by
  intro pins s σ H x y v u Q I rx ry h
  obtain ⟨a, b, xs, rfl, rfl, ha, hb, q⟩ := h
  cases (show v = Value.ref a from rx)
  cases (show u = Value.ref b from ry)
  obtain ⟨its, r1, p1, _⟩ := I.list ha
  obtain ⟨jts, r2, p2, _⟩ := I.list hb
  cases r2
  cases xs with
  | nil =>
    cases r1
    have e : (!PyData.eqv (dI []) (dI [])) = false := rfl
    exact op_neD hu pins s σ H (.ref a) (.ref b) _ _ Q I rfl rfl ⟨dI [], dI [], dp_ints (ns := []) ha, dp_ints (ns := []) hb, shaped_ints [], shaped_ints [], q⟩
  | cons z zs =>
    cases r1 with
    | cons r rr =>
      exact PySem.SeqAt.RcNeAt.lists_lengths p1.isList p2.isList rfl (by omega) X.prog X.w X.xe _ ⟨.bl true, H, I, rfl, q⟩
/-! ### set(xs) of more than a thousand -/
def rSetLH (K : PySem.W.Frag) (w : World) : List V → Hp → VK → Prop := fun xs H Q => ∃ (a : Addr) (ns : List Int), xs = [V.ref a] ∧ SqL K H a (ns.map V.int) ∧ ns.length ≤ 4000 ∧ ∀ (p : Addr) (c : Nat), H p = none → c ≤ ns.length → Q (.ref p) (upd H p (SetO w p (fun j => decide (j ∈ ns)) c))
theorem cr_setLH {X : Cx} (hc : X.calm = true) : CallR X (.type "set") (rSetLH X.K X.w) := by
  intro pins s σ H xs us Q I r h
  obtain ⟨a, ns, rfl, hq, hl, q⟩ := h
  cases r with
  | cons r rr =>
    cases rr
    cases (show _ = Value.ref a from r)
    obtain ⟨its, rv, p, _⟩ := I.list hq
    refine call_set_listI ns (I.ok.hd hc) p.isList (RZ.intsAre_vals rv) (Nat.lt_of_le_of_lt (Nat.succ_le_succ hl) (by decide)) fun h' tk c hs hcn hk => ?_
    refine ⟨.ref _, upd H _ (SetO X.w s.heap.objs.size (fun j => decide (j ∈ ns)) c), I.laid hk (Nat.le_refl _) ⟨hs, ?_, fun h1 h2 x k => ?_⟩, rfl, q _ c (I.hok.fresh (Nat.le_refl _)) hcn⟩
    · obtain ⟨o, _, _, _, e, _⟩ := hs
      exact ⟨o, e⟩
    · obtain ⟨o, es, ep, t, e, r⟩ := x
      exact ⟨o, es, ep, t, k o e, r⟩
theorem num_len3 : ∀ n : Int, -999 ≤ n → n ≤ 999 → (Str.ofString (toString n)).length ≤ 4 := by
  intro n h0 h1
  have key : ∀ i : Fin 1999, (Str.ofString (toString ((i.val : Int) - 999))).length ≤ 4 := by decide +kernel
  have e := key ⟨(n + 999).toNat, by omega⟩
  have e2 : (((n + 999).toNat : Nat) : Int) - 999 = n := by omega
  rw [e2] at e
  exact e
end Lp
namespace Lp
open PySem PySem.Spec PyProof.Rows L2
/-! ### != of equal lists of texts -/
def rNeStrs (K : PySem.W.Frag) : R2 := fun x y H Q => ∃ (a b : Addr) (zs : List Str), x = .ref a ∧ y = .ref b ∧ SqL K H a (zs.map V.str) ∧ SqL K H b (zs.map V.str) ∧ Q (.bl false) H
theorem op_neStrs {X : Cx} (hu : X.A.units + 64 < cLine) : OpR X (compareOp .NotEq) (rNeStrs X.K) := by
  intro pins s σ H x y v u Q I rx ry h
  obtain ⟨a, b, zs, rfl, rfl, ha, hb, q⟩ := h
  cases (show v = Value.ref a from rx)
  cases (show u = Value.ref b from ry)
  obtain ⟨its, r1, p1, _⟩ := I.list ha
  obtain ⟨jts, r2, p2, _⟩ := I.list hb
  have l1 := r1.length
  have l2 := r2.length
  refine PySem.SeqAt.RcNeAt.lists (e := fun _ => true) p1.isList p2.isList (by simp; omega) (by omega) (fun j h1 h2 => ?_) X.prog X.w X.xe _ ?_
  · have g1 : j < its.length := by simpa using h1
    have g2 : j < jts.length := by simpa using h2
    have gz : (zs.map V.str)[j]? = some (.str (zs[j]'(by rw [List.length_map] at l1; omega))) := by rw [List.getElem?_map, List.getElem?_eq_getElem (by rw [List.length_map] at l1; omega)]; rfl
    obtain ⟨u1, e1, t1, q1⟩ := r1.get gz
    obtain ⟨u2, e2, t2, q2⟩ := r2.get gz
    rw [List.getElem?_eq_getElem g1] at e1
    rw [List.getElem?_eq_getElem g2] at e2
    have f1 : its.toArray[j] = u1 := by simpa using Option.some.inj e1
    have f2 : jts.toArray[j] = u2 := by simpa using Option.some.inj e2
    rw [f1, f2, q1, q2]
    have z := PySem.SeqAt.EqAt.str_str (A := X.A.in1) (s := s) (zs[j]'(by rw [List.length_map] at l1; omega)) t1 (zs[j]'(by rw [List.length_map] at l1; omega)) t2
    rw [beq_self_eq_true] at z
    exact z
  · have e : (!(List.range its.toArray.size).all fun _ => true) = false := by simp
    rw [e]
    exact ⟨.bl false, H, I, rfl, q⟩
end Lp
set_option Elab.async false
set_option linter.all false
set_option maxRecDepth 100000
set_option maxHeartbeats 1000000
namespace Lp
open PySem PySem.Spec PyProof.Rows L2
/-! ### isinstance(e, (C1, C2, ..)) of the exception that is held -/
def rIsPT (K : PySem.W.Frag) (p : Addr × Obj) : List V → Hp → VK → Prop := fun xs H Q => ∃ (D tp : Addr) (cs : List V) (us : List Value) (b : Bool), xs = [.ref p.1, .ref tp] ∧ H tp = some (.tup cs) ∧ Paired ClsV cs us ∧ Zc (.ref D) none p.2 ∧ (∃ vs, p.2.data = .fields vs) ∧ ExcC K D ∧ PySem.W.kitAny K (.ref D) us = some b ∧ Q (.bl b) H
theorem call_isPT {X : Cx} {p : Addr × Obj} (hp : p ∈ X.pn) : CallR X (.builtin "isinstance") (rIsPT X.K p) := by
  intro pins s σ H xs us Q I r h
  obtain ⟨D, tp, cs, ws, b, rfl, hT, k, hz, ⟨vs, hv⟩, C, e, q⟩ := h
  obtain ⟨u1, u2, rfl, r1, r2⟩ := vals2 r
  cases (show u1 = Value.ref p.1 from r1)
  cases (show u2 = Value.ref tp from r2)
  have hget := (I.pin p (List.mem_append_left _ hp)).1
  obtain ⟨a, oe⟩ := p
  have J : PySem.W.InstAt s.heap a oe D none := by
    obtain ⟨oc, od, oda, osl⟩ := oe
    obtain ⟨h1, h2⟩ := hz
    dsimp only at h1 h2 hv
    subst h1 h2 hv
    exact ⟨hget, rfl, rfl, trivial⟩
  obtain ⟨_, its, rv, o, h1, h2, n, h3⟩ := (show ObjOk X.prog X.w H s.heap tp (.tup cs) from I.hok tp _ hT)
  have e3 := ClsV.all k rv
  subst e3
  obtain ⟨oc, od, dt, sl⟩ := o
  simp only at h2 h3
  subst h2 h3
  exact PySem.W.kia_tup (PySem.W.handS_kitx_exc C.hg C.hk C.hs C.hd C.ha C.hn C.ht C.hm) I.kIn J h1 e (fun z => nomatch z) fun tk => ⟨.bl b, H, I.kept (t' := tk) fun _ _ z => z, rfl, q⟩
/-! ### bs.count(b) of bools -/
def isBo (b : Bool) : Value → Bool
  | .bool c => c == b
  | _ => false
theorem bo_count {b : Bool} : ∀ {ys : List Bool} {us : List Value}, Vals (ys.map V.bl) us → us.countP (isBo b) = ys.count b
  | [], _, .nil => rfl
  | y :: ys, _, .cons r t => by
    cases (show _ = Value.bool y from r)
    rw [List.countP_cons, bo_count t, List.count_cons]
    rfl
theorem bo_mem {ys : List Bool} {us : List Value} (h : Vals (ys.map V.bl) us) {u : Value} (hu : u ∈ us) : ∃ c, u = .bool c := by
  obtain ⟨i, hi⟩ := List.mem_iff_getElem?.mp hu
  have hl := h.length
  have li := (List.getElem?_eq_some_iff.mp hi).1
  have g : (ys.map V.bl)[i]? = some (.bl (ys[i]'(by rw [List.length_map] at hl; omega))) := by rw [List.getElem?_map, List.getElem?_eq_getElem (by rw [List.length_map] at hl; omega)]; rfl
  obtain ⟨w, ew, rw'⟩ := h.get g
  rw [hi] at ew
  cases ew
  exact ⟨_, rw'⟩
def rCntB (K : PySem.W.Frag) : V → List V → Hp → VK → Prop := fun x xs H Q => ∃ (p : Addr) (ys : List Bool) (b : Bool), x = .ref p ∧ xs = [.bl b] ∧ SqL K H p (ys.map V.bl) ∧ Q (.int (ys.count b : Nat)) H
theorem mt_lcountB {X : Cx} : MtR X "list.count" (rCntB X.K) := by
  intro pins s σ H x xs v us Q I rx rxs h
  obtain ⟨p, ys, b, rfl, rfl, hs, q⟩ := h
  cases rx
  obtain ⟨u, rfl, ru⟩ := rxs.one
  cases (show u = Value.bool b from ru)
  obtain ⟨its, rv, ⟨⟨cls, dd, data, sl⟩, n, ho, hc, hdn, hd⟩, hlen⟩ := I.list hs
  simp only at hc hd
  subst hc hd
  refine call_meets PySem.F.slot_list_count ⟨_, ho, rfl⟩ PySem.F.entry_list_count (PySem.F.args_list_count_2 _ _)
    (SeqAt.list_countAt p its.toArray n dd sl (.bool b) (isBo b)) ⟨ho, fun y hy => ?_, ?_⟩
  · obtain ⟨c, rfl⟩ := bo_mem rv (by simpa using hy)
    exact PySem.SeqAt.EqAt.bool_bool c b
  · have ec : its.toArray.toList.countP (isBo b) = ys.count b := bo_count rv
    refine ⟨.int (ys.count b : Nat), H, I.tok _, ⟨s.toks, ?_⟩, q⟩
    show Value.int ((its.toArray.toList.countP (isBo b) : Nat) : Int) s.toks = Value.int ((ys.count b : Nat) : Int) s.toks
    rw [ec]
/-! ### == of lists of texts -/
def rEqStrs (K : PySem.W.Frag) : R2 := fun x y H Q => ∃ (a b : Addr) (zs : List Str), x = .ref a ∧ y = .ref b ∧ SqL K H a (zs.map V.str) ∧ SqL K H b (zs.map V.str) ∧ Q (.bl true) H
theorem op_eqStrs {X : Cx} (hu : X.A.units + 64 < cLine) : OpR X (compareOp .Eq) (rEqStrs X.K) := by
  intro pins s σ H x y v u Q I rx ry h
  obtain ⟨a, b, zs, rfl, rfl, ha, hb, q⟩ := h
  cases (show v = Value.ref a from rx)
  cases (show u = Value.ref b from ry)
  obtain ⟨its, r1, p1, _⟩ := I.list ha
  obtain ⟨jts, r2, p2, _⟩ := I.list hb
  have l1 := r1.length
  have l2 := r2.length
  refine PySem.SeqAt.RcAt.lists (e := fun _ => true) p1.isList p2.isList (by simp; omega) (by omega) (fun j h1 h2 => ?_) X.prog X.w X.xe _ ?_
  · have g1 : j < its.length := by simpa using h1
    have g2 : j < jts.length := by simpa using h2
    have gz : (zs.map V.str)[j]? = some (.str (zs[j]'(by rw [List.length_map] at l1; omega))) := by rw [List.getElem?_map, List.getElem?_eq_getElem (by rw [List.length_map] at l1; omega)]; rfl
    obtain ⟨u1, e1, t1, q1⟩ := r1.get gz
    obtain ⟨u2, e2, t2, q2⟩ := r2.get gz
    rw [List.getElem?_eq_getElem g1] at e1
    rw [List.getElem?_eq_getElem g2] at e2
    have f1 : its.toArray[j] = u1 := by simpa using Option.some.inj e1
    have f2 : jts.toArray[j] = u2 := by simpa using Option.some.inj e2
    rw [f1, f2, q1, q2]
    have z := PySem.SeqAt.EqAt.str_str (A := X.A.in1) (s := s) (zs[j]'(by rw [List.length_map] at l1; omega)) t1 (zs[j]'(by rw [List.length_map] at l1; omega)) t2
    rw [beq_self_eq_true] at z
    exact z
  · have e : ((List.range its.toArray.size).all fun _ => true) = true := by simp
    rw [e]
    exact ⟨.bl true, H, I, rfl, q⟩
/-! ### the call of a def that an expression chooses -/
structure FtX (P : Program) (w : World) (K : PySem.W.Frag) (mg : Str → Option Value) (base : Heap) (k : Nat) (f : Addr) (sp : Sp) : Prop where
  ex : ∃ (fd : FuncData) (ps : List Str), FnOk P w K mg base (L2.CX P w) k f fd ps sp ∧ PySem.W.keepIn K (.ref f) = true ∧ Binds K fd ps []
section
variable {X : Cx} {k j : Nat} {pos : Pos} {fe e : Expr} {es : List Expr} {t : TA} {tf : TE} {W : WX}
def tSel (G : Addr → Sp → Prop) (W : WX) (tf : TE) (t : TA) : TE := fun σ H Q => tf σ H fun x H1 => ∃ (f : Addr) (sp : Sp), x = .ref f ∧ G f sp ∧ t σ H1 fun vs H2 => sp vs H2 Q (WE W σ)
theorem pe_sel {G : Addr → Sp → Prop} (hG : ∀ f sp, G f sp → FtX X.prog X.w X.K X.mg X.base k f sp) (hr : Room j X.A) (hk : k ≤ j) (tk : Takes X W) (hf : PE X fe tf) (ha : PA X (e :: es) t)
    (hc : eval (.Call fe (e :: es) [] pos) X.env = (do callWith pos (← eval fe X.env) [] (backTo pos (starEach (e :: es) X.env)) (backToKw pos (keywordEach [] X.env))) := by rfl)
    (he : starEach (e :: es) X.env = (false, eval e X.env) :: starEach es X.env := by rfl) (hpl : (backTo pos (starEach es X.env)).any (·.1) = false := by rfl) : PE X (.Call fe (e :: es) [] pos) (tSel G W tf t) := by
  refine ⟨fun pins s σ H Q I h => ?_⟩
  refine Call_ (thn (hf.run pins s σ H _ I h) fun u s1 ⟨v, H1, I1, r1, f, sp, ev, g, ht⟩ => ?_) hc
  subst ev
  cases (show u = Value.ref f from r1)
  obtain ⟨fd, ps, F, kp, hb⟩ := (hG f sp g).ex
  refine PySem.W.callWith_K (h₀ := X.base) I1.ok.mod.kin kp (thn (ha.run pos pins s1 σ H1 _ I1 ht) fun us s2 ⟨vs, H2, I2, r, q⟩ => ⟨I2.kIn, ?_⟩) he hpl
  exact run_fnS F (hr.mono hk) hb (passAt tk σ) I2 r q
end
end Lp
set_option Elab.async false
set_option linter.all false
set_option maxRecDepth 100000
set_option maxHeartbeats 1000000
namespace Lp
open PySem PySem.Spec PyProof.Rows L2
/-! ### a def that raises nothing, among those that may raise; two promises of one def -/
section
variable {P : Program} {w : World} {K : PySem.W.Frag} {mg : Str → Option Value} {base : Heap} {k j : Nat} {x : Str} {sp sp1 sp2 : Sp}
theorem FnOk.lift {f : Addr} {fd : FuncData} {ps : List Str} (F : FnOk P w K mg base CX0 k f fd ps sp) : FnOk P w K mg base (L2.CX P w) k f fd ps sp :=
  ⟨F.len, fun A out s H ar us vs Q E r e b v h => codeAny_mono (F.run A out s H ar us vs Q E r e b v h) fun r s' hq => by
    cases r with
    | error e => exact False.elim hq
    | ok fl =>
      cases fl with
      | ret u => exact hq
      | next => exact hq
      | brk => exact hq
      | cont => exact hq⟩
def SpOr (a b : Sp) : Sp := fun vs H Q E => a vs H Q E ∨ b vs H Q E
theorem FnOk.or {CX : CXT} {f : Addr} {fd : FuncData} {ps : List Str} (F : FnOk P w K mg base CX k f fd ps sp1) (G : FnOk P w K mg base CX k f fd ps sp2) : FnOk P w K mg base CX k f fd ps (SpOr sp1 sp2) :=
  ⟨fun vs H Q E h => h.elim (F.len _ _ _ _) (G.len _ _ _ _), fun A out s H ar us vs Q E r e b v h => h.elim (F.run A out s H ar us vs Q E r e b v) (G.run A out s H ar us vs Q E r e b v)⟩
theorem FnOk.mono {CX : CXT} {f : Addr} {fd : FuncData} {ps : List Str} (F : FnOk P w K mg base CX k f fd ps sp) (h : k ≤ j) : FnOk P w K mg base CX j f fd ps sp :=
  ⟨F.len, fun A out s H ar us vs Q E r e b v => F.run A out s H ar us vs Q E (r.mono h) e b v⟩
/-! ### calls by keywords of defs that may raise -/
structure CalXk (P : Program) (w : World) (K : PySem.W.Frag) (mg : Str → Option Value) (base : Heap) (k : Nat) (x : Str) (n : Nat) (ks : List Str) (gV : List V → List V → List V) (sp : Sp) : Prop where
  ex : ∃ (f : Addr) (fd : FuncData) (ps : List Str) (g : List Value → List Value → List Value), FnOk P w K mg base (L2.CX P w) k f fd ps sp ∧ mg x = some (.ref f) ∧ PySem.W.keepIn K (.ref f) = true ∧ KBn K fd ps n ks g gV
end
section
variable {X : Cx} {k j : Nat} {x : Str} {p pos : Pos} {kws : List Keyword} {ks : List Str} {tk : TA} {gV : List V → List V → List V}
def tCxK (m : Nat) (sp : Sp) (gV : List V → List V → List V) (W : WX) (tk : TA) : TE := fun σ H Q => tk σ H fun zs H1 => zs.length = m ∧ sp (gV [] zs) H1 Q (WE W σ)
theorem pe_cxk0 {sp : Sp} {W : WX} (c : CalXk X.prog X.w X.K X.mg X.base k x 0 ks gV sp) (hr : Room j X.A) (hk : k ≤ j) (tk' : Takes X W) (hg : Gl X x) (hkw : PK X kws tk)
    (hall : (backToKw pos (keywordEach kws X.env)).all (·.1.isSome) = true := by rfl) (hks : (backToKw pos (keywordEach kws X.env)).filterMap (·.1) = ks := by rfl) (hdb : (x == ("__debug__" : Str)) = false := by decide)
    (hpl : ((backTo pos (starEach [] X.env)).any (·.1) || (backToKw pos (keywordEach kws X.env)).any (·.1.isNone)) = false := by rfl) :
    PE X (.Call (.Name x p) [] kws pos) (tCxK ks.length sp gV W tk) := by
  obtain ⟨f, fd, ps, g, F, hm, kp, hb⟩ := c.ex
  refine ⟨fun pins s σ H Q I h => ?_⟩
  refine wpAny_Call_Name_kw (ld_glob I hg hm ?_ hdb)
  refine PySem.W.callWith_KW0 (h₀ := X.base) I.ok.mod.kin kp hall ?_ hpl
  refine thn (hkw.run pos pins s σ H _ I h) fun ws s2 ⟨zs, H2, I2, rz, l2, q2⟩ => ⟨I2.kIn, ?_⟩
  rw [hks]
  have r2 := hb.rel (.nil : Vals [] []) rz
  refine wpAny_call (codeAny_mono (F.run X.A X.stack s2 H2 ⟨[], ks.zip ws⟩ (g [] ws) (gV [] zs) Q (WE W σ) (hr.mono hk) I2.env0 (hb.to s2 [] ws I2.kIn rfl (rz.length.symm.trans l2)) r2 q2) fun r s' hq => ?_)
  cases r with
  | error e => exact passAt tk' σ pins H2 s2 e s' I2 hq
  | ok fl =>
    cases fl with
    | ret u => exact I2.after hq
    | next => exact False.elim hq
    | brk => exact False.elim hq
    | cont => exact False.elim hq
end
/-! ### great numbers, told -/
theorem bd_big {i : Int} {k : Nat} (h : i.natAbs < 10 ^ 450) : Bd 500 k (.int i) := by
  have hb : i.natAbs < 2 ^ 1500 := Nat.lt_trans h (by decide +kernel)
  have hl : i.natAbs.log2 < 1920 := Nat.lt_of_lt_of_le (PySem.Flt.log2_lt_of (by decide) hb) (by decide)
  refine ⟨?_, Nat.zero_le _, by show decide (i.natAbs.log2 < 1920) = true; exact decide_eq_true hl, rfl⟩
  show (Str.ofString (toString i)).length ≤ 500
  have z := PySem.int_text_length_le10 (a := i) (k := 450) (by decide) h
  rw [PySem.ofString_length]
  omega
end Lp
set_option Elab.async false
set_option linter.all false
set_option maxRecDepth 100000
set_option maxHeartbeats 2000000
namespace Lp
open PySem PySem.Spec PyProof.Rows L2 HotX
/-! ### defs that may raise, the exception's context None -/
section
variable {P : Program} {w : World} {K : PySem.W.Frag} {mg : Str → Option Value} {base : Heap} {k j : Nat} {x : Str} {sp : Sp}
theorem _root_.L2.Fun.okN {x qual : Str} {st : Stmt} {f : Addr} {fd : FuncData} {N ps : List Str} {k : Nat} {sp : Sp} (F : Fun K x qual st f fd) (S : FnScope N ps (defScope st)) (len : ∀ vs H Q E, sp vs H Q E → vs.length = ps.length)
    (hbody : ∀ (cdv : Value) (A : Around) (outer : List Env) (s : Shared) (H : Hp) (vs : List V) (Q : VK) (E : XK), Room k (A.deeper (envOfC qual (defScope st) s.heap.objs.size f cdv)) → sp vs H Q E →
      ∃ t, PSs (cxOf (L2N.CX P w) P w K mg base N qual (defScope st) f cdv A outer s H E) (defBody st) t ∧ t { nx := fun _ H' => Q .non H', rt := Q } (start N vs) H) : FnOk P w K mg base (L2N.CX P w) (k + 1) f fd ps sp := by
  obtain ⟨oc, od, kV, doc, pm, an, cdv, ct, osl, rfl, lk, hcd⟩ := F.ex
  exact fn_of lk hcd S len fun A outer s H vs Q E hr hsp => hbody cdv A outer s H vs Q E hr hsp
theorem FnOk.liftN {f : Addr} {fd : FuncData} {ps : List Str} (F : FnOk P w K mg base CX0 k f fd ps sp) : FnOk P w K mg base (L2N.CX P w) k f fd ps sp :=
  ⟨F.len, fun A out s H ar us vs Q E r e b v h => codeAny_mono (F.run A out s H ar us vs Q E r e b v h) fun r s' hq => by
    cases r with
    | error e => exact False.elim hq
    | ok fl =>
      cases fl with
      | ret u => exact hq
      | next => exact hq
      | brk => exact hq
      | cont => exact hq⟩
structure CalN (P : Program) (w : World) (K : PySem.W.Frag) (mg : Str → Option Value) (base : Heap) (k : Nat) (x : Str) (sp : Sp) : Prop where
  ex : ∃ (f : Addr) (fd : FuncData) (ps : List Str), FnOk P w K mg base (L2N.CX P w) k f fd ps sp ∧ mg x = some (.ref f) ∧ PySem.W.keepIn K (.ref f) = true ∧ Binds K fd ps []
structure CalNk (P : Program) (w : World) (K : PySem.W.Frag) (mg : Str → Option Value) (base : Heap) (k : Nat) (x : Str) (n : Nat) (ks : List Str) (gV : List V → List V → List V) (sp : Sp) : Prop where
  ex : ∃ (f : Addr) (fd : FuncData) (ps : List Str) (g : List Value → List Value → List Value), FnOk P w K mg base (L2N.CX P w) k f fd ps sp ∧ mg x = some (.ref f) ∧ PySem.W.keepIn K (.ref f) = true ∧ KBn K fd ps n ks g gV
end
section
variable {X : Cx} {k j : Nat} {x : Str} {p pos : Pos} {e : Expr} {es : List Expr} {t : TA}
theorem pe_cn {sp : Sp} {W : WX} (c : CalN X.prog X.w X.K X.mg X.base k x sp) (hr : Room j X.A) (hk : k ≤ j) (tk : L2N.Takes X W) (hg : Gl X x) (ha : PA X (e :: es) t)
    (hdb : (x == ("__debug__" : Str)) = false := by decide) (he : starEach (e :: es) X.env = (false, eval e X.env) :: starEach es X.env := by rfl) (hpl : (backTo pos (starEach es X.env)).any (·.1) = false := by rfl) :
    PE X (.Call (.Name x p) (e :: es) [] pos) (tCx sp W t) := by
  obtain ⟨f, fd, ps, F, hm, kp, hb⟩ := c.ex
  refine ⟨fun pins s σ H Q I h => ?_⟩
  refine wpAny_Call_Name_kw (ld_glob I hg hm ?_ hdb)
  refine PySem.W.callWith_K (h₀ := X.base) I.ok.mod.kin kp (thn (ha.run pos pins s σ H _ I h) fun us s1 ⟨vs, H1, I1, r, q⟩ => ⟨I1.kIn, ?_⟩) he hpl
  exact run_fnS F (hr.mono hk) hb (L2N.passAt tk σ) I1 r q
variable {kws : List Keyword} {ks : List Str} {tk : TA} {gV : List V → List V → List V}
theorem pe_cnk0 {sp : Sp} {W : WX} (c : CalNk X.prog X.w X.K X.mg X.base k x 0 ks gV sp) (hr : Room j X.A) (hk : k ≤ j) (tk' : L2N.Takes X W) (hg : Gl X x) (hkw : PK X kws tk)
    (hall : (backToKw pos (keywordEach kws X.env)).all (·.1.isSome) = true := by rfl) (hks : (backToKw pos (keywordEach kws X.env)).filterMap (·.1) = ks := by rfl) (hdb : (x == ("__debug__" : Str)) = false := by decide)
    (hpl : ((backTo pos (starEach [] X.env)).any (·.1) || (backToKw pos (keywordEach kws X.env)).any (·.1.isNone)) = false := by rfl) :
    PE X (.Call (.Name x p) [] kws pos) (tCxK ks.length sp gV W tk) := by
  obtain ⟨f, fd, ps, g, F, hm, kp, hb⟩ := c.ex
  refine ⟨fun pins s σ H Q I h => ?_⟩
  refine wpAny_Call_Name_kw (ld_glob I hg hm ?_ hdb)
  refine PySem.W.callWith_KW0 (h₀ := X.base) I.ok.mod.kin kp hall ?_ hpl
  refine thn (hkw.run pos pins s σ H _ I h) fun ws s2 ⟨zs, H2, I2, rz, l2, q2⟩ => ⟨I2.kIn, ?_⟩
  rw [hks]
  have r2 := hb.rel (.nil : Vals [] []) rz
  refine wpAny_call (codeAny_mono (F.run X.A X.stack s2 H2 ⟨[], ks.zip ws⟩ (g [] ws) (gV [] zs) Q (WE W σ) (hr.mono hk) I2.env0 (hb.to s2 [] ws I2.kIn rfl (rz.length.symm.trans l2)) r2 q2) fun r s' hq => ?_)
  cases r with
  | error e => exact L2N.passAt tk' σ pins H2 s2 e s' I2 hq
  | ok fl =>
    cases fl with
    | ret u => exact I2.after hq
    | next => exact False.elim hq
    | brk => exact False.elim hq
    | cont => exact False.elim hq
end
/-! ### a def that is given the exception that is held, its context None -/
structure FnE2 (P : Program) (w : World) (K : PySem.W.Frag) (mg : Str → Option Value) (base : Heap) (k : Nat) (f : Addr) (fd : FuncData) (ps : List Str) (sp : Addr × Obj → Sp) : Prop where
  len : ∀ p vs H Q E, sp p vs H Q E → vs.length = ps.length
  run : ∀ (p : Addr × Obj) (A : Around) (out : List Env) (s : Shared) (H : Hp) (ar : Args) (us : List Value) (vs : List V) (Q : VK) (E : XK), L2H.RoomH k A → L2H.Hot1 A p → L2H.PinOk out H s p → Env0 P w K mg base A out s H →
    BindsTo s fd ar (ps.zip us) → Vals vs us → sp p vs H Q E → codeAny (model P w) A (.call (.ref f) ar) (CR CX0 out P w H s Q E) s
section
variable {P : Program} {w : World} {K : PySem.W.Frag} {mg : Str → Option Value} {base : Heap}
theorem okE2 {x qual : Str} {st : Stmt} {f : Addr} {fd : FuncData} {N ps : List Str} {k : Nat} {sp : Addr × Obj → Sp} (F : Fun K x qual st f fd) (S : FnScope N ps (defScope st)) (ln : ∀ p vs H Q E, sp p vs H Q E → vs.length = ps.length)
    (hb : ∀ (cdv : Value) (p : Addr × Obj) (A : Around) (out : List Env) (s : Shared) (H : Hp) (vs : List V) (Q : VK) (E : XK), L2H.HotC (L2H.cxH CX0 P w K mg base N qual (defScope st) f cdv A out s H E p) → L2H.RoomH k (A.deeper (envOfC qual (defScope st) s.heap.objs.size f cdv)) → sp p vs H Q E →
      ∃ t, PSs (L2H.cxH CX0 P w K mg base N qual (defScope st) f cdv A out s H E p) (defBody st) t ∧ t { nx := fun _ H' => Q .non H', rt := Q } (start N vs) H) : FnE2 P w K mg base (k + 1) f fd ps sp := by
  obtain ⟨oc, od, kV, doc, pm, an, cdv, ct, osl, rfl, lk, hcd⟩ := F.ex
  refine ⟨ln, fun p A out s H ar us vs Q E room hot hpin en bd rv hs => ?_⟩
  have KX : K.In s.heap := en.mod.kin.keeps fun b o e => (en.bs b o e).1
  have nl : s.heap.NoLimit := en.mod.nolimit.keeps fun b o e => (en.bs b o e).1
  have kd : ∀ y ∈ ps.zip us, (defScope st).names.lookup y.1 = some .local ∨ ((defScope st).names.lookup y.1 = some .cell ∧ ((cellsFrom (s.heap.objs.size + 1) (defScope st).names []).lookup y.1).isSome = true) := by
    rintro ⟨n, v⟩ hy
    have hm := (List.of_mem_zip hy).1
    exact (S.par n hm).elim (fun q => .inl q) fun q => .inr ⟨q, PySem.W.cellsFrom_some _ _ _ (.inl q)⟩
  refine codeAny_call_function room.depth (KX _ _ lk) rfl S.co S.gen rfl (PySem.W.codeRec_of KX hcd) (bd _ _ _ _ ?_)
  refine wpAny_newFunctionEnv_cells S.kind kd fun e1 he s1 x => ?_
  subst he
  refine ⟨nl.keeps x.toInCall.keep, codeAny_func ?_⟩
  obtain ⟨t, ht, hq⟩ := hb cdv p A out s H vs Q E ⟨p, hot, List.mem_cons_self⟩ (room.deeper _) hs
  have J0 : Inv (L2H.cxH CX0 P w K mg base N qual (defScope st) f cdv A out s H E p) [] (start N vs) H s1 := L2H.inv_startH S hpin en (ln _ _ _ _ _ hs) rv x
  refine wpAny_mono (ht.run [] s1 (start N vs) H _ J0 hq) (fun fl s' h3 => ?_) fun _ _ h3 => h3
  cases fl with
  | ret u => exact let ⟨v, _, H', J, r2, q⟩ := h3; ⟨v, H', J.os, J.bare, J.base, J.hok, r2, q⟩
  | next => exact let ⟨_, H', J, q⟩ := h3; ⟨.non, H', J.os, J.bare, J.base, J.hok, rfl, q⟩
  | brk => exact (let ⟨_, _, _, q⟩ := h3; q : False).elim
  | cont => exact (let ⟨_, _, _, q⟩ := h3; q : False).elim
structure CalE2 (P : Program) (w : World) (K : PySem.W.Frag) (mg : Str → Option Value) (base : Heap) (k : Nat) (x : Str) (sp : Addr × Obj → Sp) : Prop where
  ex : ∃ (f : Addr) (fd : FuncData) (ps : List Str), FnE2 P w K mg base k f fd ps sp ∧ mg x = some (.ref f) ∧ PySem.W.keepIn K (.ref f) = true ∧ Binds K fd ps []
end
section
variable {X : Cx} {k j : Nat} {x : Str} {p pos : Pos} {e : Expr} {es : List Expr} {t : TA}
theorem pe_ce2 {sp : Addr × Obj → Sp} {pr : Addr × Obj} (c : CalE2 X.prog X.w X.K X.mg X.base k x sp) (hr : L2H.RoomH k X.A) (hot : L2H.Hot1 X.A pr) (hp : pr ∈ X.pn) (hg : Gl X x) (ha : PA X (e :: es) t)
    (hdb : (x == ("__debug__" : Str)) = false := by decide) (he : starEach (e :: es) X.env = (false, eval e X.env) :: starEach es X.env := by rfl) (hpl : (backTo pos (starEach es X.env)).any (·.1) = false := by rfl) :
    PE X (.Call (.Name x p) (e :: es) [] pos) (tCe sp pr t) := by
  obtain ⟨f, fd, ps, F, hm, kp, hb⟩ := c.ex
  refine ⟨fun pins s σ H Q I h => ?_⟩
  refine wpAny_Call_Name_kw (ld_glob I hg hm ?_ hdb)
  refine PySem.W.callWith_K (h₀ := X.base) I.ok.mod.kin kp (thn (ha.run pos pins s σ H _ I h) fun us s1 ⟨vs, H1, I1, r, q⟩ => ⟨I1.kIn, ?_⟩) he hpl
  have hl : us.length = ps.length := by rw [← r.length]; exact F.len _ _ _ _ _ q
  have b := hb s1 us I1.kIn (by rw [List.append_nil]; exact hl)
  rw [List.append_nil] at b
  have P1 := I1.pin pr (List.mem_append_left _ hp)
  have hpin : L2H.PinOk X.stack H1 s1 pr := ⟨P1.1, P1.2.1, fun hm => (List.mem_cons.mp (I1.stkSub pr.1 hm)).elim P1.2.2.1 P1.2.2.2.1, P1.2.2.2.2⟩
  refine wpAny_call (codeAny_mono (F.run pr X.A X.stack s1 H1 ⟨us, []⟩ us vs Q E0 hr hot hpin I1.env0 b r q) fun r s' hq => ?_)
  cases r with
  | error e => exact pass0 pins σ H1 s1 e s' I1 hq
  | ok fl =>
    cases fl with
    | ret u => exact I1.after hq
    | next => exact False.elim hq
    | brk => exact False.elim hq
    | cont => exact False.elim hq
end
/-! ### iterators at their end, while an exception is held -/
section
variable {prog : Program} {w : World} {A : Around} {E : Value → Shared → Prop} {s : Shared}
theorem next_list_end_hot {it l x1 : Addr} {i : Nat} {items} {Q : Option Value → Shared → Prop} (hot : HotAt A x1 s.heap) (hne : it ≠ x1)
    (hit : s.heap.IsListIter it l i) (hl : s.heap.IsList l items) (hx : items[i]? = none)
    (hQ : ∀ h', Heap.ExtBut it s.heap h' → Q none { s with heap := h' }) : wpAny (model prog w) A (pyNext (.ref it)) Q E s := by
  obtain ⟨o, ho, hc, hd⟩ := id hit
  obtain ⟨ol, hol, _, nl, hdl⟩ := hl
  obtain ⟨hh, o1, vs1, h1, d1, c1⟩ := hot
  unfold pyNext
  refine wpAny_bind (wpAny_attempt (wpAny_callSpecial?_slot (name := Str.ofString "__next__") hit.typeIs slot_listiter_next
    (wpAny_call_entry slot_listiter_next hit.typeIs entry_listiter_next ?_ (args_listiter_next _))))
  show wpAny _ _ (field (.ref it) 0 >>= _) _ _ s
  refine wpAny_bind (wpAny_field ho hd (x := .ref l) rfl ?_)
  show wpAny _ _ (if (Value.ref l == Value.none) = true then _ else _) _ _ s
  rw [if_neg (show ¬ ((Value.ref l == Value.none) = true) from Bool.false_ne_true)]
  show wpAny _ _ (field (.ref it) 1 >>= _) _ _ s
  refine wpAny_bind (wpAny_field ho hd (x := .int i 0) rfl ?_)
  show wpAny _ _ (seqItems? (.ref l) >>= _) _ _ s
  refine wpAny_bind (wpAny_seqItems hol hdl ?_)
  simp only [Int.toNat_natCast, hx]
  refine wpAny_bind (wpAny_rule (wpAny_bind (wpAny_setField ho hd (by simp) ?_)))
  show wpAny _ _ (newExc (.type "StopIteration") [] >>= _) _ _ _
  refine wpAny_bind ?_
  simp only [newExc, newTuple]
  refine wpAny_bind (wpAny_newObj_type ?_ (by size_fits))
  refine wpAny_bind (m := firstArgMember _ _) (wpAny_of_eq (a := Value.none) (by first | rfl | (simp only [firstArgMember]; rfl)) ?_)
  refine wpAny_newObj_type ?_ (by size_fits)
  have g1 := Heap.get?_push_of_some { cls := .type "tuple", data := .seq ([] : List Value).toArray } ((Heap.get?_update_other s.heap (Obj.mapFields (·.setIfInBounds 0 .none)) hne).trans h1)
  refine raiseNew_hot ⟨hh, o1, vs1, Heap.get?_push_of_some _ g1, d1, c1⟩ (Nat.ne_of_lt (Heap.lt_size g1)) (Heap.get?_push_size _ rfl) rfl (by first | (simp; done) | (simp; omega) | (simp only [Array.size_append]; simp; omega)) ?_
  refine wpAny_bind (wpAny_isInstance (T := "StopIteration") (b := true) ⟨_, Heap.get?_update_self _ (Heap.get?_push_size _ rfl) rfl, rfl⟩ isSubtype_stop ?_)
  refine wpAny_pure (hQ _ fun b o hb e => ?_)
  have e1 := Heap.get?_push_of_some { cls := .type "tuple", data := .seq ([] : List Value).toArray } ((Heap.get?_update_other s.heap (Obj.mapFields (·.setIfInBounds 0 .none)) (Ne.symm hb)).trans e)
  rw [Heap.get?_update_other _ _ (Nat.ne_of_gt (Heap.lt_size e1))]
  exact Heap.get?_push_of_some _ e1
theorem next_tuple_end_hot {it l x1 : Addr} {i : Nat} {items} {Q : Option Value → Shared → Prop} (hot : HotAt A x1 s.heap) (hne : it ≠ x1)
    (hit : IsTupIter s.heap it l i) (hl : IsTup s.heap l items) (hx : items[i]? = none)
    (hQ : ∀ h', Heap.ExtBut it s.heap h' → Q none { s with heap := h' }) : wpAny (model prog w) A (pyNext (.ref it)) Q E s := by
  obtain ⟨o, ho, hc, hd⟩ := id hit
  obtain ⟨ol, hol, _, nl, hdl⟩ := hl
  obtain ⟨hh, o1, vs1, h1, d1, c1⟩ := hot
  unfold pyNext
  refine wpAny_bind (wpAny_attempt (wpAny_callSpecial?_slot (name := Str.ofString "__next__") hit.typeIs slot_tupleiter_next
    (wpAny_call_entry slot_tupleiter_next hit.typeIs entry_tupleiter_next ?_ (args_tupleiter_next _))))
  show wpAny _ _ (field (.ref it) 0 >>= _) _ _ s
  refine wpAny_bind (wpAny_field ho hd (x := .ref l) rfl ?_)
  show wpAny _ _ (if (Value.ref l == Value.none) = true then _ else _) _ _ s
  rw [if_neg (show ¬ ((Value.ref l == Value.none) = true) from Bool.false_ne_true)]
  show wpAny _ _ (field (.ref it) 1 >>= _) _ _ s
  refine wpAny_bind (wpAny_field ho hd (x := .int i 0) rfl ?_)
  show wpAny _ _ (seqItems? (.ref l) >>= _) _ _ s
  refine wpAny_bind (wpAny_seqItems hol hdl ?_)
  simp only [Int.toNat_natCast, hx]
  refine wpAny_bind (wpAny_rule (wpAny_bind (wpAny_setField ho hd (by simp) ?_)))
  show wpAny _ _ (newExc (.type "StopIteration") [] >>= _) _ _ _
  refine wpAny_bind ?_
  simp only [newExc, newTuple]
  refine wpAny_bind (wpAny_newObj_type ?_ (by size_fits))
  refine wpAny_bind (m := firstArgMember _ _) (wpAny_of_eq (a := Value.none) (by first | rfl | (simp only [firstArgMember]; rfl)) ?_)
  refine wpAny_newObj_type ?_ (by size_fits)
  have g1 := Heap.get?_push_of_some { cls := .type "tuple", data := .seq ([] : List Value).toArray } ((Heap.get?_update_other s.heap (Obj.mapFields (·.setIfInBounds 0 .none)) hne).trans h1)
  refine raiseNew_hot ⟨hh, o1, vs1, Heap.get?_push_of_some _ g1, d1, c1⟩ (Nat.ne_of_lt (Heap.lt_size g1)) (Heap.get?_push_size _ rfl) rfl (by first | (simp; done) | (simp; omega) | (simp only [Array.size_append]; simp; omega)) ?_
  refine wpAny_bind (wpAny_isInstance (T := "StopIteration") (b := true) ⟨_, Heap.get?_update_self _ (Heap.get?_push_size _ rfl) rfl, rfl⟩ isSubtype_stop ?_)
  refine wpAny_pure (hQ _ fun b o hb e => ?_)
  have e1 := Heap.get?_push_of_some { cls := .type "tuple", data := .seq ([] : List Value).toArray } ((Heap.get?_update_other s.heap (Obj.mapFields (·.setIfInBounds 0 .none)) (Ne.symm hb)).trans e)
  rw [Heap.get?_update_other _ _ (Nat.ne_of_gt (Heap.lt_size e1))]
  exact Heap.get?_push_of_some _ e1
theorem unpackItems_hot {t x1 : Addr} {items : Array Value} {Q : List Value → Shared → Prop} (hot : HotAt A x1 s.heap) (ht : IsTup s.heap t items)
    (hQ : ∀ h', Heap.ExtBut s.heap.objs.size s.heap h' → Q items.toList { s with heap := h' }) : wpAny (model prog w) A (unpackItems (.ref t) items.size none) Q E s := by
  have hlt : t ≠ s.heap.objs.size := by obtain ⟨o, ho, _⟩ := ht; exact Nat.ne_of_lt (Heap.lt_size ho)
  obtain ⟨hh, o1, vs1, h1, d1, c1⟩ := hot
  have hlx : x1 ≠ s.heap.objs.size := Nat.ne_of_lt (Heap.lt_size h1)
  unfold unpackItems
  refine wpAny_bind ?_
  · unfold notIterableAtAll
    refine wpAny_bind (wpAny_specialOf ht.typeIs slot_tuple_iter.lookup ?_)
    refine wpAny_pure ?_
    simp only [Bool.false_eq_true, if_false]
    refine wpAny_bind (wpAny_holding (iter_tuple ht ?_))
    refine wpAny_bind (wpAny_holding (draw_tuple hlt items.size 0 _ _ ⟨_, Heap.get?_push_size _ rfl, rfl, rfl⟩ (ht.push _) (by omega) fun h₁ hit₁ hs₁ => ?_))
    have hall : List.take items.size (List.drop 0 items.toList) = items.toList := by
      rw [List.drop_zero]; exact List.take_of_length_le (by simp)
    rw [hall]
    rw [if_neg (by simp)]
    have ht₁ : IsTup h₁ t items := (ht.push _).extBut hs₁.extBut hlt
    have hx₁ : h₁.get? x1 = some o1 := hs₁.extBut x1 o1 hlx (Heap.get?_push_of_some _ h1)
    refine wpAny_bind (wpAny_holding (next_tuple_end_hot ⟨hh, o1, vs1, hx₁, d1, c1⟩ (Ne.symm hlx) hit₁ ht₁ (by simp) fun h₂ he₂ => ?_))
    simp only [Option.isSome_none, Bool.false_eq_true, if_false]
    refine wpAny_pure (hQ h₂ fun b o hb e => he₂ b o hb (hs₁.extBut b o hb (Heap.get?_push_of_some _ e)))
theorem assign_tuple_hot {env : Env} {elts : List Expr} {k} {pos : Pos} {t x1 : Addr} {items : Array Value} {Q : Unit → Shared → Prop} (hot : HotAt A x1 s.heap) (ht : IsTup s.heap t items)
    (hn : (assignEach elts env).length = items.size) (hstar : (assignEach elts env).findIdx? (·.1) = none)
    (h : ∀ h', Heap.ExtBut s.heap.objs.size s.heap h' → wpAny (model prog w) A (assignInOrder ((assignEach elts env).map (·.2)) items.toList) Q E { s with heap := h' }) :
    wpAny (model prog w) A (assign (.Tuple elts k pos) env (.ref t)) Q E s := by
  rw [assign_Tuple]
  refine wpAny_bind (wpAny_standAt ?_)
  unfold unpack
  rw [hn, hstar]
  exact wpAny_bind (wpAny_holding (unpackItems_hot hot ht h))
end
section
variable {X : Cx} {pos : Pos}
theorem pg_tupH {K : PySem.W.Frag} {es : List Expr} {k : Nat} {t : TGs} {n : Nat} (hK : X.K = K) (hc : L2H.HotC X) (h : PGs X es t)
    (hn : (assignEach es X.env).length = n := by rfl) (hst : (assignEach es X.env).findIdx? (·.1) = none := by rfl) : PG X (.Tuple es k pos) (gTup K n t) := by
  subst hK
  refine ⟨fun pins s σ H v u Q I r hw => ?_⟩
  obtain ⟨a, xs, e1, hq, hl, hw⟩ := hw
  subst e1
  cases r
  obtain ⟨its, rv, ht, hz⟩ := I.tuple hq
  obtain ⟨x1, hot⟩ := hc.at I
  refine assign_tuple_hot hot ht (by simp [hn, ← hl, rv.length]) hst fun h' hx => ?_
  have I1 : Inv X pins σ H { s with heap := h' } := I.kept (t' := s.toks) fun b o e => hx b o (Nat.ne_of_lt (Heap.lt_size e)) e
  exact h.run pins _ σ H xs _ Q I1 (by simpa using rv) hw
theorem turn_listH {P : Program} {w : World} {K : PySem.W.Frag} {tg : Expr} (a it : Addr) : L2H.TurnH P w K tg (Itl K a) [it] it (fun i h => h.IsListIter it a i) where
  mem := by simp
  obj := fun i h st b hb => by
    have e : b = it := by simpa using hb
    subst e
    obtain ⟨o, e, c, d⟩ := st
    exact ⟨o, e, fun v z => by rw [d] at z; cases z⟩
  keep := fun i h h' st k => st.at fun o e => k it (by simp) o e
  item := by
    intro X hP hw hK hc i pins s σ H E I hf st hg
    subst hP hw hK
    obtain ⟨xs, x, hq, hx⟩ := hg
    obtain ⟨its, rv, p, hz⟩ := I.list hq
    obtain ⟨u, hu, ru⟩ := rv.get hx
    obtain ⟨f0, f1, f2, f3, f4, f5⟩ := hf it (by simp)
    refine wpAny_pyNext_list_item st p.isList (x := u) (by simpa using hu) fun h' st' sb => ?_
    have I1 : Inv X pins σ H { s with heap := h' } := I.turned (t' := s.toks) (fun b o hb e => (sb.2 b hb).trans e) f0 f1 f3 f4 f5
    obtain ⟨o, e, c, d⟩ := id st'
    exact ⟨u, rfl, go_of (s := { s with heap := h' }) e c d (by decide) ⟨x, H, I1, ru, ⟨rfl, fun ys hy => by rw [I.list_inj hy hq]; exact hx⟩, st', fun b hb => (hf b hb).1⟩⟩
  done := by
    intro X hP hw hK hc i pins s σ H E I hf st hg
    subst hP hw hK
    obtain ⟨xs, hq, hx⟩ := hg
    obtain ⟨its, rv, p, hz⟩ := I.list hq
    obtain ⟨f0, f1, f2, f3, f4, f5⟩ := hf it (by simp)
    have hl := rv.length
    obtain ⟨p1, ⟨hh, v1, e1, c1⟩, hp⟩ := hc
    have P1 := (I.pin p1 (List.mem_append_left _ hp)).1
    exact next_list_end_hot ⟨hh, p1.2, v1, P1, e1, c1⟩ (Ne.symm (f5 p1 (List.mem_append_left _ hp))) st p.isList (by simp; omega) fun h' eb => ⟨rfl, I.turned (t' := s.toks) (fun b o hb e => eb b o hb e) f0 f1 f3 f4 f5⟩
  self := fun _ _ _ _ _ st h => wpAny_pyIter_listiter st h
theorem pi_listH {K : PySem.W.Frag} {tg l : Expr} {tl : TE} (hK : X.K = K) (hl : PE X l tl) : L2H.PIH X tg l (iList K tl) := by
  subst hK
  refine ⟨fun pins s σ H R I h => ?_⟩
  refine thn (hl.run pins s σ H _ I h) fun v s1 ⟨x, H1, I1, r1, q1⟩ => ?_
  obtain ⟨a, e, ⟨xs, hq⟩, q⟩ := q1
  subst e
  cases r1
  obtain ⟨its, rv, p, hz⟩ := I1.list hq
  refine wpAny_pyIter_list p.isList ?_
  refine ⟨s1.heap.objs.size, [s1.heap.objs.size], _, _, H1, rfl, I1.kept (t' := s1.toks) fun b o e => Heap.get?_push_of_some _ e, turn_listH a _, ⟨_, Heap.get?_push_size _ rfl, rfl, rfl⟩, fun b hb => ?_, q⟩
  have e : b = s1.heap.objs.size := by simpa using hb
  subst e
  exact I1.fpOk (Nat.le_refl _) (I1.hok.fresh (Nat.le_refl _))
end
/-! ### a list comprehension while an exception is held -/
abbrev blkH (X : Cx) (s : Shared) (H : Hp) (scope : Scope) (cenv : Env) (fp : List Addr) : Cx := { X with s_0 := s, H_0 := H, env := cenv, outer := X.stack, ex := fp, fn := fun x => scope.names.lookup x == some .cell, xe := fun _ _ => False }
section
variable {X : Cx} {pins : List (Addr × Obj)} {σ : L2.St} {H : Hp} {s : Shared}
theorem block_startH {scope : Scope} {own : List (Str × Nat)} {fp : List Addr} (I : Inv X pins σ H s) (ok : BlkOk X.N X.env.scope scope own) (hN : X.N.Nodup) (hfp : ∀ b ∈ fp, FpOk X pins H b ∧ b < s.heap.objs.size) :
    Inv (blkH X s H scope (compEnvC scope (cellsFrom (s.heap.objs.size + 1) scope.names (cloFrom X.env.cells scope.names [])) s.heap.objs.size X.env) fp) [] (wipe σ (own.map (·.2))) H { s with heap := pushCells (s.heap.push { cls := .type "dict", data := .dict #[] }) scope.names } := by
  have J := block_start I ok hN hfp
  have o := J.ok
  refine ⟨⟨o.mod, o.kind, o.glob, o.blt, o.above, o.inj, o.has, o.cab, o.hd, o.frames, o.stk, o.exf, o.bs, o.bsz, o.noex, o.exfs, o.funs, o.frf⟩, J.os, J.bare, J.base, J.loc, J.cell, J.free, J.freeC, fun p hp => ?_, J.hok, J.len⟩
  have hp : p ∈ X.pn := by simpa using (show p ∈ X.pn ++ ([] : List (Addr × Obj)) from hp)
  have P1 := I.pin p (List.mem_append_left _ hp)
  refine ⟨pushCells_keeps _ _ _ _ (Heap.get?_push_of_some _ P1.1), P1.2.1, Nat.ne_of_lt (Heap.lt_size P1.1), fun hm => (List.mem_cons.mp (I.stkSub p.1 hm)).elim P1.2.2.1 P1.2.2.2.1, P1.2.2.2.2⟩
theorem lc_coreH {pins : List (Addr × Obj)} {s : Shared} {σ : L2.St} {H : Hp} {Q : VK} {elt tg iter : Expr} {ifs : List Expr} {scope : Scope} {own : List (Str × Nat)} {pos pos' : Pos} {wi : TI} {g : TG} {tt : TT} {te : TE} {use : Option (Value → Sem Unit)} {Qf : Value → Shared → Prop}
    (hc : L2H.HotC X) (hN : X.N.Nodup) (I : Inv X pins σ H s) (hi : L2H.PIH X tg iter wi) (ok : BlkOk X.N X.env.scope scope own)
    (hg : ∀ (s : Shared) (H : Hp) (C : Addr) (cl : List (Str × Addr)) (fp : List Addr), PG (blkH X s H scope (compEnvC scope cl C X.env) fp) tg g) (ht : ∀ (s : Shared) (H : Hp) (C : Addr) (cl : List (Str × Addr)) (fp : List Addr), PTs (blkH X s H scope (compEnvC scope cl C X.env) fp) ifs tt)
    (he : ∀ (s : Shared) (H : Hp) (C : Addr) (cl : List (Str × Addr)) (fp : List Addr), PE (blkH X s H scope (compEnvC scope cl C X.env) fp) elt te) (hs : ∀ x, foldedSetIterable iter X.env x = pure x)
    (h : tLc wi g tt te (own.map (·.2)) σ H Q)
    (hRR : ∀ D C s' m H', Inv X pins σ H' s' → Q (.ref D) H' → s'.heap.Ns C m → FpOk X pins H' C → compPost (model X.prog X.w) X.A X.xe use Qf (.ref D) C (.ok .next) s') :
    wpAny (model X.prog X.w) X.A (comprehension (.ListComp elt [⟨tg, iter, ifs, 0⟩] scope pos) scope X.env pos' (newList []) false (eval iter X.env) use) Qf X.xe s := by
  have hfree : ∀ y ∈ scope.names, y.2 = .free → ∃ c, X.env.cells.lookup y.1 = some c := fun y hy e => by
    rcases ok.free y hy e with k | k
    · exact I.ok.has _ (.inl k)
    · exact I.ok.has _ (.inr k)
  refine wpAny_comprehension_free (use := use) rfl hs (closure_ok hfree) ok.kind (fun y hy e => by rw [ok.uniq y hy, e])
    (thn (hi.run pins s σ H _ I h) fun xv s1 hx => thn hx fun itv s2 h2 => ?_)
  obtain ⟨it, fp, tn, J, H2, e, I2, T, st2, f2, q⟩ := h2
  subst e
  refine wpAny_newObj_type (newEnv_comp ?_) (by show 0 ≤ sizeLine; decide)
  generalize hD : s2.heap.objs.size = D
  have hDn : H2 D = none := I2.hok.fresh (Nat.le_of_eq hD)
  obtain ⟨W, ⟨m0, w0⟩, turn⟩ := q D hDn
  -- the new list
  generalize hs3 : ({ s2 with heap := s2.heap.push { cls := .type "list", data := .seq ([] : List Value).toArray } } : Shared) = s3
  have I3 : Inv X pins σ (upd H2 D (.lst [])) s3 := by
    rw [← hs3]
    refine I2.laid (t' := s2.toks) (fun b o e => Heap.get?_push_of_some _ e) (Nat.le_of_eq hD) ⟨Nat.zero_le _, [], 0, .nil, ?_⟩
    rw [← hD]
    exact Heap.get?_push_size _ rfl
  have h3 : s3.heap = s2.heap.push { cls := .type "list", data := .seq ([] : List Value).toArray } := by rw [← hs3]
  have sz : ∀ b ∈ fp, b < s2.heap.objs.size := fun b hb => by
    obtain ⟨o, e, _⟩ := T.obj _ _ st2 b hb
    exact Heap.lt_size e
  have f3 : ∀ b ∈ fp, FpOk X pins (upd H2 D (.lst [])) b ∧ b < s3.heap.objs.size := fun b hb => by
    have hlt := sz b hb
    refine ⟨⟨?_, (f2 b hb).2⟩, by rw [h3, Heap.size_push]; exact Nat.lt_succ_of_lt hlt⟩
    rw [upd_ne (by rw [← hD]; exact Nat.ne_of_lt hlt)]
    exact (f2 b hb).1
  have st3 : tn 0 s3.heap := T.keep _ _ _ st2 fun b _ o e => by rw [h3]; exact Heap.get?_push_of_some _ e
  have I4 := block_startH I3 ok hN f3
  have pg := hg s3 (upd H2 D (.lst [])) s3.heap.objs.size (cellsFrom (s3.heap.objs.size + 1) scope.names (cloFrom X.env.cells scope.names [])) fp
  have pt := ht s3 (upd H2 D (.lst [])) s3.heap.objs.size (cellsFrom (s3.heap.objs.size + 1) scope.names (cloFrom X.env.cells scope.names [])) fp
  have pe := he s3 (upd H2 D (.lst [])) s3.heap.objs.size (cellsFrom (s3.heap.objs.size + 1) scope.names (cloFrom X.env.cells scope.names [])) fp
  show codeAny _ _ (.compStart (.ListComp elt [⟨tg, iter, ifs, 0⟩] scope pos) 0 (.ref it) (.ref D) (compEnvC scope (cellsFrom (s3.heap.objs.size + 1) scope.names (cloFrom X.env.cells scope.names [])) s3.heap.objs.size X.env)) (compPost (model X.prog X.w) X.A X.xe use Qf (.ref D) s3.heap.objs.size) { s3 with heap := pushCells (s3.heap.push { cls := .type "dict", data := .dict #[] }) scope.names }
  have nfp : ∀ b ∈ fp, (upd H2 D (.lst [])) b = none := fun b hb => (f3 b hb).1.1
  generalize hce : compEnvC scope (cellsFrom (s3.heap.objs.size + 1) scope.names (cloFrom X.env.cells scope.names [])) s3.heap.objs.size X.env = ce at I4 pg pt pe ⊢
  have cL : ce.locals = s3.heap.objs.size := by subst hce; rfl
  generalize hH3 : upd H2 D (.lst []) = H3 at I3 I4 pg pt pe w0 nfp f3
  generalize hs4 : ({ s3 with heap := pushCells (s3.heap.push { cls := .type "dict", data := .dict #[] }) scope.names } : Shared) = s4 at I4 ⊢
  have st4 : tn 0 s4.heap := T.keep _ _ _ st3 fun b _ o e => by rw [← hs4]; exact pushCells_keeps _ _ _ _ (Heap.get?_push_of_some _ e)
  have stat : ∀ {σ' : L2.St} {H' : Hp} {s' : Shared}, Inv (blkH X s3 H3 scope ce fp) [] σ' H' s' → (∀ b ∈ fp, H' b = none) → ∀ b ∈ fp, FpOk (blkH X s3 H3 scope ce fp) [] H' b := fun {σ' H' s'} I' hn b hb =>
    ⟨hn b hb, (I'.ok.exf b hb).1, I'.ok.exfs b hb, .inl hb, fun x c e => (I'.ok.exf b hb).2 x c e, fun p hp => (f3 b hb).1.2.2.2.2.2 p (List.mem_append_left _ (by simpa using (show p ∈ X.pn ++ ([] : List (Addr × Obj)) from hp)))⟩
  have loop : codeAny (model X.prog X.w) X.A (.compLoop (.ListComp elt [⟨tg, iter, ifs, 0⟩] scope pos) 0 (.ref it) (.ref D) ce) (compPost (model X.prog X.w) X.A X.xe use Qf (.ref D) s3.heap.objs.size) s4 := by
    refine compLoop_any (fun n s' => ∃ i H', Inv (blkH X s3 H3 scope ce fp) [] (wipe σ (own.map (·.2))) H' s' ∧ tn i s'.heap ∧ (∀ b ∈ fp, H' b = none) ∧ W i n H') ?_ m0 ⟨0, H3, I4, st4, nfp, w0⟩
    rintro n s5 ⟨i, H5, I5, st5, n5, w5⟩
    rcases turn i n H5 w5 with ⟨stop, qq⟩ | ⟨go, Nx, hNx, step⟩
    · have td := T.done (blkH X s3 H3 scope ce fp) rfl rfl rfl hc i [] s5 _ H5 (fun _ _ => False) I5 (stat I5 n5) st5 stop
      refine thnF td fun r s6 ⟨hr, I6⟩ => ?_
      subst hr
      -- back in the def's context
      have I7 : Inv X pins σ H5 s6 := I3.call' (ch := fp) I6.os I6.base I6.hok I6.bare fun b hb => ⟨(f3 b hb).1.2.2.2.1, (f3 b hb).1.2.1, (f3 b hb).1.2.2.2.2.1, (f3 b hb).1.2.2.2.2.2⟩
      have nC : H5 s3.heap.objs.size = none := by
        have z : H5 ce.locals = none := I6.free
        rw [cL] at z
        exact z
      obtain ⟨m, hn, _⟩ := I6.loc
      have hn : s6.heap.Ns ce.locals m := hn
      rw [cL] at hn
      exact hRR D s3.heap.objs.size s6 m H5 I7 qq hn (I3.fpOk (Nat.le_refl _) nC)
    · have ti := T.item (blkH X s3 H3 scope ce fp) rfl rfl rfl hc i [] s5 _ H5 (fun _ _ => False) I5 (stat I5 n5) st5 go
      refine thnF ti fun r s6 ⟨u, hr, h6⟩ => ?_
      subst hr
      refine thnF h6 fun _ s7 ⟨x, H7, I7, r7, y7, st7, n7⟩ => ?_
      have I7' := I7.pinned (stat I7 n7) (T.obj _ _ st7)
      refine thnF (pg.run _ s7 _ H7 x u _ I7' r7 (step x H7 y7)) fun _ s8 ⟨σ8, H8, I8, hw8, q8⟩ => ?_
      refine thnF (pt.run _ s8 σ8 H8 _ I8 q8) fun b s9 ⟨H9, I9, q9⟩ => ?_
      -- the turn's end
      have fin : ∀ {s' : Shared} {H' : Hp}, Inv (blkH X s3 H3 scope ce fp) ([] ++ pinsAt fp s7.heap) σ8 H' s' → Nx H' → ∃ m, m < n ∧ ∃ i H', Inv (blkH X s3 H3 scope ce fp) [] (wipe σ (own.map (·.2))) H' s' ∧ tn i s'.heap ∧ (∀ b ∈ fp, H' b = none) ∧ W i m H' := fun {s' H'} I' nx => by
        obtain ⟨m', hm, w'⟩ := hNx H' nx
        have pin' : ∀ b ∈ fp, ∀ o, s7.heap.get? b = some o → s'.heap.get? b = some o ∧ H' b = none := fun b hb o e =>
          let z := I'.pin (b, o) (List.mem_append_right _ (List.mem_append_right _ (mem_pinsAt hb e)))
          ⟨z.1, z.2.1⟩
        have hl : (wipe σ (own.map (·.2))).length = σ8.length := by rw [← hw8, wipe_length]
        refine ⟨m', hm, i + 1, H', (I'.unpinned (pins := [])).weak hl (fun j v e => ?_), T.keep _ _ _ st7 fun b hb o e => (pin' b hb o e).1, fun b hb => ?_, w'⟩
        · rw [← hw8] at e
          exact (wipe_some e).1
        · obtain ⟨o, e, _⟩ := T.obj _ _ st7 b hb
          exact (pin' b hb o e).2
      cases b with
      | false =>
        simp only [Bool.false_eq_true, if_false] at q9 ⊢
        exact fin I9 q9
      | true =>
        simp only [if_true] at q9 ⊢
        refine thnF (pe.run _ s9 σ8 H9 _ I9 q9) fun z s10 ⟨yv, H10, I10, r10, acc, hD10, hz10, nx⟩ => ?_
        exact app_ok (X := blkH X s3 H3 scope ce fp) I10 hD10 hz10 r10 fun s11 I11 => fin I11 nx
  exact codeAny_compStart_list loop (T.self X.A 0 _ _ _ st4 loop)
/-- as a value -/
theorem pe_lcH {elt tg iter : Expr} {ifs : List Expr} {scope : Scope} {own : List (Str × Nat)} {pos : Pos} {wi : TI} {g : TG} {tt : TT} {te : TE} (hc : L2H.HotC X) (hN : X.N.Nodup) (hi : L2H.PIH X tg iter wi) (ok : BlkOk X.N X.env.scope scope own)
    (hg : ∀ (s : Shared) (H : Hp) (C : Addr) (cl : List (Str × Addr)) (fp : List Addr), PG (blkH X s H scope (compEnvC scope cl C X.env) fp) tg g) (ht : ∀ (s : Shared) (H : Hp) (C : Addr) (cl : List (Str × Addr)) (fp : List Addr), PTs (blkH X s H scope (compEnvC scope cl C X.env) fp) ifs tt)
    (he : ∀ (s : Shared) (H : Hp) (C : Addr) (cl : List (Str × Addr)) (fp : List Addr), PE (blkH X s H scope (compEnvC scope cl C X.env) fp) elt te) (hs : ∀ x, foldedSetIterable iter X.env x = pure x := by intro _; rfl) :
    PE X (.ListComp elt [⟨tg, iter, ifs, 0⟩] scope pos) (tLc wi g tt te (own.map (·.2))) := by
  refine ⟨fun pins s σ H Q I h => ?_⟩
  rw [eval_ListComp]
  refine lc_coreH hc hN I hi ok hg ht he hs h fun D C s' m H' I' q hn f => ⟨m, hn, fun h'' sb => ?_⟩
  obtain ⟨f0, f1, f2, f3, f4, f5⟩ := f
  exact ⟨.ref D, H', I'.turned (t' := s'.toks) (fun b o hb e => (sb.2 b hb).trans e) f0 f1 f3 f4 f5, rfl, q⟩
/-- name = [..] on one line, the name a local -/
theorem ps_setLcH {i : Nat} {y : Str} {py : Pos} {elt tg iter : Expr} {ifs : List Expr} {scope : Scope} {own : List (Str × Nat)} {pos spos : Pos} {wi : TI} {g : TG} {tt : TT} {te : TE} (hc : L2H.HotC X) (hN : X.N.Nodup) (hy : X.N[i]? = some y) (hyl : X.env.scope.names.lookup y = some .local)
    (hsw : swapsWith (.ListComp elt [⟨tg, iter, ifs, 0⟩] scope pos) (some (.Name y py)) spos.line X.env = pure true) (hi : L2H.PIH X tg iter wi) (ok : BlkOk X.N X.env.scope scope own)
    (hg : ∀ (s : Shared) (H : Hp) (C : Addr) (cl : List (Str × Addr)) (fp : List Addr), PG (blkH X s H scope (compEnvC scope cl C X.env) fp) tg g) (ht : ∀ (s : Shared) (H : Hp) (C : Addr) (cl : List (Str × Addr)) (fp : List Addr), PTs (blkH X s H scope (compEnvC scope cl C X.env) fp) ifs tt)
    (he : ∀ (s : Shared) (H : Hp) (C : Addr) (cl : List (Str × Addr)) (fp : List Addr), PE (blkH X s H scope (compEnvC scope cl C X.env) fp) elt te) (hs : ∀ x, foldedSetIterable iter X.env x = pure x := by intro _; rfl) :
    PS X (.Assign [.Name y py] (.ListComp elt [⟨tg, iter, ifs, 0⟩] scope pos) spos) (tAsg (tLc wi g tt te (own.map (·.2))) (gName i)) := by
  refine ⟨fun pins s σ H D I h => ?_⟩
  rw [exec_Assign_Name_used _ _ _ _ hsw]
  refine wpAny_bind (wpAny_standAt (wpAny_bind ?_))
  show wpAny _ X.A (do let _ ← comprehension (.ListComp elt [⟨tg, iter, ifs, 0⟩] scope pos) scope X.env (firstIterPos [⟨tg, iter, ifs, 0⟩] pos) (newList []) false (eval iter X.env) (some (assign (.Name y py) X.env))) _ _ s
  have h : tLc wi g tt te (own.map (·.2)) σ H (fun x H1 => gName i x σ H1 D.nx) := h
  refine wpAny_bind (thn (lc_coreH (Qf := fun _ s' => SP X pins D .next s') hc hN I hi ok hg ht he hs h fun L C s' m H' I' q hn f => ?_) fun _ s' hq => wpAny_pure (wpAny_pure hq))
  show wpAny _ _ (assign (.Name y py) X.env (.ref L)) _ _ _
  refine wpAny_assign_Name (store_ok2 (v := V.ref L) I' hN hy (.inl hyl) rfl (fun s2 I2 ⟨a, sb, ha⟩ => ?_) (.inr hyl))
  obtain ⟨f0, f1, f2, f3, f4, f5⟩ := f
  have haC : C ≠ a := by
    rcases ha with z | z
    · rw [z]; exact f1
    · exact fun e => f4 y a z e.symm
  refine ⟨m, hn.sameBut sb haC, fun h3 sb3 => ?_⟩
  exact ⟨_, H', I2.turned (t' := s2.toks) (fun b o hb e => (sb3.2 b hb).trans e) f0 f1 f3 f4 f5, q⟩

end
end Lp
set_option Elab.async false
set_option linter.all false
set_option maxRecDepth 100000
set_option maxHeartbeats 1000000
namespace Lp
open PySem PySem.Spec PyProof.Rows L2 GenW
/-! ### list(g(k = v, ..)) of a generator def -/
structure GnrK (P : Program) (w : World) (K : PySem.W.Frag) (mg : Str → Option Value) (base : Heap) (k : Nat) (x : Str) (ks : List Str) (gV : List V → List V → List V) (sp : SpG) : Prop where
  ex : ∃ (f : Addr) (fd : FuncData) (ps : List Str) (g : List Value → List Value → List Value), GFn P w K mg base k f fd ps sp ∧ mg x = some (.ref f) ∧ PySem.W.keepIn K (.ref f) = true ∧ KBn K fd ps 0 ks g gV
def tGenK (sp : SpG) (gV : List V → List V → List V) (n : Nat) (E : XK) (tk : TA) : TGen := fun σ H cont => tk σ H fun zs H2 => zs.length = n ∧ sp (gV [] zs) H2 cont E
section
variable {X : Cx} {k n : Nat} {f : Addr} {fd : FuncData} {ps ks : List Str} {sp : SpG} {E : XK} {x nm : Str} {p p2 pos pos' : Pos} {kws : List Keyword} {tk : TA} {g : List Value → List Value → List Value} {gV : List V → List V → List V}
theorem run_gfnK {pins : List (Addr × Obj)} {σ : L2.St} {H : Hp} {s : Shared} {us ws : List Value} {vs zs : List V} {cont : List V → Hp → Prop} {E1 : Value → Shared → Prop} (F : GFn X.prog X.w X.K X.mg X.base k f fd ps sp) (hr : Room k X.A) (hb : KBn X.K fd ps n ks g gV)
    (I : Inv X pins σ H s) (r : Vals vs us) (rz : Vals zs ws) (l1 : vs.length = n) (l2 : zs.length = ks.length) (h : sp (gV vs zs) H cont E) :
    wpAny (model X.prog X.w) X.A (call (.ref f) us (ks.zip ws)) (fun u s' => ∃ H1 sc ex, Inv X pins σ H1 sc ∧ ExOk X pins ex ∧ GMade X.prog X.w k X.stack H1 sc ex cont E u s') E1 s := by
  have r2 := hb.rel r rz
  refine wpAny_call (codeAny_mono (F.run X.A X.stack s H ⟨us, ks.zip ws⟩ (g us ws) (gV vs zs) cont E hr I.env0 (hb.to s us ws I.kIn (r.length.symm.trans l1) (rz.length.symm.trans l2)) r2 h) fun r s' hq => ?_)
  cases r with
  | error e => exact False.elim hq
  | ok fl =>
    cases fl with
    | ret u => exact ⟨H, s, [], I, .nil, hq⟩
    | next => exact False.elim hq
    | brk => exact False.elim hq
    | cont => exact False.elim hq
theorem pgen_callK0 (F : GFn X.prog X.w X.K X.mg X.base k f fd ps sp) (hr : Room k X.A) (hg : Gl X x) (hm : X.mg x = some (.ref f)) (hk : PySem.W.keepIn X.K (.ref f) = true) (hb : KBn X.K fd ps 0 ks g gV) (hkw : PK X kws tk)
    (hall : (backToKw pos' (keywordEach kws X.env)).all (·.1.isSome) = true := by rfl) (hks : (backToKw pos' (keywordEach kws X.env)).filterMap (·.1) = ks := by rfl) (hdb : (x == ("__debug__" : Str)) = false := by decide)
    (hpl : ((backTo pos' (starEach [] X.env)).any (·.1) || (backToKw pos' (keywordEach kws X.env)).any (·.1.isNone)) = false := by rfl) :
    PGen X k (.Call (.Name x p) [] kws pos') (tGenK sp gV ks.length E tk) E := by
  refine ⟨fun pins s σ H cont I h => ?_⟩
  refine wpAny_Call_Name_kw (ld_glob I hg hm ?_ hdb)
  refine PySem.W.callWith_KW0 (h₀ := X.base) I.ok.mod.kin hk hall ?_ hpl
  refine thn (hkw.run pos' pins s σ H _ I h) fun ws s2 ⟨zs, H2, I2, rz, l2, q2⟩ => ⟨I2.kIn, ?_⟩
  rw [hks]
  exact run_gfnK (us := []) (vs := []) F hr hb I2 .nil rz rfl l2 q2
theorem pe_lgK0 {j : Nat} (c : GnrK X.prog X.w X.K X.mg X.base k x ks gV sp) (hr : Room j X.A) (hk : k + 3 ≤ j) (hg : Gl X x) (hkw : PK X kws tk) (hg2 : Gl X nm) (hmg : X.mg nm = none) (hv : bootBuiltins nm = some (.type "list"))
    (hall : (backToKw pos' (keywordEach kws X.env)).all (·.1.isSome) = true := by rfl) (hks : (backToKw pos' (keywordEach kws X.env)).filterMap (·.1) = ks := by rfl) (hdb : (x == ("__debug__" : Str)) = false := by decide)
    (hpl : ((backTo pos' (starEach [] X.env)).any (·.1) || (backToKw pos' (keywordEach kws X.env)).any (·.1.isNone)) = false := by rfl) (hnm : nm ≠ "__name__" := by decide) (hdb2 : (nm == ("__debug__" : Str)) = false := by decide)
    (he2 : starEach [.Call (.Name x p2) [] kws pos'] X.env = (false, eval (.Call (.Name x p2) [] kws pos') X.env) :: starEach [] X.env := by rfl) :
    PE X (.Call (.Name nm p) [.Call (.Name x p2) [] kws pos'] [] pos) (tListG (tGenK sp gV ks.length E0 tk)) := by
  obtain ⟨g, fd, ps, gg, F, hm, kp, b⟩ := c.ex
  exact pe_listG (pgen_callK0 F (hr.mono (by omega)) hg hm kp b hkw hall hks hdb hpl) passes0 noStop0 (hr.mono hk) hg2 hmg hv hnm hdb2 he2
end
end Lp
set_option Elab.async false
set_option linter.all false
set_option maxRecDepth 100000
namespace L69
open PySem PySem.Spec PyProof.Rows L2 Lp
def topS (i : Nat) : Stmt := PySem.Challenge.pw_latepatches_k69_whole_orders_effects_and.main.body.getD i (.Pass ⟨0, 0, 0, 0⟩)
abbrev s_is_integer : Stmt := topS 12
abbrev N_is_integer : List Str := ["value"]
theorem sc_is_integer : FnScope N_is_integer ["value"] (defScope s_is_integer) := ⟨rfl, rfl, rfl, by decide +kernel, rfl, by decide +kernel, by decide +kernel⟩
abbrev s_is_integer_within : Stmt := topS 13
abbrev N_is_integer_within : List Str := ["value", "least", "greatest"]
theorem sc_is_integer_within : FnScope N_is_integer_within ["value", "least", "greatest"] (defScope s_is_integer_within) := ⟨rfl, rfl, rfl, by decide +kernel, rfl, by decide +kernel, by decide +kernel⟩
abbrev s_are_integers : Stmt := topS 14
abbrev N_are_integers : List Str := ["value", "least", "greatest", "most", "item"]
theorem sc_are_integers : FnScope N_are_integers ["value", "least", "greatest", "most"] (defScope s_are_integers) := ⟨rfl, rfl, rfl, by decide +kernel, rfl, by decide +kernel, by decide +kernel⟩
abbrev s_check_number : Stmt := topS 15
abbrev N_check_number : List Str := ["value", "least", "greatest"]
theorem sc_check_number : FnScope N_check_number ["value", "least", "greatest"] (defScope s_check_number) := ⟨rfl, rfl, rfl, by decide +kernel, rfl, by decide +kernel, by decide +kernel⟩
abbrev s_check_index : Stmt := topS 16
abbrev N_check_index : List Str := ["index", "count"]
theorem sc_check_index : FnScope N_check_index ["index", "count"] (defScope s_check_index) := ⟨rfl, rfl, rfl, by decide +kernel, rfl, by decide +kernel, by decide +kernel⟩
abbrev s_are_events : Stmt := topS 20
abbrev N_are_events : List Str := ["value"]
theorem sc_are_events : FnScope N_are_events ["value"] (defScope s_are_events) := ⟨rfl, rfl, rfl, by decide +kernel, rfl, by decide +kernel, by decide +kernel⟩
abbrev s_is_history : Stmt := topS 21
abbrev N_is_history : List Str := ["value", "started", "event"]
theorem sc_is_history : FnScope N_is_history ["value"] (defScope s_is_history) := ⟨rfl, rfl, rfl, by decide +kernel, rfl, by decide +kernel, by decide +kernel⟩
abbrev s_check_history : Stmt := topS 22
abbrev N_check_history : List Str := ["history"]
theorem sc_check_history : FnScope N_check_history ["history"] (defScope s_check_history) := ⟨rfl, rfl, rfl, by decide +kernel, rfl, by decide +kernel, by decide +kernel⟩
abbrev s_starts_of : Stmt := topS 23
abbrev N_starts_of : List Str := ["history", "event"]
theorem sc_starts_of : FnScope N_starts_of ["history"] (defScope s_starts_of) := ⟨rfl, rfl, rfl, by decide +kernel, rfl, by decide +kernel, by decide +kernel⟩
abbrev s_is_started : Stmt := topS 24
abbrev N_is_started : List Str := ["history", "value"]
theorem sc_is_started : FnScope N_is_started ["history", "value"] (defScope s_is_started) := ⟨rfl, rfl, rfl, by decide +kernel, rfl, by decide +kernel, by decide +kernel⟩
abbrev s_running_after : Stmt := topS 25
abbrev N_running_after : List Str := ["history", "patch"]
theorem sc_running_after : FnScope N_running_after ["history"] (defScope s_running_after) := ⟨rfl, rfl, rfl, by decide +kernel, rfl, by decide +kernel, by decide +kernel⟩
abbrev s_replay : Stmt := topS 27
abbrev N_replay : List Str := ["history", "presents", "saved", "event"]
theorem sc_replay : FnScope N_replay ["history"] (defScope s_replay) := ⟨rfl, rfl, rfl, by decide +kernel, rfl, by decide +kernel, by decide +kernel⟩
abbrev s_is_value_of : Stmt := topS 28
abbrev N_is_value_of : List Str := ["history", "value"]
theorem sc_is_value_of : FnScope N_is_value_of ["history", "value"] (defScope s_is_value_of) := ⟨rfl, rfl, rfl, by decide +kernel, rfl, by decide +kernel, by decide +kernel⟩
abbrev s_present_after : Stmt := topS 29
abbrev N_present_after : List Str := ["history", "presents", "_"]
theorem sc_present_after : FnScope N_present_after ["history"] (defScope s_present_after) := ⟨rfl, rfl, rfl, by decide +kernel, rfl, by decide +kernel, by decide +kernel⟩
abbrev s_fate_of : Stmt := topS 30
abbrev N_fate_of : List Str := ["history", "value", "presents", "_", "last", "event", "moment", "present"]
theorem sc_fate_of : FnScope N_fate_of ["history", "value"] (defScope s_fate_of) := ⟨rfl, rfl, rfl, by decide +kernel, rfl, by decide +kernel, by decide +kernel⟩
abbrev s_is_order : Stmt := topS 32
abbrev N_is_order : List Str := ["history", "value", "running"]
theorem sc_is_order : FnScope N_is_order ["history", "value"] (defScope s_is_order) := ⟨rfl, rfl, rfl, by decide +kernel, rfl, by decide +kernel, by decide +kernel⟩
abbrev s_check_order : Stmt := topS 33
abbrev N_check_order : List Str := ["history", "order"]
theorem sc_check_order : FnScope N_check_order ["history", "order"] (defScope s_check_order) := ⟨rfl, rfl, rfl, by decide +kernel, rfl, by decide +kernel, by decide +kernel⟩
abbrev s_count_orders : Stmt := topS 34
abbrev N_count_orders : List Str := ["history"]
theorem sc_count_orders : FnScope N_count_orders ["history"] (defScope s_count_orders) := ⟨rfl, rfl, rfl, by decide +kernel, rfl, by decide +kernel, by decide +kernel⟩
abbrev s_left_by : Stmt := topS 35
abbrev N_left_by : List Str := ["history", "order", "patch"]
theorem sc_left_by : FnScope N_left_by ["history", "order"] (defScope s_left_by) := ⟨rfl, rfl, rfl, by decide +kernel, rfl, by decide +kernel, by decide +kernel⟩
abbrev s_count_leaving : Stmt := topS 36
abbrev N_count_leaving : List Str := ["history", "value", "fate", "running"]
theorem sc_count_leaving : FnScope N_count_leaving ["history", "value"] (defScope s_count_leaving) := ⟨rfl, rfl, rfl, by decide +kernel, rfl, by decide +kernel, by decide +kernel⟩
abbrev s_nth_leaving : Stmt := topS 37
abbrev N_nth_leaving : List Str := ["history", "value", "index", "fate", "running", "saver", "patch"]
theorem sc_nth_leaving : FnScope N_nth_leaving ["history", "value", "index"] (defScope s_nth_leaving) := ⟨rfl, rfl, rfl, by decide +kernel, rfl, by decide +kernel, by decide +kernel⟩
abbrev s_leaving_rank : Stmt := topS 38
abbrev N_leaving_rank : List Str := ["history", "order"]
theorem sc_leaving_rank : FnScope N_leaving_rank ["history", "order"] (defScope s_leaving_rank) := ⟨rfl, rfl, rfl, by decide +kernel, rfl, by decide +kernel, by decide +kernel⟩
abbrev s_nth_permutation : Stmt := topS 39
abbrev N_nth_permutation : List Str := ["patches", "index", "rest", "permutation", "place"]
theorem sc_nth_permutation : FnScope N_nth_permutation ["patches", "index"] (defScope s_nth_permutation) := ⟨rfl, rfl, rfl, by decide +kernel, rfl, by decide +kernel, by decide +kernel⟩
abbrev s_permutation_rank : Stmt := topS 40
abbrev N_permutation_rank : List Str := ["permutation", "rest", "rank", "patch"]
theorem sc_permutation_rank : FnScope N_permutation_rank ["permutation"] (defScope s_permutation_rank) := ⟨rfl, rfl, rfl, by decide +kernel, rfl, by decide +kernel, by decide +kernel⟩
abbrev s_is_piece : Stmt := topS 42
abbrev N_is_piece : List Str := ["value", "stopped", "event"]
theorem sc_is_piece : FnScope N_is_piece ["value"] (defScope s_is_piece) := ⟨rfl, rfl, rfl, by decide +kernel, rfl, by decide +kernel, by decide +kernel⟩
abbrev s_is_state : Stmt := topS 43
abbrev N_is_state : List Str := ["value", "present", "saved", "patches", "values", "item", "patch", "_", "number"]
theorem sc_is_state : FnScope N_is_state ["value"] (defScope s_is_state) := ⟨rfl, rfl, rfl, by decide +kernel, rfl, by decide +kernel, by decide +kernel⟩
abbrev s_is_saving : Stmt := topS 44
abbrev N_is_saving : List Str := ["value"]
theorem sc_is_saving : FnScope N_is_saving ["value"] (defScope s_is_saving) := ⟨rfl, rfl, rfl, by decide +kernel, rfl, by decide +kernel, by decide +kernel⟩
abbrev s_state_after : Stmt := topS 45
abbrev N_state_after : List Str := ["history", "running", "presents", "saved", "patch"]
theorem sc_state_after : FnScope N_state_after ["history"] (defScope s_state_after) := ⟨rfl, rfl, rfl, by decide +kernel, rfl, by decide +kernel, by decide +kernel⟩
abbrev s_references_behind : Stmt := topS 47
abbrev N_references_behind : List Str := ["piece", "present", "saved", "event"]
theorem sc_references_behind : FnScope N_references_behind ["piece"] (defScope s_references_behind) := ⟨rfl, rfl, rfl, by decide +kernel, rfl, by decide +kernel, by decide +kernel⟩
abbrev s_presents_by : Stmt := topS 50
abbrev N_presents_by : List Str := ["history", "touches", "present", "_"]
theorem sc_presents_by : FnScope N_presents_by ["history", "touches"] (defScope s_presents_by) := ⟨rfl, rfl, rfl, by decide +kernel, rfl, by decide +kernel, by decide +kernel⟩
abbrev s_restoring_order : Stmt := topS 51
abbrev N_restoring_order : List Str := ["history", "touches", "order", "_"]
theorem sc_restoring_order : FnScope N_restoring_order ["history", "touches"] (defScope s_restoring_order) := ⟨rfl, rfl, rfl, by decide +kernel, rfl, by decide +kernel, by decide +kernel⟩
abbrev s_is_restoring : Stmt := topS 52
abbrev N_is_restoring : List Str := ["history", "touches", "order", "presents", "patch"]
theorem sc_is_restoring : FnScope N_is_restoring ["history", "touches", "order"] (defScope s_is_restoring) := ⟨rfl, rfl, rfl, by decide +kernel, rfl, by decide +kernel, by decide +kernel⟩
abbrev s_obstacle : Stmt := topS 53
abbrev N_obstacle : List Str := ["history", "touches", "lost", "_", "stuck"]
theorem sc_obstacle : FnScope N_obstacle ["history", "touches"] (defScope s_obstacle) := ⟨rfl, rfl, rfl, by decide +kernel, rfl, by decide +kernel, by decide +kernel⟩
abbrev s_is_obstacle : Stmt := topS 54
abbrev N_is_obstacle : List Str := ["history", "touches", "value", "lost", "savings", "word", "what"]
theorem sc_is_obstacle : FnScope N_is_obstacle ["history", "touches", "value"] (defScope s_is_obstacle) := ⟨rfl, rfl, rfl, by decide +kernel, rfl, by decide +kernel, by decide +kernel⟩
abbrev s_check_touches : Stmt := topS 55
abbrev N_check_touches : List Str := ["history", "touches", "item", "patch"]
theorem sc_check_touches : FnScope N_check_touches ["history", "touches"] (defScope s_check_touches) := ⟨rfl, rfl, rfl, by decide +kernel, rfl, by decide +kernel, by decide +kernel⟩
abbrev s_are_settings : Stmt := topS 56
abbrev N_are_settings : List Str := ["value"]
theorem sc_are_settings : FnScope N_are_settings ["value"] (defScope s_are_settings) := ⟨rfl, rfl, rfl, by decide +kernel, rfl, by decide +kernel, by decide +kernel⟩
abbrev s_states_by : Stmt := topS 57
abbrev N_states_by : List Str := ["history", "touches", "setting", "event"]
theorem sc_states_by : FnScope N_states_by ["history", "touches"] (defScope s_states_by) := ⟨rfl, rfl, rfl, by decide +kernel, rfl, by decide +kernel, by decide +kernel⟩
abbrev s_savings_by : Stmt := topS 58
abbrev N_savings_by : List Str := ["history", "touches", "_", "saved"]
theorem sc_savings_by : FnScope N_savings_by ["history", "touches"] (defScope s_savings_by) := ⟨rfl, rfl, rfl, by decide +kernel, rfl, by decide +kernel, by decide +kernel⟩
abbrev s_lost_settings : Stmt := topS 59
abbrev N_lost_settings : List Str := ["history", "touches", "states", "setting", "present", "saved"]
theorem sc_lost_settings : FnScope N_lost_settings ["history", "touches"] (defScope s_lost_settings) := ⟨rfl, rfl, rfl, by decide +kernel, rfl, by decide +kernel, by decide +kernel⟩
abbrev s_order_and_stuck : Stmt := topS 60
abbrev N_order_and_stuck : List Str := ["history", "touches", "savings", "order", "left", "harmless", "patch"]
theorem sc_order_and_stuck : FnScope N_order_and_stuck ["history", "touches"] (defScope s_order_and_stuck) := ⟨rfl, rfl, rfl, by decide +kernel, rfl, by decide +kernel, by decide +kernel⟩
abbrev s_spoils : Stmt := topS 61
abbrev N_spoils : List Str := ["savings", "patches", "patch", "saved", "other"]
theorem sc_spoils : FnScope N_spoils ["savings", "patches", "patch"] (defScope s_spoils) := ⟨rfl, rfl, rfl, by decide +kernel, rfl, by decide +kernel, by decide +kernel⟩
abbrev s_is_stuck : Stmt := topS 62
abbrev N_is_stuck : List Str := ["savings", "value", "patch"]
theorem sc_is_stuck : FnScope N_is_stuck ["savings", "value"] (defScope s_is_stuck) := ⟨rfl, rfl, rfl, by decide +kernel, rfl, by decide +kernel, by decide +kernel⟩
abbrev s_law_bag : Stmt := topS 64
abbrev N_law_bag : List Str := ["cell", "k"]
theorem sc_law_bag : FnScope N_law_bag ["cell", "k"] (defScope s_law_bag) := ⟨rfl, rfl, rfl, by decide +kernel, rfl, by decide +kernel, by decide +kernel⟩
abbrev s_law_draw : Stmt := topS 65
abbrev N_law_draw : List Str := ["bag", "many", "digit", "one"]
theorem sc_law_draw : FnScope N_law_draw ["bag", "many"] (defScope s_law_draw) := ⟨rfl, rfl, rfl, by decide +kernel, rfl, by decide +kernel, by decide +kernel⟩
abbrev s_law_events : Stmt := topS 66
abbrev N_law_events : List Str := ["bag", "most", "to_end", "many", "found", "started", "running"]
theorem sc_law_events : FnScope N_law_events ["bag", "most", "to_end"] (defScope s_law_events) := ⟨rfl, rfl, rfl, by decide +kernel, rfl, by decide +kernel, by decide +kernel⟩
abbrev s_law_play : Stmt := topS 67
abbrev N_law_play : List Str := ["events", "presents", "saved", "running", "event"]
theorem sc_law_play : FnScope N_law_play ["events"] (defScope s_law_play) := ⟨rfl, rfl, rfl, by decide +kernel, rfl, by decide +kernel, by decide +kernel⟩
abbrev s_law_orders : Stmt := topS 68
abbrev N_law_orders : List Str := ["items", "found", "place", "longer", "one", "item"]
theorem sc_law_orders : FnScope N_law_orders ["items"] (defScope s_law_orders) := ⟨rfl, rfl, rfl, by decide +kernel, rfl, by decide +kernel, by decide +kernel⟩
abbrev s_law_orders_right : Stmt := topS 69
abbrev N_law_orders_right : List Str := ["bag", "events", "presents", "saved", "running", "every", "lefts", "value", "place", "own", "spot", "order", "patch", "k"]
theorem sc_law_orders_right : FnScope N_law_orders_right ["bag", "events"] (defScope s_law_orders_right) := ⟨rfl, rfl, rfl, by decide +kernel, rfl, by decide +kernel, by decide +kernel⟩
abbrev s_law_state : Stmt := topS 70
abbrev N_law_state : List Str := ["events", "presents", "saved", "running", "patch"]
theorem sc_law_state : FnScope N_law_state ["events"] (defScope s_law_state) := ⟨rfl, rfl, rfl, by decide +kernel, rfl, by decide +kernel, by decide +kernel⟩
abbrev s_law_effects_right : Stmt := topS 71
abbrev N_law_effects_right : List Str := ["events", "cut", "one", "two", "ahead", "inside", "patch", "event"]
theorem sc_law_effects_right : FnScope N_law_effects_right ["events", "cut"] (defScope s_law_effects_right) := ⟨rfl, rfl, rfl, by decide +kernel, rfl, by decide +kernel, by decide +kernel⟩
abbrev s_law_presents : Stmt := topS 72
abbrev N_law_presents : List Str := ["events", "touches", "found", "setting", "own", "event"]
theorem sc_law_presents : FnScope N_law_presents ["events", "touches"] (defScope s_law_presents) := ⟨rfl, rfl, rfl, by decide +kernel, rfl, by decide +kernel, by decide +kernel⟩
abbrev s_law_settings_right : Stmt := topS 73
abbrev N_law_settings_right : List Str := ["events", "touches", "presents", "saved", "running", "good", "order", "rest", "restores", "found", "wall", "patch"]
theorem sc_law_settings_right : FnScope N_law_settings_right ["events", "touches"] (defScope s_law_settings_right) := ⟨rfl, rfl, rfl, by decide +kernel, rfl, by decide +kernel, by decide +kernel⟩
abbrev s_law_right : Stmt := topS 74
abbrev N_law_right : List Str := ["bag", "events", "cut", "kept", "touches", "patch"]
theorem sc_law_right : FnScope N_law_right ["bag"] (defScope s_law_right) := ⟨rfl, rfl, rfl, by decide +kernel, rfl, by decide +kernel, by decide +kernel⟩
abbrev s_law : Stmt := topS 75
abbrev N_law : List Str := ["script", "cells", "k"]
theorem sc_law : FnScope N_law ["script"] (defScope s_law) := ⟨rfl, rfl, rfl, by decide +kernel, rfl, by decide +kernel, by decide +kernel⟩
abbrev s_Effect_init : Stmt := inClass (topS 46) 0
abbrev N_Effect_init : List Str := ["self", "piece", "present", "saved", "patch", "event"]
theorem sc_Effect_init : FnScope N_Effect_init ["self", "piece"] (defScope s_Effect_init) := ⟨rfl, rfl, rfl, by decide +kernel, rfl, by decide +kernel, by decide +kernel⟩
abbrev s_Effect_present : Stmt := inClass (topS 46) 1
abbrev N_Effect_present : List Str := ["self"]
theorem sc_Effect_present : FnScope N_Effect_present ["self"] (defScope s_Effect_present) := ⟨rfl, rfl, rfl, by decide +kernel, rfl, by decide +kernel, by decide +kernel⟩
abbrev s_Effect_saved : Stmt := inClass (topS 46) 2
abbrev N_Effect_saved : List Str := ["self"]
theorem sc_Effect_saved : FnScope N_Effect_saved ["self"] (defScope s_Effect_saved) := ⟨rfl, rfl, rfl, by decide +kernel, rfl, by decide +kernel, by decide +kernel⟩
abbrev s_Effect_stopped : Stmt := inClass (topS 46) 3
abbrev N_Effect_stopped : List Str := ["self"]
theorem sc_Effect_stopped : FnScope N_Effect_stopped ["self"] (defScope s_Effect_stopped) := ⟨rfl, rfl, rfl, by decide +kernel, rfl, by decide +kernel, by decide +kernel⟩
abbrev s_Effect_ended : Stmt := inClass (topS 46) 4
abbrev N_Effect_ended : List Str := ["self"]
theorem sc_Effect_ended : FnScope N_Effect_ended ["self"] (defScope s_Effect_ended) := ⟨rfl, rfl, rfl, by decide +kernel, rfl, by decide +kernel, by decide +kernel⟩
abbrev s_Effect_call : Stmt := inClass (topS 46) 5
abbrev N_Effect_call : List Str := ["self", "state", "present", "saved", "values", "patch", "reference"]
theorem sc_Effect_call : FnScope N_Effect_call ["self", "state"] (defScope s_Effect_call) := ⟨rfl, rfl, rfl, by decide +kernel, rfl, by decide +kernel, by decide +kernel⟩
abbrev s_Effect_fits : Stmt := inClass (topS 46) 6
abbrev N_Effect_fits : List Str := ["self", "present", "saved", "taken", "patch"]
theorem sc_Effect_fits : FnScope N_Effect_fits ["self", "present", "saved"] (defScope s_Effect_fits) := ⟨rfl, rfl, rfl, by decide +kernel, rfl, by decide +kernel, by decide +kernel⟩
abbrev s_Effect_add : Stmt := inClass (topS 46) 7
abbrev N_Effect_add : List Str := ["self", "other", "piece"]
theorem sc_Effect_add : FnScope N_Effect_add ["self", "other"] (defScope s_Effect_add) := ⟨rfl, rfl, rfl, by decide +kernel, rfl, by decide +kernel, by decide +kernel⟩
abbrev s_Effect_eq : Stmt := inClass (topS 46) 8
abbrev N_Effect_eq : List Str := ["self", "other"]
theorem sc_Effect_eq : FnScope N_Effect_eq ["self", "other"] (defScope s_Effect_eq) := ⟨rfl, rfl, rfl, by decide +kernel, rfl, by decide +kernel, by decide +kernel⟩
abbrev s_Effect_len : Stmt := inClass (topS 46) 9
abbrev N_Effect_len : List Str := ["self"]
theorem sc_Effect_len : FnScope N_Effect_len ["self"] (defScope s_Effect_len) := ⟨rfl, rfl, rfl, by decide +kernel, rfl, by decide +kernel, by decide +kernel⟩
abbrev s_Effect_contains : Stmt := inClass (topS 46) 10
abbrev N_Effect_contains : List Str := ["self", "patch"]
theorem sc_Effect_contains : FnScope N_Effect_contains ["self", "patch"] (defScope s_Effect_contains) := ⟨rfl, rfl, rfl, by decide +kernel, rfl, by decide +kernel, by decide +kernel⟩
end L69
set_option Elab.async false
set_option linter.all false
set_option maxRecDepth 100000
namespace L69
open PySem PySem.Spec PyProof.Rows L2 Lp
section
variable {P : Program} {w : World} {K : PySem.W.Frag} {mg : Str → Option Value} {base : Heap}
/-- a def of the text at its name -/
structure At (K : PySem.W.Frag) (mg : Str → Option Value) (x : Str) (st : Stmt) (f : Addr) (fd : FuncData) : Prop where
  fn : Fun K x x st f fd
  mgf : mg x = some (.ref f)
theorem At.gc {k : Nat} {x : Str} {st : Stmt} {f : Addr} {fd : FuncData} {ps : List Str} {sp : Sp} (a : At K mg x st f fd) (b : Binds K fd ps []) (F : FnOk P w K mg base CX0 k f fd ps sp) : Cal P w K mg base k x sp := ⟨f, fd, ps, F, a.mgf, a.fn.kp, b⟩

/-! ### is_integer and its kin -/
def spIsInt : Sp := fun vs H Q _ => ∃ i : Int, vs = [.int i] ∧ Q (.bl true) H
theorem ok_is_integer {f : Addr} {fd : FuncData} (F : Fun K "is_integer" "is_integer" s_is_integer f fd) (B : NoB mg) : FnOk P w K mg base CX0 1 f fd ["value"] spIsInt := by
  refine F.ok sc_is_integer (fun vs H Q E h => ?_) (fun cdv A outer s H vs Q E hr h => ?_)
  · obtain ⟨i, rfl, _⟩ := h
    rfl
  · obtain ⟨i, rfl, q⟩ := h
    refine ⟨_, (pss_one (ps_ret (pe_and (pe_callB call_isi (by rfl) B.isinstance (by decide +kernel) (pa_cons (pv 0) (pa_cons (pe_bltn (v := .ty "int") (by rfl) B.int boot_int rfl) pa_nil))) (pe_one (pe_not (pe_callB call_isi (by rfl) B.isinstance (by decide +kernel) (pa_cons (pv 0) (pa_cons (pe_bltn (v := .ty "bool") (by rfl) B.bool boot_bool rfl) pa_nil)))))))), ?_⟩
    refine ⟨_, rfl, _, _, _, _, true, rfl, .ty _, .base (.int i), kit_ty (by decide +kernel), true, rfl, iteT ?_⟩
    exact ⟨_, rfl, _, _, _, _, false, rfl, .ty _, .base (.int i), kit_ty (by decide +kernel), false, rfl, q⟩
def spWithin : Sp := fun vs H Q _ => ∃ i lo hi : Int, vs = [.int i, .int lo, .int hi] ∧ lo ≤ i ∧ i ≤ hi ∧ Q (.bl true) H
theorem ok_is_integer_within {f : Addr} {fd : FuncData} (F : Fun K "is_integer_within" "is_integer_within" s_is_integer_within f fd) (T_is_integer : Cal P w K mg base 1 "is_integer" spIsInt) : FnOk P w K mg base CX0 2 f fd ["value", "least", "greatest"] spWithin := by
  refine F.ok sc_is_integer_within (fun vs H Q E h => ?_) (fun cdv A outer s H vs Q E hr h => ?_)
  · obtain ⟨i, lo, hi, rfl, _⟩ := h
    rfl
  · obtain ⟨i, lo, hi, rfl, h1, h2, q⟩ := h
    refine ⟨_, (pss_one (ps_ret (pe_and (pe_c T_is_integer hr (by decide) (by rfl) (pa_cons (pv 0) pa_nil)) (pe_one (pe_chain op_le op_le (pv 1) (pv 0) (pv 2)))))), ?_⟩
    refine ⟨_, rfl, i, rfl, true, rfl, iteT ?_⟩
    refine ⟨_, rfl, _, rfl, _, _, rfl, rfl, _, rfl, ?_⟩
    rw [decide_eq_true h1]
    refine iteT ⟨_, rfl, _, _, rfl, rfl, ?_⟩
    dsimp only
    rw [decide_eq_true h2]
    exact q
/-! ### are_integers -/
def spAreInts (K : PySem.W.Frag) : Sp := fun vs H Q _ => ∃ (a : Addr) (ns : List Int) (lo hi m : Int), vs = [.ref a, .int lo, .int hi, .int m] ∧ SqL K H a (ns.map V.int) ∧ ((ns.length : Nat) : Int) ≤ m ∧ ns.length ≤ 1000 ∧ (∀ n ∈ ns, lo ≤ n ∧ n ≤ hi) ∧ ∀ H', Same H H' → Q (.bl true) H'
theorem ok_are_integers {f : Addr} {fd : FuncData} (F : Fun K "are_integers" "are_integers" s_are_integers f fd) (B : NoB mg) (T_is_integer_within : Cal P w K mg base 2 "is_integer_within" spWithin) : FnOk P w K mg base CX0 3 f fd ["value", "least", "greatest", "most"] (spAreInts K) := by
  refine F.ok sc_are_integers (fun vs H Q E h => ?_) (fun cdv A outer s H vs Q E hr h => ?_)
  · obtain ⟨a, ns, lo, hi, m, rfl, _⟩ := h
    rfl
  · obtain ⟨a, ns, lo, hi, m, rfl, hS, hm, hl, hb, q⟩ := h
    refine ⟨_, (pss_cons (ps_if (PW.pt (pw_or (pt_cmpR op_neTy (pe_callTy call_type1 (by rfl) B.type (by decide +kernel) (pa_cons (pv 0) pa_nil)) (pe_bltn (v := .ty "list") (by rfl) B.list boot_list rfl) (nomark _)) (pw_or1 (pt_cmpR op_gt (pe_callB call_len_seq (by rfl) B.len PySem.boot_len (pa_cons (pv 0) pa_nil)) (pv 3) (nomark _))))) (pss_one (ps_ret pe_bl)) pss_nil)
        (pss_one (ps_ret (pe_callB (cr_all rfl) (by rfl) B.all (by decide +kernel) (pa_cons (pe_lc (own := [("item", 4)]) (g := gName 4) (tt := tYes) rfl sc_are_integers.nd (pi_list (pv 0)) (blkOk_by (own := [("item", 4)]) (N := N_are_integers) (sc := defScope s_are_integers) (by decide +kernel)) (fun _ _ _ _ _ => (pg_name (i := 4) sc_are_integers.nd rfl (Or.inl rfl))) (fun _ _ _ _ _ => pts_nil) (fun _ _ _ _ _ => (pe_c T_is_integer_within hr (by decide) (by rfl) (pa_cons (pv 4) (pa_cons (pv 1) (pa_cons (pv 2) pa_nil)))))) pa_nil))))), ?_⟩
    refine ⟨_, rfl, _, _, rfl, .lst hS, _, rfl, rfl, PySem.TypeEq.meta_list, _, rfl, iteF ?_⟩
    refine ⟨_, rfl, a, _, rfl, .inl hS, _, rfl, _, _, rfl, rfl, _, rfl, ?_⟩
    rw [List.length_map, decide_eq_false (show ¬ m < ((ns.length : Nat) : Int) by omega)]
    refine iteF ?_
    refine ⟨_, rfl, a, rfl, ⟨_, hS⟩, fun D hD => lc_list (xs := ns.map V.int) (LcP H D fun i => (List.replicate i true).map V.bl) (.init hD rfl) (fun i H' _ p => p.2.1.seq hS) (fun i x H' hx p => ?_) (fun H' p => ?_)⟩
    · obtain ⟨n, rfl, hn⟩ := get_int hx
      obtain ⟨h1, h2⟩ := hb n (mem_get hn)
      refine ⟨rfl, ?_⟩
      refine ⟨_, rfl, _, rfl, _, rfl, n, lo, hi, rfl, h1, h2, ?_⟩
      refine p.put (Same.refl _) ?_ (by rw [List.length_map, List.length_replicate]; have := lt_get hn; omega)
      rw [List.replicate_succ', List.map_append]
      rfl
    · refine ⟨D, _, rfl, .of p.2.2, ?_⟩
      have e : (List.replicate (ns.map V.int).length true).all id = true := by
        rw [List.all_eq_true]
        intro b hb
        exact (List.eq_of_mem_replicate hb)
      rw [e]
      exact q _ p.2.1

/-! ### histories -/
structure Hist (ns : List Int) : Prop where
  rng : ∀ e ∈ ns, e ≠ 0 ∧ -100 ≤ e ∧ e ≤ 100
  nd : ns.Nodup
  ord : ∀ (i : Nat) (e : Int), ns[i]? = some e → e < 0 → -e ∈ ns.take i
  len : ns.length ≤ 200
theorem not_mem_take {ns : List Int} (nd : ns.Nodup) {i : Nat} {e : Int} (h : ns[i]? = some e) : e ∉ ns.take i := by
  intro hm
  obtain ⟨j, hj, e1⟩ := List.mem_iff_getElem.mp hm
  rw [List.length_take] at hj
  have hjn : j < ns.length := by omega
  have e2 : ns[j]? = some e := by
    rw [List.getElem?_eq_getElem hjn, ← e1, List.getElem_take]
  have := nd_ix nd e2 h
  omega
theorem mem_take_succ {ns : List Int} {i : Nat} {e x : Int} (h : ns[i]? = some e) : (x ∈ ns.take (i + 1)) ↔ (x ∈ ns.take i ∨ x = e) := by
  rw [take_get h, List.mem_append, List.mem_singleton]
/-! ### are_events -/
def spAreEv (K : PySem.W.Frag) : Sp := fun vs H Q _ => ∃ (a : Addr) (ns : List Int), vs = [.ref a] ∧ SqL K H a (ns.map V.int) ∧ (∀ e ∈ ns, e ≠ 0 ∧ -100 ≤ e ∧ e ≤ 100) ∧ ns.Nodup ∧ ns.length ≤ 200 ∧ ∀ H', Same H H' → Q (.bl true) H'
theorem ok_are_events {f : Addr} {fd : FuncData} (F : Fun K "are_events" "are_events" s_are_events f fd) (B : NoB mg) {t1 t2 : Tok} (T_g_LAST_PATCH : mg "LAST_PATCH" = some (.int 100 t1)) (T_g_MOST_EVENTS : mg "MOST_EVENTS" = some (.int 200 t2))
    (T_are_integers : Cal P w K mg base 3 "are_integers" (spAreInts K)) : FnOk P w K mg base CX0 4 f fd ["value"] (spAreEv K) := by
  refine F.ok sc_are_events (fun vs H Q E h => ?_) (fun cdv A outer s H vs Q E hr h => ?_)
  · obtain ⟨a, ns, rfl, _⟩ := h
    rfl
  · obtain ⟨a, ns, rfl, hS, hb, nd, hl, q⟩ := h
    refine ⟨_, (pss_cons (ps_if (pt_not (pt_val (pe_c T_are_integers hr (by decide) (by rfl) (pa_cons (pv 0) (pa_cons (pe_un un_neg (pe_glob (v := .int 100) (by rfl) T_g_LAST_PATCH ⟨_, rfl⟩)) (pa_cons (pe_glob (v := .int 100) (by rfl) T_g_LAST_PATCH ⟨_, rfl⟩) (pa_cons (pe_glob (v := .int 200) (by rfl) T_g_MOST_EVENTS ⟨_, rfl⟩) pa_nil))))))) (pss_one (ps_ret pe_bl)) pss_nil)
        (pss_one (ps_ret (pe_and (pe_cmpR op_notIn_seq pe_int (pv 0) (by rfl)) (pe_one (pe_cmpR op_eq (RZ.pe_lenSetI (by rfl) B.len (by rfl) B.set (pv 0)) (pe_callB call_len_seq (by rfl) B.len PySem.boot_len (pa_cons (pv 0) pa_nil)) (nomark _))))))), ?_⟩
    refine ⟨_, rfl, _, rfl, a, ns, -100, 100, 200, rfl, hS, by omega, by omega, fun n hn => (hb n hn).2, fun H1 s1 => ?_⟩
    refine ⟨_, rfl, iteF ?_⟩
    have hS1 := s1.seq hS
    refine ⟨_, rfl, a, ns.map V.int, rfl, .inl hS1, rfl, flatI ns, true, notInT fun z => (hb 0 z).1 rfl, iteT ?_⟩
    refine ⟨_, rfl, a, ns, rfl, hS1, nd, by omega, _, rfl, a, _, rfl, .inl hS1, rfl, ?_⟩
    rw [List.length_map, dT rfl]
    exact q _ s1

def spIsHist (K : PySem.W.Frag) : Sp := fun vs H Q _ => ∃ (a : Addr) (ns : List Int), vs = [.ref a] ∧ SqL K H a (ns.map V.int) ∧ Hist ns ∧ ∀ H', Same H H' → Q (.bl true) H'
theorem ok_is_history {f : Addr} {fd : FuncData} (F : Fun K "is_history" "is_history" s_is_history f fd) (B : NoB mg) (T_are_events : Cal P w K mg base 4 "are_events" (spAreEv K)) : FnOk P w K mg base CX0 5 f fd ["value"] (spIsHist K) := by
  refine F.ok sc_is_history (fun vs H Q E h => ?_) (fun cdv A outer s H vs Q E hr h => ?_)
  · obtain ⟨a, ns, rfl, _⟩ := h
    rfl
  · obtain ⟨a, ns, rfl, hS, hh, q⟩ := h
    have hu := hu_of hr
    refine ⟨_, (pss_cons (ps_if (pt_not (pt_val (pe_c T_are_events hr (by decide) (by rfl) (pa_cons (pv 0) pa_nil)))) (pss_one (ps_ret pe_bl)) pss_nil)
        (pss_cons (ps_set (i := 1) sc_is_history.nd rfl (Or.inl rfl) (pe_callTy0 cr_set0 (by rfl) B.set (by decide +kernel)))
        (pss_cons (ps_for PassesOwn.never rfl (pi_list (pv 0)) (pg_name (i := 2) sc_is_history.nd rfl (Or.inl rfl))
          (pss_one (ps_if (pt_cmpR op_gt (pv 2) pe_int (nomark _)) (pss_one (ps_expr (pe_sadd (pv 1) (pa_cons (pv 2) pa_nil)))) (pss_one (ps_if (pt_cmpR or_snotin (pe_un un_neg (pv 2)) (pv 1) (by rfl)) (pss_one (ps_ret pe_bl)) pss_nil)))))
        (pss_one (ps_ret pe_bl))))), ?_⟩
    refine ⟨_, rfl, a, ns, rfl, hS, hh.rng, hh.nd, hh.len, fun H1 s1 => ?_⟩
    refine ⟨_, rfl, iteF ?_⟩
    refine ⟨rfl, fun p np => ?_⟩
    have hS1 := s1.seq hS
    refine ⟨_, rfl, a, rfl, ⟨_, (same_new np).seq hS1⟩, for_list (xs := ns.map V.int) (fun i σ H' => (∃ y, σ = [some (.ref a), some (.ref p), y]) ∧ Same H1 H' ∧ ∃ n, n ≤ i ∧ H' p = some (SetO w p (fun x => decide (0 < x ∧ x ∈ ns.take i)) n)) ⟨⟨_, rfl⟩, same_new np, 0, Nat.le_refl _, ?_⟩ (fun i σ H' _ h => h.2.1.seq hS1) (fun i x σ H' hx h => ?_) (fun σ H' h => ?_)⟩
    · rw [upd_same]
      show some (SetO w p (fun x => false) 0) = some (SetO w p (fun x => decide (0 < x ∧ x ∈ ns.take 0)) 0)
      simp
    · obtain ⟨n, rfl, hn⟩ := get_int hx
      obtain ⟨⟨y, rfl⟩, sm, m, hm, hp⟩ := h
      have hi : i < 200 := Nat.lt_of_lt_of_le (lt_get hn) hh.len
      by_cases h0 : 0 < n
      · refine ⟨_, rfl, _, _, rfl, rfl, true, dT h0, ?_⟩
        refine ⟨_, rfl, ⟨p, _, m, rfl, hp⟩, _, rfl, p, n, _, m, rfl, rfl, hp, by show m + 1 < 4096; omega, ⟨_, rfl⟩, fun b o e => ?_, m + 1, by omega, ?_⟩
        rotate_left 1
        · have hnt : ¬ (0 < n ∧ n ∈ ns.take i) := fun z => not_mem_take hh.nd hn z.2
          rw [upd_same, decide_eq_false hnt, if_neg Bool.false_ne_true]
          refine congrArg some (congrArg (fun S => SetO w p S _) (funext fun x => ?_))
          rw [← Bool.decide_or]
          refine decide_eq_decide.mpr ?_
          have := mem_take_succ (x := x) hn
          rw [this]
          constructor
          · rintro (⟨a, b⟩ | rfl)
            · exact ⟨a, .inl b⟩
            · exact ⟨h0, .inr rfl⟩
          · rintro ⟨a, b | b⟩
            · exact .inl ⟨a, b⟩
            · exact .inr b
        · rw [upd_ne (ne_of_none e np)]
          exact sm _ _ e
      · refine ⟨_, rfl, _, _, rfl, rfl, false, dF h0, ?_⟩
        have e0 := (hh.rng n (mem_get hn)).1
        have hpre := hh.ord i n hn (by omega)
        refine ⟨_, rfl, n, rfl, _, rfl, -n, p, _, m, rfl, rfl, hp, false, nF ⟨by omega, hpre⟩, ⟨_, rfl⟩, sm, m, by omega, ?_⟩
        rw [hp]
        refine congrArg some (congrArg (fun S => SetO w p S m) (funext fun x => decide_eq_decide.mpr ?_))
        rw [mem_take_succ hn]
        constructor
        · exact fun ⟨a, b⟩ => ⟨a, .inl b⟩
        · rintro ⟨a, b | b⟩
          · exact ⟨a, b⟩
          · omega
    · obtain ⟨⟨y, rfl⟩, sm, _⟩ := h
      exact q _ (s1.trans sm)

/-! ### check_history -/
def spCheck (K : PySem.W.Frag) : Sp := fun vs H Q _ => ∃ (a : Addr) (ns : List Int), vs = [.ref a] ∧ SqL K H a (ns.map V.int) ∧ Hist ns ∧ ∀ H', Same H H' → Q .non H'
theorem ok_check_history {f : Addr} {fd : FuncData} (F : Fun K "check_history" "check_history" s_check_history f fd) (T_is_history : Cal P w K mg base 5 "is_history" (spIsHist K)) : FnOk P w K mg base CX0 6 f fd ["history"] (spCheck K) := by
  refine F.ok sc_check_history (fun vs H Q E h => ?_) (fun cdv A outer s H vs Q E hr h => ?_)
  · obtain ⟨a, ns, rfl, _⟩ := h
    rfl
  · obtain ⟨a, ns, rfl, hS, hh, q⟩ := h
    refine ⟨_, (pss_one (ps_if (pt_not (pt_val (pe_c T_is_history hr (by decide) (by rfl) (pa_cons (pv 0) pa_nil)))) (pss_one ps_never) pss_nil)), ?_⟩
    exact ⟨_, rfl, a, ns, rfl, hS, hh, fun H1 s1 => ⟨_, rfl, iteF (q _ s1)⟩⟩

end
/-! ### what is present, event by event -/
abbrev PSt := Int × (Int → Int)
def putF1 (f : Int → Int) (e v : Int) : Int → Int := fun k => if k = e then v else f k
def stepP (s : PSt) (e : Int) : PSt := if 0 < e then (e, putF1 s.2 e s.1) else (s.2 (-e), s.2)
def stepC (s : PSt) (e : Int) : PSt := if 0 < e then (e, putF1 s.2 e s.1) else if s.1 = -e then (s.2 (-e), s.2) else s
def stepN (o : Option (List Int)) (e : Int) : Option (List Int) := match o with
  | none => none
  | some st => if 0 < e then some (e :: st) else match st with
    | [] => none
    | k :: r => if k = -e then some r else none
def runP (ns : List Int) : PSt := ns.foldl stepP (0, fun _ => 0)
def runC (ns : List Int) : PSt := ns.foldl stepC (0, fun _ => 0)
def runN (ns : List Int) : Option (List Int) := ns.foldl stepN (some [])
theorem run_succ {α : Type} {f : α → Int → α} {z : α} {ns : List Int} {i : Nat} {e : Int} (h : ns[i]? = some e) : (ns.take (i + 1)).foldl f z = f ((ns.take i).foldl f z) e := by
  rw [take_get h, List.foldl_append]
  rfl
theorem runP_succ {ns : List Int} {i : Nat} {e : Int} (h : ns[i]? = some e) : runP (ns.take (i + 1)) = stepP (runP (ns.take i)) e := run_succ h
theorem runC_succ {ns : List Int} {i : Nat} {e : Int} (h : ns[i]? = some e) : runC (ns.take (i + 1)) = stepC (runC (ns.take i)) e := run_succ h
theorem runN_succ {ns : List Int} {i : Nat} {e : Int} (h : ns[i]? = some e) : runN (ns.take (i + 1)) = stepN (runN (ns.take i)) e := run_succ h
/-- the dict of what each patch saved: its pairs bear the function sv on the patches of l -/
def Saves (kvs : List (Key × V)) (l : List Int) (sv : Int → Int) : Prop := ∀ k ∈ l, 0 < k → valV kvs (Sum.inl k) = some (.int (sv k))
theorem putK_len (kvs : List (Key × V)) (k : Key) (v : V) : (putK kvs k v).length ≤ kvs.length + 1 := by
  unfold putK
  split <;> simp
theorem Saves.put {kvs : List (Key × V)} {ns : List Int} {i : Nat} {e c : Int} {sv : Int → Int} (h : Saves kvs (ns.take i) sv) (he : ns[i]? = some e) : Saves (putK kvs (Sum.inl e) (.int c)) (ns.take (i + 1)) (putF1 sv e c) := by
  intro k hk h0
  rw [valV_put]
  unfold putF1
  by_cases z : k = e
  · rw [if_pos (by rw [z]), if_pos z]
  · rw [if_neg (fun q => z (Sum.inl.inj q)), if_neg z]
    exact h k (((mem_take_succ he).mp hk).resolve_right z) h0
theorem Saves.keep {kvs : List (Key × V)} {ns : List Int} {i : Nat} {e : Int} {sv : Int → Int} (h : Saves kvs (ns.take i) sv) (he : ns[i]? = some e) (hn : e < 0) : Saves kvs (ns.take (i + 1)) sv := by
  intro k hk h0
  refine h k (((mem_take_succ he).mp hk).resolve_right fun z => ?_) h0
  omega
theorem sv_get {kvs : List (Key × V)} {l : List Int} {sv : Int → Int} {H : Hp} {d : Addr} {k : Int} (h : Saves kvs l sv) (hd : H d = some (.dK kvs)) (hk : k ∈ l) (h0 : 0 < k) : DGet H d (.int k) (some (.int (sv k))) := by
  have z := DGet.k (k := Sum.inl k) hd
  rw [h k hk h0] at z
  exact z
/-! ### the drawn history -/
def upL (n : Nat) : List Int := (List.range n).map fun i : Nat => 1 + (i : Int)
theorem nodup_map {α β : Type} {f : α → β} (hf : ∀ x y, f x = f y → x = y) : ∀ {l : List α}, l.Nodup → (l.map f).Nodup
  | [], _ => List.nodup_nil
  | x :: r, h => by
    obtain ⟨h1, h2⟩ := List.nodup_cons.mp h
    refine List.nodup_cons.mpr ⟨fun hm => ?_, nodup_map hf h2⟩
    obtain ⟨y, hy, e⟩ := List.mem_map.mp hm
    exact h1 (hf _ _ e ▸ hy)
theorem upL_nd (n : Nat) : (upL n).Nodup := nodup_map (fun x y e => by omega) List.nodup_range
theorem upL_mem {n : Nat} {k : Int} (h : k ∈ upL n) : 1 ≤ k ∧ k ≤ (n : Int) := by
  obtain ⟨i, hi, rfl⟩ := List.mem_map.mp h
  have := List.mem_range.mp hi
  omega
theorem upL_len (n : Nat) : (upL n).length = n := by
  unfold upL
  rw [List.length_map, List.length_range]
theorem rgV_up (b : Int) : rgV 1 b = (upL (b - 1).toNat).map V.int := by
  unfold rgV upL
  rw [List.map_map]
  rfl
structure Good (fr av fd : List Int) : Prop where
  rng : ∀ e ∈ fd, e ≠ 0 ∧ -100 ≤ e ∧ e ≤ 100
  nd : fd.Nodup
  ord : ∀ (i : Nat) (e : Int), fd[i]? = some e → e < 0 → -e ∈ fd.take i
  avn : av.Nodup
  avm : ∀ k ∈ av, 0 < k ∧ k ∈ fd ∧ -k ∉ fd
  frn : fr.Nodup
  frm : ∀ k ∈ fr, 1 ≤ k ∧ k ≤ 100 ∧ k ∉ fd
theorem ord_snoc {fd : List Int} {x : Int} (h : ∀ (i : Nat) (e : Int), fd[i]? = some e → e < 0 → -e ∈ fd.take i) (hx : x < 0 → -x ∈ fd) (i : Nat) (e : Int) (he : (fd ++ [x])[i]? = some e) (h0 : e < 0) : -e ∈ (fd ++ [x]).take i := by
  by_cases hi : i < fd.length
  · rw [List.getElem?_append_left hi] at he
    rw [List.take_append_of_le_length (Nat.le_of_lt hi)]
    exact h i e he h0
  · have hi2 := lt_get he
    rw [List.length_append, List.length_singleton] at hi2
    have e1 : i = fd.length := by omega
    subst e1
    rw [List.getElem?_append_right (Nat.le_refl _), Nat.sub_self] at he
    have e2 : x = e := Option.some.inj he
    subst e2
    rw [List.take_append_of_le_length (Nat.le_refl _), List.take_length]
    exact hx h0
theorem ord_mem {fd : List Int} (h : ∀ (i : Nat) (e : Int), fd[i]? = some e → e < 0 → -e ∈ fd.take i) {e : Int} (he : e ∈ fd) (h0 : e < 0) : -e ∈ fd := by
  obtain ⟨i, hi, rfl⟩ := List.mem_iff_getElem.mp he
  exact List.mem_of_mem_take (h i _ (List.getElem?_eq_getElem hi) h0)
theorem nodup_snoc {l : List Int} {x : Int} (h : l.Nodup) (hx : x ∉ l) : (l ++ [x]).Nodup :=
  List.nodup_append.mpr ⟨h, List.nodup_cons.mpr ⟨List.not_mem_nil, List.nodup_nil⟩, fun a ha b hb e => hx (by
    rw [List.mem_singleton] at hb
    rw [← hb, ← e]
    exact ha)⟩
theorem Good.push {k : Int} {fr av fd : List Int} (g : Good (k :: fr) av fd) : Good fr (av ++ [k]) (fd ++ [k]) := by
  obtain ⟨k1, k2, k3⟩ := g.frm k List.mem_cons_self
  obtain ⟨n1, n2⟩ := List.nodup_cons.mp g.frn
  have kn : -k ∉ fd := fun h => k3 (by
    have z := ord_mem g.ord h (by omega)
    rwa [Int.neg_neg] at z)
  have kav : k ∉ av := fun h => k3 (g.avm k h).2.1
  refine ⟨fun e he => ?_, nodup_snoc g.nd k3, ord_snoc g.ord (fun z => by omega), nodup_snoc g.avn kav, fun j hj => ?_, n2, fun j hj => ?_⟩
  · rcases List.mem_append.mp he with h | h
    · exact g.rng e h
    · rw [List.mem_singleton] at h
      omega
  · rw [List.mem_append, List.mem_append, List.mem_singleton, List.mem_singleton]
    rcases List.mem_append.mp hj with h | h
    · obtain ⟨a, b, c⟩ := g.avm j h
      exact ⟨a, .inl b, fun z => z.elim c fun z => by omega⟩
    · rw [List.mem_singleton] at h
      subst h
      exact ⟨by omega, .inr rfl, fun z => z.elim kn fun z => by omega⟩
  · obtain ⟨a, b, c⟩ := g.frm j (List.mem_cons_of_mem _ hj)
    refine ⟨a, b, fun z => ?_⟩
    rcases List.mem_append.mp z with h | h
    · exact c h
    · rw [List.mem_singleton] at h
      exact n1 (h ▸ hj)
theorem Good.stop {fr av fd : List Int} (g : Good fr av fd) {j : Nat} (hj : j < av.length) : Good fr (av.eraseIdx j) (fd ++ [-av[j]]) := by
  obtain ⟨a0, a1, a2⟩ := g.avm av[j] (List.getElem_mem hj)
  have pm := erase_perm av j hj
  have ndp : (av[j] :: av.eraseIdx j).Nodup := pm.nodup_iff.mpr g.avn
  obtain ⟨m1, m2⟩ := List.nodup_cons.mp ndp
  refine ⟨fun e he => ?_, nodup_snoc g.nd a2, ord_snoc g.ord (fun _ => by rw [Int.neg_neg]; exact a1), m2, fun k hk => ?_, g.frn, fun k hk => ?_⟩
  · rcases List.mem_append.mp he with h | h
    · exact g.rng e h
    · rw [List.mem_singleton] at h
      have := g.rng _ a1
      omega
  · have hk2 : k ∈ av := pm.mem_iff.mp (List.mem_cons_of_mem _ hk)
    obtain ⟨a, b, c⟩ := g.avm k hk2
    refine ⟨a, List.mem_append_left _ b, fun z => ?_⟩
    rcases List.mem_append.mp z with h | h
    · exact c h
    · rw [List.mem_singleton] at h
      have e : k = av[j] := by omega
      exact m1 (e ▸ hk)
  · obtain ⟨a, b, c⟩ := g.frm k hk
    refine ⟨a, b, fun z => ?_⟩
    rcases List.mem_append.mp z with h | h
    · exact c h
    · rw [List.mem_singleton] at h
      omega
theorem eqvT {xs ys : List Int} (h : xs = ys) : V.bl (PyData.eqv (dI xs) (dI ys)) = V.bl true := by rw [eqv_ints, decide_eq_true h]
theorem eqvF {xs ys : List Int} (h : ¬ xs = ys) : V.bl (PyData.eqv (dI xs) (dI ys)) = V.bl false := by rw [eqv_ints, decide_eq_false h]
theorem neqT {xs ys : List Int} (h : ¬ xs = ys) : V.bl (!PyData.eqv (dI xs) (dI ys)) = V.bl true := by rw [eqv_ints, decide_eq_false h]; rfl
theorem neqF {xs ys : List Int} (h : xs = ys) : V.bl (!PyData.eqv (dI xs) (dI ys)) = V.bl false := by rw [eqv_ints, decide_eq_true h]; rfl
theorem nodup_len {l : List Int} : ∀ {m : List Int}, l.Nodup → (∀ x ∈ l, x ∈ m) → l.length ≤ m.length := by
  induction l with
  | nil => intro m _ _; exact Nat.zero_le _
  | cons x r ih =>
    intro m h s
    obtain ⟨h1, h2⟩ := List.nodup_cons.mp h
    have hx := s x List.mem_cons_self
    have z := ih (m := m.erase x) h2 fun y hy => (List.mem_erase_of_ne (fun e : y = x => h1 (e ▸ hy))).mpr (s y (List.mem_cons_of_mem _ hy))
    rw [List.length_erase_of_mem hx] at z
    have := List.length_pos_of_mem hx
    show r.length + 1 ≤ m.length
    omega
end L69
set_option Elab.async false
set_option linter.all false
set_option maxRecDepth 100000
namespace L69
open PySem PySem.Spec PyProof.Rows L2 Lp
/-! ### pieces -/
structure Piece (ns : List Int) : Prop where
  rng : ∀ e ∈ ns, e ≠ 0 ∧ -100 ≤ e ∧ e ≤ 100
  nd : ns.Nodup
  ord : ∀ (i : Nat) (e : Int), ns[i]? = some e → 0 < e → -e ∉ ns.take i
  len : ns.length ≤ 200
theorem Hist.piece {ns : List Int} (h : Hist ns) : Piece ns := by
  refine ⟨h.rng, h.nd, fun i e he h0 hm => ?_, h.len⟩
  obtain ⟨j, hj, e1⟩ := List.mem_iff_getElem.mp hm
  rw [List.length_take] at hj
  rw [List.getElem_take] at e1
  have hj2 : ns[j]? = some (-e) := by rw [List.getElem?_eq_getElem (by omega), e1]
  have hp := h.ord j (-e) hj2 (by omega)
  have e3 : - -e = e := by omega
  rw [e3] at hp
  have : ns.take j = (ns.take i).take j := by rw [List.take_take, Nat.min_eq_left (by omega)]
  rw [this] at hp
  exact not_mem_take h.nd he (List.mem_of_mem_take hp)
theorem Piece.cut {ns : List Int} (h : Piece ns) (a b : Nat) : Piece ((ns.take b).drop a) := by
  have sub : ((ns.take b).drop a).Sublist ns := (List.drop_sublist _ _).trans (List.take_sublist _ _)
  refine ⟨fun e he => h.rng e (sub.subset he), h.nd.sublist sub, fun i e he h0 hm => ?_, Nat.le_trans sub.length_le h.len⟩
  rw [List.getElem?_drop] at he
  have hl : a + i < (ns.take b).length := (List.getElem?_eq_some_iff.mp he).1
  rw [List.length_take] at hl
  rw [List.getElem?_take_of_lt (by omega)] at he
  refine h.ord (a + i) e he h0 ?_
  have e1 : ((ns.take b).drop a).take i = (ns.take (a + i)).drop a := by
    rw [List.take_drop, List.take_take, Nat.min_eq_left (by omega)]
  rw [e1] at hm
  exact List.mem_of_mem_drop hm
theorem Piece.nil : Piece [] := ⟨(fun _ h => nomatch h), List.nodup_nil, (fun i e h => nomatch h), by decide⟩
/-! ### is_piece -/
section
variable {P : Program} {w : World} {K : PySem.W.Frag} {mg : Str → Option Value} {base : Heap}
def spIsPiece (K : PySem.W.Frag) : Sp := fun vs H Q _ => ∃ (a : Addr) (ns : List Int), vs = [.ref a] ∧ SqL K H a (ns.map V.int) ∧ Piece ns ∧ ∀ H', Same H H' → Q (.bl true) H'
theorem ok_is_piece {f : Addr} {fd : FuncData} (F : Fun K "is_piece" "is_piece" s_is_piece f fd) (B : NoB mg) (T_are_events : Cal P w K mg base 4 "are_events" (spAreEv K)) : FnOk P w K mg base CX0 5 f fd ["value"] (spIsPiece K) := by
  refine F.ok sc_is_piece (fun vs H Q E h => ?_) (fun cdv A outer s H vs Q E hr h => ?_)
  · obtain ⟨a, ns, rfl, _⟩ := h
    rfl
  · obtain ⟨a, ns, rfl, hS, hh, q⟩ := h
    have hu := hu_of hr
    refine ⟨_, (pss_cons (ps_if (pt_not (pt_val (pe_c T_are_events hr (by decide) (by rfl) (pa_cons (pv 0) pa_nil)))) (pss_one (ps_ret pe_bl)) pss_nil)
        (pss_cons (ps_set (i := 1) sc_is_piece.nd rfl (Or.inl rfl) (pe_callTy0 cr_set0 (by rfl) B.set (by decide +kernel)))
        (pss_cons (ps_for PassesOwn.never rfl (pi_list (pv 0)) (pg_name (i := 2) sc_is_piece.nd rfl (Or.inl rfl))
          (pss_one (ps_if (pt_cmpR op_lt (pv 2) pe_int (nomark _)) (pss_one (ps_expr (pe_sadd (pv 1) (pa_cons (pe_un un_neg (pv 2)) pa_nil)))) (pss_one (ps_if (pt_cmpR or_sin (pv 2) (pv 1) (by rfl)) (pss_one (ps_ret pe_bl)) pss_nil)))))
        (pss_one (ps_ret pe_bl))))), ?_⟩
    refine ⟨_, rfl, a, ns, rfl, hS, hh.rng, hh.nd, hh.len, fun H1 s1 => ?_⟩
    refine ⟨_, rfl, iteF ?_⟩
    refine ⟨rfl, fun p np => ?_⟩
    have hS1 := s1.seq hS
    refine ⟨_, rfl, a, rfl, ⟨_, (same_new np).seq hS1⟩, for_list (xs := ns.map V.int) (fun i σ H' => (∃ y, σ = [some (.ref a), some (.ref p), y]) ∧ Same H1 H' ∧ ∃ n, n ≤ i ∧ H' p = some (SetO w p (fun x => decide (0 < x ∧ -x ∈ ns.take i)) n)) ⟨⟨_, rfl⟩, same_new np, 0, Nat.le_refl _, ?_⟩ (fun i σ H' _ h => h.2.1.seq hS1) (fun i x σ H' hx h => ?_) (fun σ H' h => ?_)⟩
    · rw [upd_same]
      show some (SetO w p (fun x => false) 0) = some (SetO w p (fun x => decide (0 < x ∧ -x ∈ ns.take 0)) 0)
      simp
    · obtain ⟨n, rfl, hn⟩ := get_int hx
      obtain ⟨⟨y, rfl⟩, sm, m, hm, hp⟩ := h
      have hi : i < 200 := Nat.lt_of_lt_of_le (lt_get hn) hh.len
      by_cases h0 : n < 0
      · refine ⟨_, rfl, _, _, rfl, rfl, true, dT h0, ?_⟩
        refine ⟨_, rfl, ⟨p, _, m, rfl, hp⟩, _, rfl, n, rfl, p, -n, _, m, rfl, rfl, hp, by show m + 1 < 4096; omega, ⟨_, rfl⟩, fun b o e => ?_, m + 1, by omega, ?_⟩
        rotate_left 1
        · have hnt : ¬ (0 < -n ∧ - -n ∈ ns.take i) := fun z => not_mem_take hh.nd hn (by have := z.2; rw [show - -n = n by omega] at this; exact this)
          rw [upd_same, decide_eq_false hnt, if_neg Bool.false_ne_true]
          refine congrArg some (congrArg (fun S => SetO w p S _) (funext fun x => ?_))
          rw [← Bool.decide_or]
          refine decide_eq_decide.mpr ?_
          rw [mem_take_succ (x := -x) hn]
          constructor
          · rintro (⟨a, b⟩ | rfl)
            · exact ⟨a, .inl b⟩
            · exact ⟨by omega, .inr (by omega)⟩
          · rintro ⟨a, b | b⟩
            · exact .inl ⟨a, b⟩
            · exact .inr (by omega)
        · rw [upd_ne (ne_of_none e np)]
          exact sm _ _ e
      · refine ⟨_, rfl, _, _, rfl, rfl, false, dF h0, ?_⟩
        have e0 := (hh.rng n (mem_get hn)).1
        have hpre := hh.ord i n hn (by omega)
        refine ⟨_, rfl, _, rfl, n, p, _, m, rfl, rfl, hp, false, dF (fun z => hpre z.2), ⟨_, rfl⟩, sm, m, by omega, ?_⟩
        · rw [hp]
          refine congrArg some (congrArg (fun S => SetO w p S m) (funext fun x => decide_eq_decide.mpr ?_))
          rw [mem_take_succ hn]
          constructor
          · exact fun ⟨a, b⟩ => ⟨a, .inl b⟩
          · rintro ⟨a, b | b⟩
            · exact ⟨a, b⟩
            · omega
    · obtain ⟨⟨y, rfl⟩, sm, _⟩ := h
      exact q _ (s1.trans sm)
end
/-! ### references -/
def lk (l : List (Int × Int)) (k : Int) : Option Int := (l.find? fun z => decide (z.1 = k)).map (·.2)
def stepR (s : Int × List (Int × Int)) (e : Int) : Int × List (Int × Int) := if 0 < e then (e, s.2 ++ [(e, s.1)]) else ((lk s.2 (-e)).getD e, s.2)
def runR (ns : List Int) : Int × List (Int × Int) := ns.foldl stepR (0, [])
theorem runR_snoc (t : List Int) (e : Int) : runR (t ++ [e]) = stepR (runR t) e := by
  unfold runR
  rw [List.foldl_append]
  rfl
theorem lk_nil (k : Int) : lk [] k = none := rfl
theorem lk_cons (z : Int × Int) (l : List (Int × Int)) (k : Int) : lk (z :: l) k = if z.1 = k then some z.2 else lk l k := by
  unfold lk
  rw [List.find?_cons]
  by_cases h : z.1 = k
  · rw [decide_eq_true h, if_pos h]
    rfl
  · rw [decide_eq_false h, if_neg h]
theorem valV_ent (k : Int) : ∀ l : List (Int × Int), valV (l.map entI) (Sum.inl k) = (lk l k).map V.int
  | [] => rfl
  | z :: l => by
    rw [lk_cons]
    by_cases h : z.1 = k
    · rw [if_pos h]
      exact valV_pos (p := entI z) (r := l.map entI) (congrArg Sum.inl h)
    · rw [if_neg h, ← valV_ent k l]
      unfold valV
      rw [List.map_cons, List.find?_cons, decide_eq_false (fun q => h (Sum.inl.inj q))]
theorem drop_ent (k : Int) (l : List (Int × Int)) : dropK (l.map entI) (Sum.inl k) = (l.filter fun z => decide (z.1 ≠ k)).map entI := by
  unfold dropK
  rw [List.filter_map]
  refine congrArg (List.map entI) (List.filter_congr fun z _ => decide_eq_decide.mpr ?_)
  exact ⟨fun h q => h (congrArg Sum.inl q), fun h q => h (Sum.inl.inj q)⟩
theorem lk_none {l : List (Int × Int)} {k : Int} (h : k ∉ l.map (·.1)) : lk l k = none := by
  unfold lk
  rw [List.find?_eq_none.mpr]
  · rfl
  · intro z hz q
    exact h (List.mem_map.mpr ⟨z, hz, of_decide_eq_true q⟩)
theorem lk_some {l : List (Int × Int)} {k : Int} : k ∈ l.map (·.1) → ∃ v, lk l k = some v ∧ (k, v) ∈ l := by
  induction l with
  | nil => exact fun h => nomatch h
  | cons z l ih =>
    intro h
    rw [lk_cons]
    by_cases q : z.1 = k
    · refine ⟨z.2, if_pos q, ?_⟩
      rw [← q]
      exact List.mem_cons_self
    · obtain ⟨v, e1, e2⟩ := ih ((List.mem_cons.mp h).resolve_left (fun c => q c.symm))
      exact ⟨v, by rw [if_neg q]; exact e1, List.mem_cons_of_mem _ e2⟩
theorem lk_mem {l : List (Int × Int)} {z : Int × Int} (nd : (l.map (·.1)).Nodup) (h : z ∈ l) : lk l z.1 = some z.2 := by
  induction l with
  | nil => exact nomatch h
  | cons y l ih =>
    rw [lk_cons]
    rw [List.map_cons, List.nodup_cons] at nd
    rcases List.mem_cons.mp h with rfl | h
    · exact if_pos rfl
    · rw [if_neg fun q => nd.1 (by rw [q]; exact List.mem_map.mpr ⟨z, h, rfl⟩)]
      exact ih nd.2 h
theorem put_ent {l : List (Int × Int)} {k : Int} (v : Int) (h : k ∉ l.map (·.1)) : putK (l.map entI) (Sum.inl k) (.int v) = (l ++ [(k, v)]).map entI := by
  rw [putK_new]
  · rw [List.map_append]
    rfl
  · rw [valV_ent, lk_none h]
    rfl
theorem lk_filter {p : Int × Int → Bool} {k : Int} : ∀ {l : List (Int × Int)}, (∀ z ∈ l, z.1 = k → p z = true) → lk (l.filter p) k = lk l k
  | [], _ => rfl
  | z :: l, h => by
    have ih := lk_filter (p := p) (k := k) (l := l) fun y hy => h y (List.mem_cons_of_mem _ hy)
    rw [lk_cons]
    by_cases q : z.1 = k
    · rw [List.filter_cons_of_pos (h z List.mem_cons_self q), lk_cons, if_pos q, if_pos q]
    · rw [if_neg q]
      cases hp : p z with
      | true => rw [List.filter_cons_of_pos hp, lk_cons, if_neg q, ih]
      | false => rw [List.filter_cons_of_neg (by rw [hp]; exact Bool.false_ne_true), ih]
theorem keysR' : ∀ (t : List Int) (s : Int × List (Int × Int)), (t.foldl stepR s).2.map (·.1) = s.2.map (·.1) ++ t.filter fun e => decide (0 < e)
  | [], s => (List.append_nil _).symm
  | e :: t, s => by
    rw [List.foldl_cons, keysR' t]
    unfold stepR
    by_cases h : 0 < e
    · rw [if_pos h, List.filter_cons_of_pos (p := fun e => decide (0 < e)) (by exact decide_eq_true h), List.map_append, List.append_assoc]
      rfl
    · rw [if_neg h, List.filter_cons_of_neg (by rw [decide_eq_false h]; exact Bool.false_ne_true)]
theorem keysR (t : List Int) : (runR t).2.map (·.1) = t.filter fun e => decide (0 < e) := by
  unfold runR
  rw [keysR']
  rfl
theorem keysR_mem {t : List Int} {k : Int} : k ∈ (runR t).2.map (·.1) ↔ k ∈ t ∧ 0 < k := by
  rw [keysR, List.mem_filter, decide_eq_true_eq]
/-- the patches started and not stopped, with what they saved; those stopped only; those started and stopped -/
def hl (t : List Int) : List (Int × Int) := (runR t).2.filter fun z => decide (-z.1 ∉ t)
def gn (t : List Int) : List Int := (t.filter fun e => decide (e < 0 ∧ -e ∉ t)).map fun e => -e
def en (t : List Int) : List Int := (t.filter fun e => decide (e < 0 ∧ -e ∈ t)).map fun e => -e
theorem mem_keyR {t : List Int} {z : Int × Int} (h : z ∈ (runR t).2) : z.1 ∈ t ∧ 0 < z.1 := keysR_mem.mp (List.mem_map.mpr ⟨z, h, rfl⟩)
theorem hl_start {t : List Int} {e : Int} (h0 : 0 < e) (hn : -e ∉ t) : hl (t ++ [e]) = hl t ++ [(e, (runR t).1)] := by
  unfold hl
  rw [runR_snoc]
  unfold stepR
  rw [if_pos h0, List.filter_append]
  congr 1
  · refine List.filter_congr fun z hz => decide_eq_decide.mpr ?_
    have := (mem_keyR hz).2
    rw [List.mem_append, List.mem_singleton]
    constructor
    · exact fun a b => a (.inl b)
    · rintro a (b | b)
      · exact a b
      · omega
  · rw [List.filter_cons_of_pos, List.filter_nil]
    refine decide_eq_true ?_
    rw [List.mem_append, List.mem_singleton]
    rintro (b | b)
    · exact hn b
    · have b' : -e = e := b
      omega
theorem hl_stop {t : List Int} {e : Int} (h0 : e < 0) : hl (t ++ [e]) = (hl t).filter fun z => decide (z.1 ≠ -e) := by
  unfold hl
  rw [runR_snoc]
  unfold stepR
  rw [if_neg (by omega), List.filter_filter]
  refine List.filter_congr fun z hz => ?_
  rw [← Bool.decide_and]
  refine decide_eq_decide.mpr ?_
  rw [List.mem_append, List.mem_singleton]
  constructor
  · exact fun a => ⟨fun b => a (.inr (by omega)), fun b => a (.inl b)⟩
  · rintro ⟨a, b⟩ (c | c)
    · exact b c
    · exact a (by omega)
theorem lk_hl {t : List Int} {e : Int} (hn : e ∉ t) : lk (hl t) (-e) = lk (runR t).2 (-e) := lk_filter fun z _ q => decide_eq_true (by rw [q, show - -e = e by omega]; exact hn)
theorem gn_start {t : List Int} {e : Int} (h0 : 0 < e) (hn : -e ∉ t) : gn (t ++ [e]) = gn t ∧ en (t ++ [e]) = en t := by
  unfold gn en
  rw [List.filter_append, List.filter_append, List.filter_cons_of_neg (by rw [decide_eq_false (fun c => absurd c.1 (by omega))]; exact Bool.false_ne_true), List.filter_nil, List.append_nil,
    List.filter_cons_of_neg (by rw [decide_eq_false (fun c => absurd c.1 (by omega))]; exact Bool.false_ne_true), List.filter_nil, List.append_nil]
  constructor
  · refine congrArg (List.map _) (List.filter_congr fun x hx => decide_eq_decide.mpr ?_)
    rw [List.mem_append, List.mem_singleton]
    constructor
    · exact fun ⟨a, b⟩ => ⟨a, fun c => b (.inl c)⟩
    · rintro ⟨a, b⟩
      refine ⟨a, ?_⟩
      rintro (c | c)
      · exact b c
      · exact hn (by rw [← c, show - -x = x by omega]; exact hx)
  · refine congrArg (List.map _) (List.filter_congr fun x hx => decide_eq_decide.mpr ?_)
    rw [List.mem_append, List.mem_singleton]
    constructor
    · rintro ⟨a, b | b⟩
      · exact ⟨a, b⟩
      · exact absurd hx (by rw [show x = -e by omega]; exact hn)
    · exact fun ⟨a, b⟩ => ⟨a, .inl b⟩
theorem gn_stop {t : List Int} {e : Int} (h0 : e < 0) : gn (t ++ [e]) = gn t ++ (if -e ∈ t then [] else [-e]) ∧ en (t ++ [e]) = en t ++ (if -e ∈ t then [-e] else []) := by
  unfold gn en
  have m : ∀ x ∈ t, x < 0 → (-x ∈ t ++ [e] ↔ -x ∈ t) := fun x _ hx => by
    rw [List.mem_append, List.mem_singleton]
    exact ⟨fun c => c.resolve_right (by omega), .inl⟩
  have me : -e ∈ t ++ [e] ↔ -e ∈ t := by
    rw [List.mem_append, List.mem_singleton]
    exact ⟨fun c => c.resolve_right (by omega), .inl⟩
  rw [List.filter_append, List.filter_append, List.map_append, List.map_append]
  refine ⟨?_, ?_⟩
  · congr 1
    · refine congrArg (List.map _) (List.filter_congr fun x hx => decide_eq_decide.mpr ?_)
      exact ⟨fun ⟨a, b⟩ => ⟨a, fun c => b ((m x hx a).mpr c)⟩, fun ⟨a, b⟩ => ⟨a, fun c => b ((m x hx a).mp c)⟩⟩
    · by_cases c : -e ∈ t
      · rw [if_pos c, List.filter_cons_of_neg (by rw [decide_eq_false (fun q => q.2 (me.mpr c))]; exact Bool.false_ne_true)]
        rfl
      · rw [if_neg c, List.filter_cons_of_pos (p := fun x => decide (x < 0 ∧ -x ∉ t ++ [e])) (by exact decide_eq_true ⟨h0, fun q => c (me.mp q)⟩)]
        rfl
  · congr 1
    · refine congrArg (List.map _) (List.filter_congr fun x hx => decide_eq_decide.mpr ?_)
      exact ⟨fun ⟨a, b⟩ => ⟨a, (m x hx a).mp b⟩, fun ⟨a, b⟩ => ⟨a, (m x hx a).mpr b⟩⟩
    · by_cases c : -e ∈ t
      · rw [if_pos c, List.filter_cons_of_pos (p := fun x => decide (x < 0 ∧ -x ∈ t ++ [e])) (by exact decide_eq_true ⟨h0, me.mpr c⟩)]
        rfl
      · rw [if_neg c, List.filter_cons_of_neg (by rw [decide_eq_false (fun q => c (me.mp q.2))]; exact Bool.false_ne_true)]
        rfl
section
variable {P : Program} {w : World} {K : PySem.W.Frag} {mg : Str → Option Value} {base : Heap}
theorem runR_len (t : List Int) : (runR t).2.length ≤ t.length := by
  have e := congrArg List.length (keysR t)
  rw [List.length_map] at e
  rw [e]
  exact List.length_filter_le _ _
def spRefsB (K : PySem.W.Frag) : Sp := fun vs H Q _ => ∃ (a : Addr) (ns : List Int), vs = [.ref a] ∧ SqL K H a (ns.map V.int) ∧ Piece ns ∧
  ∀ H' t d, Same H H' → H' t = some (.tup [.int (runR ns).1, .ref d]) → H' d = some (.dK ((runR ns).2.map entI)) → Q (.ref t) H'
theorem ok_references_behind {f : Addr} {fd : FuncData} (F : Fun K "_references_behind" "_references_behind" s_references_behind f fd) : FnOk P w K mg base CX0 1 f fd ["piece"] (spRefsB K) := by
  refine F.ok sc_references_behind (fun vs H Q E h => ?_) (fun cdv A outer s H vs Q E hr h => ?_)
  · obtain ⟨a, ns, rfl, _⟩ := h
    rfl
  · obtain ⟨a, ns, rfl, hS, hh, q⟩ := h
    have hu := hu_of hr
    refine ⟨_, (pss_cons (ps_set (i := 1) sc_references_behind.nd rfl (Or.inl rfl) pe_int)
        (pss_cons (ps_set (i := 2) sc_references_behind.nd rfl (Or.inl rfl) pe_dnewK)
        (pss_cons (ps_for PassesOwn.never rfl (pi_list (pv 0)) (pg_name (i := 3) sc_references_behind.nd rfl (Or.inl rfl))
          (pss_one (ps_if (pt_cmpR op_gt (pv 3) pe_int (nomark _)) (pss_cons (ps_dput hu (pv 2) (pv 3) (pv 1) rfl)
            (pss_one (ps_set (i := 1) sc_references_behind.nd rfl (Or.inl rfl) (pv 3)))) (pss_one (ps_set (i := 1) sc_references_behind.nd rfl (Or.inl rfl) (pe_dget2 hu (pv 2) (pe_un un_neg (pv 3)) (pv 3) (by constructor <;> rfl)))))))
        (pss_one (ps_ret (pe_tup (pa_cons (pv 1) (pa_cons (pv 2) pa_nil)))))))), ?_⟩
    refine fun d nd => ?_
    refine ⟨_, rfl, a, rfl, ⟨_, (same_new nd).seq hS⟩, for_list (xs := ns.map V.int) (fun i σ H' => (∃ y, σ = [some (.ref a), some (.int (runR (ns.take i)).1), some (.ref d), y]) ∧ Same H H' ∧ H' d = some (.dK ((runR (ns.take i)).2.map entI))) ⟨⟨_, rfl⟩, same_new nd, upd_same⟩ (fun i σ H' _ h => h.2.1.seq hS) (fun i x σ H' hx h => ?_) (fun σ H' h => ?_)⟩
    · obtain ⟨n, rfl, hn⟩ := get_int hx
      obtain ⟨⟨y, rfl⟩, sm, hd⟩ := h
      have hi : i < 200 := Nat.lt_of_lt_of_le (lt_get hn) hh.len
      have e0 := (hh.rng n (mem_get hn)).1
      have hln := runR_len (ns.take i)
      rw [List.length_take] at hln
      have eR : runR (ns.take (i + 1)) = stepR (runR (ns.take i)) n := by rw [take_get hn, runR_snoc]
      by_cases h0 : 0 < n
      · have hk : n ∉ (runR (ns.take i)).2.map (·.1) := fun z => not_mem_take hh.nd hn (keysR_mem.mp z).1
        have eS : stepR (runR (ns.take i)) n = (n, (runR (ns.take i)).2 ++ [(n, (runR (ns.take i)).1)]) := if_pos h0
        refine ⟨_, rfl, _, _, rfl, rfl, true, dT h0, ?_⟩
        refine ⟨_, rfl, _, rfl, _, rfl, d, _, rfl, DPut.k (k := Sum.inl n) hd (zl (by rw [List.length_map]; omega)), ?_⟩
        refine ⟨_, rfl, ⟨some (.int n), ?_⟩, fun b o e => ?_, ?_⟩
        · rw [eR, eS]
          rfl
        · rw [upd_ne (ne_of_none e nd)]
          exact sm _ _ e
        · rw [upd_same, put_ent _ hk, eR, eS]
      · have eS : stepR (runR (ns.take i)) n = ((lk (runR (ns.take i)).2 (-n)).getD n, (runR (ns.take i)).2) := if_neg h0
        refine ⟨_, rfl, _, _, rfl, rfl, false, dF h0, ?_⟩
        refine ⟨_, rfl, d, rfl, .inl ⟨_, .inl hd⟩, _, rfl, n, rfl, _, rfl, _, DGet.k (k := Sum.inl (-n)) hd, ⟨some (.int n), ?_⟩, sm, ?_⟩
        · rw [eR, eS, valV_ent]
          cases lk (runR (ns.take i)).2 (-n) <;> rfl
        · rw [eR, eS]
          exact hd
    · obtain ⟨⟨y, rfl⟩, sm, hd⟩ := h
      rw [List.length_map, List.take_length] at hd
      refine ⟨_, rfl, _, rfl, by show 2 ≤ sizeLine; decide, fun t nt => q _ t d (sm.trans (same_new nt)) (by rw [upd_same, List.length_map, List.take_length]) ?_⟩
      rw [upd_ne (ne_of_none hd nt)]
      exact hd
end
open L2.DX
structure Parts (ns : List Int) (S : List (Int × Int)) (G E : List Int) : Prop where
  s1 : S.Perm (hl ns)
  s2 : S.Pairwise fun x y => x.1 ≤ y.1
  g1 : G.Perm (gn ns)
  g2 : G.Pairwise (· ≤ ·)
  e1 : E.Perm (en ns)
  e2 : E.Pairwise (· ≤ ·)
def dP (S : List (Int × Int)) : PyData := .list (S.map fun z => .tuple [.int z.1, .int z.2])
def dOf (p : Int) (S : List (Int × Int)) (G E : List Int) : PyData := .list [.int p, dP S, dI G, dI E]
theorem dpAll_pairs {K : PySem.W.Frag} {H : Hp} : ∀ ps : List (Addr × Int × Int), (∀ z ∈ ps, H z.1 = some (.tup [.int z.2.1, .int z.2.2])) → DpAll K H (ps.map fun z => V.ref z.1) ((ps.map (·.2)).map fun z => .tuple [.int z.1, .int z.2])
  | [], _ => .nil
  | z :: ps, h => .cons (.tup (.of (h z List.mem_cons_self)) (.cons (.int _) (.cons (.int _) .nil))) (dpAll_pairs ps fun y hy => h y (List.mem_cons_of_mem _ hy))
section
variable {P : Program} {w : World} {K : PySem.W.Frag} {mg : Str → Option Value} {base : Heap}
theorem hl_len (t : List Int) : (hl t).length ≤ t.length := Nat.le_trans (List.length_filter_le _ _) (runR_len t)
theorem gn_len (t : List Int) : (gn t).length ≤ t.length := by unfold gn; rw [List.length_map]; exact List.length_filter_le _ _
theorem en_len (t : List Int) : (en t).length ≤ t.length := by unfold en; rw [List.length_map]; exact List.length_filter_le _ _
/-- what is new in H', as H2 has it -/
def Nw (H H' H2 : Hp) : Prop := ∀ b o, H b = none → H' b = some o → H2 b = some o
theorem Same.none {H H' : Hp} {a : Addr} (s : Same H H') (n : H' a = none) : H a = none := by
  cases e : H a with
  | none => rfl
  | some o =>
    rw [s _ _ e] at n
    cases n
end
def selS (ns : List Int) (l : List (Int × Int)) (ys : List Int) : List (Int × Int) := (ys.filter fun y => decide (-y ∉ ns)).map fun y => (y, (lk l y).getD 0)
theorem keysR_nd {ns : List Int} (nd : ns.Nodup) : ((runR ns).2.map (·.1)).Nodup := by
  rw [keysR]
  exact nd.sublist List.filter_sublist
theorem selS_perm {ns : List Int} (nd : ns.Nodup) {ys : List Int} (h : ys.Perm ((runR ns).2.map (·.1))) : (selS ns (runR ns).2 ys).Perm (hl ns) := by
  have hn := keysR_nd nd
  have e : ((runR ns).2.map (·.1)).filter (fun y => decide (-y ∉ ns)) = (hl ns).map (·.1) := by
    rw [List.filter_map]
    rfl
  have p := (h.filter fun y => decide (-y ∉ ns)).map fun y => (y, (lk (runR ns).2 y).getD 0)
  rw [e, List.map_map] at p
  have e2 : (hl ns).map ((fun y => (y, (lk (runR ns).2 y).getD 0)) ∘ (·.1)) = (hl ns).map id := List.map_congr_left fun z hz => by
    show (z.1, (lk (runR ns).2 z.1).getD 0) = z
    rw [lk_mem hn (List.mem_filter.mp hz).1]
    rfl
  rw [e2, List.map_id] at p
  exact p
theorem selS_le {ns : List Int} {l : List (Int × Int)} {ys : List Int} (h : ys.Pairwise (· ≤ ·)) : (selS ns l ys).Pairwise fun x y => x.1 ≤ y.1 :=
  List.pairwise_map.mpr (h.sublist List.filter_sublist)
theorem selS_succ {ns : List Int} {l : List (Int × Int)} {ys : List Int} {i : Nat} {y : Int} (h : ys[i]? = some y) : selS ns l (ys.take (i + 1)) = selS ns l (ys.take i) ++ if -y ∉ ns then [(y, (lk l y).getD 0)] else [] := by
  unfold selS
  rw [take_get h, List.filter_append, List.map_append]
  congr 1
  by_cases c : -y ∉ ns
  · rw [if_pos c, List.filter_cons_of_pos (p := fun y => decide (-y ∉ ns)) (by exact decide_eq_true c)]
    rfl
  · rw [if_neg c, List.filter_cons_of_neg (p := fun y => decide (-y ∉ ns)) (by rw [decide_eq_false c]; exact Bool.false_ne_true)]
    rfl
theorem selS_len (ns : List Int) (l : List (Int × Int)) (ys : List Int) : (selS ns l ys).length ≤ ys.length := by
  unfold selS
  rw [List.length_map]
  exact List.length_filter_le _ _
theorem en_perm {ns : List Int} (nd : ns.Nodup) : (ns.filter fun e => decide (0 < e ∧ -e ∈ ns)).Perm (en ns) := by
  refine (List.perm_ext_iff_of_nodup (nd.sublist List.filter_sublist) (nodup_map (fun x y e => by omega) (nd.sublist List.filter_sublist))).mpr fun x => ?_
  rw [List.mem_filter, decide_eq_true_eq, List.mem_map]
  constructor
  · rintro ⟨h1, h2, h3⟩
    exact ⟨-x, List.mem_filter.mpr ⟨h3, decide_eq_true ⟨by omega, by rw [show - -x = x by omega]; exact h1⟩⟩, by omega⟩
  · rintro ⟨y, hy, rfl⟩
    obtain ⟨h1, h2⟩ := List.mem_filter.mp hy
    obtain ⟨h3, h4⟩ := of_decide_eq_true h2
    exact ⟨h4, by omega, by rw [show - -y = y by omega]; exact h1⟩
theorem filt_succ {ns : List Int} {f : Int → Bool} {i : Nat} {e : Int} (h : ns[i]? = some e) : (ns.take (i + 1)).filter f = (ns.take i).filter f ++ if f e = true then [e] else [] := by
  rw [take_get h, List.filter_append, List.filter_cons]
  split <;> rfl
theorem filt_len {ns : List Int} {f : Int → Bool} (i : Nat) : ((ns.take i).filter f).length ≤ i := by
  have a := List.length_filter_le f (ns.take i)
  rw [List.length_take] at a
  omega
theorem inT {x : Int} {ns : List Int} (h : x ∈ ns) : V.bl (if false = true then !inV (.int x) (ns.map V.int) else inV (.int x) (ns.map V.int)) = V.bl true := by
  rw [if_neg Bool.false_ne_true, inVI, decide_eq_true h]
theorem inF {x : Int} {ns : List Int} (h : x ∉ ns) : V.bl (if false = true then !inV (.int x) (ns.map V.int) else inV (.int x) (ns.map V.int)) = V.bl false := by
  rw [if_neg Bool.false_ne_true, inVI, decide_eq_false h]
/-! ### an effect -/
abbrev fE (a1 : Addr) (p : Int) (a3 a4 a5 : Addr) : List (Str × V) := [("_piece", .ref a1), ("_present", .int p), ("_saved", .ref a3), ("_stopped", .ref a4), ("_ended", .ref a5)]
structure Txt (K : PySem.W.Frag) (CE : Addr) : Prop where
  cE : Cls K CE
  n0 : NoAttr K CE "_piece"
  n1 : NoAttr K CE "_present"
  n2 : NoAttr K CE "_saved"
  n3 : NoAttr K CE "_stopped"
  n4 : NoAttr K CE "_ended"
structure Eff (CE : Addr) (H : Hp) (x dx a1 a3 a4 a5 : Addr) (ns : List Int) (ps : List (Addr × Int × Int)) (G E : List Int) : Prop where
  hx : H x = some (.ins CE dx (fE a1 (runR ns).1 a3 a4 a5))
  h1 : H a1 = some (.lst (ns.map V.int))
  h3 : H a3 = some (.lst (ps.map fun z => V.ref z.1))
  hp : ∀ z ∈ ps, H z.1 = some (.tup [.int z.2.1, .int z.2.2])
  h4 : H a4 = some (.lst (G.map V.int))
  h5 : H a5 = some (.lst (E.map V.int))
  pt : Parts ns (ps.map (·.2)) G E
  pc : Piece ns
theorem Eff.same {CE : Addr} {H H' : Hp} {x dx a1 a3 a4 a5 : Addr} {ns : List Int} {ps : List (Addr × Int × Int)} {G E : List Int} (h : Eff CE H x dx a1 a3 a4 a5 ns ps G E) (s : Same H H') : Eff CE H' x dx a1 a3 a4 a5 ns ps G E :=
  ⟨s _ _ h.hx, s _ _ h.h1, s _ _ h.h3, fun z hz => s _ _ (h.hp z hz), s _ _ h.h4, s _ _ h.h5, h.pt, h.pc⟩
theorem Eff.mut {CE : Addr} {H : Hp} {x dx a1 a3 a4 a5 p : Addr} {ns : List Int} {ps : List (Addr × Int × Int)} {G E : List Int} {xs ys : List V} (h : Eff CE H x dx a1 a3 a4 a5 ns ps G E) (hp : H p = some (.lst xs)) (n1 : a1 ≠ p) (n3 : a3 ≠ p) (n4 : a4 ≠ p) (n5 : a5 ≠ p) : Eff CE (upd H p (.lst ys)) x dx a1 a3 a4 a5 ns ps G E :=
  ⟨by rw [upd_ne (ne_of h.hx hp (fun z => nomatch z))]; exact h.hx, by rw [upd_ne n1]; exact h.h1, by rw [upd_ne n3]; exact h.h3, fun z hz => by rw [upd_ne (ne_of (h.hp z hz) hp (fun z => nomatch z))]; exact h.hp z hz, by rw [upd_ne n4]; exact h.h4, by rw [upd_ne n5]; exact h.h5, h.pt, h.pc⟩
/-- the heaps agree but at x -/
def But (x : Addr) (H H' : Hp) : Prop := ∀ y o, y ≠ x → H y = some o → H' y = some o
theorem But.sm {x : Addr} {H H' H2 : Hp} (h : But x H H') (s : Same H' H2) : But x H H2 := fun y o a b => s _ _ (h y o a b)
theorem But.up {x : Addr} {H H' : Hp} (h : But x H H') (o : HO) : But x H (upd H' x o) := fun y u a b => by rw [upd_ne a]; exact h y u a b
structure Fa (CE : Addr) (H H' : Hp) (x dx a a1 d : Addr) (ns : List Int) (fs : List (Str × V)) : Prop where
  bt : But x H H'
  hx : H' x = some (.ins CE dx fs)
  ha : H' a = some (.lst (ns.map V.int))
  h1 : H' a1 = some (.lst (ns.map V.int))
  hd : H' d = some (.dK ((runR ns).2.map entI))
section
variable {CE : Addr} {H H' H2 : Hp} {x dx a a1 d D : Addr} {ns : List Int} {fs gs : List (Str × V)}
theorem Fa.same (f : Fa CE H H' x dx a a1 d ns fs) (s : Same H' H2) : Fa CE H H2 x dx a a1 d ns fs := ⟨f.bt.sm s, s _ _ f.hx, s _ _ f.ha, s _ _ f.h1, s _ _ f.hd⟩
theorem Fa.free (f : Fa CE H H' x dx a a1 d ns fs) (n : H' D = none) : H D = none := by
  have hx : D ≠ x := fun z => by
    rw [z, f.hx] at n
    cases n
  cases e : H D with
  | none => rfl
  | some o =>
    rw [f.bt _ _ hx e] at n
    cases n
theorem Fa.nax (f : Fa CE H H' x dx a a1 d ns fs) : a ≠ x := fun z => by
  have h1 := f.ha
  rw [z, f.hx] at h1
  cases h1
theorem Fa.n1x (f : Fa CE H H' x dx a a1 d ns fs) : a1 ≠ x := fun z => by
  have h1 := f.h1
  rw [z, f.hx] at h1
  cases h1
theorem Fa.ndx (f : Fa CE H H' x dx a a1 d ns fs) : d ≠ x := fun z => by
  have h1 := f.hd
  rw [z, f.hx] at h1
  cases h1
theorem Fa.fld (f : Fa CE H H' x dx a a1 d ns fs) : Fa CE H (upd H' x (.ins CE dx gs)) x dx a a1 d ns gs :=
  ⟨f.bt.up _, upd_same, by rw [upd_ne f.nax]; exact f.ha, by rw [upd_ne f.n1x]; exact f.h1, by rw [upd_ne f.ndx]; exact f.hd⟩
theorem Fa.put {fs0 : List (Str × V)} {o : HO} (f0 : Fa CE H H' x dx a a1 d ns fs0) (n : H' D = none) (f : Fa CE H H2 x dx a a1 d ns fs) : Fa CE H (upd H2 D o) x dx a a1 d ns fs := by
  refine ⟨fun y u b c => ?_, ?_, ?_, ?_, ?_⟩
  · rw [upd_ne (ne_of_none (f0.bt y u b c) n)]
    exact f.bt y u b c
  · rw [upd_ne (ne_of_none f0.hx n)]; exact f.hx
  · rw [upd_ne (ne_of_none f0.ha n)]; exact f.ha
  · rw [upd_ne (ne_of_none f0.h1 n)]; exact f.h1
  · rw [upd_ne (ne_of_none f0.hd n)]; exact f.hd
end
structure Sv (H : Hp) (D : Addr) (ps : List (Addr × Int × Int)) : Prop where
  h : H D = some (.lst (ps.map fun z => V.ref z.1))
  q : ∀ z ∈ ps, H z.1 = some (.tup [.int z.2.1, .int z.2.2])
section
variable {CE : Addr} {H H2 : Hp} {x dx D D2 : Addr} {ps : List (Addr × Int × Int)} {fs gs : List (Str × V)}
theorem Sv.same (f : Sv H D ps) (s : Same H H2) : Sv H2 D ps := ⟨s _ _ f.h, fun z hz => s _ _ (f.q z hz)⟩
theorem Sv.fld (f : Sv H D ps) (hx : H x = some (.ins CE dx fs)) : Sv (upd H x (.ins CE dx gs)) D ps := by
  refine ⟨?_, fun z hz => ?_⟩
  · rw [upd_ne (ne_of f.h hx (fun z => nomatch z))]; exact f.h
  · rw [upd_ne (ne_of (f.q z hz) hx (fun z => nomatch z))]; exact f.q z hz
theorem Sv.put {o : HO} (f0 : Sv H D ps) (n : H D2 = none) (f : Sv H2 D ps) : Sv (upd H2 D2 o) D ps := by
  refine ⟨?_, fun z hz => ?_⟩
  · rw [upd_ne (ne_of_none f0.h n)]; exact f.h
  · rw [upd_ne (ne_of_none (f0.q z hz) n)]; exact f.q z hz
end
section
variable {P : Program} {w : World} {K : PySem.W.Frag} {mg : Str → Option Value} {base : Heap} {CE : Addr}
def spInit (CE : Addr) : Sp := fun vs H Q _ => ∃ (x dx a : Addr) (ns : List Int), vs = [.ref x, .ref a] ∧ H a = some (.lst (ns.map V.int)) ∧ Piece ns ∧ H x = some (.ins CE dx []) ∧
  ∀ H' a1 a3 a4 a5 ps G E, Eff CE H' x dx a1 a3 a4 a5 ns ps G E → But x H H' → H a1 = none → H a3 = none → H a4 = none → H a5 = none → Q .non H'
theorem ok_Effect_init {f : Addr} {fd : FuncData} (F : Fun K "__init__" "Effect.__init__" s_Effect_init f fd) (B : NoB mg) (T : Txt K CE) (T_is_piece : Cal P w K mg base 5 "is_piece" (spIsPiece K)) (T_references_behind : Cal P w K mg base 1 "_references_behind" (spRefsB K)) : FnOk P w K mg base CX0 6 f fd ["self", "piece"] (spInit CE) := by
  refine F.ok sc_Effect_init (fun vs H Q E h => ?_) (fun cdv A outer s H vs Q E hr h => ?_)
  · obtain ⟨x, dx, a, ns, rfl, _⟩ := h
    rfl
  · obtain ⟨x, dx, a, ns, rfl, ha, hh, hx, q⟩ := h
    have hu := hu_of hr
    have hS : SqL K H a (ns.map V.int) := .of ha
    refine ⟨_, (pss_cons (ps_if (pt_not (pt_val (pe_c T_is_piece hr (by decide) (by rfl) (pa_cons (pv 1) pa_nil)))) (pss_one ps_never) pss_nil)
        (pss_cons (ps_asg (pe_c T_references_behind hr (by decide) (by rfl) (pa_cons (pv 1) pa_nil)) (pg_tup rfl (pgs_cons (pg_name (i := 2) sc_Effect_init.nd rfl (Or.inl rfl)) (pgs_cons (pg_name (i := 3) sc_Effect_init.nd rfl (Or.inr rfl)) pgs_nil))))
        (pss_cons (ps_fld (pv 0) (pe_callTy call_list_of (by rfl) B.list (by decide +kernel) (pa_cons (pv 1) pa_nil)) rfl)
        (pss_cons (ps_fld (pv 0) (pv 2) rfl)
        (pss_cons (ps_fld (pv 0) (pe_lc (own := [("patch", 4)]) (g := gName 4) (tt := _) rfl sc_Effect_init.nd (pi_list (pe_callB (call_sortedDIO rfl) (by rfl) B.sorted (by decide +kernel) (pa_cons (pv 3) pa_nil))) (blkOk_by (own := [("patch", 4)]) (N := N_Effect_init) (sc := defScope s_Effect_init) (by decide +kernel)) (fun _ _ _ _ _ => (pg_name (i := 4) sc_Effect_init.nd rfl (Or.inl rfl))) (fun _ _ _ _ _ => (pts_one (pt_cmpR (k_notin (K := K) rfl) (pe_un un_neg (pv 4)) (pv 1) (by rfl)))) (fun _ _ _ _ _ => (pe_tup (pa_cons (pv 4) (pa_cons (pe_dget hu (pv 3) (pv 4) (fun _ _ => rfl)) pa_nil))))) rfl)
        (pss_cons (ps_fld (pv 0) (pe_callB cr_sortedI (by rfl) B.sorted (by decide +kernel) (pa_cons (pe_lc (own := [("event", 5)]) (g := gName 5) (tt := _) rfl sc_Effect_init.nd (pi_list (pv 1)) (blkOk_by (own := [("event", 5)]) (N := N_Effect_init) (sc := defScope s_Effect_init) (by decide +kernel)) (fun _ _ _ _ _ => (pg_name (i := 5) sc_Effect_init.nd rfl (Or.inl rfl))) (fun _ _ _ _ _ => (pts_one (PW.pt (pw_and (pt_cmpR op_lt (pv 5) pe_int (nomark _)) (pw_and1 (pt_cmpR (k_notin (K := K) rfl) (pe_un un_neg (pv 5)) (pv 1) (by rfl))))))) (fun _ _ _ _ _ => (pe_un un_neg (pv 5)))) pa_nil)) rfl)
        (pss_one (ps_fld (pv 0) (pe_callB cr_sortedI (by rfl) B.sorted (by decide +kernel) (pa_cons (pe_lc (own := [("event", 5)]) (g := gName 5) (tt := _) rfl sc_Effect_init.nd (pi_list (pv 1)) (blkOk_by (own := [("event", 5)]) (N := N_Effect_init) (sc := defScope s_Effect_init) (by decide +kernel)) (fun _ _ _ _ _ => (pg_name (i := 5) sc_Effect_init.nd rfl (Or.inl rfl))) (fun _ _ _ _ _ => (pts_one (PW.pt (pw_and (pt_cmpR op_gt (pv 5) pe_int (nomark _)) (pw_and1 (pt_cmpR (k_in (K := K) rfl) (pe_un un_neg (pv 5)) (pv 1) (by rfl))))))) (fun _ _ _ _ _ => (pv 5))) pa_nil)) rfl)))))))), ?_⟩
    refine ⟨_, rfl, a, ns, rfl, hS, hh, fun H1 s1 => ?_⟩
    refine ⟨_, rfl, iteF ?_⟩
    refine ⟨_, rfl, a, ns, rfl, s1.seq hS, hh, fun H2 t d s2 ht hd => ?_⟩
    refine ⟨t, _, rfl, .of ht, rfl, _, _, rfl, _, _, rfl, rfl, ?_⟩
    have sA := s1.trans s2
    have hx2 := sA _ _ hx
    refine ⟨_, rfl, a, _, rfl, .inl (sA.seq hS), fun a1 na1 => ?_⟩
    have s3 := same_new (o := .lst (ns.map V.int)) na1
    have F0 : Fa CE H (upd H2 a1 (.lst (ns.map V.int))) x dx a a1 d ns [] := ⟨fun y u _ c => s3 _ _ (sA _ _ c), s3 _ _ hx2, s3 _ _ (sA _ _ ha), upd_same, s3 _ _ hd⟩
    refine ⟨_, rfl, x, CE, dx, _, rfl, F0.hx, T.cE, T.n0, (by show 0 < 1000; decide), ?_⟩
    refine ⟨_, rfl, _, rfl, x, CE, dx, _, rfl, upd_same, T.cE, T.n1, (by show 1 < 1000; decide), ?_⟩
    have F2 : Fa CE H (upd (upd (upd H2 a1 (.lst (ns.map V.int))) x (.ins CE dx [("_piece", .ref a1)])) x (.ins CE dx [("_piece", .ref a1), ("_present", .int (runR ns).1)])) x dx a a1 d ns [("_piece", .ref a1), ("_present", .int (runR ns).1)] := F0.fld.fld
    refine ⟨_, rfl, d, (runR ns).2.map entI, (runR ns).2.map (·.1), rfl, .inl F2.hd, (by rw [List.map_map, List.map_map]; rfl), fun ys py yp yw nyp => ?_⟩
    have F3 := F2.same (same_new (o := .lst (ys.map V.int)) nyp)
    have ylen : ys.length ≤ 200 := by
      have e := yp.length_eq
      rw [List.length_map] at e
      have := runR_len ns
      have := hh.len
      omega
    refine ⟨py, rfl, ⟨_, .of upd_same⟩, fun D nD => lc_list (xs := ys.map V.int) (fun i H' => Fa CE H H' x dx a a1 d ns [("_piece", .ref a1), ("_present", .int (runR ns).1)] ∧ H' py = some (.lst (ys.map V.int)) ∧ ∃ ps : List (Addr × Int × Int), H' D = some (.lst (ps.map fun z => V.ref z.1)) ∧ ps.map (·.2) = selS ns (runR ns).2 (ys.take i) ∧ ∀ z ∈ ps, z.1 ≠ D ∧ H' z.1 = some (.tup [.int z.2.1, .int z.2.2])) ⟨F3.same (same_new nD), ?_, [], upd_same, rfl, fun z hz => nomatch hz⟩ (fun i H' _ p => .of p.2.1) (fun i y H' hy p => ?_) (fun H' p => ?_)⟩
    · rw [upd_ne (ne_of_none upd_same nD), upd_same]
    · obtain ⟨n, rfl, hn⟩ := get_int hy
      obtain ⟨F4, hpy, ps, hD, eps, hps⟩ := p
      have hi := lt_get hn
      have l1 := selS_len ns (runR ns).2 (ys.take i)
      rw [List.length_take, ← eps, List.length_map] at l1
      have eS := selS_succ (ns := ns) (l := (runR ns).2) hn
      refine ⟨rfl, ?_⟩
      by_cases c : -n ∈ ns
      · refine ⟨_, rfl, n, rfl, _, rfl, a, ns.map V.int, rfl, .inl (.of F4.ha), rfl, flatI ns, false, ?_, ?_⟩
        · exact notInF c
        · rw [eS, if_neg (fun z => z c), List.append_nil]
          exact ⟨F4, hpy, ps, hD, eps, hps⟩
      · refine ⟨_, rfl, n, rfl, _, rfl, a, ns.map V.int, rfl, .inl (.of F4.ha), rfl, flatI ns, true, notInT c, ?_⟩
        obtain ⟨v, ev, _⟩ := lk_some (l := (runR ns).2) (k := n) (yp.mem_iff.mp (mem_get hn))
        refine ⟨_, rfl, _, rfl, _, rfl, d, .int v, rfl, ?_, by show 2 ≤ sizeLine; decide, fun Tt nT => ?_⟩
        · have g := DGet.k (k := Sum.inl n) F4.hd
          rw [valV_ent, ev] at g
          exact g
        have e4 := same_new (o := .tup [.int n, .int v]) nT
        have nD0 : Tt ≠ D := fun z => by
          rw [z, hD] at nT
          cases nT
        refine ⟨ps.map fun z => V.ref z.1, e4 _ _ hD, by rw [List.length_map]; exact zl (by omega), (F3.put nD (F4.same e4)), ?_, ps ++ [(Tt, n, v)], ?_, ?_, ?_⟩
        · rw [upd_ne (ne_of_none upd_same nD)]
          exact e4 _ _ hpy
        · rw [upd_same, List.map_append]
          rfl
        · rw [List.map_append, eps, eS, if_pos c, ev]
          rfl
        · intro z hz
          rcases List.mem_append.mp hz with hz | hz
          · obtain ⟨q1, q2⟩ := hps z hz
            exact ⟨q1, by rw [upd_ne q1]; exact e4 _ _ q2⟩
          · rw [List.mem_singleton.mp hz]
            exact ⟨nD0, by rw [upd_ne nD0]; exact upd_same⟩
    · obtain ⟨F5, _, ps, hD, eps, hps⟩ := p
      rw [List.length_map, List.take_length] at eps
      have S5 : Sv H' D ps := ⟨hD, fun z hz => (hps z hz).2⟩
      refine ⟨_, rfl, x, CE, dx, _, rfl, F5.hx, T.cE, T.n2, (by show 2 < 1000; decide), ?_⟩
      have F6 : Fa CE H (upd H' x (.ins CE dx [("_piece", .ref a1), ("_present", .int (runR ns).1), ("_saved", .ref D)])) x dx a a1 d ns [("_piece", .ref a1), ("_present", .int (runR ns).1), ("_saved", .ref D)] := F5.fld
      have S6 : Sv (upd H' x (.ins CE dx [("_piece", .ref a1), ("_present", .int (runR ns).1), ("_saved", .ref D)])) D ps := S5.fld F5.hx
      refine ⟨_, rfl, a, rfl, ⟨_, .of F6.ha⟩, fun D2 nD2 => lc_list (xs := ns.map V.int) (fun i H' => Fa CE H H' x dx a a1 d ns [("_piece", .ref a1), ("_present", .int (runR ns).1), ("_saved", .ref D)] ∧ Sv H' D ps ∧ H' D2 = some (.lst ((((ns.take i).filter fun e => decide (e < 0 ∧ -e ∉ ns)).map fun e => -e).map V.int))) ⟨F6.same (same_new nD2), S6.same (same_new nD2), upd_same⟩ (fun i H' _ p => .of p.1.ha) (fun i y H' hy p => ?_) (fun H' p => ?_)⟩
      · obtain ⟨n, rfl, hn⟩ := get_int hy
        obtain ⟨F7, S7, h7⟩ := p
        have hi := lt_get hn
        have hil := hh.len
        have fs := filt_succ (f := fun e => decide (e < 0 ∧ -e ∉ ns)) hn
        have fl := filt_len (ns := ns) (f := fun e => decide (e < 0 ∧ -e ∉ ns)) i
        refine ⟨rfl, ?_⟩
        by_cases c0 : n < 0
        · refine ⟨_, rfl, _, _, rfl, rfl, true, dT c0, ?_⟩
          by_cases c : -n ∈ ns
          · refine ⟨_, rfl, n, rfl, _, rfl, a, ns.map V.int, rfl, .inl (.of F7.ha), rfl, flatI ns, false, notInF c, ?_⟩
            refine ⟨F7, S7, ?_⟩
            rw [fs, if_neg (by rw [decide_eq_false (fun z => z.2 c)]; exact Bool.false_ne_true), List.append_nil]
            exact h7
          · refine ⟨_, rfl, n, rfl, _, rfl, a, ns.map V.int, rfl, .inl (.of F7.ha), rfl, flatI ns, true, notInT c, ?_⟩
            refine ⟨_, rfl, n, rfl, _, h7, by rw [List.length_map, List.length_map]; exact zl (by omega), F6.put nD2 F7, S6.put nD2 S7, ?_⟩
            rw [upd_same, fs, if_pos (decide_eq_true ⟨c0, c⟩), List.map_append, List.map_append]
            rfl
        · refine ⟨_, rfl, _, _, rfl, rfl, false, dF c0, ?_⟩
          refine ⟨F7, S7, ?_⟩
          rw [fs, if_neg (by rw [decide_eq_false (fun z => c0 z.1)]; exact Bool.false_ne_true), List.append_nil]
          exact h7
      · obtain ⟨F7, S7, h7⟩ := p
        rw [List.length_map, List.take_length] at h7
        refine ⟨D2, gn ns, rfl, .of h7, fun G pg gp gw ng => ?_⟩
        have F8 := F7.same (same_new (o := .lst (G.map V.int)) ng)
        have S8 := S7.same (same_new (o := .lst (G.map V.int)) ng)
        refine ⟨_, rfl, x, CE, dx, _, rfl, F8.hx, T.cE, T.n3, (by show 3 < 1000; decide), ?_⟩
        have hG8 : (upd H' pg (.lst (G.map V.int))) pg = some (.lst (G.map V.int)) := upd_same
        generalize upd H' pg (.lst (G.map V.int)) = H8 at F8 S8 hG8 ⊢
        have F9 : Fa CE H (upd H8 x (.ins CE dx [("_piece", .ref a1), ("_present", .int (runR ns).1), ("_saved", .ref D), ("_stopped", .ref pg)])) x dx a a1 d ns [("_piece", .ref a1), ("_present", .int (runR ns).1), ("_saved", .ref D), ("_stopped", .ref pg)] := F8.fld
        have S9 : Sv (upd H8 x (.ins CE dx [("_piece", .ref a1), ("_present", .int (runR ns).1), ("_saved", .ref D), ("_stopped", .ref pg)])) D ps := S8.fld F8.hx
        have hG9 : (upd H8 x (.ins CE dx [("_piece", .ref a1), ("_present", .int (runR ns).1), ("_saved", .ref D), ("_stopped", .ref pg)])) pg = some (.lst (G.map V.int)) := by
          rw [upd_ne (ne_of hG8 F8.hx (fun z => nomatch z))]
          exact hG8
        refine ⟨_, rfl, a, rfl, ⟨_, .of F9.ha⟩, fun D3 nD3 => lc_list (xs := ns.map V.int) (fun i H' => Fa CE H H' x dx a a1 d ns [("_piece", .ref a1), ("_present", .int (runR ns).1), ("_saved", .ref D), ("_stopped", .ref pg)] ∧ Sv H' D ps ∧ H' pg = some (.lst (G.map V.int)) ∧ H' D3 = some (.lst (((ns.take i).filter fun e => decide (0 < e ∧ -e ∈ ns)).map V.int))) ⟨F9.same (same_new nD3), S9.same (same_new nD3), same_new nD3 _ _ hG9, upd_same⟩ (fun i H' _ p => .of p.1.ha) (fun i y H' hy p => ?_) (fun H' p => ?_)⟩
        · obtain ⟨n, rfl, hn⟩ := get_int hy
          obtain ⟨Fb, Sb, hGb, hb⟩ := p
          have hi := lt_get hn
          have hil := hh.len
          have fs := filt_succ (f := fun e => decide (0 < e ∧ -e ∈ ns)) hn
          have fl := filt_len (ns := ns) (f := fun e => decide (0 < e ∧ -e ∈ ns)) i
          refine ⟨rfl, ?_⟩
          by_cases c0 : 0 < n
          · refine ⟨_, rfl, _, _, rfl, rfl, true, dT c0, ?_⟩
            by_cases c : -n ∈ ns
            · refine ⟨_, rfl, n, rfl, _, rfl, a, ns.map V.int, rfl, .inl (.of Fb.ha), rfl, flatI ns, true, inT c, ?_⟩
              refine ⟨_, rfl, _, hb, by rw [List.length_map]; exact zl (by omega), F9.put nD3 Fb, S9.put nD3 Sb, ?_, ?_⟩
              · rw [upd_ne (ne_of_none hG9 nD3)]
                exact hGb
              · rw [upd_same, fs, if_pos (decide_eq_true ⟨c0, c⟩), List.map_append]
                rfl
            · refine ⟨_, rfl, n, rfl, _, rfl, a, ns.map V.int, rfl, .inl (.of Fb.ha), rfl, flatI ns, false, inF c, ?_⟩
              refine ⟨Fb, Sb, hGb, ?_⟩
              rw [fs, if_neg (by rw [decide_eq_false (fun z => c z.2)]; exact Bool.false_ne_true), List.append_nil]
              exact hb
          · refine ⟨_, rfl, _, _, rfl, rfl, false, dF c0, ?_⟩
            refine ⟨Fb, Sb, hGb, ?_⟩
            rw [fs, if_neg (by rw [decide_eq_false (fun z => c0 z.1)]; exact Bool.false_ne_true), List.append_nil]
            exact hb
        · obtain ⟨Fb, Sb, hGb, hb⟩ := p
          rw [List.length_map, List.take_length] at hb
          refine ⟨D3, ns.filter fun e => decide (0 < e ∧ -e ∈ ns), rfl, .of hb, fun E pe ep ew ne => ?_⟩
          have sE := same_new (o := .lst (E.map V.int)) ne
          have Fc := Fb.same sE
          have Sc := Sb.same sE
          have hGc := sE _ _ hGb
          have hEc : (upd H' pe (.lst (E.map V.int))) pe = some (.lst (E.map V.int)) := upd_same
          refine ⟨_, rfl, x, CE, dx, _, rfl, Fc.hx, T.cE, T.n4, (by show 4 < 1000; decide), ?_⟩
          have Fd : Fa CE H (upd (upd H' pe (.lst (E.map V.int))) x (.ins CE dx (fE a1 (runR ns).1 D pg pe))) x dx a a1 d ns (fE a1 (runR ns).1 D pg pe) := Fc.fld
          have Sd : Sv (upd (upd H' pe (.lst (E.map V.int))) x (.ins CE dx (fE a1 (runR ns).1 D pg pe))) D ps := Sc.fld Fc.hx
          refine q _ a1 D pg pe ps G E ⟨Fd.hx, Fd.h1, Sd.h, Sd.q, ?_, ?_, ⟨?_, ?_, gp, gw, ep.trans (en_perm hh.nd), ew⟩, hh⟩ Fd.bt (Same.none sA na1) (F3.free nD) (F7.free ng) (Fb.free ne)
          · rw [upd_ne (ne_of hGc Fc.hx (fun z => nomatch z))]
            exact hGc
          · rw [upd_ne (ne_of hEc Fc.hx (fun z => nomatch z))]
            exact hEc
          · rw [eps]
            exact selS_perm hh.nd yp
          · rw [eps]
            exact selS_le yw
end
/-! ### the parts are determined -/
theorem sorted_uniq {xs ys : List Int} (p : xs.Perm ys) (h1 : xs.Pairwise (· ≤ ·)) (h2 : ys.Pairwise (· ≤ ·)) : xs = ys :=
  List.Perm.eq_of_pairwise (le := (· ≤ ·)) (fun a b _ _ h1 h2 => Int.le_antisymm h1 h2) h1 h2 p
theorem pairs_uniq {xs ys : List (Int × Int)} (p : xs.Perm ys) (nd : (ys.map (·.1)).Nodup) (h1 : xs.Pairwise fun x y => x.1 ≤ y.1) (h2 : ys.Pairwise fun x y => x.1 ≤ y.1) : xs = ys := by
  refine List.Perm.eq_of_pairwise (le := fun x y => x.1 ≤ y.1) (fun a b ha hb q1 q2 => ?_) h1 h2 p
  have e : a.1 = b.1 := Int.le_antisymm q1 q2
  have l1 := lk_mem nd (p.mem_iff.mp ha)
  have l2 := lk_mem nd hb
  rw [e, l2] at l1
  exact Prod.ext e (Option.some.inj l1).symm
theorem Parts.uniq {ns : List Int} (nd : ns.Nodup) {S S' : List (Int × Int)} {G G' E E' : List Int} (h : Parts ns S G E) (h' : Parts ns S' G' E') : S = S' ∧ G = G' ∧ E = E' := by
  have hn : ((hl ns).map (·.1)).Nodup := (keysR_nd nd).sublist (List.filter_sublist.map _)
  refine ⟨pairs_uniq (h.s1.trans h'.s1.symm) ((h'.s1.map (·.1)).nodup_iff.mpr hn) h.s2 h'.s2, sorted_uniq (h.g1.trans h'.g1.symm) h.g2 h'.g2, sorted_uniq (h.e1.trans h'.e1.symm) h.e2 h'.e2⟩
theorem Hist.take {ns : List Int} (h : Hist ns) (b : Nat) : Hist (ns.take b) := by
  refine ⟨fun e he => h.rng e (List.mem_of_mem_take he), h.nd.sublist (List.take_sublist _ _), fun i e he h0 => ?_, Nat.le_trans (List.take_sublist _ _).length_le h.len⟩
  have hl : i < (ns.take b).length := (List.getElem?_eq_some_iff.mp he).1
  rw [List.length_take] at hl
  rw [List.getElem?_take_of_lt (by omega)] at he
  rw [List.take_take, Nat.min_eq_left (by omega)]
  exact h.ord i e he h0
end L69
set_option Elab.async false
set_option linter.all false
set_option maxRecDepth 100000
namespace L69
open PySem PySem.Spec PyProof.Rows L2 Lp
/-! ### states and what a piece does to them -/
structure St (p : Int) (S : List (Int × Int)) : Prop where
  p0 : 0 ≤ p ∧ p ≤ 100
  rng : ∀ z ∈ S, (1 ≤ z.1 ∧ z.1 ≤ 100) ∧ 0 ≤ z.2 ∧ z.2 ≤ 100
  asc : (S.map (·.1)).Pairwise (· < ·)
  ndv : (p :: S.map (·.2)).Nodup
def stepB (s : Int × List (Int × Int)) (e : Int) : Int × List (Int × Int) := if 0 < e then (e, s.2 ++ [(e, s.1)]) else ((lk s.2 (-e)).getD e, s.2.filter fun z => decide (z.1 ≠ -e))
def runB (s : Int × List (Int × Int)) (ns : List Int) : Int × List (Int × Int) := ns.foldl stepB s
theorem runB_snoc (s : Int × List (Int × Int)) (t : List Int) (e : Int) : runB s (t ++ [e]) = stepB (runB s t) e := by
  unfold runB
  rw [List.foldl_append]
  rfl
/-- what a reference means in a state -/
def mean (p : Int) (S : List (Int × Int)) (r : Int) : Int := if r = 0 then p else (lk S (-r)).getD r
def behL (p : Int) (S : List (Int × Int)) (ns : List Int) : Int × List (Int × Int) :=
  (mean p S (runR ns).1, (S.filter fun z => decide (z.1 ∉ gn ns)) ++ (hl ns).map fun z => (z.1, mean p S z.2))
theorem gn_mem {t : List Int} {k : Int} : k ∈ gn t ↔ 0 < k ∧ -k ∈ t ∧ k ∉ t := by
  unfold gn
  rw [List.mem_map]
  constructor
  · rintro ⟨e, he, rfl⟩
    obtain ⟨h1, h2⟩ := List.mem_filter.mp he
    obtain ⟨h3, h4⟩ := of_decide_eq_true h2
    exact ⟨by omega, by rw [Int.neg_neg]; exact h1, h4⟩
  · rintro ⟨h0, h1, h2⟩
    exact ⟨-k, List.mem_filter.mpr ⟨h1, decide_eq_true ⟨by omega, by rw [Int.neg_neg]; exact h2⟩⟩, Int.neg_neg k⟩
theorem hl_mem {t : List Int} {z : Int × Int} (h : z ∈ hl t) : z.1 ∈ t ∧ 0 < z.1 ∧ -z.1 ∉ t := by
  obtain ⟨h1, h2⟩ := List.mem_filter.mp h
  exact ⟨(mem_keyR h1).1, (mem_keyR h1).2, of_decide_eq_true h2⟩
theorem lk_append {l m : List (Int × Int)} {k : Int} : lk (l ++ m) k = (lk l k).or (lk m k) := by
  unfold lk
  rw [List.find?_append]
  cases l.find? fun z => decide (z.1 = k) <;> rfl
theorem lk_mapv {f : Int → Int} {k : Int} : ∀ {l : List (Int × Int)}, lk (l.map fun z => (z.1, f z.2)) k = (lk l k).map f
  | [] => rfl
  | z :: l => by
    rw [List.map_cons, lk_cons, lk_cons, lk_mapv (l := l)]
    by_cases h : z.1 = k
    · rw [if_pos h, if_pos h]
      rfl
    · rw [if_neg h, if_neg h]
theorem mean_pos {p : Int} {S : List (Int × Int)} (hk : ∀ z ∈ S, 0 < z.1) {r : Int} (h : 0 < r) : mean p S r = r := by
  unfold mean
  rw [if_neg (by omega), lk_none]
  · rfl
  · intro c
    obtain ⟨z, hz, e⟩ := List.mem_map.mp c
    have := hk z hz
    omega
theorem stepB_beh {p : Int} {S : List (Int × Int)} (hk : ∀ z ∈ S, 0 < z.1) {t : List Int} {e : Int} (h0 : e ≠ 0) (hnt : e ∉ t) (ho : 0 < e → -e ∉ t) (fn : ∀ k ∈ t, 0 < k → k ∉ S.map (·.1)) :
    stepB (behL p S t) e = behL p S (t ++ [e]) := by
  by_cases hp : 0 < e
  · have hn := ho hp
    have eS : runR (t ++ [e]) = (e, (runR t).2 ++ [(e, (runR t).1)]) := by rw [runR_snoc]; exact if_pos hp
    unfold stepB
    rw [if_pos hp]
    unfold behL
    rw [eS, (gn_start hp hn).1, hl_start hp hn, List.map_append, ← List.append_assoc]
    show ((e : Int), _) = (mean p S e, _)
    rw [mean_pos hk hp]
    rfl
  · have hneg : e < 0 := by omega
    have eS : runR (t ++ [e]) = ((lk (runR t).2 (-e)).getD e, (runR t).2) := by rw [runR_snoc]; exact if_neg hp
    have eL := lk_hl (t := t) (e := e) hnt
    unfold stepB
    rw [if_neg hp]
    have ef : ((hl t).map fun z => (z.1, mean p S z.2)).filter (fun z => decide (z.1 ≠ -e)) = (hl (t ++ [e])).map fun z => (z.1, mean p S z.2) := by
      rw [List.filter_map, hl_stop hneg]
      rfl
    by_cases hk2 : -e ∈ t
    · obtain ⟨v, hv, _⟩ := lk_some (l := (runR t).2) (k := -e) (keysR_mem.mpr ⟨hk2, by omega⟩)
      have hnS : -e ∉ S.map (·.1) := fn _ hk2 (by omega)
      have l1 : lk (S.filter fun z => decide (z.1 ∉ gn t)) (-e) = none := lk_none fun c => hnS (by
        obtain ⟨z, hz, q⟩ := List.mem_map.mp c
        exact List.mem_map.mpr ⟨z, (List.mem_filter.mp hz).1, q⟩)
      have e1 : lk (behL p S t).2 (-e) = some (mean p S v) := by
        unfold behL
        rw [lk_append, l1, lk_mapv, eL, hv]
        rfl
      rw [e1]
      refine Prod.ext ?_ ?_
      · show mean p S v = mean p S (runR (t ++ [e])).1
        rw [eS, hv]
        rfl
      · show ((S.filter fun z => decide (z.1 ∉ gn t)) ++ (hl t).map fun z => (z.1, mean p S z.2)).filter (fun z => decide (z.1 ≠ -e)) = (S.filter fun z => decide (z.1 ∉ gn (t ++ [e]))) ++ (hl (t ++ [e])).map fun z => (z.1, mean p S z.2)
        rw [List.filter_append, ef, (gn_stop (t := t) hneg).1, if_pos hk2, List.append_nil]
        congr 1
        refine List.filter_eq_self.mpr fun z hz => decide_eq_true fun q => hnS ?_
        rw [← q]
        exact List.mem_map.mpr ⟨z, (List.mem_filter.mp hz).1, rfl⟩
    · have hv : lk (runR t).2 (-e) = none := lk_none fun z => hk2 (keysR_mem.mp z).1
      have l1 : lk (S.filter fun z => decide (z.1 ∉ gn t)) (-e) = lk S (-e) := lk_filter fun z _ q => decide_eq_true fun c => by
        rw [q] at c
        have c2 := (gn_mem.mp c).2.1
        rw [Int.neg_neg] at c2
        exact hnt c2
      have e1 : lk (behL p S t).2 (-e) = lk S (-e) := by
        unfold behL
        rw [lk_append, l1, lk_mapv, eL, hv]
        cases lk S (-e) <;> rfl
      rw [e1]
      refine Prod.ext ?_ ?_
      · show (lk S (-e)).getD e = mean p S (runR (t ++ [e])).1
        rw [eS, hv]
        show _ = mean p S e
        unfold mean
        rw [if_neg h0]
      · show ((S.filter fun z => decide (z.1 ∉ gn t)) ++ (hl t).map fun z => (z.1, mean p S z.2)).filter (fun z => decide (z.1 ≠ -e)) = (S.filter fun z => decide (z.1 ∉ gn (t ++ [e]))) ++ (hl (t ++ [e])).map fun z => (z.1, mean p S z.2)
        rw [List.filter_append, ef, (gn_stop (t := t) hneg).1, if_neg hk2, List.filter_filter]
        congr 1
        refine List.filter_congr fun z _ => ?_
        rw [← Bool.decide_and]
        refine decide_eq_decide.mpr ?_
        rw [List.mem_append, List.mem_singleton]
        exact ⟨fun ⟨a, b⟩ c => c.elim b a, fun a => ⟨fun c => a (.inr c), fun c => a (.inl c)⟩⟩
theorem behL_nil (p : Int) (S : List (Int × Int)) : behL p S [] = (p, S) := by
  refine Prod.ext ?_ ?_
  · rfl
  · show (S.filter fun z => decide (z.1 ∉ gn [])) ++ [] = S
    rw [List.append_nil]
    exact List.filter_eq_self.mpr fun z _ => decide_eq_true (show z.1 ∉ ([] : List Int) from List.not_mem_nil)
/-- a piece, event by event -/
theorem runB_beh {p : Int} {S : List (Int × Int)} (hk : ∀ z ∈ S, 0 < z.1) {ns : List Int} (hp : Piece ns) (fn : ∀ k ∈ ns, 0 < k → k ∉ S.map (·.1)) : ∀ i, i ≤ ns.length → runB (p, S) (ns.take i) = behL p S (ns.take i)
  | 0, _ => by
    rw [List.take_zero, behL_nil]
    rfl
  | i + 1, h => by
    have he : ns[i]? = some (ns[i]'(by omega)) := List.getElem?_eq_getElem (by omega)
    rw [take_get he, runB_snoc, runB_beh hk hp fn i (by omega)]
    exact stepB_beh hk (hp.rng _ (mem_get he)).1 (not_mem_take hp.nd he) (hp.ord i _ he) fun k hk => fn k (List.mem_of_mem_take hk)
/-- the state at the end of a history goes on -/
theorem stt_run {a t : List Int} (hp : Piece (a ++ t)) : ∀ i, i ≤ t.length → ((runR (a ++ t.take i)).1, hl (a ++ t.take i)) = runB ((runR a).1, hl a) (t.take i)
  | 0, _ => by
    rw [List.take_zero, List.append_nil]
    rfl
  | i + 1, h => by
    have he : t[i]? = some (t[i]'(by omega)) := List.getElem?_eq_getElem (by omega)
    have he2 : (a ++ t)[a.length + i]? = some (t[i]'(by omega)) := by rw [List.getElem?_append_right (by omega), Nat.add_sub_cancel_left]; exact he
    have et : (a ++ t).take (a.length + i) = a ++ t.take i := by rw [List.take_length_add_append]
    have hnt := not_mem_take hp.nd he2
    have ho := hp.ord _ _ he2
    have h0 := (hp.rng _ (mem_get he2)).1
    rw [et] at hnt ho
    rw [take_get he, runB_snoc, ← stt_run hp i (by omega), ← List.append_assoc]
    generalize t[i]'(by omega) = e at *
    generalize a ++ t.take i = u at *
    unfold stepB
    by_cases hpos : 0 < e
    · rw [if_pos hpos, hl_start hpos (ho hpos)]
      have eS : runR (u ++ [e]) = (e, (runR u).2 ++ [(e, (runR u).1)]) := by rw [runR_snoc]; exact if_pos hpos
      rw [eS]
    · have eS : runR (u ++ [e]) = ((lk (runR u).2 (-e)).getD e, (runR u).2) := by rw [runR_snoc]; exact if_neg hpos
      rw [if_neg hpos, hl_stop (by omega), eS, lk_hl hnt]
/-- .. so the piece behind a history does to its state what the effect says -/
theorem stt_append {a t : List Int} (hp : Piece (a ++ t)) (ht : Piece t) : ((runR (a ++ t)).1, hl (a ++ t)) = behL (runR a).1 (hl a) t := by
  have h1 := stt_run hp t.length (Nat.le_refl _)
  rw [List.take_length] at h1
  have h2 := runB_beh (p := (runR a).1) (S := hl a) (fun z hz => (hl_mem hz).2.1) ht (fun k hk h0 c => by
    obtain ⟨z, hz, rfl⟩ := List.mem_map.mp c
    have := (List.nodup_append.mp hp.nd).2.2 _ (hl_mem hz).1 _ hk
    exact this rfl) t.length (Nat.le_refl _)
  rw [List.take_length] at h2
  rw [h1, h2]
/-- a piece fits a state -/
structure Fits (p : Int) (S : List (Int × Int)) (ns : List Int) : Prop where
  fn : ∀ k ∈ ns, 0 < k → k ∉ S.map (·.1)
  fv : ∀ k ∈ ns, 0 < k → k ∉ p :: S.map (·.2)
  fg : ∀ k ∈ gn ns, k ∈ S.map (·.1)
open L2.DX
def stL (ns : List Int) : List Int := ns.filter fun e => decide (0 < e)
theorem stL_len (ns : List Int) : (stL ns).length ≤ ns.length := List.length_filter_le _ _
def runL (ns : List Int) : List Int := (stL ns).filter fun e => decide (-e ∉ ns)
theorem runL_hl (ns : List Int) : (hl ns).map (·.1) = runL ns := by
  unfold runL stL hl
  rw [← keysR, List.filter_map]
  rfl
def presR (ns : List Int) (n : Nat) : List V := (List.range (n + 1)).map fun j => V.int (runR (ns.take j)).1
theorem presR_succ (ns : List Int) (n : Nat) : presR ns (n + 1) = presR ns n ++ [.int (runR (ns.take (n + 1))).1] := by
  unfold presR
  rw [List.range_succ, List.map_append]
  rfl
theorem presR_last (ns : List Int) (n : Nat) : atI (presR ns n) (-1) = some (.int (runR (ns.take n)).1) := by
  unfold presR
  rw [List.range_succ, List.map_append]
  exact atI_last _ _
theorem presR_len (ns : List Int) (n : Nat) : (presR ns n).length = n + 1 := by
  unfold presR
  rw [List.length_map, List.length_range]
/-- a state in the heap -/
structure StO (H : Hp) (t l : Addr) (p : Int) (ps : List (Addr × Int × Int)) : Prop where
  ht : H t = some (.tup [.int p, .ref l])
  sv : Sv H l ps
theorem StO.same {H H' : Hp} {t l : Addr} {p : Int} {ps : List (Addr × Int × Int)} (h : StO H t l p ps) (s : Same H H') : StO H' t l p ps := ⟨s _ _ h.ht, h.sv.same s⟩
def dSt (p : Int) (S : List (Int × Int)) : PyData := .tuple [.int p, dP S]
theorem StO.dp {K : PySem.W.Frag} {H : Hp} {t l : Addr} {p : Int} {ps : List (Addr × Int × Int)} (h : StO H t l p ps) : Dp K H (.ref t) (dSt p (ps.map (·.2))) :=
  .tup (.of h.ht) (.cons (.int _) (.cons (.lst (.of h.sv.h) (dpAll_pairs ps h.sv.q)) .nil))
section
variable {P : Program} {w : World} {K : PySem.W.Frag} {mg : Str → Option Value} {base : Heap}
/-! ### starts_of, running_after, replay, state_after -/
def spStarts (K : PySem.W.Frag) : Sp := fun vs H Q _ => ∃ (a : Addr) (ns : List Int), vs = [.ref a] ∧ SqL K H a (ns.map V.int) ∧ ns.length ≤ 1000 ∧
  ∀ H' p, Same H H' → H' p = some (.lst ((stL ns).map V.int)) → H p = none → Q (.ref p) H'
theorem ok_starts_of {f : Addr} {fd : FuncData} (F : Fun K "starts_of" "starts_of" s_starts_of f fd) : FnOk P w K mg base CX0 1 f fd ["history"] (spStarts K) := by
  refine F.ok sc_starts_of (fun vs H Q E h => ?_) (fun cdv A outer s H vs Q E hr h => ?_)
  · obtain ⟨a, ns, rfl, _⟩ := h
    rfl
  · obtain ⟨a, ns, rfl, hS, hl, q⟩ := h
    refine ⟨_, (pss_one (ps_ret (pe_lc (own := [("event", 1)]) (g := gName 1) (tt := _) rfl sc_starts_of.nd (pi_list (pv 0)) (blkOk_by (own := [("event", 1)]) (N := N_starts_of) (sc := defScope s_starts_of) (by decide +kernel)) (fun _ _ _ _ _ => (pg_name (i := 1) sc_starts_of.nd rfl (Or.inl rfl))) (fun _ _ _ _ _ => (pts_one (pt_cmpR op_gt (pv 1) pe_int (nomark _)))) (fun _ _ _ _ _ => (pv 1))))), ?_⟩
    refine ⟨_, rfl, a, rfl, ⟨_, hS⟩, fun D hD => lc_list (xs := ns.map V.int) (LcP H D fun i => ((ns.take i).filter fun e => decide (0 < e)).map V.int) (.init hD rfl) (fun i H' _ p => p.2.1.seq hS) (fun i x H' hx p => ?_) (fun H1 p => ?_)⟩
    · obtain ⟨e, rfl, he⟩ := get_int hx
      have fs := filt_succ (f := fun e => decide (0 < e)) he
      have fl := filt_len (ns := ns) (f := fun e => decide (0 < e)) i
      have li := lt_get he
      refine ⟨rfl, ?_⟩
      by_cases h0 : 0 < e
      · refine ⟨_, rfl, _, _, rfl, rfl, true, dT h0, ?_⟩
        refine ⟨_, rfl, p.put (Same.refl _) ?_ (by rw [List.length_map]; omega)⟩
        show ((ns.take (i + 1)).filter _).map V.int = _
        rw [fs, if_pos (by simp [h0]), List.map_append]
        rfl
      · refine ⟨_, rfl, _, _, rfl, rfl, false, dF h0, ?_⟩
        refine p.skip (Same.refl _) ?_
        show ((ns.take (i + 1)).filter _).map V.int = _
        rw [fs, if_neg (by simp [h0]), List.append_nil]
    · have hp := p.2.2
      rw [List.length_map] at hp
      have hp : H1 D = some (.lst (((ns.take ns.length).filter fun e => decide (0 < e)).map V.int)) := hp
      rw [List.take_length] at hp
      exact q _ _ p.2.1 hp hD
def spRunA (K : PySem.W.Frag) : Sp := fun vs H Q _ => ∃ (a : Addr) (ns : List Int), vs = [.ref a] ∧ SqL K H a (ns.map V.int) ∧ Hist ns ∧
  ∀ (H' : Hp) (p : Addr) (R : List Int), Same H H' → H p = none → H' p = some (.lst (R.map V.int)) → R.Perm (runL ns) → R.Pairwise (· ≤ ·) → Q (.ref p) H'
theorem ok_running_after {f : Addr} {fd : FuncData} (F : Fun K "running_after" "running_after" s_running_after f fd) (B : NoB mg) (T_check_history : Cal P w K mg base 6 "check_history" (spCheck K)) (T_starts_of : Cal P w K mg base 1 "starts_of" (spStarts K)) : FnOk P w K mg base CX0 7 f fd ["history"] (spRunA K) := by
  refine F.ok sc_running_after (fun vs H Q E h => ?_) (fun cdv A outer s H vs Q E hr h => ?_)
  · obtain ⟨a, ns, rfl, _⟩ := h
    rfl
  · obtain ⟨a, ns, rfl, hS, hh, q⟩ := h
    have hl : ns.length ≤ 1000 := by have := hh.len; omega
    refine ⟨_, (pss_cons (ps_expr (pe_c T_check_history hr (by decide) (by rfl) (pa_cons (pv 0) pa_nil)))
        (pss_one (ps_ret (pe_callB cr_sortedI (by rfl) B.sorted (by decide +kernel) (pa_cons (pe_lc (own := [("patch", 1)]) (g := gName 1) (tt := _) rfl sc_running_after.nd (pi_list (pe_c T_starts_of hr (by decide) (by rfl) (pa_cons (pv 0) pa_nil))) (blkOk_by (own := [("patch", 1)]) (N := N_running_after) (sc := defScope s_running_after) (by decide +kernel)) (fun _ _ _ _ _ => (pg_name (i := 1) sc_running_after.nd rfl (Or.inl rfl))) (fun _ _ _ _ _ => (pts_one (pt_cmpR (k_notin (K := K) rfl) (pe_un un_neg (pv 1)) (pv 0) (by rfl)))) (fun _ _ _ _ _ => (pv 1))) pa_nil))))), ?_⟩
    refine ⟨_, rfl, a, ns, rfl, hS, hh, fun H1 s1 => ?_⟩
    refine ⟨_, rfl, a, ns, rfl, s1.seq hS, hl, fun H2 p s2 hp np => ⟨p, rfl, ⟨_, .of hp⟩, fun D nD => ?_⟩⟩
    have s02 := s1.trans s2
    refine lc_list (xs := (stL ns).map V.int) (LcP H2 D fun i => (((stL ns).take i).filter fun e => decide (-e ∉ ns)).map V.int) (.init nD rfl) (fun i H' _ p => .of (p.2.1 _ _ hp)) (fun i x H' hx p => ?_) (fun H3 p3 => ?_)
    · obtain ⟨k, rfl, hk⟩ := get_int hx
      have fs := filtG (f := fun e => decide (-e ∉ ns)) hk
      have fl := filtG_len (l := stL ns) (f := fun e => decide (-e ∉ ns)) i
      have sl := stL_len ns
      refine ⟨rfl, ?_⟩
      by_cases c : -k ∈ ns
      · refine ⟨_, rfl, k, rfl, _, rfl, a, _, rfl, .inl ((s02.trans p.2.1).seq hS), rfl, flatI _, false, notInF c, p.skip (Same.refl _) ?_⟩
        rw [fs, if_neg (by simp [c]), List.append_nil]
      · refine ⟨_, rfl, k, rfl, _, rfl, a, _, rfl, .inl ((s02.trans p.2.1).seq hS), rfl, flatI _, true, notInT c, _, rfl, p.put (Same.refl _) ?_ (by rw [List.length_map]; omega)⟩
        rw [fs, if_pos (by simp [c]), List.map_append]
        rfl
    · obtain ⟨_, s3, hD⟩ := p3
      rw [List.length_map] at hD
      have hD : H3 D = some (.lst ((((stL ns).take (stL ns).length).filter fun e => decide (-e ∉ ns)).map V.int)) := hD
      rw [List.take_length] at hD
      exact ⟨D, runL ns, rfl, .of hD, fun ns' z pm pw nz => q _ z ns' ((s02.trans s3).trans (same_new nz)) ((s02.trans s3).free nz) upd_same pm pw⟩
def spReplayR (K : PySem.W.Frag) : Sp := fun vs H Q _ => ∃ (a : Addr) (ns : List Int), vs = [.ref a] ∧ SqL K H a (ns.map V.int) ∧ Hist ns ∧
  ∀ H' t p d, Same H H' → H' t = some (.tup [.ref p, .ref d]) → H' p = some (.lst (presR ns ns.length)) → H' d = some (.dK ((runR ns).2.map entI)) → Q (.ref t) H'
theorem ok_replay {f : Addr} {fd : FuncData} (F : Fun K "replay" "replay" s_replay f fd) : FnOk P w K mg base CX0 1 f fd ["history"] (spReplayR K) := by
  refine F.ok sc_replay (fun vs H Q E h => ?_) (fun cdv A outer s H vs Q E hr h => ?_)
  · obtain ⟨a, ns, rfl, _⟩ := h
    rfl
  · obtain ⟨a, ns, rfl, hS, hh, q⟩ := h
    have hu := hu_of hr
    refine ⟨_, (pss_cons (ps_par (i := 1) (j := 2) (by rfl) sc_replay.nd rfl rfl (by decide) rfl rfl (pa_cons (pe_lst (pa_cons pe_int pa_nil)) (pa_cons pe_dnewK pa_nil)) (by rfl))
        (pss_cons (ps_for PassesOwn.never rfl (pi_list (pv 0)) (pg_name (i := 3) sc_replay.nd rfl (Or.inl rfl))
          (pss_one (ps_if (pt_cmpR op_gt (pv 3) pe_int (nomark _)) (pss_cons (ps_dput hu (pv 2) (pv 3) (pe_ix ix_list (pv 1) (pe_un un_neg pe_int) (fun _ _ => rfl)) rfl)
            (pss_one (ps_expr (pe_bm PySem.F.plainAttrs_list PySem.F.slot_list_append PySem.F.type_list_append mt_append (pv 1) (pa_cons (pv 3) pa_nil))))) (pss_one (ps_expr (pe_bm PySem.F.plainAttrs_list PySem.F.slot_list_append PySem.F.type_list_append mt_append (pv 1) (pa_cons (pe_dget hu (pv 2) (pe_un un_neg (pv 3)) (fun _ _ => rfl)) pa_nil)))))))
        (pss_one (ps_ret (pe_tup (pa_cons (pv 1) (pa_cons (pv 2) pa_nil))))))), ?_⟩
    refine ⟨by show 1 ≤ sizeLine; decide, fun p np d nd => ⟨.ref p, .ref d, rfl, ?_⟩⟩
    have npd : p ≠ d := fun e => by
      rw [← e, upd_same] at nd
      cases nd
    have nd0 : H d = none := by rw [upd_ne npd.symm] at nd; exact nd
    have s1 : Same H (upd (upd H p (.lst [.int 0])) d (.dK [])) := (same_new np).trans (same_new nd)
    refine ⟨_, rfl, a, rfl, ⟨_, s1.seq hS⟩, for_list (xs := ns.map V.int) (fun i σ H' => (∃ y, σ = [some (.ref a), some (.ref p), some (.ref d), y]) ∧ Same H H' ∧ H' p = some (.lst (presR ns i)) ∧ H' d = some (.dK ((runR (ns.take i)).2.map entI))) ⟨⟨_, rfl⟩, s1, ?_, upd_same⟩ (fun i σ H' _ h => h.2.1.seq hS) (fun i x σ H' hx h => ?_) (fun σ H' h => ?_)⟩
    · rw [upd_ne npd, upd_same]
      rfl
    · obtain ⟨n, rfl, hn⟩ := get_int hx
      obtain ⟨⟨y, rfl⟩, sm, hp, hd⟩ := h
      obtain ⟨h0, _⟩ := hh.rng n (mem_get hn)
      have hi : i < 200 := Nat.lt_of_lt_of_le (lt_get hn) hh.len
      have hln := runR_len (ns.take i)
      rw [List.length_take] at hln
      by_cases hpos : 0 < n
      · have hk : n ∉ (runR (ns.take i)).2.map (·.1) := fun z => not_mem_take hh.nd hn (keysR_mem.mp z).1
        have eP : runR (ns.take (i + 1)) = (n, (runR (ns.take i)).2 ++ [(n, (runR (ns.take i)).1)]) := by
          rw [take_get hn, runR_snoc]
          exact if_pos hpos
        refine ⟨_, rfl, _, _, rfl, rfl, true, dT hpos, ?_⟩
        refine ⟨_, rfl, 1, rfl, p, _, -1, _, rfl, rfl, .of hp, presR_last ns i, _, rfl, _, rfl, d, _, rfl, DPut.k (k := Sum.inl n) hd (zl (by rw [List.length_map]; omega)), ?_⟩
        have hp2 : (upd H' d (.dK (putK ((runR (ns.take i)).2.map entI) (Sum.inl n) (.int (runR (ns.take i)).1)))) p = some (.lst (presR ns i)) := by rw [upd_ne npd]; exact hp
        refine ⟨_, rfl, .inl ⟨rfl, _, .of hp2⟩, _, rfl, p, _, _, rfl, rfl, hp2, by rw [presR_len]; exact zl (by omega), ⟨_, rfl⟩, fun b o e => ?_, ?_, ?_⟩
        · rw [upd_ne (ne_of_none e np), upd_ne (ne_of_none e nd0)]
          exact sm _ _ e
        · rw [upd_same, presR_succ, eP]
        · rw [upd_ne npd.symm, upd_same, put_ent _ hk, eP]
      · have hneg : n < 0 := by omega
        have hpre := hh.ord i n hn hneg
        obtain ⟨v, hv, _⟩ := lk_some (l := (runR (ns.take i)).2) (k := -n) (keysR_mem.mpr ⟨hpre, by omega⟩)
        have eP : runR (ns.take (i + 1)) = (v, (runR (ns.take i)).2) := by
          rw [take_get hn, runR_snoc]
          have e : stepR (runR (ns.take i)) n = ((lk (runR (ns.take i)).2 (-n)).getD n, (runR (ns.take i)).2) := if_neg hpos
          rw [e, hv]
          rfl
        have g := DGet.k (k := Sum.inl (-n)) hd
        rw [valV_ent, hv] at g
        refine ⟨_, rfl, _, _, rfl, rfl, false, dF hpos, ?_⟩
        refine ⟨_, rfl, .inl ⟨rfl, _, .of hp⟩, _, rfl, _, rfl, n, rfl, d, _, rfl, g, p, _, _, rfl, rfl, hp, by rw [presR_len]; exact zl (by omega), ⟨_, rfl⟩, fun b o e => ?_, ?_, ?_⟩
        · rw [upd_ne (ne_of_none e np)]
          exact sm _ _ e
        · rw [upd_same, presR_succ, eP]
        · rw [upd_ne npd.symm, eP]
          exact hd
    · obtain ⟨⟨y, rfl⟩, sm, hp, hd⟩ := h
      rw [List.length_map] at hp hd
      rw [List.take_length] at hd
      refine ⟨_, rfl, _, rfl, by show 2 ≤ sizeLine; decide, fun t nt => q _ t p d (sm.trans (same_new nt)) upd_same ?_ ?_⟩
      · rw [upd_ne (ne_of_none hp nt)]
        exact hp
      · rw [upd_ne (ne_of_none hd nt)]
        exact hd
def spStAfter (K : PySem.W.Frag) : Sp := fun vs H Q _ => ∃ (a : Addr) (ns : List Int), vs = [.ref a] ∧ SqL K H a (ns.map V.int) ∧ Hist ns ∧
  ∀ H' t l ps, Same H H' → H t = none → H l = none → StO H' t l (runR ns).1 ps → (ps.map (·.2)).Perm (hl ns) → (ps.map (·.2)).Pairwise (fun x y => x.1 ≤ y.1) → Q (.ref t) H'
theorem ok_state_after {f : Addr} {fd : FuncData} (F : Fun K "state_after" "state_after" s_state_after f fd) (T_running_after : Cal P w K mg base 7 "running_after" (spRunA K)) (T_replay : Cal P w K mg base 1 "replay" (spReplayR K)) : FnOk P w K mg base CX0 8 f fd ["history"] (spStAfter K) := by
  refine F.ok sc_state_after (fun vs H Q E h => ?_) (fun cdv A outer s H vs Q E hr h => ?_)
  · obtain ⟨a, ns, rfl, _⟩ := h
    rfl
  · obtain ⟨a, ns, rfl, hS, hh, q⟩ := h
    have hu := hu_of hr
    refine ⟨_, (pss_cons (ps_set (i := 1) sc_state_after.nd rfl (Or.inl rfl) (pe_c T_running_after hr (by decide) (by rfl) (pa_cons (pv 0) pa_nil)))
        (pss_cons (ps_asg (pe_c T_replay hr (by decide) (by rfl) (pa_cons (pv 0) pa_nil)) (pg_tup rfl (pgs_cons (pg_name (i := 2) sc_state_after.nd rfl (Or.inl rfl)) (pgs_cons (pg_name (i := 3) sc_state_after.nd rfl (Or.inr rfl)) pgs_nil))))
        (pss_one (ps_ret (pe_tup (pa_cons (pe_ix ix_list (pv 2) (pe_un un_neg pe_int) (fun _ _ => rfl)) (pa_cons (pe_lc (own := [("patch", 4)]) (g := gName 4) (tt := tYes) rfl sc_state_after.nd (pi_list (pv 1)) (blkOk_by (own := [("patch", 4)]) (N := N_state_after) (sc := defScope s_state_after) (by decide +kernel)) (fun _ _ _ _ _ => (pg_name (i := 4) sc_state_after.nd rfl (Or.inl rfl))) (fun _ _ _ _ _ => pts_nil) (fun _ _ _ _ _ => (pe_tup (pa_cons (pv 4) (pa_cons (pe_dget hu (pv 3) (pv 4) (fun _ _ => rfl)) pa_nil))))) pa_nil))))))), ?_⟩
    refine ⟨_, rfl, a, ns, rfl, hS, hh, fun H1 r R s1 nr hr1 pm pw => ?_⟩
    refine ⟨_, rfl, a, ns, rfl, s1.seq hS, hh, fun H2 t p d s2 ht hp hd => ?_⟩
    refine ⟨t, _, rfl, .of ht, rfl, _, _, rfl, _, _, rfl, rfl, ?_⟩
    have sA := s1.trans s2
    have hr2 := s2 _ _ hr1
    have hlast : atI (presR ns ns.length) (-1) = some (.int (runR ns).1) := by
      have e := presR_last ns ns.length
      rw [List.take_length] at e
      exact e
    refine ⟨_, rfl, 1, rfl, p, _, -1, _, rfl, rfl, .of hp, hlast, ?_⟩
    have Rlen : R.length ≤ 200 := by
      have e := pm.length_eq
      have := hh.len
      have := hl_len ns
      have e2 := congrArg List.length (runL_hl ns)
      rw [List.length_map] at e2
      omega
    refine ⟨_, rfl, r, rfl, ⟨_, .of hr2⟩, fun D nD => lc_list (xs := R.map V.int) (fun i H' => Same H2 H' ∧ ∃ ps : List (Addr × Int × Int), H' D = some (.lst (ps.map fun z => V.ref z.1)) ∧ ps.map (·.2) = (R.take i).map (fun y => (y, (lk (runR ns).2 y).getD 0)) ∧ ∀ z ∈ ps, z.1 ≠ D ∧ H' z.1 = some (.tup [.int z.2.1, .int z.2.2])) ⟨same_new nD, [], upd_same, rfl, fun z hz => nomatch hz⟩ (fun i H' _ p => .of (p.1 _ _ hr2)) (fun i y H' hy p => ?_) (fun H' p => ?_)⟩
    · obtain ⟨n, rfl, hn⟩ := get_int hy
      obtain ⟨sm, ps, hD, eps, hps⟩ := p
      have hi := lt_get hn
      have hm : n ∈ runL ns := pm.mem_iff.mp (mem_get hn)
      have hk : n ∈ (runR ns).2.map (·.1) := by
        rw [keysR]
        exact (List.mem_filter.mp hm).1
      obtain ⟨v, ev, _⟩ := lk_some hk
      have g := DGet.k (k := Sum.inl n) (sm _ _ hd)
      rw [valV_ent, ev] at g
      have l1 := congrArg List.length eps
      rw [List.length_map, List.length_map, List.length_take] at l1
      refine ⟨rfl, ?_⟩
      refine ⟨_, rfl, _, rfl, _, rfl, d, .int v, rfl, g, by show 2 ≤ sizeLine; decide, fun Tt nT => ?_⟩
      have e4 := same_new (o := .tup [.int n, .int v]) nT
      have nD0 : Tt ≠ D := fun z => by
        rw [z, hD] at nT
        cases nT
      refine ⟨ps.map fun z => V.ref z.1, e4 _ _ hD, by rw [List.length_map]; exact zl (by omega), Lp.Same.mut (sm.trans e4) nD, ps ++ [(Tt, n, v)], ?_, ?_, ?_⟩
      · rw [upd_same, List.map_append]
        rfl
      · rw [List.map_append, eps, take_get hn, List.map_append]
        show _ = _ ++ [(n, (lk (runR ns).2 n).getD 0)]
        rw [ev]
        rfl
      · intro z hz
        rcases List.mem_append.mp hz with hz | hz
        · obtain ⟨q1, q2⟩ := hps z hz
          exact ⟨q1, by rw [upd_ne q1]; exact e4 _ _ q2⟩
        · rw [List.mem_singleton.mp hz]
          exact ⟨nD0, by rw [upd_ne nD0]; exact upd_same⟩
    · obtain ⟨sm, ps, hD, eps, hps⟩ := p
      rw [List.length_map, List.take_length] at eps
      refine ⟨by show 2 ≤ sizeLine; decide, fun t2 nt2 => ?_⟩
      have s6 := same_new (o := .tup [.int (runR ns).1, .ref D]) nt2
      have sB := sA.trans sm
      refine q _ t2 D ps (sB.trans s6) (sB.free nt2) (sA.free nD) ⟨upd_same, s6 _ _ hD, fun z hz => s6 _ _ (hps z hz).2⟩ ?_ ?_
      · rw [eps]
        have e2 : ((hl ns).map (·.1)).map (fun y => (y, (lk (runR ns).2 y).getD 0)) = hl ns := by
          rw [List.map_map]
          refine (List.map_congr_left fun z hz => ?_).trans (List.map_id _)
          show (z.1, (lk (runR ns).2 z.1).getD 0) = z
          rw [lk_mem (keysR_nd hh.nd) (List.mem_filter.mp hz).1]
          rfl
        have e3 := pm.map (fun y => (y, (lk (runR ns).2 y).getD 0))
        rw [← runL_hl, e2] at e3
        exact e3
      · rw [eps]
        exact List.pairwise_map.mpr pw
end
open L2.DX
section
variable {P : Program} {w : World} {K : PySem.W.Frag} {mg : Str → Option Value} {base : Heap}
def spSaving : Sp := fun vs H Q _ => ∃ (a : Addr) (k v : Int), vs = [.ref a] ∧ H a = some (.tup [.int k, .int v]) ∧ 1 ≤ k ∧ k ≤ 100 ∧ 0 ≤ v ∧ v ≤ 100 ∧ Q (.bl true) H
theorem ok_is_saving {f : Addr} {fd : FuncData} (F : Fun K "_is_saving" "_is_saving" s_is_saving f fd) (B : NoB mg) {t1 : Tok} (T_g_LAST_PATCH : mg "LAST_PATCH" = some (.int 100 t1)) (T_is_integer_within : Cal P w K mg base 2 "is_integer_within" spWithin) : FnOk P w K mg base CX0 3 f fd ["value"] spSaving := by
  refine F.ok sc_is_saving (fun vs H Q E h => ?_) (fun cdv A outer s H vs Q E hr h => ?_)
  · obtain ⟨a, k, v, rfl, _⟩ := h
    rfl
  · obtain ⟨a, k, v, rfl, ha, h1, h2, h3, h4, q⟩ := h
    have hS : SqT K H a [.int k, .int v] := .of ha
    refine ⟨_, (pss_cons (ps_if (PW.pt (pw_or (pt_cmpR op_neTy (pe_callTy call_type1 (by rfl) B.type (by decide +kernel) (pa_cons (pv 0) pa_nil)) (pe_bltn (v := .ty "tuple") (by rfl) B.tuple boot_tuple rfl) (nomark _)) (pw_or1 (pt_cmpR op_ne (pe_callB call_len_seq (by rfl) B.len PySem.boot_len (pa_cons (pv 0) pa_nil)) pe_int (nomark _))))) (pss_one (ps_ret pe_bl)) pss_nil)
        (pss_one (ps_ret (pe_and (pe_c T_is_integer_within hr (by decide) (by rfl) (pa_cons (pe_ix ix_tup (pv 0) pe_int (fun _ _ => rfl)) (pa_cons pe_int (pa_cons (pe_glob (v := .int 100) (by rfl) T_g_LAST_PATCH ⟨_, rfl⟩) pa_nil)))) (pe_one (pe_c T_is_integer_within hr (by decide) (by rfl) (pa_cons (pe_ix ix_tup (pv 0) pe_int (fun _ _ => rfl)) (pa_cons pe_int (pa_cons (pe_glob (v := .int 100) (by rfl) T_g_LAST_PATCH ⟨_, rfl⟩) pa_nil))))))))), ?_⟩
    refine ⟨_, rfl, _, _, rfl, .tup hS, _, rfl, rfl, PySem.TypeEq.meta_tuple, _, rfl, iteF ?_⟩
    refine ⟨_, rfl, a, _, rfl, .inr hS, rfl, false, nF rfl, iteF ?_⟩
    refine ⟨_, rfl, a, _, 0, _, rfl, rfl, hS, at0, k, 1, 100, rfl, h1, h2, true, rfl, iteT ?_⟩
    exact ⟨_, rfl, a, _, 1, _, rfl, rfl, hS, at1, v, 0, 100, rfl, h3, h4, q⟩
def spIsState : Sp := fun vs H Q _ => ∃ (t l : Addr) (p : Int) (ps : List (Addr × Int × Int)), vs = [.ref t] ∧ StO H t l p ps ∧ St p (ps.map (·.2)) ∧ ∀ H', Same H H' → Q (.bl true) H'
theorem St.len {p : Int} {S : List (Int × Int)} (h : St p S) : S.length ≤ 100 := by
  have nd : (S.map (·.1)).Nodup := h.asc.imp fun a => Int.ne_of_lt a
  have := nodup_len (m := upL 100) nd fun x hx => by
    obtain ⟨z, hz, rfl⟩ := List.mem_map.mp hx
    have := (h.rng z hz).1
    exact List.mem_map.mpr ⟨(z.1 - 1).toNat, List.mem_range.mpr (by omega), by omega⟩
  rw [List.length_map, upL_len] at this
  exact this
theorem ok_is_state {f : Addr} {fd : FuncData} (F : Fun K "is_state" "is_state" s_is_state f fd) (B : NoB mg) {t1 : Tok} (T_g_LAST_PATCH : mg "LAST_PATCH" = some (.int 100 t1)) (T_is_integer_within : Cal P w K mg base 2 "is_integer_within" spWithin) (T_is_saving : Cal P w K mg base 3 "_is_saving" spSaving) : FnOk P w K mg base CX0 4 f fd ["value"] spIsState := by
  refine F.ok sc_is_state (fun vs H Q E h => ?_) (fun cdv A outer s H vs Q E hr h => ?_)
  · obtain ⟨t, l, p, ps, rfl, _⟩ := h
    rfl
  · obtain ⟨t, l, p, ps, rfl, so, st, q⟩ := h
    have hu64 := hr.units
    have hu := hu_of hr
    have hS : SqT K H t [.int p, .ref l] := .of so.ht
    have hl : SqL K H l (ps.map fun z => V.ref z.1) := .of so.sv.h
    have sl := st.len
    rw [List.length_map] at sl
    refine ⟨_, (pss_cons (ps_if (PW.pt (pw_or (pt_cmpR op_neTy (pe_callTy call_type1 (by rfl) B.type (by decide +kernel) (pa_cons (pv 0) pa_nil)) (pe_bltn (v := .ty "tuple") (by rfl) B.tuple boot_tuple rfl) (nomark _)) (pw_or1 (pt_cmpR op_ne (pe_callB call_len_seq (by rfl) B.len PySem.boot_len (pa_cons (pv 0) pa_nil)) pe_int (nomark _))))) (pss_one (ps_ret pe_bl)) pss_nil)
        (pss_cons (ps_asg (pv 0) (pg_tup rfl (pgs_cons (pg_name (i := 1) sc_is_state.nd rfl (Or.inl rfl)) (pgs_cons (pg_name (i := 2) sc_is_state.nd rfl (Or.inl rfl)) pgs_nil))))
        (pss_cons (ps_if (PW.pt (pw_or (pt_not (pt_val (pe_c T_is_integer_within hr (by decide) (by rfl) (pa_cons (pv 1) (pa_cons pe_int (pa_cons (pe_glob (v := .int 100) (by rfl) T_g_LAST_PATCH ⟨_, rfl⟩) pa_nil)))))) (pw_or1 (pt_cmpR op_neTy (pe_callTy call_type1 (by rfl) B.type (by decide +kernel) (pa_cons (pv 2) pa_nil)) (pe_bltn (v := .ty "list") (by rfl) B.list boot_list rfl) (nomark _))))) (pss_one (ps_ret pe_bl)) pss_nil)
        (pss_cons (ps_if (pt_not (pt_val (pe_callB (cr_all rfl) (by rfl) B.all (by decide +kernel) (pa_cons (pe_lc (own := [("item", 5)]) (g := gName 5) (tt := tYes) rfl sc_is_state.nd (pi_list (pv 2)) (blkOk_by (own := [("item", 5)]) (N := N_is_state) (sc := defScope s_is_state) (by decide +kernel)) (fun _ _ _ _ _ => (pg_name (i := 5) sc_is_state.nd rfl (Or.inl rfl))) (fun _ _ _ _ _ => pts_nil) (fun _ _ _ _ _ => (pe_c T_is_saving hr (by decide) (by rfl) (pa_cons (pv 5) pa_nil)))) pa_nil)))) (pss_one (ps_ret pe_bl)) pss_nil)
        (pss_cons (ps_setLc (i := 3) (own := [("patch", 6), ("_", 7)]) (g := _) (tt := tYes) rfl sc_is_state.nd rfl rfl (sw_true rfl rfl rfl (by decide +kernel)) (pi_list (pv 2)) (blkOk_by (own := [("patch", 6), ("_", 7)]) (N := N_is_state) (sc := defScope s_is_state) (by decide +kernel)) (fun _ _ _ _ _ => (k_tup (K := K) (n := 2) rfl rfl (pgs_cons (pg_name (i := 6) sc_is_state.nd rfl (Or.inl rfl)) (pgs_cons (pg_name (i := 7) sc_is_state.nd rfl (Or.inl rfl)) pgs_nil)))) (fun _ _ _ _ _ => pts_nil) (fun _ _ _ _ _ => (pv 6)))
        (pss_cons (ps_set (i := 4) sc_is_state.nd rfl (Or.inl rfl) (pe_op op_cat (pe_lst (pa_cons (pv 1) pa_nil)) (pe_lc (own := [("_", 7), ("number", 8)]) (g := _) (tt := tYes) rfl sc_is_state.nd (pi_list (pv 2)) (blkOk_by (own := [("_", 7), ("number", 8)]) (N := N_is_state) (sc := defScope s_is_state) (by decide +kernel)) (fun _ _ _ _ _ => (k_tup (K := K) (n := 2) rfl rfl (pgs_cons (pg_name (i := 7) sc_is_state.nd rfl (Or.inl rfl)) (pgs_cons (pg_name (i := 8) sc_is_state.nd rfl (Or.inl rfl)) pgs_nil)))) (fun _ _ _ _ _ => pts_nil) (fun _ _ _ _ _ => (pv 8)))))
        (pss_one (ps_ret (pe_and (pe_cmpR (op_eqD hu64) (pv 3) (pe_callB (cr_sortedSetG rfl) (by rfl) B.sorted (by decide +kernel) (pa_cons (pe_callTy (cr_setLG rfl) (by rfl) B.set (by decide +kernel) (pa_cons (pv 3) pa_nil)) pa_nil)) (nomark _)) (pe_one (pe_cmpR op_eq (RZ.pe_lenSetI (by rfl) B.len (by rfl) B.set (pv 4)) (pe_callB call_len_seq (by rfl) B.len PySem.boot_len (pa_cons (pv 4) pa_nil)) (nomark _)))))))))))), ?_⟩
    refine ⟨_, rfl, _, _, rfl, .tup hS, _, rfl, rfl, PySem.TypeEq.meta_tuple, _, rfl, iteF ?_⟩
    refine ⟨_, rfl, t, _, rfl, .inr hS, rfl, false, nF rfl, iteF ?_⟩
    refine ⟨_, rfl, t, _, rfl, hS, rfl, _, _, rfl, _, _, rfl, rfl, ?_⟩
    refine ⟨_, rfl, p, 0, 100, rfl, st.p0.1, st.p0.2, _, rfl, ?_⟩
    refine ⟨_, rfl, _, _, rfl, .lst hl, _, rfl, rfl, PySem.TypeEq.meta_list, false, rfl, iteF ?_⟩
    have gz : ∀ {i : Nat} {x : V}, (ps.map fun z => V.ref z.1)[i]? = some x → ∃ z ∈ ps, x = .ref z.1 ∧ ps[i]? = some z := fun {i x} hx => by
      rw [List.getElem?_map] at hx
      cases e : ps[i]? with
      | none => rw [e] at hx; cases hx
      | some z => rw [e] at hx; cases hx; exact ⟨z, mem_get e, rfl, rfl⟩
    refine ⟨_, rfl, l, rfl, ⟨_, hl⟩, fun D nD => lc_list (xs := ps.map fun z : Addr × Int × Int => V.ref z.1) (LcP H D fun i => (List.replicate i true).map V.bl) (.init nD rfl) (fun i H' _ p => p.2.1.seq hl) (fun i x H' hx p => ?_) (fun H1 p1 => ?_)⟩
    · obtain ⟨z, hz, rfl, hi⟩ := gz hx
      obtain ⟨⟨b1, b2⟩, b3, b4⟩ := st.rng _ (List.mem_map.mpr ⟨z, hz, rfl⟩)
      have li := lt_get hi
      refine ⟨rfl, ?_⟩
      refine ⟨_, rfl, z.1, z.2.1, z.2.2, rfl, p.2.1 _ _ (so.sv.q z hz), b1, b2, b3, b4, ?_⟩
      refine p.put (Same.refl _) ?_ (by rw [List.length_map, List.length_replicate]; omega)
      rw [List.replicate_succ', List.map_append]
      rfl
    refine ⟨D, _, rfl, .of p1.2.2, ?_⟩
    have e : (List.replicate (ps.map fun z => V.ref z.1).length true).all id = true := by
      rw [List.all_eq_true]
      intro b hb
      exact (List.eq_of_mem_replicate hb)
    rw [e]
    refine ⟨_, rfl, iteF ?_⟩
    have so1 := so.same p1.2.1
    refine ⟨_, rfl, l, rfl, ⟨_, .of so1.sv.h⟩, fun D2 nD2 => lc_list (xs := ps.map fun z : Addr × Int × Int => V.ref z.1) (LcP H1 D2 fun i => ((ps.take i).map fun z => z.2.1).map V.int) (.init nD2 rfl) (fun i H' _ p => .of (p.2.1 _ _ so1.sv.h)) (fun i x H' hx p => ?_) (fun H2 p2 => ?_)⟩
    · obtain ⟨z, hz, rfl, hi⟩ := gz hx
      have li := lt_get hi
      refine ⟨z.1, _, rfl, .of (p.2.1 _ _ (so1.sv.q z hz)), rfl, _, _, rfl, _, _, rfl, rfl, rfl, ?_⟩
      refine ⟨_, rfl, p.put (Same.refl _) ?_ (by rw [List.length_map, List.length_map, List.length_take]; omega)⟩
      rw [take_get hi, List.map_append, List.map_append]
      rfl
    have so2 := so1.same p2.2.1
    have h2 : H2 D2 = some (.lst ((ps.map fun z => z.2.1).map V.int)) := by
      have h := p2.2.2
      rw [List.length_map] at h
      rw [h]
      show some (HO.lst (((ps.take ps.length).map fun z => z.2.1).map V.int)) = _
      rw [List.take_length]
    refine ⟨_, rfl, by show 1 ≤ sizeLine; decide, fun a1 na1 => ?_⟩
    have s3 := same_new (o := .lst [.int p]) na1
    have so3 := so2.same s3
    refine ⟨_, rfl, l, rfl, ⟨_, .of so3.sv.h⟩, fun D3 nD3 => lc_list (xs := ps.map fun z : Addr × Int × Int => V.ref z.1) (LcP (upd H2 a1 (.lst [.int p])) D3 fun i => ((ps.take i).map fun z => z.2.2).map V.int) (.init nD3 rfl) (fun i H' _ p => .of (p.2.1 _ _ so3.sv.h)) (fun i x H' hx p => ?_) (fun H4 p4 => ?_)⟩
    · obtain ⟨z, hz, rfl, hi⟩ := gz hx
      have li := lt_get hi
      refine ⟨z.1, _, rfl, .of (p.2.1 _ _ (so3.sv.q z hz)), rfl, _, _, rfl, _, _, rfl, rfl, rfl, ?_⟩
      refine ⟨_, rfl, p.put (Same.refl _) ?_ (by rw [List.length_map, List.length_map, List.length_take]; omega)⟩
      rw [take_get hi, List.map_append, List.map_append]
      rfl
    have h4 : H4 D3 = some (.lst ((ps.map fun z => z.2.2).map V.int)) := by
      have h := p4.2.2
      rw [List.length_map] at h
      rw [h]
      show some (HO.lst (((ps.take ps.length).map fun z => z.2.2).map V.int)) = _
      rw [List.take_length]
    refine ⟨a1, D3, _, _, rfl, rfl, p4.2.1 _ _ upd_same, h4, by rw [List.length_map, List.length_map]; show 1 + ps.length ≤ _; exact zs (by omega), fun vl nvl => ?_⟩
    have s5 := same_new (o := .lst ([V.int p] ++ (ps.map fun z => z.2.2).map V.int)) nvl
    have hD5 := s5 _ _ (p4.2.1 _ _ (s3 _ _ h2))
    have s05 := (((p1.2.1.trans p2.2.1).trans s3).trans p4.2.1).trans s5
    have hv5 : (upd H4 vl (.lst ([V.int p] ++ (ps.map fun z => z.2.2).map V.int))) vl = some (.lst ((p :: ps.map fun z => z.2.2).map V.int)) := upd_same
    generalize upd H4 vl (.lst ([V.int p] ++ (ps.map fun z => z.2.2).map V.int)) = H5 at s05 hD5 hv5 ⊢
    refine ⟨_, rfl, _, rfl, D2, ps.map fun z => z.2.1, rfl, .of hD5, by rw [List.length_map]; omega, fun sp c nsp hc => ⟨sp, _, c, rfl, upd_same, by rw [List.length_map] at hc; omega, fun ms mp pw nd mem nmp => ?_⟩⟩
    have s6 := (same_new (o := SetO w sp (fun j => decide (j ∈ ps.map fun z : Addr × Int × Int => z.2.1)) c) nsp).trans (same_new (o := .lst (ms.map V.int)) nmp)
    have ea : (ps.map (·.2)).map (·.1) = ps.map fun z => z.2.1 := by rw [List.map_map]; rfl
    have eb : (ps.map (·.2)).map (·.2) = ps.map fun z => z.2.2 := by rw [List.map_map]; rfl
    have asc := st.asc
    rw [ea] at asc
    have ems : (ps.map fun z => z.2.1) = ms := by
      refine sorted_uniq ((List.perm_ext_iff_of_nodup (asc.imp fun a => Int.ne_of_lt a) nd).mpr fun x => ?_) (asc.imp fun a => Int.le_of_lt a) pw
      rw [mem x, decide_eq_true_eq]
    refine ⟨dI _, dI ms, dp_ints (.of (s6 _ _ hD5)), dp_ints (.of upd_same), shaped_ints _, shaped_ints _, true, eqvT ems, iteT ?_⟩
    have ndv := st.ndv
    rw [eb] at ndv
    refine ⟨_, rfl, vl, p :: ps.map fun z => z.2.2, rfl, .of (s6 _ _ hv5), ndv, by rw [List.length_cons, List.length_map]; omega, _, rfl, vl, _, rfl, .inl (.of (s6 _ _ hv5)), rfl, ?_⟩
    rw [List.length_map, dT rfl]
    exact q _ (s05.trans s6)
end
end L69
set_option Elab.async false
set_option linter.all false
set_option maxRecDepth 100000
namespace L69
open PySem PySem.Spec PyProof.Rows L2 Lp
/-! ### references below 0 are those of the stopped patches -/
theorem gn_mono {t : List Int} {e k : Int} (h0 : e ≠ 0) (hn : 0 < e → -e ∉ t) (h : k ∈ gn t) : k ∈ gn (t ++ [e]) := by
  by_cases hp : 0 < e
  · rw [(gn_start hp (hn hp)).1]
    exact h
  · rw [(gn_stop (t := t) (show e < 0 by omega)).1]
    exact List.mem_append_left _ h
theorem refs_neg {ns : List Int} (hp : Piece ns) : ∀ i, i ≤ ns.length → ((runR (ns.take i)).1 < 0 → -(runR (ns.take i)).1 ∈ gn (ns.take i)) ∧ ∀ z ∈ (runR (ns.take i)).2, z.2 < 0 → -z.2 ∈ gn (ns.take i)
  | 0, _ => ⟨fun h => absurd h (by rw [List.take_zero]; decide), fun z hz => by rw [List.take_zero] at hz; exact nomatch hz⟩
  | i + 1, h => by
    have he : ns[i]? = some (ns[i]'(by omega)) := List.getElem?_eq_getElem (by omega)
    obtain ⟨i1, i2⟩ := refs_neg hp i (by omega)
    have hnt := not_mem_take hp.nd he
    have ho := hp.ord _ _ he
    have h0 := (hp.rng _ (mem_get he)).1
    rw [take_get he]
    generalize ns[i]'(by omega) = e at *
    generalize ns.take i = t at *
    by_cases hpos : 0 < e
    · have eS : runR (t ++ [e]) = (e, (runR t).2 ++ [(e, (runR t).1)]) := by rw [runR_snoc]; exact if_pos hpos
      rw [eS]
      refine ⟨fun c => absurd c (by show ¬ e < 0; omega), fun z hz hl => ?_⟩
      rcases List.mem_append.mp hz with hz | hz
      · exact gn_mono h0 ho (i2 z hz hl)
      · rw [List.mem_singleton.mp hz] at hl ⊢
        exact gn_mono h0 ho (i1 hl)
    · have eS : runR (t ++ [e]) = ((lk (runR t).2 (-e)).getD e, (runR t).2) := by rw [runR_snoc]; exact if_neg hpos
      rw [eS]
      refine ⟨fun c => ?_, fun z hz hl => gn_mono h0 ho (i2 z hz hl)⟩
      by_cases hk : -e ∈ t
      · obtain ⟨v, hv, hm⟩ := lk_some (l := (runR t).2) (k := -e) (keysR_mem.mpr ⟨hk, by omega⟩)
        have c' : (lk (runR t).2 (-e)).getD e < 0 := c
        show -((lk (runR t).2 (-e)).getD e) ∈ _
        rw [hv] at c' ⊢
        exact gn_mono h0 ho (i2 _ hm c')
      · show -((lk (runR t).2 (-e)).getD e) ∈ _
        rw [lk_none fun z => hk (keysR_mem.mp z).1, (gn_stop (t := t) (show e < 0 by omega)).1, if_neg hk]
        exact List.mem_append_right _ (List.mem_singleton.mpr rfl)
theorem refs_neg1 {ns : List Int} (hp : Piece ns) (h : (runR ns).1 < 0) : -(runR ns).1 ∈ gn ns := by
  have z := (refs_neg hp ns.length (Nat.le_refl _)).1
  rw [List.take_length] at z
  exact z h
theorem refs_neg2 {ns : List Int} (hp : Piece ns) {z : Int × Int} (hz : z ∈ hl ns) (h : z.2 < 0) : -z.2 ∈ gn ns := by
  have w := (refs_neg hp ns.length (Nat.le_refl _)).2
  rw [List.take_length] at w
  exact w z (List.mem_filter.mp hz).1 h
/-- the values that references have -/
def vsL (p : Int) (S : List (Int × Int)) (G : List Int) : List (Int × Int) := (0, p) :: G.map fun k => (-k, (lk S k).getD 0)
theorem lk_vs {p : Int} {S : List (Int × Int)} {G : List Int} (hG : ∀ k ∈ G, 0 < k ∧ k ∈ S.map (·.1)) (hk : ∀ z ∈ S, 0 < z.1) {r : Int} (hr : r < 0 → -r ∈ G) : (lk (vsL p S G) r).getD r = mean p S r := by
  unfold vsL mean
  rw [lk_cons]
  by_cases h0 : r = 0
  · rw [if_pos (show (0, p).1 = r from h0.symm), if_pos h0]
    rfl
  · rw [if_neg (show ¬ (0, p).1 = r from fun z => h0 z.symm), if_neg h0]
    have aux : ∀ l : List Int, lk (l.map fun k => (-k, (lk S k).getD 0)) r = if -r ∈ l then some ((lk S (-r)).getD 0) else none := by
      intro l
      induction l with
      | nil => rfl
      | cons k l ih =>
        rw [List.map_cons, lk_cons, ih]
        by_cases e : -k = r
        · have e' : -r = k := by omega
          rw [if_pos (show (-k, (lk S k).getD 0).1 = r from e), e', if_pos List.mem_cons_self]
        · rw [if_neg (show ¬ (-k, (lk S k).getD 0).1 = r from e)]
          have e' : ¬ -r = k := by omega
          by_cases m : -r ∈ l
          · rw [if_pos m, if_pos (List.mem_cons_of_mem _ m)]
          · rw [if_neg m, if_neg (fun c => (List.mem_cons.mp c).elim e' m)]
    rw [aux]
    by_cases hn : r < 0
    · have hm := hr hn
      rw [if_pos hm]
      obtain ⟨v, hv, _⟩ := lk_some (hG _ hm).2
      rw [hv]
      rfl
    · rw [if_neg (fun c => absurd (hG _ c).1 (by omega)), lk_none]
      intro c
      obtain ⟨z, hz, e⟩ := List.mem_map.mp c
      have := hk z hz
      omega
theorem merge_ent : ∀ (l m : List (Int × Int)), ((m ++ l).map (·.1)).Nodup → mergeK (m.map entI) (l.map entI) = (m ++ l).map entI
  | [], m, _ => by
    rw [List.append_nil]
    rfl
  | z :: l, m, nd => by
    have e : m ++ z :: l = (m ++ [z]) ++ l := by simp
    have hz : z.1 ∉ m.map (·.1) := fun c => by
      rw [List.map_append, List.map_cons] at nd
      exact (List.nodup_append.mp nd).2.2 _ c _ List.mem_cons_self rfl
    show mergeK (putK (m.map entI) (Sum.inl z.1) (.int z.2)) (l.map entI) = _
    rw [put_ent _ hz, e]
    exact merge_ent l (m ++ [(z.1, z.2)]) (by rw [← e]; exact nd)
theorem merge_ent0 {l : List (Int × Int)} (nd : (l.map (·.1)).Nodup) : mergeK [] (l.map entI) = l.map entI := merge_ent l [] nd
theorem St.nd {p : Int} {S : List (Int × Int)} (h : St p S) : (S.map (·.1)).Nodup := h.asc.imp fun a => Int.ne_of_lt a
theorem St.pos {p : Int} {S : List (Int × Int)} (h : St p S) : ∀ z ∈ S, 0 < z.1 := fun z hz => by
  have := (h.rng z hz).1.1
  omega
theorem behL_keys {p : Int} {S : List (Int × Int)} {ns : List Int} (hs : (S.map (·.1)).Nodup) (hp : Piece ns) (fn : ∀ k ∈ ns, 0 < k → k ∉ S.map (·.1)) : ((behL p S ns).2.map (·.1)).Nodup := by
  show (((S.filter fun z => decide (z.1 ∉ gn ns)) ++ (hl ns).map fun z => (z.1, mean p S z.2)).map (·.1)).Nodup
  rw [List.map_append, List.map_map]
  have e : (hl ns).map ((·.1) ∘ fun z => (z.1, mean p S z.2)) = (hl ns).map (·.1) := rfl
  rw [e]
  refine List.nodup_append.mpr ⟨hs.sublist (List.filter_sublist.map _), (keysR_nd hp.nd).sublist (List.filter_sublist.map _), fun a ha b hb q => ?_⟩
  subst q
  obtain ⟨z, hz, rfl⟩ := List.mem_map.mp ha
  obtain ⟨y, hy, e⟩ := List.mem_map.mp hb
  have hy' := hl_mem hy
  rw [e] at hy'
  exact fn _ hy'.1 hy'.2.1 (List.mem_map.mpr ⟨z, (List.mem_filter.mp hz).1, rfl⟩)
theorem lE0 (a1 : Addr) (p : Int) (a3 a4 a5 : Addr) : (fE a1 p a3 a4 a5).lookup ("_piece" : Str) = some (.ref a1) := by rfl
theorem lE1 (a1 : Addr) (p : Int) (a3 a4 a5 : Addr) : (fE a1 p a3 a4 a5).lookup ("_present" : Str) = some (.int p) := by rfl
theorem lE2 (a1 : Addr) (p : Int) (a3 a4 a5 : Addr) : (fE a1 p a3 a4 a5).lookup ("_saved" : Str) = some (.ref a3) := by rfl
theorem lE3 (a1 : Addr) (p : Int) (a3 a4 a5 : Addr) : (fE a1 p a3 a4 a5).lookup ("_stopped" : Str) = some (.ref a4) := by rfl
theorem lE4 (a1 : Addr) (p : Int) (a3 a4 a5 : Addr) : (fE a1 p a3 a4 a5).lookup ("_ended" : Str) = some (.ref a5) := by rfl
section
variable {P : Program} {w : World} {K : PySem.W.Frag} {mg : Str → Option Value} {base : Heap} {CE : Addr}
def spSaved (CE : Addr) : Sp := fun vs H Q _ => ∃ (x dx a1 a3 a4 a5 : Addr) (p : Int) (xs : List V), vs = [.ref x] ∧ H x = some (.ins CE dx (fE a1 p a3 a4 a5)) ∧ H a3 = some (.lst xs) ∧ ∀ l, H l = none → Q (.ref l) (upd H l (.lst xs))
theorem ok_Effect_saved {f : Addr} {fd : FuncData} (F : Fun K "saved" "Effect.saved" s_Effect_saved f fd) (B : NoB mg) (T : Txt K CE) : FnOk P w K mg base CX0 1 f fd ["self"] (spSaved CE) := by
  refine F.ok sc_Effect_saved (fun vs H Q E h => ?_) (fun cdv A outer s H vs Q E hr h => ?_)
  · obtain ⟨x, dx, a1, a3, a4, a5, p, xs, rfl, _⟩ := h
    rfl
  · obtain ⟨x, dx, a1, a3, a4, a5, p, xs, rfl, hx, ha, q⟩ := h
    refine ⟨_, (pss_one (ps_ret (pe_callTy call_list_of (by rfl) B.list (by decide +kernel) (pa_cons (pe_fld (pv 0) rfl) pa_nil)))), ?_⟩
    exact ⟨_, rfl, x, CE, dx, _, _, rfl, hx, T.cE, T.n2, lE2 .., a3, xs, rfl, .inl (.of ha), q⟩
def spStopped (CE : Addr) : Sp := fun vs H Q _ => ∃ (x dx a1 a3 a4 a5 : Addr) (p : Int) (xs : List V), vs = [.ref x] ∧ H x = some (.ins CE dx (fE a1 p a3 a4 a5)) ∧ H a4 = some (.lst xs) ∧ ∀ l, H l = none → Q (.ref l) (upd H l (.lst xs))
theorem ok_Effect_stopped {f : Addr} {fd : FuncData} (F : Fun K "stopped" "Effect.stopped" s_Effect_stopped f fd) (B : NoB mg) (T : Txt K CE) : FnOk P w K mg base CX0 1 f fd ["self"] (spStopped CE) := by
  refine F.ok sc_Effect_stopped (fun vs H Q E h => ?_) (fun cdv A outer s H vs Q E hr h => ?_)
  · obtain ⟨x, dx, a1, a3, a4, a5, p, xs, rfl, _⟩ := h
    rfl
  · obtain ⟨x, dx, a1, a3, a4, a5, p, xs, rfl, hx, ha, q⟩ := h
    refine ⟨_, (pss_one (ps_ret (pe_callTy call_list_of (by rfl) B.list (by decide +kernel) (pa_cons (pe_fld (pv 0) rfl) pa_nil)))), ?_⟩
    exact ⟨_, rfl, x, CE, dx, _, _, rfl, hx, T.cE, T.n3, lE3 .., a4, xs, rfl, .inl (.of ha), q⟩
end
section
variable {P : Program} {w : World} {K : PySem.W.Frag} {mg : Str → Option Value} {base : Heap} {CE : Addr}
def spLenE (CE : Addr) : Sp := fun vs H Q _ => ∃ (x dx a1 a3 a4 a5 : Addr) (p : Int) (xs : List V), vs = [.ref x] ∧ H x = some (.ins CE dx (fE a1 p a3 a4 a5)) ∧ H a1 = some (.lst xs) ∧ Q (.int ((xs.length : Nat) : Int)) H
theorem ok_Effect_len {f : Addr} {fd : FuncData} (F : Fun K "__len__" "Effect.__len__" s_Effect_len f fd) (B : NoB mg) (T : Txt K CE) : FnOk P w K mg base CX0 1 f fd ["self"] (spLenE CE) := by
  refine F.ok sc_Effect_len (fun vs H Q E h => ?_) (fun cdv A outer s H vs Q E hr h => ?_)
  · obtain ⟨x, dx, a1, a3, a4, a5, p, xs, rfl, _⟩ := h
    rfl
  · obtain ⟨x, dx, a1, a3, a4, a5, p, xs, rfl, hx, ha, q⟩ := h
    refine ⟨_, (pss_one (ps_ret (pe_callB call_len_seq (by rfl) B.len PySem.boot_len (pa_cons (pe_fld (pv 0) rfl) pa_nil)))), ?_⟩
    exact ⟨_, rfl, x, CE, dx, _, _, rfl, hx, T.cE, T.n0, lE0 .., a1, xs, rfl, .inl (.of ha), q⟩
end
open L2.DX
section
variable {P : Program} {w : World} {K : PySem.W.Frag} {mg : Str → Option Value} {base : Heap} {CE : Addr}
def spFits (CE : Addr) : Sp := fun vs H Q _ => ∃ (x dx a1 a3 a4 a5 d : Addr) (pr p : Int) (ns G : List Int) (S : List (Int × Int)), vs = [.ref x, .int p, .ref d] ∧ H x = some (.ins CE dx (fE a1 pr a3 a4 a5)) ∧ H a1 = some (.lst (ns.map V.int)) ∧ H a4 = some (.lst (G.map V.int)) ∧ H d = some (.dK (S.map entI)) ∧
  Fits p S ns ∧ (∀ k ∈ G, k ∈ gn ns) ∧ S.length ≤ 100 ∧ ns.length ≤ 200 ∧ G.length ≤ 200 ∧ ∀ H', Same H H' → Q (.bl true) H'
theorem ok_Effect_fits {f : Addr} {fd : FuncData} (F : Fun K "_fits" "Effect._fits" s_Effect_fits f fd) (B : NoB mg) (T_z_any : mg "any" = none) (T : Txt K CE) (T_starts_of : Cal P w K mg base 1 "starts_of" (spStarts K)) : FnOk P w K mg base CX0 2 f fd ["self", "present", "saved"] (spFits CE) := by
  refine F.ok sc_Effect_fits (fun vs H Q E h => ?_) (fun cdv A outer s H vs Q E hr h => ?_)
  · obtain ⟨x, dx, a1, a3, a4, a5, d, pr, p, ns, G, S, rfl, _⟩ := h
    rfl
  · obtain ⟨x, dx, a1, a3, a4, a5, d, pr, p, ns, G, S, rfl, hx, h1, h4, hd, ft, hG, sS, sN, sG, q⟩ := h
    have hu := hu_of hr
    refine ⟨_, (pss_cons (ps_set (i := 3) sc_Effect_fits.nd rfl (Or.inr rfl) (pe_op op_cat (pe_op op_cat (pe_lst (pa_cons (pv 1) pa_nil)) (pe_callTy (call_list_dK rfl) (by rfl) B.list (by decide +kernel) (pa_cons (pv 2) pa_nil))) (pe_callTy (call_listVals rfl) (by rfl) B.list (by decide +kernel) (pa_cons (pe_bm0 PySem.F.plainAttrs_dict PySem.F.slot_dict_values PySem.F.type_dict_values mt_valuesI (pv 2)) pa_nil))))
        (pss_cons (ps_if (pt_val (pe_callB (cr_any rfl) (by rfl) T_z_any (by decide +kernel) (pa_cons (pe_lc (own := [("patch", 4)]) (g := gName 4) (tt := tYes) rfl sc_Effect_fits.nd (pi_list (pe_c T_starts_of hr (by decide) (by rfl) (pa_cons (pe_fld (pv 0) rfl) pa_nil))) (blkOk_by (own := [("patch", 4)]) (N := N_Effect_fits) (sc := defScope s_Effect_fits) (by decide +kernel)) (fun _ _ _ _ _ => (pg_name (i := 4) sc_Effect_fits.nd rfl (Or.inl rfl))) (fun _ _ _ _ _ => pts_nil) (fun _ _ _ _ _ => (pe_cmpR (k_in (K := K) rfl) (pv 4) (pv 3) (by rfl)))) pa_nil))) (pss_one (ps_ret pe_bl)) pss_nil)
        (pss_one (ps_ret (pe_callB (cr_all rfl) (by rfl) B.all (by decide +kernel) (pa_cons (pe_lc (own := [("patch", 4)]) (g := gName 4) (tt := tYes) rfl sc_Effect_fits.nd (pi_list (pe_fld (pv 0) rfl)) (blkOk_by (own := [("patch", 4)]) (N := N_Effect_fits) (sc := defScope s_Effect_fits) (by decide +kernel)) (fun _ _ _ _ _ => (pg_name (i := 4) sc_Effect_fits.nd rfl (Or.inl rfl))) (fun _ _ _ _ _ => pts_nil) (fun _ _ _ _ _ => (pe_cmp (pc_din hu (pv 4) (pv 2)) rfl))) pa_nil)))))), ?_⟩
    refine ⟨_, rfl, by show 1 ≤ sizeLine; decide, fun b1 nb1 => ?_⟩
    have s1 := same_new (o := .lst [.int p]) nb1
    refine ⟨_, rfl, d, S.map entI, rfl, s1 _ _ hd, fun b2 nb2 => ?_⟩
    have s2 := same_new (o := .lst ((S.map entI).map fun kv => kV kv.1)) nb2
    refine ⟨b1, b2, _, _, rfl, rfl, s2 _ _ upd_same, upd_same, by rw [List.length_map, List.length_map]; show 1 + S.length ≤ _; exact zs (by omega), fun b3 nb3 => ?_⟩
    have s3 := same_new (o := .lst ([.int p] ++ (S.map entI).map fun kv => kV kv.1)) nb3
    have s03 := (s1.trans s2).trans s3
    have h3 : (upd (upd (upd H b1 (.lst [.int p])) b2 (.lst ((S.map entI).map fun kv => kV kv.1))) b3 (.lst ([.int p] ++ (S.map entI).map fun kv => kV kv.1))) b3 = some (.lst ([.int p] ++ (S.map entI).map fun kv => kV kv.1)) := upd_same
    generalize upd (upd (upd H b1 (.lst [.int p])) b2 (.lst ((S.map entI).map fun kv => kV kv.1))) b3 (.lst ([.int p] ++ (S.map entI).map fun kv => kV kv.1)) = H3 at s03 h3 ⊢
    have hd3 := s03 _ _ hd
    refine ⟨_, rfl, .inr (.inr (.inl ⟨rfl, .inl ⟨_, hd3⟩⟩)), d, _, rfl, rfl, hd3, fun v nv => ?_⟩
    have s4 := same_new (o := valsO v d) nv
    refine ⟨v, d, S.map entI, rfl, upd_same, s4 _ _ hd3, fun b5 nb5 => ?_⟩
    have s5 := same_new (o := .lst ((S.map entI).map (·.2))) nb5
    refine ⟨b3, b5, _, _, rfl, rfl, s5 _ _ (s4 _ _ h3), upd_same, ?_, fun tk ntk => ?_⟩
    · rw [List.length_append, List.length_map, List.length_map, List.length_map, List.length_map]
      show 1 + S.length + S.length ≤ _
      exact zs (by omega)
    have s6 := same_new (o := .lst (([.int p] ++ (S.map entI).map fun kv => kV kv.1) ++ (S.map entI).map (·.2))) ntk
    have s06 := ((s03.trans s4).trans s5).trans s6
    have etk : ([V.int p] ++ (S.map entI).map fun kv => kV kv.1) ++ (S.map entI).map (·.2) = (p :: S.map (·.1) ++ S.map (·.2)).map V.int := by
      rw [List.map_map, List.map_map, List.map_append, List.map_cons, List.map_map, List.map_map]
      rfl
    have htk : (upd (upd (upd H3 v (valsO v d)) b5 (.lst ((S.map entI).map (·.2)))) tk (.lst (([.int p] ++ (S.map entI).map fun kv => kV kv.1) ++ (S.map entI).map (·.2)))) tk = some (.lst ((p :: S.map (·.1) ++ S.map (·.2)).map V.int)) := by rw [upd_same, etk]
    generalize upd (upd (upd H3 v (valsO v d)) b5 (.lst ((S.map entI).map (·.2)))) tk (.lst (([.int p] ++ (S.map entI).map fun kv => kV kv.1) ++ (S.map entI).map (·.2))) = H6 at s06 htk ⊢
    refine ⟨_, rfl, x, CE, dx, _, _, rfl, s06 _ _ hx, T.cE, T.n0, lE0 .., a1, ns, rfl, .of (s06 _ _ h1), by omega, fun H7 pp s7 hpp npp => ⟨pp, rfl, ⟨_, .of hpp⟩, fun D nD => ?_⟩⟩
    have htk7 := s7 _ _ htk
    have sl := stL_len ns
    refine lc_list (xs := (stL ns).map V.int) (LcP H7 D fun i => (List.replicate i false).map V.bl) (.init nD rfl) (fun i H' _ p => .of (p.2.1 _ _ hpp)) (fun i y H' hy p => ?_) (fun H8 p8 => ?_)
    · obtain ⟨k, rfl, hk⟩ := get_int hy
      have li := lt_get hk
      obtain ⟨m1, m2⟩ := List.mem_filter.mp (mem_get hk)
      have k0 := of_decide_eq_true m2
      have nin : k ∉ _ :: S.map (·.1) ++ S.map (·.2) := fun c => (List.mem_append.mp c).elim (fun c => (List.mem_cons.mp c).elim (fun c => ft.fv k m1 k0 (List.mem_cons.mpr (.inl c))) (ft.fn k m1 k0)) fun c => ft.fv k m1 k0 (List.mem_cons_of_mem _ c)
      refine ⟨rfl, ?_⟩
      refine ⟨_, rfl, _, rfl, tk, _, rfl, .inl (.of (p.2.1 _ _ htk7)), rfl, flatI _, ?_⟩
      rw [inF nin]
      refine p.put (Same.refl _) ?_ (by rw [List.length_map, List.length_replicate]; omega)
      rw [List.replicate_succ', List.map_append]
      rfl
    have e : (List.replicate ((stL ns).map V.int).length false).any id = false := by
      rw [List.any_eq_false]
      intro b hb
      rw [List.eq_of_mem_replicate hb]
      exact Bool.false_ne_true
    refine ⟨D, _, rfl, .of p8.2.2, ?_⟩
    rw [e]
    refine ⟨_, rfl, iteF ?_⟩
    have s08 := (s06.trans s7).trans p8.2.1
    refine ⟨_, rfl, x, CE, dx, _, _, rfl, s08 _ _ hx, T.cE, T.n3, lE3 .., a4, rfl, ⟨_, .of (s08 _ _ h4)⟩, fun D2 nD2 => ?_⟩
    refine lc_list (xs := G.map V.int) (LcP H8 D2 fun i => (List.replicate i true).map V.bl) (.init nD2 rfl) (fun i H' _ p => .of (p.2.1 _ _ (s08 _ _ h4))) (fun i y H' hy p => ?_) (fun H9 p9 => ?_)
    · obtain ⟨k, rfl, hk⟩ := get_int hy
      have li := lt_get hk
      obtain ⟨vv, hv, _⟩ := lk_some (ft.fg _ (hG k (mem_get hk)))
      have g := DGet.k (k := Sum.inl k) (p.2.1 _ _ (s08 _ _ hd))
      rw [valV_ent, hv] at g
      refine ⟨rfl, ?_⟩
      refine ⟨_, rfl, _, rfl, d, _, rfl, g, ?_⟩
      refine p.put (Same.refl _) ?_ (by rw [List.length_map, List.length_replicate]; omega)
      rw [List.replicate_succ', List.map_append]
      rfl
    have e2 : (List.replicate (G.map V.int).length true).all id = true := by
      rw [List.all_eq_true]
      intro b hb
      exact List.eq_of_mem_replicate hb
    refine ⟨D2, _, rfl, .of p9.2.2, ?_⟩
    rw [e2]
    exact q _ (s08.trans p9.2.1)
end
section
variable {P : Program} {w : World} {K : PySem.W.Frag} {mg : Str → Option Value} {base : Heap} {CE : Addr}
theorem paired_pairs {H : Hp} : ∀ qs : List (Addr × Int × Int), (∀ z ∈ qs, H z.1 = some (.tup [.int z.2.1, .int z.2.2])) → Paired (fun p (kv : Key × V) => SqT K H p [kV kv.1, kv.2]) (qs.map (·.1)) ((qs.map (·.2)).map entI)
  | [], _ => .nil
  | z :: qs, h => .cons (.of (h z List.mem_cons_self)) (paired_pairs qs fun y hy => h y (List.mem_cons_of_mem _ hy))
theorem filt_nin_succ {S : List (Int × Int)} {G : List Int} {i : Nat} {k : Int} (h : G[i]? = some k) : (S.filter fun z => decide (z.1 ∉ G.take (i + 1))) = (S.filter fun z => decide (z.1 ∉ G.take i)).filter fun z => decide (z.1 ≠ k) := by
  rw [List.filter_filter]
  refine List.filter_congr fun z _ => ?_
  rw [← Bool.decide_and]
  refine decide_eq_decide.mpr ?_
  rw [take_get h, List.mem_append, List.mem_singleton]
  exact ⟨fun a => ⟨fun c => a (.inr c), fun c => a (.inl c)⟩, fun ⟨a, b⟩ c => c.elim b a⟩
theorem vsL_snoc (p : Int) (S : List (Int × Int)) (t : List Int) (k : Int) : vsL p S (t ++ [k]) = vsL p S t ++ [(-k, (lk S k).getD 0)] := by
  unfold vsL
  rw [List.map_append]
  rfl
def spCallE (CE : Addr) : Sp := fun vs H Q _ => ∃ (x dx a1 a3 a4 a5 t l : Addr) (p : Int) (ns G E : List Int) (ps qs : List (Addr × Int × Int)), vs = [.ref x, .ref t] ∧ Eff CE H x dx a1 a3 a4 a5 ns ps G E ∧ StO H t l p qs ∧ St p (qs.map (·.2)) ∧ Fits p (qs.map (·.2)) ns ∧
  ∀ H' t' l' rs, Same H H' → H t' = none → H l' = none → StO H' t' l' (behL p (qs.map (·.2)) ns).1 rs → (rs.map (·.2)).Perm (behL p (qs.map (·.2)) ns).2 → (rs.map (·.2)).Pairwise (fun x y => x.1 ≤ y.1) → Q (.ref t') H'
theorem ok_Effect_call {f : Addr} {fd : FuncData} (F : Fun K "__call__" "Effect.__call__" s_Effect_call f fd) (T : Txt K CE) (T_z_dict : mg "dict" = none) (B : NoB mg) (T_is_state : Cal P w K mg base 4 "is_state" spIsState) (T_Effect_fits : Met P w K mg base 2 CE "_fits" (spFits CE)) : FnOk P w K mg base CX0 5 f fd ["self", "state"] (spCallE CE) := by
  refine F.ok sc_Effect_call (fun vs H Q E h => ?_) (fun cdv A outer s H vs Q E hr h => ?_)
  · obtain ⟨x, dx, a1, a3, a4, a5, t, l, p, ns, G, E, ps, qs, rfl, _⟩ := h
    rfl
  · obtain ⟨x, dx, a1, a3, a4, a5, t, l, p, ns, G, E, ps, qs, rfl, he, so, st, ft, q⟩ := h
    have hu := hu_of hr
    refine ⟨_, (pss_cons (ps_if (pt_not (pt_val (pe_c T_is_state hr (by decide) (by rfl) (pa_cons (pv 1) pa_nil)))) (pss_one ps_never) pss_nil)
        (pss_cons (ps_asg (pe_tup (pa_cons (pe_ix ix_tup (pv 1) pe_int (fun _ _ => rfl)) (pa_cons (pe_callTy (call_dictP rfl) (by rfl) T_z_dict (by decide +kernel) (pa_cons (pe_ix ix_tup (pv 1) pe_int (fun _ _ => rfl)) pa_nil)) pa_nil))) (pg_tup rfl (pgs_cons (pg_name (i := 2) sc_Effect_call.nd rfl (Or.inl rfl)) (pgs_cons (pg_name (i := 3) sc_Effect_call.nd rfl (Or.inr rfl)) pgs_nil))))
        (pss_cons (ps_if (pt_not (pt_val (pe_mt T_Effect_fits hr (by decide) (pv 0) (pa_cons (pv 2) (pa_cons (pv 3) pa_nil))))) (pss_one ps_never) pss_nil)
        (pss_cons (ps_set (i := 4) sc_Effect_call.nd rfl (Or.inl rfl) (pe_disp (pps_cons pe_int (pv 2) pps_nil) (by rfl) (by rfl) (fun z => by cases z) (by decide)))
        (pss_cons (ps_for PassesOwn.never rfl (pi_list (pe_fld (pv 0) rfl)) (pg_name (i := 5) sc_Effect_call.nd rfl (Or.inl rfl))
          (pss_one (ps_dput hu (pv 4) (pe_un un_neg (pv 5)) (pe_dpop1 (pv 3) (pv 5) (by constructor <;> rfl)) rfl)))
        (pss_cons (ps_for PassesOwn.never rfl (pi_list (pe_fld (pv 0) rfl)) (pg_tup rfl (pgs_cons (pg_name (i := 5) sc_Effect_call.nd rfl (Or.inl rfl)) (pgs_cons (pg_name (i := 6) sc_Effect_call.nd rfl (Or.inl rfl)) pgs_nil)))
          (pss_one (ps_dput hu (pv 3) (pv 5) (pe_dget2 hu (pv 4) (pv 6) (pv 6) (by constructor <;> rfl)) rfl)))
        (pss_one (ps_ret (pe_tup (pa_cons (pe_dget2 hu (pv 4) (pe_fld (pv 0) rfl) (pe_fld (pv 0) rfl) (by constructor <;> rfl)) (pa_cons (pe_lc (own := [("patch", 5)]) (g := gName 5) (tt := tYes) rfl sc_Effect_call.nd (pi_list (pe_callB (call_sortedDIO rfl) (by rfl) B.sorted (by decide +kernel) (pa_cons (pv 3) pa_nil))) (blkOk_by (own := [("patch", 5)]) (N := N_Effect_call) (sc := defScope s_Effect_call) (by decide +kernel)) (fun _ _ _ _ _ => (pg_name (i := 5) sc_Effect_call.nd rfl (Or.inl rfl))) (fun _ _ _ _ _ => pts_nil) (fun _ _ _ _ _ => (pe_tup (pa_cons (pv 5) (pa_cons (pe_dget hu (pv 3) (pv 5) (fun _ _ => rfl)) pa_nil))))) pa_nil))))))))))), ?_⟩
    refine ⟨_, rfl, t, l, p, qs, rfl, so, st, fun H1 s1 => ⟨_, rfl, iteF ?_⟩⟩
    have so1 := so.same s1
    have aS : SqL K H1 l ((qs.map (·.1)).map V.ref) := by
      have e : (qs.map (·.1)).map V.ref = qs.map fun z => V.ref z.1 := by rw [List.map_map]; rfl
      rw [e]
      exact .of so1.sv.h
    refine ⟨_, rfl, t, _, 0, _, rfl, rfl, .of so1.ht, at0, _, rfl, t, _, 1, _, rfl, rfl, .of so1.ht, at1, l, qs.map (fun z : Addr × Int × Int => z.1), (qs.map (fun z : Addr × Int × Int => z.2)).map entI, rfl, aS, paired_pairs qs so1.sv.q, fun d nd => ?_⟩
    rw [merge_ent0 st.nd]
    refine ⟨by show 2 ≤ sizeLine; decide, fun T1 nT1 => ⟨T1, _, rfl, .of upd_same, rfl, _, _, rfl, _, _, rfl, rfl, ?_⟩⟩
    have sd := (same_new (o := .dK ((qs.map (·.2)).map entI)) nd).trans (same_new (o := .tup [.int p, .ref d]) nT1)
    have hd : (upd (upd H1 d (.dK ((qs.map (·.2)).map entI))) T1 (.tup [.int p, .ref d])) d = some (.dK ((qs.map (·.2)).map entI)) := same_new nT1 _ _ upd_same
    have s2 := s1.trans sd
    have nd0 := s1.free nd
    generalize upd (upd H1 d (.dK ((qs.map (·.2)).map entI))) T1 (.tup [.int p, .ref d]) = H2 at s2 hd ⊢
    generalize hS : qs.map (·.2) = S at *
    have he2 := he.same s2
    have Glen : G.length ≤ 200 := by
      have e := he.pt.g1.length_eq
      have := gn_len ns
      have := he.pc.len
      omega
    have Gn : ∀ k ∈ G, k ∈ gn ns := fun k hk => he.pt.g1.mem_iff.mp hk
    have Gnd : G.Nodup := he.pt.g1.nodup_iff.mpr (nodup_map (fun x y e => by omega) (he.pc.nd.sublist List.filter_sublist))
    have Gs : ∀ k ∈ G, 0 < k ∧ k ∈ S.map (·.1) := fun k hk => ⟨(gn_mem.mp (Gn k hk)).1, ft.fg k (Gn k hk)⟩
    refine ⟨_, rfl, x, dx, _, rfl, he2.hx, rfl, _, rfl, _, rfl, x, dx, a1, a3, a4, a5, d, _, p, ns, G, S, rfl, he2.hx, he2.h1, he2.h4, hd, ft, Gn, st.len, he.pc.len, Glen, fun H3 s3 => ⟨_, rfl, iteF ?_⟩⟩
    have hd3 := s3 _ _ hd
    refine fun v nv => ⟨_, rfl, upd_same, [(Sum.inl 0, .int p)], rfl, by show 1 ≤ 15; decide, ?_⟩
    have eV : upd (upd H3 v (.dK [])) v (.dK (mergeK [] [(Sum.inl 0, V.int p)])) = upd H3 v (.dK ((vsL p S []).map entI)) := by
      rw [upd_upd]
      rfl
    rw [eV]
    have s03 := s2.trans s3
    have nv0 := s03.free nv
    have dv : d ≠ v := fun z => by
      rw [← z, hd3] at nv
      cases nv
    have he3 := he.same s03
    have he4 := he3.same (same_new (o := .dK ((vsL p S []).map entI)) nv)
    -- the stopped patches
    refine ⟨_, rfl, x, CE, dx, _, _, rfl, he4.hx, T.cE, T.n3, lE3 .., a4, rfl, ⟨_, .of he4.h4⟩, for_list (xs := G.map V.int) (fun i σ H' => (∃ y5 y6, σ = [some (.ref x), some (.ref t), some (.int p), some (.ref d), some (.ref v), y5, y6]) ∧ Same H H' ∧ H' d = some (.dK ((S.filter fun z => decide (z.1 ∉ G.take i)).map entI)) ∧ H' v = some (.dK ((vsL p S (G.take i)).map entI))) ⟨⟨_, _, rfl⟩, s03.trans (same_new nv), ?_, upd_same⟩ (fun i σ H' _ h => .of (h.2.1 _ _ he.h4)) (fun i y σ H' hy h => ?_) (fun σ H' h => ?_)⟩
    · rw [upd_ne dv, hd3]
      refine congrArg some (congrArg HO.dK (congrArg (List.map entI) (List.filter_eq_self.mpr fun z _ => decide_eq_true (show z.1 ∉ ([] : List Int) from List.not_mem_nil)).symm))
    · obtain ⟨k, rfl, hk⟩ := get_int hy
      obtain ⟨⟨y5, y6, rfl⟩, sm, hd', hv'⟩ := h
      have li := lt_get hk
      obtain ⟨vv, hvv, _⟩ := lk_some (Gs k (mem_get hk)).2
      have hnt := not_mem_take Gnd hk
      have hl1 : lk (S.filter fun z => decide (z.1 ∉ G.take i)) k = some vv := by
        rw [lk_filter fun z _ e => decide_eq_true (by rw [e]; exact hnt), hvv]
      have hv2 : valV ((S.filter fun z => decide (z.1 ∉ G.take i)).map entI) (Sum.inl k) = some (.int vv) := by rw [valV_ent, hl1]; rfl
      have nkv : -k ∉ (vsL p S (G.take i)).map (·.1) := by
        intro c
        have k0 := (Gs k (mem_get hk)).1
        rcases List.mem_cons.mp c with c | c
        · have c' : -k = 0 := c
          omega
        · rw [List.map_map] at c
          obtain ⟨j, hj, e⟩ := List.mem_map.mp c
          have e' : -j = -k := e
          exact hnt (by rw [show k = j by omega]; exact hj)
      have vlen : (vsL p S (G.take i)).length ≤ 201 := by
        unfold vsL
        rw [List.length_cons, List.length_map, List.length_take]
        omega
      refine ⟨_, rfl, d, rfl, .inl ⟨_, .inl hd'⟩, _, rfl, _, Sum.inl k, .int vv, hd', rfl, hv2, ?_⟩
      have hv'' : (upd H' d (.dK (dropK ((S.filter fun z => decide (z.1 ∉ G.take i)).map entI) (Sum.inl k)))) v = some (.dK ((vsL p S (G.take i)).map entI)) := by rw [upd_ne dv.symm]; exact hv'
      refine ⟨_, rfl, _, rfl, k, rfl, v, _, rfl, DPut.k (k := Sum.inl (-k)) hv'' (zl (by rw [List.length_map]; omega)), ⟨_, _, rfl⟩, fun b o e => ?_, ?_, ?_⟩
      · rw [upd_ne (ne_of_none e nv0), upd_ne (ne_of_none e nd0)]
        exact sm _ _ e
      · rw [upd_ne dv, upd_same, drop_ent, filt_nin_succ hk]
      · rw [upd_same, put_ent _ nkv, take_get hk, vsL_snoc, hvv]
        rfl
    · obtain ⟨⟨y5, y6, rfl⟩, sm, hd', hv'⟩ := h
      rw [List.length_map, List.take_length] at hd' hv'
      have eS : (S.filter fun z => decide (z.1 ∉ G)) = S.filter fun z => decide (z.1 ∉ gn ns) := List.filter_congr fun z _ => decide_eq_decide.mpr (not_congr he.pt.g1.mem_iff)
      rw [eS] at hd'
      have heA := he.same sm
      have mR : ∀ z ∈ ps, (lk (vsL p S G) z.2.2).getD z.2.2 = mean p S z.2.2 := fun z hz => lk_vs Gs st.pos fun c => he.pt.g1.mem_iff.mpr (refs_neg2 he.pc (he.pt.s1.mem_iff.mp (List.mem_map.mpr ⟨z, hz, rfl⟩)) c)
      have gz : ∀ {i : Nat} {x : V}, (ps.map fun z => V.ref z.1)[i]? = some x → ∃ z ∈ ps, x = .ref z.1 ∧ ps[i]? = some z := fun {i x} hx => by
        rw [List.getElem?_map] at hx
        cases e : ps[i]? with
        | none => rw [e] at hx; cases hx
        | some z => rw [e] at hx; cases hx; exact ⟨z, mem_get e, rfl, rfl⟩
      have psl : ps.length ≤ 200 := by
        have e := he.pt.s1.length_eq
        rw [List.length_map] at e
        have := hl_len ns
        have := he.pc.len
        omega
      have psn : (ps.map fun z => z.2.1).Nodup := by
        have e : (ps.map fun z => z.2.1) = (ps.map (·.2)).map (·.1) := by rw [List.map_map]; rfl
        rw [e]
        exact (he.pt.s1.map (·.1)).nodup_iff.mpr ((keysR_nd he.pc.nd).sublist (List.filter_sublist.map _))
      have psh : ∀ z ∈ ps, z.2 ∈ hl ns := fun z hz => he.pt.s1.mem_iff.mp (List.mem_map.mpr ⟨z, hz, rfl⟩)
      refine ⟨_, rfl, x, CE, dx, _, _, rfl, heA.hx, T.cE, T.n2, lE2 .., a3, rfl, ⟨_, .of heA.h3⟩, for_list (xs := ps.map fun z : Addr × Int × Int => V.ref z.1) (fun i σ H' => (∃ y5 y6, σ = [some (.ref x), some (.ref t), some (.int p), some (.ref d), some (.ref v), y5, y6]) ∧ Same H H' ∧ H' d = some (.dK (((S.filter fun z => decide (z.1 ∉ gn ns)) ++ (ps.take i).map fun z => (z.2.1, mean p S z.2.2)).map entI)) ∧ H' v = some (.dK ((vsL p S G).map entI))) ⟨⟨_, _, rfl⟩, sm, ?_, hv'⟩ (fun i σ H' _ h => .of (h.2.1 _ _ he.h3)) (fun i y σ H' hy h => ?_) (fun σ H' h => ?_)⟩
      · rw [hd', List.take_zero]
        exact congrArg (fun z => some (HO.dK (List.map entI z))) (List.append_nil _).symm
      · obtain ⟨z, hz, rfl, hi⟩ := gz hy
        obtain ⟨⟨y5, y6, rfl⟩, sm, hd', hv'⟩ := h
        have li := lt_get hi
        refine ⟨z.1, _, rfl, .of (sm _ _ (he.hp z hz)), rfl, _, _, rfl, _, _, rfl, rfl, ?_⟩
        refine ⟨_, rfl, v, rfl, .inl ⟨_, .inl hv'⟩, _, rfl, _, rfl, _, DGet.k (k := Sum.inl z.2.2) hv', ?_⟩
        have ev : ((valV ((vsL p S G).map entI) (Sum.inl z.2.2)).getD (V.int z.2.2)) = V.int (mean p S z.2.2) := by
          rw [valV_ent, ← mR z hz]
          cases lk (vsL p S G) z.2.2 <;> rfl
        rw [ev]
        have nk : z.2.1 ∉ ((S.filter fun z => decide (z.1 ∉ gn ns)) ++ (ps.take i).map fun z => (z.2.1, mean p S z.2.2)).map (·.1) := by
          rw [List.map_append]
          intro c
          rcases List.mem_append.mp c with c | c
          · obtain ⟨w', hw, e⟩ := List.mem_map.mp c
            have hh := hl_mem (psh z hz)
            exact ft.fn _ hh.1 hh.2.1 (List.mem_map.mpr ⟨w', (List.mem_filter.mp hw).1, e⟩)
          · rw [List.map_map] at c
            have e : ((·.1) ∘ fun z : Addr × Int × Int => (z.2.1, mean p S z.2.2)) = fun z : Addr × Int × Int => z.2.1 := rfl
            rw [e, List.map_take] at c
            exact not_mem_take psn (by rw [List.getElem?_map, hi]; rfl) c
        have sfl : (S.filter fun z => decide (z.1 ∉ gn ns)).length ≤ 100 := Nat.le_trans (List.length_filter_le _ _) st.len
        refine ⟨_, rfl, _, rfl, d, _, rfl, DPut.k (k := Sum.inl z.2.1) hd' (zl ?_), ⟨_, _, rfl⟩, fun b o e => ?_, ?_, ?_⟩
        · rw [List.length_map, List.length_append, List.length_map, List.length_take]
          omega
        · rw [upd_ne (ne_of_none e nd0)]
          exact sm _ _ e
        · have e3 : ((S.filter fun z => decide (z.1 ∉ gn ns)) ++ (ps.take (i + 1)).map fun z => (z.2.1, mean p S z.2.2)) = ((S.filter fun z => decide (z.1 ∉ gn ns)) ++ (ps.take i).map fun z => (z.2.1, mean p S z.2.2)) ++ [(z.2.1, mean p S z.2.2)] := by
            rw [take_get hi, List.map_append, List.append_assoc]
            rfl
          rw [upd_same, put_ent _ nk, e3]
        · rw [upd_ne dv.symm]
          exact hv'
      · obtain ⟨⟨y5, y6, rfl⟩, sm, hd', hv'⟩ := h
        rw [List.length_map, List.take_length] at hd'
        have eL : ((S.filter fun z => decide (z.1 ∉ gn ns)) ++ ps.map fun z => (z.2.1, mean p S z.2.2)).Perm (behL p S ns).2 := by
          refine List.Perm.append_left _ ?_
          have e := he.pt.s1.map fun z => (z.1, mean p S z.2)
          rw [List.map_map] at e
          exact e
        generalize hL : ((S.filter fun z => decide (z.1 ∉ gn ns)) ++ ps.map fun z => (z.2.1, mean p S z.2.2)) = L at hd' eL
        have Lnd : (L.map (·.1)).Nodup := (eL.map (·.1)).nodup_iff.mpr (behL_keys st.nd he.pc ft.fn)
        have Ll : L.length ≤ 300 := by
          rw [← hL, List.length_append, List.length_map]
          have : (S.filter fun z => decide (z.1 ∉ gn ns)).length ≤ 100 := Nat.le_trans (List.length_filter_le _ _) st.len
          omega
        have heB := he.same sm
        -- the present value
        refine ⟨_, rfl, v, rfl, .inl ⟨_, .inl hv'⟩, _, rfl, x, CE, dx, _, _, rfl, heB.hx, T.cE, T.n1, lE1 .., _, rfl, x, CE, dx, _, _, rfl, heB.hx, T.cE, T.n1, lE1 .., _, DGet.k (k := Sum.inl (runR ns).1) hv', ?_⟩
        have ev : ((valV ((vsL p S G).map entI) (Sum.inl (runR ns).1)).getD (V.int (runR ns).1)) = V.int (mean p S (runR ns).1) := by
          rw [valV_ent, ← lk_vs Gs st.pos (r := (runR ns).1) fun c => he.pt.g1.mem_iff.mpr (refs_neg1 he.pc c)]
          cases lk (vsL p S G) (runR ns).1 <;> rfl
        rw [ev]
        refine ⟨_, rfl, d, L.map entI, L.map (·.1), rfl, .inl hd', by rw [List.map_map, List.map_map]; rfl, fun ys py yp yw nyp => ?_⟩
        have s4 := same_new (o := .lst (ys.map V.int)) nyp
        have hd4 := s4 _ _ hd'
        have yl : ys.length ≤ 300 := by
          have e := yp.length_eq
          rw [List.length_map] at e
          omega
        have hpy : (upd H' py (.lst (ys.map V.int))) py = some (.lst (ys.map V.int)) := upd_same
        have sC := sm.trans s4
        generalize upd H' py (.lst (ys.map V.int)) = H4 at s4 hd4 hpy sC ⊢
        refine ⟨py, rfl, ⟨_, .of hpy⟩, fun D nD => lc_list (xs := ys.map V.int) (fun i H' => Same H4 H' ∧ ∃ rs : List (Addr × Int × Int), H' D = some (.lst (rs.map fun z => V.ref z.1)) ∧ rs.map (·.2) = (ys.take i).map (fun y => (y, (lk L y).getD 0)) ∧ ∀ z ∈ rs, z.1 ≠ D ∧ H' z.1 = some (.tup [.int z.2.1, .int z.2.2])) ⟨same_new nD, [], upd_same, rfl, fun z hz => nomatch hz⟩ (fun i H' _ p => .of (p.1 _ _ hpy)) (fun i y H' hy p => ?_) (fun H' p => ?_)⟩
        · obtain ⟨n, rfl, hn⟩ := get_int hy
          obtain ⟨sm', rs, hD, ers, hrs⟩ := p
          have hi := lt_get hn
          obtain ⟨vv, ev, _⟩ := lk_some (yp.mem_iff.mp (mem_get hn))
          have g := DGet.k (k := Sum.inl n) (sm' _ _ hd4)
          rw [valV_ent, ev] at g
          have l1 := congrArg List.length ers
          rw [List.length_map, List.length_map, List.length_take] at l1
          refine ⟨rfl, ?_⟩
          refine ⟨_, rfl, _, rfl, _, rfl, d, .int vv, rfl, g, by show 2 ≤ sizeLine; decide, fun Tt nT => ?_⟩
          have e4 := same_new (o := .tup [.int n, .int vv]) nT
          have nD0 : Tt ≠ D := fun z => by
            rw [z, hD] at nT
            cases nT
          refine ⟨rs.map fun z => V.ref z.1, e4 _ _ hD, by rw [List.length_map]; exact zl (by omega), Lp.Same.mut (sm'.trans e4) nD, rs ++ [(Tt, n, vv)], ?_, ?_, ?_⟩
          · rw [upd_same, List.map_append]
            rfl
          · rw [List.map_append, ers, take_get hn, List.map_append]
            show _ = _ ++ [(n, (lk L n).getD 0)]
            rw [ev]
            rfl
          · intro z hz
            rcases List.mem_append.mp hz with hz | hz
            · obtain ⟨q1, q2⟩ := hrs z hz
              exact ⟨q1, by rw [upd_ne q1]; exact e4 _ _ q2⟩
            · rw [List.mem_singleton.mp hz]
              exact ⟨nD0, by rw [upd_ne nD0]; exact upd_same⟩
        · obtain ⟨sm', rs, hD, ers, hrs⟩ := p
          rw [List.length_map, List.take_length] at ers
          refine ⟨by show 2 ≤ sizeLine; decide, fun t2 nt2 => ?_⟩
          have s6 := same_new (o := .tup [.int (mean p S (runR ns).1), .ref D]) nt2
          have sB := sC.trans sm'
          refine q _ t2 D rs (sB.trans s6) (sB.free nt2) (sC.free nD) ⟨upd_same, s6 _ _ hD, fun z hz => s6 _ _ (hrs z hz).2⟩ ?_ ?_
          · rw [ers]
            have e2 : (L.map (·.1)).map (fun y => (y, (lk L y).getD 0)) = L := by
              rw [List.map_map]
              refine (List.map_congr_left fun z hz => ?_).trans (List.map_id _)
              show (z.1, (lk L z.1).getD 0) = z
              rw [lk_mem Lnd hz]
              rfl
            have e3 := yp.map (fun y => (y, (lk L y).getD 0))
            rw [e2] at e3
            exact e3.trans eL
          · rw [ers]
            exact List.pairwise_map.mpr yw
end
end L69
set_option Elab.async false
set_option linter.all false
set_option maxRecDepth 100000
namespace L69
open PySem PySem.Spec PyProof.Rows L2 Lp
/-! ### the text of a state -/
theorem piled_le : ∀ (ts : List Str) (m : Nat), (∀ t ∈ ts, t.length ≤ m) → piled ts ≤ ts.length * (m + 2)
  | [], m, _ => Nat.zero_le _
  | t :: r, m, h => by
    have a := piled_le r m fun x hx => h x (List.mem_cons_of_mem _ hx)
    have b := h t List.mem_cons_self
    show t.length + 2 + piled r ≤ (r.length + 1) * (m + 2)
    rw [Nat.succ_mul]
    omega
theorem tupText_le {ts : List Str} {m : Nat} (h0 : ts ≠ []) (h : ∀ t ∈ ts, t.length ≤ m) : (tupleText ts).length ≤ ts.length * (m + 2) + 1 := by
  have a := piled_le ts m h
  have b := join_length_add ts h0
  show (("(" : Str) ++ Str.join ", " ts ++ (if ts.length == 1 then ",)" else ")" : String)).length ≤ _
  rw [Str.length_append, Str.length_append]
  have e1 : ("(" : Str).length = 1 := rfl
  rw [e1]
  split
  · show 1 + (Str.join ", " ts).length + 2 ≤ _
    omega
  · show 1 + (Str.join ", " ts).length + 1 ≤ _
    omega
theorem pair_len {a b : Int} (h : -100 ≤ a ∧ a ≤ 100) (h' : -100 ≤ b ∧ b ≤ 100) : (PyData.tuple [.int a, .int b]).shown.length ≤ 13 := by
  show (tupleText [Str.ofString (toString a), Str.ofString (toString b)]).length ≤ 13
  refine tupText_le (m := 4) (by simp) fun t ht => ?_
  rcases List.mem_cons.mp ht with rfl | ht
  · exact num_len a h.1 h.2
  rcases List.mem_cons.mp ht with rfl | ht
  · exact num_len b h'.1 h'.2
  · exact nomatch ht
theorem shownPairs_mem : ∀ (S : List (Int × Int)) (t : Str), t ∈ PyData.shownAll (S.map fun z => PyData.tuple [.int z.1, .int z.2]) → ∃ z ∈ S, t = (PyData.tuple [.int z.1, .int z.2]).shown
  | [], t, h => by
    have h' : t ∈ ([] : List Str) := h
    cases h'
  | n :: r, t, h => by
    have h' : t ∈ (PyData.tuple [.int n.1, .int n.2]).shown :: PyData.shownAll (r.map fun z => PyData.tuple [.int z.1, .int z.2]) := h
    rcases List.mem_cons.mp h' with e | e
    · exact ⟨n, List.mem_cons_self, e⟩
    · obtain ⟨m, hm, e⟩ := shownPairs_mem r t e
      exact ⟨m, List.mem_cons_of_mem _ hm, e⟩
theorem shownPairs_len : ∀ S : List (Int × Int), (PyData.shownAll (S.map fun z => PyData.tuple [.int z.1, .int z.2])).length = S.length
  | [] => rfl
  | _ :: r => congrArg (· + 1) (shownPairs_len r)
theorem dP_len {S : List (Int × Int)} (hb : ∀ z ∈ S, (-100 ≤ z.1 ∧ z.1 ≤ 100) ∧ -100 ≤ z.2 ∧ z.2 ≤ 100) (hl : S.length ≤ 1000) : (dP S).shown.length ≤ 15002 := by
  show (textFrom 0 "[" (PyData.shownAll (S.map fun z => PyData.tuple [.int z.1, .int z.2])) ++ ("]" : Str)).length ≤ _
  rw [Str.length_append]
  have z := textFrom_le (PyData.shownAll (S.map fun z => PyData.tuple [.int z.1, .int z.2])) 0 "[" 13 (fun t ht => by
    obtain ⟨n, hn, e⟩ := shownPairs_mem S t ht
    rw [e]
    exact pair_len (hb n hn).1 (hb n hn).2)
  rw [shownPairs_len] at z
  have e1 : ("[" : Str).length = 1 := rfl
  have e2 : ("]" : Str).length = 1 := rfl
  rw [e1] at z
  rw [e2]
  omega
theorem show_pairs : ∀ {S : List (Int × Int)}, (∀ z ∈ S, (-100 ≤ z.1 ∧ z.1 ≤ 100) ∧ -100 ≤ z.2 ∧ z.2 ≤ 100) → PyData.showableAll (S.map fun z => PyData.tuple [.int z.1, .int z.2]) = true
  | [], _ => rfl
  | z :: S, h => by
    have hz := h z List.mem_cons_self
    show ((decide (z.1.natAbs.log2 < 1920) && (decide (z.2.natAbs.log2 < 1920) && true)) && PyData.showableAll (S.map fun z => PyData.tuple [.int z.1, .int z.2])) = true
    rw [show_pairs fun y hy => h y (List.mem_cons_of_mem _ hy), decide_eq_true (log2_small hz.1.1 hz.1.2), decide_eq_true (log2_small hz.2.1 hz.2.2)]
    rfl
theorem noDict_pairs : ∀ S : List (Int × Int), PyData.hasDictAll (S.map fun z => PyData.tuple [.int z.1, .int z.2]) = false
  | [] => rfl
  | z :: S => by
    show (false || PyData.hasDictAll (S.map fun z => PyData.tuple [.int z.1, .int z.2])) = false
    rw [noDict_pairs S]
    rfl
theorem depth_pairs : ∀ S : List (Int × Int), PyData.depthAll (S.map fun z => PyData.tuple [.int z.1, .int z.2]) ≤ 1
  | [] => Nat.zero_le _
  | z :: S => by
    show max 1 (PyData.depthAll (S.map fun z => PyData.tuple [.int z.1, .int z.2])) ≤ 1
    exact Nat.max_le.mpr ⟨Nat.le_refl _, depth_pairs S⟩
theorem lay_pairs : ∀ S : List (Int × Int), PyData.canLayAll0 (S.map fun z => PyData.tuple [.int z.1, .int z.2]) = true
  | [] => rfl
  | z :: S => by
    show (true && PyData.canLayAll0 (S.map fun z => PyData.tuple [.int z.1, .int z.2])) = true
    rw [lay_pairs S]
    rfl
theorem shaped_dSt (p : Int) (S : List (Int × Int)) : SeqAt.shaped (dSt p S) = true := by
  show ((true && (PyData.canLayAll0 (S.map fun z => PyData.tuple [.int z.1, .int z.2]) && true)) && decide (max 0 (max (PyData.depthAll (S.map fun z => PyData.tuple [.int z.1, .int z.2]) + 1) 0) + 1 ≤ 64)) = true
  have := depth_pairs S
  rw [lay_pairs S, decide_eq_true (by omega)]
  rfl
theorem rr_st {p : Int} {S : List (Int × Int)} (st : St p S) : (dSt p S).showable = true ∧ (dSt p S).hasDict = false ∧ (dSt p S).depth ≤ 60 ∧ (dSt p S).shown.length ≤ sizeLine := by
  have hb : ∀ z ∈ S, (-100 ≤ z.1 ∧ z.1 ≤ 100) ∧ -100 ≤ z.2 ∧ z.2 ≤ 100 := fun z hz => by
    have := st.rng z hz
    omega
  have hp : -100 ≤ p ∧ p ≤ 100 := by
    have := st.p0
    omega
  have hl := st.len
  refine ⟨?_, ?_, ?_, ?_⟩
  · show (decide (p.natAbs.log2 < 1920) && (PyData.showableAll (S.map fun z => PyData.tuple [.int z.1, .int z.2]) && true)) = true
    rw [show_pairs hb, decide_eq_true (log2_small hp.1 hp.2)]
    rfl
  · show (false || (PyData.hasDictAll (S.map fun z => PyData.tuple [.int z.1, .int z.2]) || false)) = false
    rw [noDict_pairs]
    rfl
  · have := depth_pairs S
    show max 0 (max (PyData.depthAll (S.map fun z => PyData.tuple [.int z.1, .int z.2]) + 1) 0) + 1 ≤ 60
    omega
  · show (tupleText [Str.ofString (toString p), (dP S).shown]).length ≤ sizeLine
    have a := tupText_le (ts := [Str.ofString (toString p), (dP S).shown]) (m := 15002) (by simp) fun t ht => by
      rcases List.mem_cons.mp ht with rfl | ht
      · exact Nat.le_trans (num_len p hp.1 hp.2) (by decide)
      rcases List.mem_cons.mp ht with rfl | ht
      · exact dP_len hb (by omega)
      · exact nomatch ht
    exact zs (Nat.le_trans a (by show 2 * (15002 + 2) + 1 ≤ 100000; decide))
/-! ### the state at the end of a history -/
theorem hl_keys {t : List Int} {k : Int} : k ∈ (hl t).map (·.1) ↔ k ∈ t ∧ 0 < k ∧ -k ∉ t := by
  constructor
  · intro h
    obtain ⟨z, hz, rfl⟩ := List.mem_map.mp h
    exact hl_mem hz
  · rintro ⟨h1, h2, h3⟩
    rw [runL_hl]
    exact List.mem_filter.mpr ⟨List.mem_filter.mpr ⟨h1, decide_eq_true h2⟩, decide_eq_true h3⟩
theorem filt_perm {L : List (Int × Int)} {k v : Int} (nd : (L.map (·.1)).Nodup) (h : lk L k = some v) : (v :: (L.filter fun z => decide (z.1 ≠ k)).map (·.2)).Perm (L.map (·.2)) := by
  induction L with
  | nil => exact nomatch h
  | cons z L ih =>
    rw [List.map_cons, List.nodup_cons] at nd
    rw [lk_cons] at h
    by_cases e : z.1 = k
    · rw [if_pos e] at h
      have e1 : (L.filter fun z => decide (z.1 ≠ k)) = L := List.filter_eq_self.mpr fun y hy => decide_eq_true fun q => nd.1 (by rw [e, ← q]; exact List.mem_map.mpr ⟨y, hy, rfl⟩)
      rw [List.filter_cons_of_neg (by rw [decide_eq_false (fun q => q e)]; exact Bool.false_ne_true), e1, List.map_cons, Option.some.inj h]
    · rw [if_neg e] at h
      rw [List.filter_cons_of_pos (p := fun z : Int × Int => decide (z.1 ≠ k)) (by exact decide_eq_true e), List.map_cons, List.map_cons]
      exact (List.Perm.swap _ _ _).trans ((ih nd.2 h).cons z.2)
theorem hist_vals {ns : List Int} (hh : Hist ns) : ∀ i, i ≤ ns.length → ((runR (ns.take i)).1 :: (hl (ns.take i)).map (·.2)).Nodup ∧ ∀ v ∈ (runR (ns.take i)).1 :: (hl (ns.take i)).map (·.2), v = 0 ∨ (v ∈ ns.take i ∧ 0 < v)
  | 0, _ => by
    rw [List.take_zero]
    refine ⟨List.nodup_cons.mpr ⟨List.not_mem_nil, List.nodup_nil⟩, fun v hv => .inl ?_⟩
    exact List.mem_singleton.mp hv
  | i + 1, h => by
    have he : ns[i]? = some (ns[i]'(by omega)) := List.getElem?_eq_getElem (by omega)
    obtain ⟨i1, i2⟩ := hist_vals hh i (by omega)
    have hnt := not_mem_take hh.nd he
    have ho := hh.piece.ord _ _ he
    have hr := hh.ord _ _ he
    have h0 := (hh.rng _ (mem_get he)).1
    have nd := hh.nd.sublist (List.take_sublist i ns)
    rw [take_get he]
    generalize ns[i]'(by omega) = e at *
    generalize ns.take i = t at *
    by_cases hpos : 0 < e
    · have eS : runR (t ++ [e]) = (e, (runR t).2 ++ [(e, (runR t).1)]) := by rw [runR_snoc]; exact if_pos hpos
      rw [eS, hl_start hpos (ho hpos), List.map_append]
      have pm : (e :: ((hl t).map (·.2) ++ [(runR t).1])).Perm (e :: (runR t).1 :: (hl t).map (·.2)) := (List.perm_append_singleton _ _).cons e
      refine ⟨pm.nodup_iff.mpr (List.nodup_cons.mpr ⟨fun c => ?_, i1⟩), fun v hv => ?_⟩
      · rcases i2 e c with q | q
        · exact h0 q
        · exact hnt q.1
      · rcases List.mem_cons.mp (pm.mem_iff.mp hv) with rfl | hv
        · exact .inr ⟨List.mem_append_right _ (List.mem_singleton.mpr rfl), hpos⟩
        · rcases i2 v hv with q | q
          · exact .inl q
          · exact .inr ⟨List.mem_append_left _ q.1, q.2⟩
    · have hk := hr (by omega)
      obtain ⟨v, hv, _⟩ := lk_some (l := (runR t).2) (k := -e) (keysR_mem.mpr ⟨hk, by omega⟩)
      have eS : runR (t ++ [e]) = (v, (runR t).2) := by
        rw [runR_snoc]
        have e2 : stepR (runR t) e = ((lk (runR t).2 (-e)).getD e, (runR t).2) := if_neg hpos
        rw [e2, hv]
        rfl
      have hv' : lk (hl t) (-e) = some v := by rw [lk_hl hnt, hv]
      have pm := filt_perm ((keysR_nd nd).sublist (List.filter_sublist.map _)) hv'
      rw [eS, hl_stop (show e < 0 by omega)]
      refine ⟨pm.nodup_iff.mpr (List.nodup_cons.mp i1).2, fun u hu => ?_⟩
      rcases i2 u (List.mem_cons_of_mem _ (pm.mem_iff.mp hu)) with q | q
      · exact .inl q
      · exact .inr ⟨List.mem_append_left _ q.1, q.2⟩
theorem hist_vals1 {ns : List Int} (hh : Hist ns) : ((runR ns).1 :: (hl ns).map (·.2)).Nodup ∧ ∀ v ∈ (runR ns).1 :: (hl ns).map (·.2), v = 0 ∨ (v ∈ ns ∧ 0 < v) := by
  have z := hist_vals hh ns.length (Nat.le_refl _)
  rw [List.take_length] at z
  exact z
theorem hist_st {ns : List Int} {S : List (Int × Int)} (hh : Hist ns) (pm : S.Perm (hl ns)) (pw : S.Pairwise fun x y => x.1 ≤ y.1) : St (runR ns).1 S := by
  obtain ⟨v1, v2⟩ := hist_vals1 hh
  have rv : ∀ v ∈ (runR ns).1 :: (hl ns).map (·.2), 0 ≤ v ∧ v ≤ 100 := fun v hv => by
    rcases v2 v hv with q | q
    · omega
    · have := hh.rng v q.1
      omega
  refine ⟨rv _ List.mem_cons_self, fun z hz => ?_, ?_, ?_⟩
  · have hz' := pm.mem_iff.mp hz
    have a := hl_mem hz'
    have b := hh.rng _ a.1
    exact ⟨by omega, rv _ (List.mem_cons_of_mem _ (List.mem_map.mpr ⟨z, hz', rfl⟩))⟩
  · have nd : (S.map (·.1)).Nodup := (pm.map (·.1)).nodup_iff.mpr ((keysR_nd hh.nd).sublist (List.filter_sublist.map _))
    have nd' : (S.map (·.1)).Pairwise (· ≠ ·) := nd
    exact (List.Pairwise.and (List.pairwise_map.mpr pw) nd').imp fun ⟨a, b⟩ => Int.lt_iff_le_and_ne.mpr ⟨a, b⟩
  · exact ((pm.map (·.2)).cons _).nodup_iff.mpr v1
theorem hist_fits {us vs : List Int} {S : List (Int × Int)} (hh : Hist us) (hv : Hist (us ++ vs)) (pm : S.Perm (hl us)) : Fits (runR us).1 S vs := by
  have nd := (List.nodup_append.mp hv.nd).2.2
  refine ⟨fun k hk h0 c => ?_, fun k hk h0 c => ?_, fun k hk => ?_⟩
  · have a := hl_keys.mp ((pm.map (·.1)).mem_iff.mp c)
    exact nd _ a.1 _ hk rfl
  · rcases (hist_vals1 hh).2 k (((pm.map (·.2)).cons _).mem_iff.mp c) with q | q
    · omega
    · exact nd _ q.1 _ hk rfl
  · obtain ⟨h0, h1, h2⟩ := gn_mem.mp hk
    refine (pm.map (·.1)).mem_iff.mpr (hl_keys.mpr ⟨?_, h0, fun c => nd _ c _ h1 rfl⟩)
    obtain ⟨j, hj, ej⟩ := List.mem_iff_getElem.mp h1
    have he : (us ++ vs)[us.length + j]? = some (-k) := by
      rw [List.getElem?_append_right (by omega), Nat.add_sub_cancel_left, List.getElem?_eq_getElem hj, ej]
    have ho := hv.ord _ _ he (by omega)
    rw [Int.neg_neg, List.take_length_add_append] at ho
    rcases List.mem_append.mp ho with q | q
    · exact q
    · exact absurd (List.mem_of_mem_take q) h2
theorem lk_perm {S S' : List (Int × Int)} (pm : S.Perm S') (nd : (S.map (·.1)).Nodup) (k : Int) : lk S k = lk S' k := by
  have nd' := (pm.map (·.1)).nodup_iff.mp nd
  cases h : lk S k with
  | none =>
    cases h' : lk S' k with
    | none => rfl
    | some v =>
      have hm : k ∈ S'.map (·.1) := Classical.byContradiction fun c => by rw [lk_none c] at h'; cases h'
      obtain ⟨u, hu, _⟩ := lk_some ((pm.map (·.1)).mem_iff.mpr hm)
      rw [h] at hu
      cases hu
  | some v =>
    have hm : k ∈ S.map (·.1) := Classical.byContradiction fun c => by rw [lk_none c] at h; cases h
    obtain ⟨u, hu, hmem⟩ := lk_some hm
    rw [h] at hu
    cases hu
    exact (lk_mem nd' (pm.mem_iff.mp hmem)).symm
theorem behL_perm {S S' : List (Int × Int)} (pm : S.Perm S') (nd : (S.map (·.1)).Nodup) (p : Int) (ns : List Int) : (behL p S ns).1 = (behL p S' ns).1 ∧ (behL p S ns).2.Perm (behL p S' ns).2 := by
  have em : mean p S = mean p S' := funext fun r => by
    unfold mean
    rw [lk_perm pm nd]
  unfold behL
  rw [em]
  exact ⟨rfl, (pm.filter _).append_right _⟩
theorem eqvAll_pairs : ∀ S S' : List (Int × Int), PyData.eqvAll (S.map fun z => PyData.tuple [.int z.1, .int z.2]) (S'.map fun z => PyData.tuple [.int z.1, .int z.2]) = decide (S = S')
  | [], [] => rfl
  | [], _ :: _ => rfl
  | _ :: _, [] => rfl
  | z :: S, y :: S' => by
    show (((z.1 == y.1) && ((z.2 == y.2) && true)) && PyData.eqvAll (S.map fun z => PyData.tuple [.int z.1, .int z.2]) (S'.map fun z => PyData.tuple [.int z.1, .int z.2])) = decide (z :: S = y :: S')
    rw [eqvAll_pairs S S', Bool.and_true]
    obtain ⟨a, b⟩ := z
    obtain ⟨c, d⟩ := y
    by_cases e1 : a = c <;> by_cases e2 : b = d <;> by_cases e3 : S = S' <;> simp [e1, e2, e3]
theorem eqv_dP (S S' : List (Int × Int)) : PyData.eqv (dP S) (dP S') = decide (S = S') := eqvAll_pairs S S'
theorem eqv_st (p : Int) (S : List (Int × Int)) : PyData.eqv (dSt p S) (dSt p S) = true := by
  show ((p == p) && (PyData.eqvAll (S.map fun z => PyData.tuple [.int z.1, .int z.2]) (S.map fun z => PyData.tuple [.int z.1, .int z.2]) && true)) = true
  rw [eqvAll_pairs S S, beq_self_eq_true, decide_eq_true rfl]
  rfl
end L69
set_option Elab.async false
set_option linter.all false
set_option maxRecDepth 100000
namespace L69
open PySem PySem.Spec PyProof.Rows L2 Lp
open L2.DX
/-! ### effects by their pieces -/
def cS (ns : List Int) : List (Int × Int) := (hl ns).mergeSort fun x y => decide (x.1 ≤ y.1)
def cG (ns : List Int) : List Int := (gn ns).mergeSort fun x y => decide (x ≤ y)
def cE (ns : List Int) : List Int := (en ns).mergeSort fun x y => decide (x ≤ y)
theorem msort_i (l : List Int) : (l.mergeSort fun x y => decide (x ≤ y)).Pairwise (· ≤ ·) :=
  (List.pairwise_mergeSort (le := fun x y => decide (x ≤ y)) (fun a b c h1 h2 => decide_eq_true (Int.le_trans (of_decide_eq_true h1) (of_decide_eq_true h2))) (fun a b => by
    rcases Int.le_total a b with h | h
    · rw [decide_eq_true h]; rfl
    · rw [decide_eq_true h, Bool.or_true]) l).imp fun h => of_decide_eq_true h
theorem msort_p (l : List (Int × Int)) : (l.mergeSort fun x y => decide (x.1 ≤ y.1)).Pairwise fun x y => x.1 ≤ y.1 :=
  (List.pairwise_mergeSort (le := fun x y => decide (x.1 ≤ y.1)) (fun a b c h1 h2 => decide_eq_true (Int.le_trans (of_decide_eq_true h1) (of_decide_eq_true h2))) (fun a b => by
    rcases Int.le_total a.1 b.1 with h | h
    · rw [decide_eq_true h]; rfl
    · rw [decide_eq_true h, Bool.or_true]) l).imp fun h => of_decide_eq_true h
theorem parts_c (ns : List Int) : Parts ns (cS ns) (cG ns) (cE ns) := ⟨List.mergeSort_perm _ _, msort_p _, List.mergeSort_perm _ _, msort_i _, List.mergeSort_perm _ _, msort_i _⟩
theorem Parts.eqc {ns : List Int} {S : List (Int × Int)} {G E : List Int} (nd : ns.Nodup) (h : Parts ns S G E) : S = cS ns ∧ G = cG ns ∧ E = cE ns := Parts.uniq nd h (parts_c ns)
theorem cS_len (ns : List Int) : (cS ns).length ≤ ns.length := by
  rw [(parts_c ns).s1.length_eq]
  exact hl_len ns
theorem cG_len (ns : List Int) : (cG ns).length ≤ ns.length := by
  rw [(parts_c ns).g1.length_eq]
  exact gn_len ns
theorem cE_len (ns : List Int) : (cE ns).length ≤ ns.length := by
  rw [(parts_c ns).e1.length_eq]
  exact en_len ns
/-- the parts of an effect as data -/
def dE (ns : List Int) : PyData := dOf (runR ns).1 (cS ns) (cG ns) (cE ns)
def EffX (CE : Addr) (H : Hp) (x : Addr) (ns : List Int) : Prop := ∃ dx a1 a3 a4 a5 ps G E, Eff CE H x dx a1 a3 a4 a5 ns ps G E
theorem EffX.same {CE : Addr} {H H' : Hp} {x : Addr} {ns : List Int} (h : EffX CE H x ns) (s : Same H H') : EffX CE H' x ns := by
  obtain ⟨dx, a1, a3, a4, a5, ps, G, E, he⟩ := h
  exact ⟨dx, a1, a3, a4, a5, ps, G, E, he.same s⟩
theorem EffX.pc {CE : Addr} {H : Hp} {x : Addr} {ns : List Int} (h : EffX CE H x ns) : Piece ns := by
  obtain ⟨dx, a1, a3, a4, a5, ps, G, E, he⟩ := h
  exact he.pc
/-- two effects are equal -/
def EqE (ns ms : List Int) : Prop := (runR ns).1 = (runR ms).1 ∧ cS ns = cS ms ∧ cG ns = cG ms ∧ cE ns = cE ms
instance (ns ms : List Int) : Decidable (EqE ns ms) := by unfold EqE; infer_instance
theorem EqE.refl (ns : List Int) : EqE ns ns := ⟨rfl, rfl, rfl, rfl⟩
section
variable {P : Program} {w : World} {K : PySem.W.Frag} {mg : Str → Option Value} {base : Heap} {CE : Addr}
theorem mkE {H : Hp} {l : Addr} {ns : List Int} {Q : VK} (hl : H l = some (.lst (ns.map V.int))) (pc : Piece ns) (q : ∀ H' x, Same H H' → EffX CE H' x ns → Q (.ref x) H') (x dx : Addr) (nx : H x = none) (ndx : H dx = none) (nex : dx ≠ x) :
    spInit CE (.ref x :: ([.ref l] ++ [])) (upd (upd H dx (.own x)) x (.ins CE dx [])) (fun v H2 => v = .non ∧ Q (.ref x) H2) E0 := by
  refine ⟨x, dx, l, ns, rfl, ?_, pc, upd_same, fun H' a1 a3 a4 a5 ps G E he bt _ _ _ _ => ⟨rfl, q H' x (fun y o e => bt y o (ne_of_none e nx) ?_) ⟨dx, a1, a3, a4, a5, ps, G, E, he⟩⟩⟩
  · rw [upd_ne (ne_of_none hl nx), upd_ne (ne_of_none hl ndx)]
    exact hl
  · rw [upd_ne (ne_of_none e nx), upd_ne (ne_of_none e ndx)]
    exact e
theorem FnG.weaken {k : Nat} {f : Addr} {fd : FuncData} {ps : List Str} {sp sp' : Sp} (F : FnG P w K mg base CX0 k f fd ps sp) (h : ∀ vs H Q E, sp' vs H Q E → sp vs H Q E) : FnG P w K mg base CX0 k f fd ps sp' :=
  ⟨fun vs H Q E q => F.len vs H Q E (h vs H Q E q), fun A out s H ar us vs Q E hG hr en bd rv q => F.runG A out s H ar us vs Q E hG hr en bd rv (h vs H Q E q)⟩
end
open L2.DX
section
variable {P : Program} {w : World} {K : PySem.W.Frag} {mg : Str → Option Value} {base : Heap} {CE : Addr}
theorem kit_self (K : PySem.W.Frag) (C : Addr) : PySem.W.kitOne K (.ref C) (.ref C) = some true := by
  unfold PySem.W.kitOne
  rw [if_pos (beq_self_eq_true _)]
structure TxI (K : PySem.W.Frag) (mg : Str → Option Value) (CE : Addr) : Prop where
  c : mg "Effect" = some (.ref CE)
  ha : PySem.W.findIn K (.ref CE) "__class__" = some (some (.builtin "object.__class__"))
  hn : PySem.W.specialIn K (.builtin "object.__class__") "__get__" = some (some (.builtin "getset_descriptor.__get__"))
  ht : PySem.W.takesIn K (.builtin "object.__class__") = some true
  hm : PySem.W.mroIn K CE (.type "object") = some true
  kt : PySem.W.kitOne K (.ref CE) (.ref CE) = some true
theorem EffX.ty {H : Hp} {x : Addr} {ns : List Int} (h : EffX CE H x ns) (T : Txt K CE) (TI : TxI K mg CE) : TyX K H (.ref x) (.ref CE) := by
  obtain ⟨dx, a1, a3, a4, a5, ps, G, E, he⟩ := h
  exact .base (.ins he.hx T.cE TI.ha TI.hn TI.ht TI.hm)
/-! ### __add__, __eq__ -/
def spAdd (CE : Addr) : Sp := fun vs H Q _ => ∃ (x y : Addr) (ns ms : List Int), vs = [.ref x, .ref y] ∧ EffX CE H x ns ∧ EffX CE H y ms ∧ Piece (ns ++ ms) ∧ ∀ H' z, Same H H' → EffX CE H' z (ns ++ ms) → Q (.ref z) H'
theorem ok_Effect_add {f : Addr} {fd : FuncData} (F : Fun K "__add__" "Effect.__add__" s_Effect_add f fd) (B : NoB mg) (T : Txt K CE) (TI : TxI K mg CE) (T_is_piece : Cal P w K mg base 5 "is_piece" (spIsPiece K)) (T_mk_Effect : Mak P w K mg base 6 "Effect" CE (spInit CE)) : FnOk P w K mg base CX0 8 f fd ["self", "other"] (spAdd CE) := by
  have T_c_Effect := TI.c
  refine F.ok sc_Effect_add (fun vs H Q E h => ?_) (fun cdv A outer s H vs Q E hr h => ?_)
  · obtain ⟨x, y, ns, ms, rfl, _⟩ := h
    rfl
  · obtain ⟨x, y, ns, ms, rfl, hx, hy, pc, q⟩ := h
    have ty := hy.ty T TI
    obtain ⟨dx, a1, a3, a4, a5, ps, G, E, he⟩ := id hx
    obtain ⟨dy, b1, b3, b4, b5, qs, G', E', hf⟩ := id hy
    have pl := pc.len
    rw [List.length_append] at pl
    refine ⟨_, (pss_cons (ps_if (pt_not (pt_val (pe_callB call_isi (by rfl) B.isinstance (by decide +kernel) (pa_cons (pv 1) (pa_cons (pe_glob (v := .ref CE) (by rfl) T_c_Effect rfl) pa_nil))))) (pss_one ps_never) pss_nil)
        (pss_cons (ps_set (i := 2) sc_Effect_add.nd rfl (Or.inl rfl) (pe_op op_cat (pe_fld (pv 0) rfl) (pe_fld (pv 1) rfl)))
        (pss_cons (ps_if (pt_not (pt_val (pe_c T_is_piece hr (by decide) (by rfl) (pa_cons (pv 2) pa_nil)))) (pss_one ps_never) pss_nil)
        (pss_one (ps_ret (pe_mk T_mk_Effect hr (by decide) (by rfl) (pa_cons (pv 2) pa_nil))))))), ?_⟩
    refine ⟨_, rfl, _, _, _, _, true, rfl, .own _, ty, TI.kt, _, rfl, iteF ?_⟩
    refine ⟨_, rfl, x, CE, dx, _, _, rfl, he.hx, T.cE, T.n0, lE0 .., _, rfl, y, CE, dy, _, _, rfl, hf.hx, T.cE, T.n0, lE0 .., a1, b1, _, _, rfl, rfl, he.h1, hf.h1, ?_, fun l nl => ?_⟩
    · rw [List.length_map, List.length_map]
      exact zs (by omega)
    have s1 := same_new (o := .lst (ns.map V.int ++ ms.map V.int)) nl
    have hl : (upd H l (.lst (ns.map V.int ++ ms.map V.int))) l = some (.lst ((ns ++ ms).map V.int)) := by rw [upd_same, List.map_append]
    refine ⟨_, rfl, l, ns ++ ms, rfl, .of hl, pc, fun H2 s2 => ⟨_, rfl, iteF ?_⟩⟩
    exact ⟨_, rfl, mkE (s2 _ _ hl) pc fun H3 z s3 hz => q H3 z ((s1.trans s2).trans s3) hz⟩
def spEqE (CE : Addr) : Sp := fun vs H Q _ => ∃ (x y : Addr) (ns ms : List Int), vs = [.ref x, .ref y] ∧ EffX CE H x ns ∧ EffX CE H y ms ∧ Q (.bl (decide (EqE ns ms))) H
theorem shaped_dP (S : List (Int × Int)) : SeqAt.shaped (dP S) = true := by
  show ((PyData.canLayAll0 (S.map fun z => PyData.tuple [.int z.1, .int z.2])) && decide (PyData.depthAll (S.map fun z => PyData.tuple [.int z.1, .int z.2]) + 1 ≤ 64)) = true
  have := depth_pairs S
  rw [lay_pairs S, decide_eq_true (by omega)]
  rfl
theorem ok_Effect_eq {f : Addr} {fd : FuncData} (F : Fun K "__eq__" "Effect.__eq__" s_Effect_eq f fd) (B : NoB mg) (T : Txt K CE) (TI : TxI K mg CE) : FnOk P w K mg base CX0 1 f fd ["self", "other"] (spEqE CE) := by
  have T_c_Effect := TI.c
  refine F.ok sc_Effect_eq (fun vs H Q E h => ?_) (fun cdv A outer s H vs Q E hr h => ?_)
  · obtain ⟨x, y, ns, ms, rfl, _⟩ := h
    rfl
  · obtain ⟨x, y, ns, ms, rfl, hx, hy, q⟩ := h
    have hu64 := hr.units
    have ty := hy.ty T TI
    obtain ⟨dx, a1, a3, a4, a5, ps, G, E, he⟩ := id hx
    obtain ⟨dy, b1, b3, b4, b5, qs, G', E', hf⟩ := id hy
    obtain ⟨eS, eG, eE⟩ := he.pt.eqc he.pc.nd
    obtain ⟨fS, fG, fE⟩ := hf.pt.eqc hf.pc.nd
    subst eG eE fG fE
    have d3 : Dp K H (.ref a3) (dP (cS ns)) := by
      rw [← eS]
      exact .lst (.of he.h3) (dpAll_pairs ps he.hp)
    have e3 : Dp K H (.ref b3) (dP (cS ms)) := by
      rw [← fS]
      exact .lst (.of hf.h3) (dpAll_pairs qs hf.hp)
    refine ⟨_, (pss_cons (ps_if (pt_not (pt_val (pe_callB call_isi (by rfl) B.isinstance (by decide +kernel) (pa_cons (pv 1) (pa_cons (pe_glob (v := .ref CE) (by rfl) T_c_Effect rfl) pa_nil))))) (pss_one (ps_ret pe_bl)) pss_nil)
        (pss_cons (ps_if (PW.pt (pw_or (pt_cmpR op_ne (pe_fld (pv 0) rfl) (pe_fld (pv 1) rfl) (nomark _)) (pw_or1 (pt_cmpR (op_neD hu64) (pe_fld (pv 0) rfl) (pe_fld (pv 1) rfl) (nomark _))))) (pss_one (ps_ret pe_bl)) pss_nil)
        (pss_one (ps_ret (pe_and (pe_cmpR (op_eqD hu64) (pe_fld (pv 0) rfl) (pe_fld (pv 1) rfl) (nomark _)) (pe_one (pe_cmpR (op_eqD hu64) (pe_fld (pv 0) rfl) (pe_fld (pv 1) rfl) (nomark _)))))))), ?_⟩
    refine ⟨_, rfl, _, _, _, _, true, rfl, .own _, ty, TI.kt, _, rfl, iteF ?_⟩
    by_cases c1 : (runR ns).1 = (runR ms).1
    · refine ⟨_, rfl, x, CE, dx, _, _, rfl, he.hx, T.cE, T.n1, lE1 .., _, rfl, y, CE, dy, _, _, rfl, hf.hx, T.cE, T.n1, lE1 .., rfl, false, nF (congrArg V.int c1), ?_⟩
      by_cases c2 : cS ns = cS ms
      · refine ⟨_, rfl, x, CE, dx, _, _, rfl, he.hx, T.cE, T.n2, lE2 .., _, rfl, y, CE, dy, _, _, rfl, hf.hx, T.cE, T.n2, lE2 .., dP (cS ns), dP (cS ms), d3, e3, shaped_dP _, shaped_dP _, false, ?_, iteF ?_⟩
        · rw [eqv_dP, decide_eq_true c2]
          rfl
        refine ⟨_, rfl, x, CE, dx, _, _, rfl, he.hx, T.cE, T.n3, lE3 .., _, rfl, y, CE, dy, _, _, rfl, hf.hx, T.cE, T.n3, lE3 .., dI (cG ns), dI (cG ms), dp_ints (.of he.h4), dp_ints (.of hf.h4), shaped_ints _, shaped_ints _, ?_⟩
        by_cases c3 : cG ns = cG ms
        · refine ⟨true, eqvT c3, iteT ?_⟩
          refine ⟨_, rfl, x, CE, dx, _, _, rfl, he.hx, T.cE, T.n4, lE4 .., _, rfl, y, CE, dy, _, _, rfl, hf.hx, T.cE, T.n4, lE4 .., dI (cE ns), dI (cE ms), dp_ints (.of he.h5), dp_ints (.of hf.h5), shaped_ints _, shaped_ints _, ?_⟩
          rw [eqv_ints]
          have e : decide (cE ns = cE ms) = decide (EqE ns ms) := decide_eq_decide.mpr ⟨fun h => ⟨c1, c2, c3, h⟩, fun h => h.2.2.2⟩
          rw [e]
          exact q
        · refine ⟨false, eqvF c3, iteF ?_⟩
          rw [decide_eq_false (fun h => c3 h.2.2.1)] at q
          exact q
      · refine ⟨_, rfl, x, CE, dx, _, _, rfl, he.hx, T.cE, T.n2, lE2 .., _, rfl, y, CE, dy, _, _, rfl, hf.hx, T.cE, T.n2, lE2 .., dP (cS ns), dP (cS ms), d3, e3, shaped_dP _, shaped_dP _, true, ?_, iteT ?_⟩
        · rw [eqv_dP, decide_eq_false c2]
          rfl
        rw [decide_eq_false (fun h => c2 h.2.1)] at q
        exact q
    · refine ⟨_, rfl, x, CE, dx, _, _, rfl, he.hx, T.cE, T.n1, lE1 .., _, rfl, y, CE, dy, _, _, rfl, hf.hx, T.cE, T.n1, lE1 .., rfl, true, nT (fun z => c1 (V.int.inj z)), iteT ?_⟩
      rw [decide_eq_false (fun h => c1 h.1)] at q
      exact q
end
section
variable {P : Program} {w : World} {K : PySem.W.Frag} {mg : Str → Option Value} {base : Heap} {CE : Addr}
/-- x + y, x == y, x != y, len(x) -/
theorem addE {H : Hp} {x y : Addr} {ns ms : List Int} {Q : VK} (hx : EffX CE H x ns) (hy : EffX CE H y ms) (pc : Piece (ns ++ ms)) (q : ∀ H' z, Same H H' → EffX CE H' z (ns ++ ms) → Q (.ref z) H') : rAddO CE (spAdd CE) (.ref x) (.ref y) H Q := by
  obtain ⟨dx, a1, a3, a4, a5, ps, G, E, he⟩ := id hx
  obtain ⟨dy, b1, b3, b4, b5, qs, G', E', hf⟩ := id hy
  exact ⟨x, y, dx, dy, _, _, rfl, rfl, he.hx, hf.hx, x, y, ns, ms, rfl, hx, hy, pc, q⟩
theorem eqE {H : Hp} {x y : Addr} {ns ms : List Int} {Q : VK} (hx : EffX CE H x ns) (hy : EffX CE H y ms) (q : Q (.bl (decide (EqE ns ms))) H) : rAddO CE (spEqE CE) (.ref x) (.ref y) H Q := by
  obtain ⟨dx, a1, a3, a4, a5, ps, G, E, he⟩ := id hx
  obtain ⟨dy, b1, b3, b4, b5, qs, G', E', hf⟩ := id hy
  exact ⟨x, y, dx, dy, _, _, rfl, rfl, he.hx, hf.hx, x, y, ns, ms, rfl, hx, hy, q⟩
theorem neE {H : Hp} {x y : Addr} {ns ms : List Int} {Q : VK} (hx : EffX CE H x ns) (hy : EffX CE H y ms) (q : Q (.bl (!decide (EqE ns ms))) H) : rNeO CE (spEqE CE) (.ref x) (.ref y) H Q := by
  obtain ⟨dx, a1, a3, a4, a5, ps, G, E, he⟩ := id hx
  obtain ⟨dy, b1, b3, b4, b5, qs, G', E', hf⟩ := id hy
  exact ⟨x, y, dx, dy, _, _, rfl, rfl, he.hx, hf.hx, x, y, ns, ms, rfl, hx, hy, _, rfl, q⟩
end
open L2.DX
theorem Piece.left {a b : List Int} (h : Piece (a ++ b)) : Piece a := by
  have e := h.cut 0 a.length
  rw [List.take_left, List.drop_zero] at e
  exact e
theorem Piece.right {a b : List Int} (h : Piece (a ++ b)) : Piece b := by
  have e := h.cut a.length (a ++ b).length
  rw [List.take_length, List.drop_left] at e
  exact e
/-- .. apart from the list at D that is being made -/
def EffD (CE D : Addr) (H : Hp) (x : Addr) (ns : List Int) : Prop := ∃ dx a1 a3 a4 a5 ps G E, Eff CE H x dx a1 a3 a4 a5 ns ps G E ∧ a1 ≠ D ∧ a3 ≠ D ∧ a4 ≠ D ∧ a5 ≠ D
section
variable {CE D : Addr} {H H' : Hp} {x r : Addr} {ns : List Int}
theorem EffD.same (h : EffD CE D H x ns) (s : Same H H') : EffD CE D H' x ns := by
  obtain ⟨dx, a1, a3, a4, a5, ps, G, E, he, n⟩ := h
  exact ⟨dx, a1, a3, a4, a5, ps, G, E, he.same s, n⟩
theorem EffD.put {xs ys : List V} (h : EffD CE D H x ns) (hD : H D = some (.lst xs)) : EffD CE D (upd H D (.lst ys)) x ns := by
  obtain ⟨dx, a1, a3, a4, a5, ps, G, E, he, n1, n3, n4, n5⟩ := h
  exact ⟨dx, a1, a3, a4, a5, ps, G, E, he.mut hD n1 n3 n4 n5, n1, n3, n4, n5⟩
theorem EffD.toX (h : EffD CE D H x ns) : EffX CE H x ns := by
  obtain ⟨dx, a1, a3, a4, a5, ps, G, E, he, _⟩ := h
  exact ⟨dx, a1, a3, a4, a5, ps, G, E, he⟩
theorem up2 {dx : Addr} {b : Addr} {o : HO} (nx : H x = none) (ndx : H dx = none) (e : H b = some o) : (upd (upd H dx (.own x)) x (.ins CE dx [])) b = some o := by
  rw [upd_ne (ne_of_none e nx), upd_ne (ne_of_none e ndx)]
  exact e
theorem same2 {dx : Addr} (nx : H x = none) (ndx : H dx = none) (bt : But x (upd (upd H dx (.own x)) x (.ins CE dx [])) H') : Same H H' := fun y o e => bt y o (ne_of_none e nx) (up2 nx ndx e)
theorem EffX.at_ (h : EffX CE H x ns) : ∃ dx fs, H x = some (.ins CE dx fs) := by
  obtain ⟨dx, a1, a3, a4, a5, ps, G, E, he⟩ := h
  exact ⟨dx, _, he.hx⟩
end
def spInitN (CE : Addr) : Sp := fun vs H Q _ => ∃ (x dx a : Addr) (ns : List Int), vs = [.ref x, .ref a] ∧ H a = some (.lst (ns.map V.int)) ∧ Piece ns ∧ H x = some (.ins CE dx []) ∧ ∀ H', But x H H' → (∀ D o, H D = some o → EffD CE D H' x ns) → Q .non H'
theorem init_n {CE : Addr} (vs : List V) (H : Hp) (Q : VK) (E : XK) (h : spInitN CE vs H Q E) : spInit CE vs H Q E := by
  obtain ⟨x, dx, a, ns, rfl, ha, pc, hx, q⟩ := h
  refine ⟨x, dx, a, ns, rfl, ha, pc, hx, fun H' a1 a3 a4 a5 ps G E he bt f1 f3 f4 f5 => q H' bt fun D o hD => ?_⟩
  have nD : ∀ {b : Addr}, H b = none → b ≠ D := fun {b} n e => by
    rw [e, hD] at n
    cases n
  exact ⟨dx, a1, a3, a4, a5, ps, G, E, he, nD f1, nD f3, nD f4, nD f5⟩
section
variable {P : Program} {w : World} {K : PySem.W.Frag} {mg : Str → Option Value} {base : Heap} {k : Nat} {n : Str} {sp sp' : Sp} {C : Addr}
theorem FnOk.weaken {CX : CXT} {f : Addr} {fd : FuncData} {ps : List Str} (F : FnOk P w K mg base CX k f fd ps sp) (h : ∀ vs H Q E, sp' vs H Q E → sp vs H Q E) : FnOk P w K mg base CX k f fd ps sp' :=
  ⟨fun vs H Q E q => F.len vs H Q E (h vs H Q E q), fun A out s H ar us vs Q E hr en bd rv q => F.run A out s H ar us vs Q E hr en bd rv (h vs H Q E q)⟩
theorem gc_weaken (c : Gc P w K mg base k n sp) (h : ∀ vs H Q E, sp' vs H Q E → sp vs H Q E) : Gc P w K mg base k n sp' := by
  obtain ⟨f, fd, ps, F, r⟩ := c.ex
  exact ⟨f, fd, ps, FnG.weaken F h, r⟩
theorem mak_weaken (c : Mak P w K mg base k n C sp) (h : ∀ vs H Q E, sp' vs H Q E → sp vs H Q E) : Mak P w K mg base k n C sp' := by
  obtain ⟨f, fd, ps, M, F, r⟩ := c.ex
  exact ⟨f, fd, ps, M, FnOk.weaken F h, r⟩
end
theorem cutN {log : List Int} {a b : Nat} (h1 : a ≤ b) (h2 : b ≤ log.length) : cutV (log.map V.int) (some (a : Int)) (some (b : Int)) = ((log.take b).drop a).map V.int := by
  have hl : (log.map V.int).length = log.length := List.length_map ..
  unfold cutV
  rw [HT.sIx_nat, HT.sIx_nat, hl, Nat.min_eq_left h2, Nat.min_eq_left (show a ≤ log.length by omega), List.map_drop, List.map_take, List.drop_take]
theorem cut_dropN {log : List Int} {a : Nat} (h : a ≤ log.length) : cutV (log.map V.int) (some (a : Int)) none = (log.drop a).map V.int := by
  unfold cutV
  rw [HT.sIx_none, HT.sIx_nat, Nat.min_eq_left (by rw [List.length_map]; exact h), List.map_drop]
  exact List.take_of_length_le (by rw [List.length_drop]; omega)
end L69
set_option Elab.async false
set_option linter.all false
set_option maxRecDepth 100000
namespace L69
open PySem PySem.Spec PyProof.Rows L2 Lp
section
variable {P : Program} {w : World} {K : PySem.W.Frag} {mg : Str → Option Value} {base : Heap}
def presL (ns : List Int) (n : Nat) : List V := (List.range (n + 1)).map fun j => V.int (runP (ns.take j)).1
theorem presL_succ (ns : List Int) (n : Nat) : presL ns (n + 1) = presL ns n ++ [.int (runP (ns.take (n + 1))).1] := by
  unfold presL
  rw [List.range_succ, List.map_append]
  rfl
theorem presL_last (ns : List Int) (n : Nat) : atI (presL ns n) (-1) = some (.int (runP (ns.take n)).1) := by
  unfold presL
  rw [List.range_succ, List.map_append]
  exact atI_last _ _
theorem presL_len (ns : List Int) (n : Nat) : (presL ns n).length = n + 1 := by
  unfold presL
  rw [List.length_map, List.length_range]
/-! ### replay -/
def spReplay (K : PySem.W.Frag) : Sp := fun vs H Q _ => ∃ (a : Addr) (ns : List Int), vs = [.ref a] ∧ SqL K H a (ns.map V.int) ∧ Hist ns ∧
  ∀ H' t p d kvs, Same H H' → H' t = some (.tup [.ref p, .ref d]) → H' p = some (.lst (presL ns ns.length)) → H' d = some (.dK kvs) → Saves kvs ns (runP ns).2 → Q (.ref t) H'
end
theorem run_RP {ns : List Int} (hh : Hist ns) : ∀ i, i ≤ ns.length → (runR (ns.take i)).1 = (runP (ns.take i)).1 ∧ ∀ k ∈ ns.take i, 0 < k → lk (runR (ns.take i)).2 k = some ((runP (ns.take i)).2 k)
  | 0, _ => ⟨rfl, fun k hk => by simp at hk⟩
  | i + 1, h => by
    have he : ns[i]? = some ns[i] := List.getElem?_eq_getElem h
    generalize ns[i] = e at he
    obtain ⟨i1, i2⟩ := run_RP hh i (by omega)
    have h0 := (hh.rng e (mem_get he)).1
    have eR : runR (ns.take (i + 1)) = stepR (runR (ns.take i)) e := by rw [take_get he, runR_snoc]
    rw [eR, runP_succ he]
    unfold stepR stepP
    by_cases hp : 0 < e
    · rw [if_pos hp, if_pos hp]
      refine ⟨rfl, fun k hk k0 => ?_⟩
      show lk ((runR (ns.take i)).2 ++ [(e, (runR (ns.take i)).1)]) k = some (putF1 _ _ _ k)
      rcases (mem_take_succ he).mp hk with m | rfl
      · have ne : k ≠ e := fun z => not_mem_take hh.nd he (z ▸ m)
        rw [lk_append, i2 k m k0]
        unfold putF1
        rw [if_neg ne]
        rfl
      · have nk : k ∉ (runR (ns.take i)).2.map (·.1) := fun z => not_mem_take hh.nd he (keysR_mem.mp z).1
        rw [lk_append, lk_none nk, lk_cons, if_pos rfl, i1]
        unfold putF1
        rw [if_pos rfl]
        rfl
    · rw [if_neg hp, if_neg hp]
      have m := hh.ord i e he (by omega)
      refine ⟨?_, fun k hk k0 => ?_⟩
      · show (lk _ _).getD e = _
        rw [i2 (-e) m (by omega)]
        rfl
      · rcases (mem_take_succ he).mp hk with m | rfl
        · exact i2 k m k0
        · omega
theorem runRP {ns : List Int} (hh : Hist ns) : (runR ns).1 = (runP ns).1 ∧ ∀ k ∈ ns, 0 < k → lk (runR ns).2 k = some ((runP ns).2 k) := by
  have h := run_RP hh ns.length (Nat.le_refl _)
  rw [List.take_length] at h
  exact h
theorem presRL {ns : List Int} (hh : Hist ns) : presR ns ns.length = presL ns ns.length := by
  unfold presR presL
  refine List.map_congr_left fun j hj => ?_
  rw [(run_RP hh j (by have := List.mem_range.mp hj; omega)).1]
theorem replay_p {K : PySem.W.Frag} (vs : List V) (H : Hp) (Q : VK) (E : XK) (h : spReplay K vs H Q E) : spReplayR K vs H Q E := by
  obtain ⟨a, ns, rfl, hS, hh, q⟩ := h
  refine ⟨a, ns, rfl, hS, hh, fun H' t p d s ht hp hd => q H' t p d _ s ht (by rw [← presRL hh]; exact hp) hd fun k hk k0 => ?_⟩
  rw [valV_ent, (runRP hh).2 k hk k0]
  rfl
theorem sv_at {ns : List Int} (hh : Hist ns) {i : Nat} {k : Int} (hi : ns[i]? = some k) (h0 : 0 < k) : ∀ d, i + 1 + d ≤ ns.length → (runP (ns.take (i + 1 + d))).2 k = (runP (ns.take i)).1
  | 0, _ => by
    show (runP (ns.take (i + 1))).2 k = _
    rw [runP_succ hi]
    unfold stepP
    rw [if_pos h0]
    exact if_pos rfl
  | d + 1, hd => by
    have ih := sv_at hh hi h0 d (by omega)
    have hlt : i + 1 + d < ns.length := by omega
    have he : ns[i + 1 + d]? = some ns[i + 1 + d] := List.getElem?_eq_getElem hlt
    generalize ns[i + 1 + d] = e at he
    have hne : k ≠ e := fun z => by
      subst z
      have := nd_ix hh.nd hi he
      omega
    show (runP (ns.take (i + 1 + d + 1))).2 k = _
    rw [runP_succ he, ← ih]
    unfold stepP
    by_cases hp : 0 < e
    · rw [if_pos hp]
      exact if_neg hne
    · rw [if_neg hp]
/-! ### fates, event by event -/
inductive Ft
  | pres
  | saved (k : Int)
  | lost (i : Nat)
def pr (ns : List Int) (i : Nat) : Int := (runP (ns.take i)).1
def sv (ns : List Int) (i : Nat) : Int → Int := (runP (ns.take i)).2
def fate (ns : List Int) : Nat → Int → Option Ft
  | 0, v => if v = 0 then some .pres else none
  | i + 1, v => if v = pr ns (i + 1) then some .pres else if v = pr ns i then (match ns[i]? with | some e => some (if 0 < e then .saved e else .lost i) | none => none) else fate ns i v
def keysL (ns : List Int) (i : Nat) : List Int := 0 :: (ns.take i).filter fun e => decide (0 < e)
theorem fate_succ {ns : List Int} {i : Nat} {e : Int} (he : ns[i]? = some e) (v : Int) : fate ns (i + 1) v = if v = pr ns (i + 1) then some .pres else if v = pr ns i then some (if 0 < e then .saved e else .lost i) else fate ns i v := by
  show (if v = pr ns (i + 1) then some Ft.pres else if v = pr ns i then (match ns[i]? with | some e => some (if 0 < e then Ft.saved e else .lost i) | none => none) else fate ns i v) = _
  rw [he]
theorem fate_pr (ns : List Int) : ∀ i, fate ns i (pr ns i) = some .pres
  | 0 => if_pos rfl
  | i + 1 => if_pos rfl
theorem keys_succ {ns : List Int} {i : Nat} {e : Int} (he : ns[i]? = some e) : keysL ns (i + 1) = keysL ns i ++ if 0 < e then [e] else [] := by
  unfold keysL
  rw [take_get he, List.filter_append, List.filter_cons]
  by_cases h : 0 < e <;> simp [h]
theorem pr_start {ns : List Int} {i : Nat} {e : Int} (he : ns[i]? = some e) (h0 : 0 < e) : pr ns (i + 1) = e ∧ sv ns (i + 1) = putF1 (sv ns i) e (pr ns i) := by
  unfold pr sv
  rw [runP_succ he]
  unfold stepP
  rw [if_pos h0]
  exact ⟨rfl, rfl⟩
theorem pr_stop {ns : List Int} {i : Nat} {e : Int} (he : ns[i]? = some e) (h0 : e < 0) : pr ns (i + 1) = sv ns i (-e) ∧ sv ns (i + 1) = sv ns i := by
  unfold pr sv
  rw [runP_succ he]
  unfold stepP
  rw [if_neg (by omega)]
  exact ⟨rfl, rfl⟩
theorem cnt_upd {a : Int} {f g : Int → Nat} (w : Nat) : ∀ {l : List Int}, l.Nodup → a ∈ l → (∀ v ∈ l, v ≠ a → f v = g v) → l.countP (fun v => g v == w) + (if f a = w then 1 else 0) = l.countP (fun v => f v == w) + (if g a = w then 1 else 0)
  | x :: r, nd, ha, h => by
    obtain ⟨n1, n2⟩ := List.nodup_cons.mp nd
    rw [List.countP_cons, List.countP_cons]
    by_cases e : x = a
    · subst e
      have er : r.countP (fun v => g v == w) = r.countP (fun v => f v == w) := List.countP_congr fun v hv => by rw [h v (List.mem_cons_of_mem _ hv) (fun z => n1 (z ▸ hv))]
      rw [er]
      by_cases h1 : f x = w <;> by_cases h2 : g x = w <;> simp [h1, h2]
    · have ih := cnt_upd (f := f) (g := g) w n2 ((List.mem_cons.mp ha).resolve_left fun z => e z.symm) fun v hv => h v (List.mem_cons_of_mem _ hv)
      rw [h x List.mem_cons_self e]
      omega
theorem cnt_upd2 {a : Int} {f g : Int → Nat} (w : Nat) {l : List Int} {x y : Nat} (nd : l.Nodup) (ha : a ∈ l) (h : ∀ v ∈ l, v ≠ a → f v = g v) (hx : f a = x) (hy : g a = y) : l.countP (fun v => g v == w) + (if x = w then 1 else 0) = l.countP (fun v => f v == w) + (if y = w then 1 else 0) := by
  have := cnt_upd w nd ha h
  rw [hx, hy] at this
  exact this
def wd : Option Ft → Nat
  | some .pres => 0
  | some (.saved _) => 1
  | some (.lost _) => 2
  | none => 3
def cnt (ns : List Int) (i w : Nat) : Nat := (keysL ns i).countP fun v => wd (fate ns i v) == w
structure Fs (ns : List Int) (i : Nat) : Prop where
  run : ∀ k ∈ ns.take i, 0 < k → -k ∉ ns.take i → fate ns i (sv ns i k) = some (.saved k)
  key : ∀ v, fate ns i v ≠ none ↔ v ∈ keysL ns i
  nd : (keysL ns i).Nodup
  cp : cnt ns i 0 = 1
  cs : cnt ns i 1 + i + 2 = 2 * (keysL ns i).length
  cl : cnt ns i 2 + (keysL ns i).length = i + 1
theorem fs_all {ns : List Int} (hh : Hist ns) : ∀ i, i ≤ ns.length → Fs ns i
  | 0, _ => by
    refine ⟨fun k hk => absurd hk (by simp), fun v => ?_, by show ([0] : List Int).Nodup; decide, rfl, rfl, rfl⟩
    show (if v = 0 then some Ft.pres else none) ≠ none ↔ v ∈ [0]
    by_cases e : v = 0 <;> simp [e]
  | i + 1, hi => by
    have F := fs_all hh i (by omega)
    have he : ns[i]? = some ns[i] := List.getElem?_eq_getElem (by omega)
    generalize ns[i] = e at he
    have e0 := (hh.rng e (mem_get he)).1
    have pk : pr ns i ∈ keysL ns i := (F.key _).mp (by rw [fate_pr]; exact fun z => nomatch z)
    have pne : ∀ {v k}, fate ns i v = some (.saved k) → v ≠ pr ns i := fun h z => by
      rw [z, fate_pr] at h
      cases h
    by_cases h0 : 0 < e
    · obtain ⟨p1, p2⟩ := pr_start he h0
      have enk : e ∉ keysL ns i := fun z => by
        rcases List.mem_cons.mp z with z | z
        · omega
        · exact not_mem_take hh.nd he (List.mem_filter.mp z).1
      have ks : keysL ns (i + 1) = keysL ns i ++ [e] := by rw [keys_succ he, if_pos h0]
      have fe : fate ns (i + 1) e = some .pres := by rw [fate_succ he, p1, if_pos rfl]
      have fp : fate ns (i + 1) (pr ns i) = some (.saved e) := by
        rw [fate_succ he, p1, if_neg (show ¬ pr ns i = e from fun z => enk (z ▸ pk)), if_pos rfl, if_pos h0]
      have fo : ∀ v, v ≠ e → v ≠ pr ns i → fate ns (i + 1) v = fate ns i v := fun v h1 h2 => by rw [fate_succ he, p1, if_neg h1, if_neg h2]
      have cu := fun w => cnt_upd2 (a := pr ns i) (f := fun v => wd (fate ns i v)) (g := fun v => wd (fate ns (i + 1) v)) (x := 0) (y := 1) w F.nd pk (fun v hv hne => by rw [fo v (fun z => enk (z ▸ hv)) hne]) (by rw [fate_pr]; rfl) (by rw [fp]; rfl)
      have ca : ∀ w, cnt ns (i + 1) w = (keysL ns i).countP (fun v => wd (fate ns (i + 1) v) == w) + if w = 0 then 1 else 0 := fun w => by
        unfold cnt
        rw [ks, List.countP_append, List.countP_cons, List.countP_nil, fe]
        by_cases z : w = 0
        · subst z; rfl
        · rw [if_neg z, if_neg]
          simp [wd]
          omega
      have kl : (keysL ns (i + 1)).length = (keysL ns i).length + 1 := by rw [ks, List.length_append]; rfl
      obtain ⟨B, hB⟩ : ∃ B : Nat → Nat, ∀ w, B w = (keysL ns i).countP (fun v => wd (fate ns (i + 1) v) == w) := ⟨_, fun _ => rfl⟩
      have c0 : B 0 + 1 = cnt ns i 0 + 0 := by rw [hB]; exact cu 0
      have c1 : B 1 + 0 = cnt ns i 1 + 1 := by rw [hB]; exact cu 1
      have c2 : B 2 + 0 = cnt ns i 2 + 0 := by rw [hB]; exact cu 2
      have a0 : cnt ns (i + 1) 0 = B 0 + 1 := by rw [hB]; exact ca 0
      have a1 : cnt ns (i + 1) 1 = B 1 + 0 := by rw [hB]; exact ca 1
      have a2 : cnt ns (i + 1) 2 = B 2 + 0 := by rw [hB]; exact ca 2
      have f0 := F.cp
      have f1 := F.cs
      have f2 := F.cl
      refine ⟨fun k hk hp hn => ?_, fun v => ?_, ?_, ?_, ?_, ?_⟩
      · rw [p2]
        unfold putF1
        by_cases z : k = e
        · rw [if_pos z, fp, z]
        · rw [if_neg z]
          have r := F.run k (((mem_take_succ he).mp hk).resolve_right z) hp fun m => hn ((mem_take_succ he).mpr (.inl m))
          rw [fo _ (fun y => enk ((F.key _).mp (by rw [← y, r]; exact fun z => nomatch z))) (pne r)]
          exact r
      · rw [ks, List.mem_append, List.mem_singleton]
        by_cases z : v = e
        · rw [z, fe]
          exact ⟨fun _ => .inr rfl, fun _ y => nomatch y⟩
        · by_cases z2 : v = pr ns i
          · rw [z2, fp]
            exact ⟨fun _ => .inl pk, fun _ y => nomatch y⟩
          · rw [fo v z z2, F.key v]
            exact ⟨.inl, fun h => h.resolve_right z⟩
      · rw [ks]
        exact nodup_snoc F.nd enk
      · rw [a0]
        omega
      · rw [a1, kl]
        omega
      · rw [a2, kl]
        omega
    · have hneg : e < 0 := by omega
      obtain ⟨p1, p2⟩ := pr_stop he hneg
      have r := F.run (-e) (hh.ord i e he hneg) (by omega) (by rw [Int.neg_neg]; exact not_mem_take hh.nd he)
      have hk : sv ns i (-e) ∈ keysL ns i := (F.key _).mp (by rw [r]; exact fun z => nomatch z)
      have ks : keysL ns (i + 1) = keysL ns i := by rw [keys_succ he, if_neg h0, List.append_nil]
      have fe : fate ns (i + 1) (sv ns i (-e)) = some .pres := by rw [fate_succ he, p1, if_pos rfl]
      have fp : fate ns (i + 1) (pr ns i) = some (.lost i) := by
        rw [fate_succ he, p1, if_neg (show ¬ pr ns i = sv ns i (-e) from fun z => pne r z.symm), if_pos rfl, if_neg h0]
      have fo : ∀ v, v ≠ sv ns i (-e) → v ≠ pr ns i → fate ns (i + 1) v = fate ns i v := fun v h1 h2 => by rw [fate_succ he, p1, if_neg h1, if_neg h2]
      have cu := fun w => cnt_upd2 (a := pr ns i) (f := fun v => wd (fate ns i v)) (g := fun v => if v = pr ns i then 2 else wd (fate ns i v)) (x := 0) (y := 2) w F.nd pk (fun v hv hne => by rw [if_neg hne]) (by rw [fate_pr]; rfl) (if_pos rfl)
      have cv := fun w => cnt_upd2 (a := sv ns i (-e)) (f := fun v => if v = pr ns i then 2 else wd (fate ns i v)) (g := fun v => wd (fate ns (i + 1) v)) (x := 1) (y := 0) w F.nd hk (fun v hv hne => by
        by_cases z : v = pr ns i
        · rw [if_pos z, z, fp]
          rfl
        · rw [if_neg z, fo v hne z]) (by rw [if_neg (pne r), r]; rfl) (by rw [fe]; rfl)
      obtain ⟨M, hM⟩ : ∃ M : Nat → Nat, ∀ w, M w = (keysL ns i).countP (fun v => (if v = pr ns i then 2 else wd (fate ns i v)) == w) := ⟨_, fun _ => rfl⟩
      obtain ⟨B, hB⟩ : ∃ B : Nat → Nat, ∀ w, B w = (keysL ns i).countP (fun v => wd (fate ns (i + 1) v) == w) := ⟨_, fun _ => rfl⟩
      have c0 : M 0 + 1 = cnt ns i 0 + 0 := by rw [hM]; exact cu 0
      have c1 : M 1 + 0 = cnt ns i 1 + 0 := by rw [hM]; exact cu 1
      have c2 : M 2 + 0 = cnt ns i 2 + 1 := by rw [hM]; exact cu 2
      have a0 : B 0 + 0 = M 0 + 1 := by rw [hM, hB]; exact cv 0
      have a1 : B 1 + 1 = M 1 + 0 := by rw [hM, hB]; exact cv 1
      have a2 : B 2 + 0 = M 2 + 0 := by rw [hM, hB]; exact cv 2
      have b0 : cnt ns (i + 1) 0 = B 0 := by rw [hB]; unfold cnt; rw [ks]
      have b1 : cnt ns (i + 1) 1 = B 1 := by rw [hB]; unfold cnt; rw [ks]
      have b2 : cnt ns (i + 1) 2 = B 2 := by rw [hB]; unfold cnt; rw [ks]
      have f0 := F.cp
      have f1 := F.cs
      have f2 := F.cl
      refine ⟨fun k hk2 hp hn => ?_, fun v => ?_, by rw [ks]; exact F.nd, ?_, ?_, ?_⟩
      · rw [p2]
        have kne : k ≠ -e := fun z => hn ((mem_take_succ he).mpr (.inr (by omega)))
        have r2 := F.run k (((mem_take_succ he).mp hk2).resolve_right (by omega)) hp fun m => hn ((mem_take_succ he).mpr (.inl m))
        rw [fo _ (fun y => ?_) (pne r2)]
        · exact r2
        · rw [y, r] at r2
          injection r2 with r2
          injection r2 with r2
          exact kne r2.symm
      · rw [ks]
        by_cases z : v = sv ns i (-e)
        · rw [z, fe]
          exact ⟨fun _ => hk, fun _ y => nomatch y⟩
        · by_cases z2 : v = pr ns i
          · rw [z2, fp]
            exact ⟨fun _ => pk, fun _ y => nomatch y⟩
          · rw [fo v z z2]
            exact F.key v
      · omega
      · rw [ks]
        omega
      · rw [ks]
        omega
theorem lost_stays {ns : List Int} (hh : Hist ns) {v : Int} {a : Nat} {i : Nat} (h : fate ns i v = some (.lost a)) : ∀ d, i + d ≤ ns.length → fate ns (i + d) v = some (.lost a)
  | 0, _ => h
  | d + 1, hd => by
    have ih := lost_stays hh h d (by omega)
    have F := fs_all hh (i + d) (by omega)
    have he : ns[i + d]? = some ns[i + d] := List.getElem?_eq_getElem (by omega)
    generalize ns[i + d] = e at he
    have e0 := (hh.rng e (mem_get he)).1
    show fate ns (i + d + 1) v = _
    have h1 : v ≠ pr ns (i + d) := fun z => by
      rw [z, fate_pr] at ih
      cases ih
    have h2 : v ≠ pr ns (i + d + 1) := fun z => by
      by_cases h0 : 0 < e
      · rw [(pr_start he h0).1] at z
        have := (F.key v).mp (by rw [ih]; exact fun z => nomatch z)
        rw [z] at this
        rcases List.mem_cons.mp this with z | z
        · omega
        · exact not_mem_take hh.nd he (List.mem_filter.mp z).1
      · have hneg : e < 0 := by omega
        have r := F.run (-e) (hh.ord _ e he hneg) (by omega) (by rw [Int.neg_neg]; exact not_mem_take hh.nd he)
        rw [(pr_stop he hneg).1] at z
        rw [z, r] at ih
        cases ih
    rw [fate_succ he, if_neg h2, if_neg h1]
    exact ih
theorem fate_last {ns : List Int} : ∀ {i : Nat} {v : Int} {f : Ft}, i ≤ ns.length → fate ns i v = some f → ∃ m, m ≤ i ∧ pr ns m = v ∧ (∀ j, m < j → j ≤ i → pr ns j ≠ v) ∧ ((m = i ∧ f = .pres) ∨ ∃ e, m < i ∧ ns[m]? = some e ∧ f = if 0 < e then .saved e else .lost m)
  | 0, v, f, _, h => by
    unfold fate at h
    by_cases e : v = 0
    · rw [if_pos e] at h
      cases h
      exact ⟨0, Nat.le_refl _, e.symm, fun j h1 h2 => by omega, .inl ⟨rfl, rfl⟩⟩
    · rw [if_neg e] at h
      cases h
  | i + 1, v, f, hi, h => by
    have he : ns[i]? = some ns[i] := List.getElem?_eq_getElem (by omega)
    generalize ns[i] = e at he
    rw [fate_succ he] at h
    by_cases h1 : v = pr ns (i + 1)
    · rw [if_pos h1] at h
      cases h
      exact ⟨i + 1, Nat.le_refl _, h1.symm, fun j h1 h2 => by omega, .inl ⟨rfl, rfl⟩⟩
    · rw [if_neg h1] at h
      by_cases h2 : v = pr ns i
      · rw [if_pos h2] at h
        cases h
        exact ⟨i, by omega, h2.symm, fun j y1 y2 => by
          have : j = i + 1 := by omega
          rw [this]
          exact fun z => h1 z.symm, .inr ⟨e, by omega, he, rfl⟩⟩
      · rw [if_neg h2] at h
        obtain ⟨m, m1, m2, m3, m4⟩ := fate_last (by omega) h
        refine ⟨m, by omega, m2, fun j y1 y2 => ?_, ?_⟩
        · by_cases z : j = i + 1
          · rw [z]
            exact fun z => h1 z.symm
          · exact m3 j y1 (by omega)
        · rcases m4 with ⟨rfl, rfl⟩ | ⟨e', z1, z2, z3⟩
          · exact absurd m2.symm h2
          · exact .inr ⟨e', by omega, z2, z3⟩
theorem fate_saved {ns : List Int} (hh : Hist ns) {v e : Int} (h : fate ns ns.length v = some (.saved e)) : 0 < e ∧ e ∈ ns ∧ -e ∉ ns ∧ (runP ns).2 e = v := by
  obtain ⟨m, _, m2, m3, m4⟩ := fate_last (Nat.le_refl _) h
  rcases m4 with ⟨_, z⟩ | ⟨x, m5, m6, z⟩
  · cases z
  · by_cases h0 : 0 < x
    · rw [if_pos h0] at z
      cases z
      have sv0 : ∀ d, m + 1 + d ≤ ns.length → (runP (ns.take (m + 1 + d))).2 e = v := fun d hd => (sv_at hh m6 h0 d hd).trans m2
      refine ⟨h0, mem_get m6, fun hn => ?_, ?_⟩
      · obtain ⟨j, hj, ej⟩ := List.mem_iff_getElem.mp hn
        have gj : ns[j]? = some (-e) := by rw [List.getElem?_eq_getElem hj, ej]
        have o := hh.ord j (-e) gj (by omega)
        rw [Int.neg_neg] at o
        obtain ⟨i2, hi2, e2⟩ := List.mem_iff_getElem.mp o
        rw [List.length_take] at hi2
        have g2 : ns[i2]? = some e := by rw [List.getElem?_eq_getElem (by omega), ← e2, List.getElem_take]
        have em := nd_ix hh.nd g2 m6
        have mj : m + 1 + (j - (m + 1)) = j := by omega
        have sj := sv0 (j - (m + 1)) (by omega)
        rw [mj] at sj
        have p := (pr_stop gj (by omega)).1
        rw [Int.neg_neg] at p
        exact m3 (j + 1) (by omega) (by omega) (p.trans sj)
      · have z := sv0 (ns.length - (m + 1)) (by omega)
        rwa [show m + 1 + (ns.length - (m + 1)) = ns.length by omega, List.take_length] at z
    · rw [if_neg h0] at z
      cases z
theorem fate_run {ns : List Int} (hh : Hist ns) {k : Int} (h0 : 0 < k) (h1 : k ∈ ns) (h2 : -k ∉ ns) : fate ns ns.length ((runP ns).2 k) = some (.saved k) := by
  have F := fs_all hh ns.length (Nat.le_refl _)
  have z := F.run k (by rw [List.take_length]; exact h1) h0 (by rw [List.take_length]; exact h2)
  unfold sv at z
  rwa [List.take_length] at z
theorem fate_pres {ns : List Int} {v : Int} (h : fate ns ns.length v = some .pres) : v = (runP ns).1 := by
  obtain ⟨m, _, m2, _, m4⟩ := fate_last (Nat.le_refl _) h
  rcases m4 with ⟨rfl, _⟩ | ⟨x, _, _, z⟩
  · unfold pr at m2
    rw [List.take_length] at m2
    exact m2.symm
  · split at z <;> cases z
theorem fate_some {ns : List Int} (hh : Hist ns) {v : Int} (h : v = 0 ∨ 0 < v ∧ v ∈ ns) : ∃ f, fate ns ns.length v = some f := by
  have F := fs_all hh ns.length (Nat.le_refl _)
  have k : v ∈ keysL ns ns.length := by
    unfold keysL
    rw [List.take_length]
    rcases h with rfl | ⟨h0, h1⟩
    · exact List.mem_cons_self
    · exact List.mem_cons_of_mem _ (List.mem_filter.mpr ⟨h1, decide_eq_true h0⟩)
  cases e : fate ns ns.length v with
  | none => exact absurd e ((F.key v).mpr k)
  | some f => exact ⟨f, rfl⟩
theorem fate_now (ns : List Int) : fate ns ns.length (runP ns).1 = some .pres := by
  have z := fate_pr ns ns.length
  unfold pr at z
  rwa [List.take_length] at z
def tupV : Ft → List V
  | .pres => [.str "present"]
  | .saved k => [.str "saved", .int k]
  | .lost i => [.str "lost", .int (i : Nat)]
theorem flat_ints (ns : List Int) : (ns.map V.int).all flatV = true := by
  rw [List.all_eq_true]
  intro v hv
  obtain ⟨n, _, rfl⟩ := List.mem_map.mp hv
  rfl
theorem eqV_int (a b : Int) : eqV (.int a) (.int b) = (a == b) := rfl
theorem inV_ints (x : Int) : ∀ ns : List Int, inV (.int x) (ns.map V.int) = decide (x ∈ ns)
  | [] => rfl
  | n :: r => by
    show (eqV (.int n) (.int x) || inV (.int x) (r.map V.int)) = _
    rw [inV_ints x r]
    show ((n == x) || decide (x ∈ r)) = _
    by_cases e : n = x
    · subst e
      simp
    · have e' : ¬ x = n := fun z => e z.symm
      simp [e, e']
def momL (ns : List Int) (v : Int) (i : Nat) : List Int := ((List.range i).filter fun j => decide (pr ns j = v)).map fun j : Nat => (j : Int)
theorem momL_succ (ns : List Int) (v : Int) (i : Nat) : momL ns v (i + 1) = momL ns v i ++ if pr ns i = v then [(i : Int)] else [] := by
  unfold momL
  rw [List.range_succ, List.filter_append, List.filter_cons, List.filter_nil]
  by_cases h : pr ns i = v <;> simp [h]
theorem momL_len (ns : List Int) (v : Int) (i : Nat) : (momL ns v i).length ≤ i := by
  unfold momL
  have h := List.length_filter_le (fun j => decide (pr ns j = v)) (List.range i)
  rw [List.length_range] at h
  rw [List.length_map]
  exact h
theorem momL_mem {ns : List Int} {v m : Int} {i : Nat} (h : m ∈ momL ns v i) : ∃ j : Nat, m = j ∧ j < i ∧ pr ns j = v := by
  obtain ⟨j, hj, rfl⟩ := List.mem_map.mp h
  obtain ⟨h1, h2⟩ := List.mem_filter.mp hj
  exact ⟨j, rfl, List.mem_range.mp h1, of_decide_eq_true h2⟩
theorem mem_momL {ns : List Int} {v : Int} {i j : Nat} (h : j < i) (e : pr ns j = v) : (j : Int) ∈ momL ns v i :=
  List.mem_map.mpr ⟨j, List.mem_filter.mpr ⟨List.mem_range.mpr h, decide_eq_true e⟩, rfl⟩
theorem presL_get {ns : List Int} {n i : Nat} {x : V} (h : (presL ns n)[i]? = some x) : x = .int (pr ns i) ∧ i ≤ n := by
  have hi := lt_get h
  rw [presL_len] at hi
  unfold presL at h
  rw [List.getElem?_map, List.getElem?_range (by omega)] at h
  cases h
  exact ⟨rfl, by omega⟩
section
variable {P : Program} {w : World} {K : PySem.W.Frag} {mg : Str → Option Value} {base : Heap}
/-! ### is_started -/
def spIsStarted (K : PySem.W.Frag) : Sp := fun vs H Q _ => ∃ (a : Addr) (ns : List Int) (v : Int), vs = [.ref a, .int v] ∧ SqL K H a (ns.map V.int) ∧ ∀ H', Same H H' → Q (.bl (decide (0 < v ∧ v ∈ ns))) H'
theorem ok_is_started {f : Addr} {fd : FuncData} (F : Fun K "is_started" "is_started" s_is_started f fd) (T_is_integer : Cal P w K mg base 1 "is_integer" spIsInt) : FnOk P w K mg base CX0 2 f fd ["history", "value"] (spIsStarted K) := by
  refine F.ok sc_is_started (fun vs H Q E h => ?_) (fun cdv A outer s H vs Q E hr h => ?_)
  · obtain ⟨a, ns, v, rfl, _⟩ := h
    rfl
  · obtain ⟨a, ns, v, rfl, hS, q⟩ := h
    refine ⟨_, (pss_one (ps_ret (pe_and (pe_c T_is_integer hr (by decide) (by rfl) (pa_cons (pv 1) pa_nil)) (pe_and (pe_cmpR op_gt (pv 1) pe_int (nomark _)) (pe_one (pe_cmpR op_in_seq (pv 1) (pv 0) (by rfl))))))), ?_⟩
    refine ⟨_, rfl, v, rfl, true, rfl, ?_⟩
    by_cases h0 : 0 < v
    · refine ⟨_, rfl, _, _, rfl, rfl, true, dT h0, ?_⟩
      refine ⟨_, rfl, _, rfl, a, _, rfl, .inl hS, rfl, flat_ints ns, ?_⟩
      rw [if_neg (fun z => nomatch z), inV_ints]
      have e : decide (v ∈ ns) = decide (0 < v ∧ v ∈ ns) := decide_eq_decide.mpr ⟨fun z => ⟨h0, z⟩, fun z => z.2⟩
      rw [e]
      exact q _ (.refl _)
    · refine ⟨_, rfl, _, _, rfl, rfl, false, dF h0, ?_⟩
      have z := q H (.refl _)
      rw [decide_eq_false (show ¬ (0 < v ∧ v ∈ ns) from fun z => h0 z.1)] at z
      exact z
/-! ### is_value_of -/
def spIsValue (K : PySem.W.Frag) : Sp := fun vs H Q _ => ∃ (a : Addr) (ns : List Int) (v : Int), vs = [.ref a, .int v] ∧ SqL K H a (ns.map V.int) ∧ (v = 0 ∨ 0 < v ∧ v ∈ ns) ∧ ∀ H', Same H H' → Q (.bl true) H'
theorem ok_is_value_of {f : Addr} {fd : FuncData} (F : Fun K "is_value_of" "is_value_of" s_is_value_of f fd) (T_is_started : Cal P w K mg base 2 "is_started" (spIsStarted K)) (T_is_integer : Cal P w K mg base 1 "is_integer" spIsInt) : FnOk P w K mg base CX0 3 f fd ["history", "value"] (spIsValue K) := by
  refine F.ok sc_is_value_of (fun vs H Q E h => ?_) (fun cdv A outer s H vs Q E hr h => ?_)
  · obtain ⟨a, ns, v, rfl, _⟩ := h
    rfl
  · obtain ⟨a, ns, v, rfl, hS, hv, q⟩ := h
    refine ⟨_, (pss_cons (ps_if (pt_val (pe_c T_is_started hr (by decide) (by rfl) (pa_cons (pv 0) (pa_cons (pv 1) pa_nil)))) (pss_one (ps_ret pe_bl)) pss_nil)
        (pss_one (ps_ret (pe_and (pe_c T_is_integer hr (by decide) (by rfl) (pa_cons (pv 1) pa_nil)) (pe_one (pe_cmpR op_eq (pv 1) pe_int (nomark _))))))), ?_⟩
    refine ⟨_, rfl, _, rfl, a, ns, v, rfl, hS, fun H1 s1 => ⟨_, rfl, ?_⟩⟩
    by_cases h0 : 0 < v ∧ v ∈ ns
    · rw [decide_eq_true h0]
      exact q _ s1
    · rw [decide_eq_false h0]
      refine ⟨_, rfl, v, rfl, true, rfl, ?_⟩
      have e := hv.resolve_right h0
      subst e
      exact ⟨_, rfl, rfl, q _ s1⟩
/-! ### fate_of -/
def spFate (K : PySem.W.Frag) : Sp := fun vs H Q _ => ∃ (a : Addr) (ns : List Int) (v : Int) (f : Ft), vs = [.ref a, .int v] ∧ SqL K H a (ns.map V.int) ∧ Hist ns ∧ fate ns ns.length v = some f ∧
  ∀ H' t, Same H H' → H' t = some (.tup (tupV f)) → H t = none → Q (.ref t) H'
theorem ok_fate_of {f : Addr} {fd : FuncData} (F : Fun K "fate_of" "fate_of" s_fate_of f fd) (B : NoB mg) (T_check_history : Cal P w K mg base 6 "check_history" (spCheck K)) (T_is_value_of : Cal P w K mg base 3 "is_value_of" (spIsValue K)) (T_replay : Cal P w K mg base 1 "replay" (spReplay K)) : FnOk P w K mg base CX0 7 f fd ["history", "value"] (spFate K) := by
  refine F.ok sc_fate_of (fun vs H Q E h => ?_) (fun cdv A outer s H vs Q E hr h => ?_)
  · obtain ⟨a, ns, v, ff, rfl, _⟩ := h
    rfl
  · obtain ⟨a, ns, v, ff, rfl, hS, hh, hf, q⟩ := h
    have FS := fs_all hh ns.length (Nat.le_refl _)
    have hk := (FS.key v).mp (by rw [hf]; exact fun z => nomatch z)
    have hv : v = 0 ∨ 0 < v ∧ v ∈ ns := by
      rcases List.mem_cons.mp hk with z | z
      · exact .inl z
      · rw [List.take_length] at z
        exact .inr ⟨of_decide_eq_true (List.mem_filter.mp z).2, (List.mem_filter.mp z).1⟩
    obtain ⟨m, m1, m2, m3, m4⟩ := fate_last (Nat.le_refl _) hf
    have hlen := hh.len
    refine ⟨_, (pss_cons (ps_expr (pe_c T_check_history hr (by decide) (by rfl) (pa_cons (pv 0) pa_nil)))
        (pss_cons (ps_if (pt_not (pt_val (pe_c T_is_value_of hr (by decide) (by rfl) (pa_cons (pv 0) (pa_cons (pv 1) pa_nil))))) (pss_one ps_never) pss_nil)
        (pss_cons (ps_asg (pe_c T_replay hr (by decide) (by rfl) (pa_cons (pv 0) pa_nil)) (pg_tup rfl (pgs_cons (pg_name (i := 2) sc_fate_of.nd rfl (Or.inl rfl)) (pgs_cons (pg_name (i := 3) sc_fate_of.nd rfl (Or.inl rfl)) pgs_nil))))
        (pss_cons (ps_set (i := 4) sc_fate_of.nd rfl (Or.inl rfl) (pe_callB (cr_max rfl) (by rfl) B.max (by decide +kernel) (pa_cons (pe_lc (own := [("moment", 6), ("present", 7)]) (g := _) (tt := _) rfl sc_fate_of.nd (pi_enum (by rfl) B.enumerate (pa_cons (pv 2) pa_nil)) (blkOk_by (own := [("moment", 6), ("present", 7)]) (N := N_fate_of) (sc := defScope s_fate_of) (by decide +kernel)) (fun _ _ _ _ _ => (k_tup (K := K) (n := 2) rfl rfl (pgs_cons (pg_name (i := 6) sc_fate_of.nd rfl (Or.inl rfl)) (pgs_cons (pg_name (i := 7) sc_fate_of.nd rfl (Or.inl rfl)) pgs_nil)))) (fun _ _ _ _ _ => (pts_one (pt_cmpR op_eq (pv 7) (pv 1) (nomark _)))) (fun _ _ _ _ _ => (pv 6))) pa_nil)))
        (pss_cons (ps_if (pt_cmpR op_eq (pv 4) (pe_callB call_len_seq (by rfl) B.len PySem.boot_len (pa_cons (pv 0) pa_nil)) (nomark _)) (pss_one (ps_ret (pe_tup (pa_cons pe_str pa_nil)))) pss_nil)
        (pss_cons (ps_set (i := 5) sc_fate_of.nd rfl (Or.inl rfl) (pe_ix ix_list (pv 0) (pv 4) (fun _ _ => rfl)))
        (pss_cons (ps_if (pt_cmpR op_gt (pv 5) pe_int (nomark _)) (pss_one (ps_ret (pe_tup (pa_cons pe_str (pa_cons (pv 5) pa_nil))))) pss_nil)
        (pss_one (ps_ret (pe_tup (pa_cons pe_str (pa_cons (pv 4) pa_nil)))))))))))), ?_⟩
    refine ⟨_, rfl, a, ns, rfl, hS, hh, fun H1 s1 => ?_⟩
    refine ⟨_, rfl, _, rfl, a, ns, v, rfl, s1.seq hS, hv, fun H2 s2 => ⟨true, rfl, ?_⟩⟩
    have s02 := s1.trans s2
    refine ⟨_, rfl, a, ns, rfl, s02.seq hS, hh, fun H3 t p d kvs s3 ht hp hd _ => ?_⟩
    have s03 := s02.trans s3
    refine ⟨t, _, rfl, .of ht, rfl, _, _, rfl, _, _, rfl, rfl, ?_⟩
    refine ⟨_, rfl, p, _, rfl, .of hp, fun D nD => lc_enum (xs := presL ns ns.length) (LcP H3 D fun i => (momL ns v i).map V.int) (.init nD rfl) (fun i H' _ pp => .of (pp.2.1 _ _ hp)) (fun i x T H' hx nT pp => ?_) (fun H4 p4 => ?_)⟩
    · obtain ⟨rfl, hi⟩ := presL_get hx
      have ms := momL_succ ns v i
      have ml := momL_len ns v i
      refine ⟨T, _, rfl, .of upd_same, rfl, _, _, rfl, _, _, rfl, rfl, rfl, ?_⟩
      by_cases h0 : pr ns i = v
      · refine ⟨_, rfl, _, rfl, rfl, true, dT (congrArg V.int h0), _, rfl, pp.put (same_new nT) ?_ (by rw [List.length_map]; omega)⟩
        show (momL ns v (i + 1)).map V.int = _
        rw [ms, if_pos h0, List.map_append]
        rfl
      · refine ⟨_, rfl, _, rfl, rfl, false, dF (vne h0), pp.skip (same_new nT) ?_⟩
        show (momL ns v (i + 1)).map V.int = _
        rw [ms, if_neg h0, List.append_nil]
    · have hD := p4.2.2
      rw [presL_len] at hD
      have hD : H4 D = some (.lst ((momL ns v (ns.length + 1)).map V.int)) := hD
      have s04 := s03.trans p4.2.1
      have hm := mem_momL (ns := ns) (v := v) (i := ns.length + 1) (j := m) (by omega) m2
      refine ⟨D, _, rfl, .of hD, List.length_pos_of_mem hm, fun m' hm' hle => ?_⟩
      have em : m' = (m : Int) := by
        have z1 := hle _ hm
        obtain ⟨j, rfl, hj, ej⟩ := momL_mem hm'
        rcases Nat.lt_or_ge m j with z | z
        · exact absurd ej (m3 j z (by omega))
        · omega
      subst em
      rcases m4 with ⟨rfl, rfl⟩ | ⟨e, z1, z2, z3⟩
      · refine ⟨_, rfl, _, rfl, a, _, rfl, .inl (s04.seq hS), rfl, true, dT (by rw [List.length_map]), ?_⟩
        exact ⟨by show 1 ≤ sizeLine; decide, fun t nt => q _ t (s04.trans (same_new nt)) upd_same (s04.free nt)⟩
      · refine ⟨_, rfl, _, rfl, a, _, rfl, .inl (s04.seq hS), rfl, false, dF (by rw [List.length_map]; exact vne (by omega)), ?_⟩
        refine ⟨_, rfl, _, rfl, a, _, _, .int e, rfl, rfl, s04.seq hS, atI_nat (by rw [List.getElem?_map, z2]; rfl), ?_⟩
        by_cases h0 : 0 < e
        · rw [if_pos h0] at z3
          subst z3
          refine ⟨_, rfl, _, _, rfl, rfl, true, dT h0, ?_⟩
          exact ⟨_, rfl, by show 2 ≤ sizeLine; decide, fun t nt => q _ t (s04.trans (same_new nt)) upd_same (s04.free nt)⟩
        · rw [if_neg h0] at z3
          subst z3
          refine ⟨_, rfl, _, _, rfl, rfl, false, dF h0, ?_⟩
          exact ⟨_, rfl, by show 2 ≤ sizeLine; decide, fun t nt => q _ t (s04.trans (same_new nt)) upd_same (s04.free nt)⟩
end
section
variable {P : Program} {w : World} {K : PySem.W.Frag} {mg : Str → Option Value} {base : Heap}
/-! ### present_after -/
def spPresentA (K : PySem.W.Frag) : Sp := fun vs H Q _ => ∃ (a : Addr) (ns : List Int), vs = [.ref a] ∧ SqL K H a (ns.map V.int) ∧ Hist ns ∧ ∀ H', Same H H' → Q (.int (runP ns).1) H'
theorem ok_present_after {f : Addr} {fd : FuncData} (F : Fun K "present_after" "present_after" s_present_after f fd) (T_check_history : Cal P w K mg base 6 "check_history" (spCheck K)) (T_replay : Cal P w K mg base 1 "replay" (spReplay K)) :
    FnOk P w K mg base CX0 7 f fd ["history"] (spPresentA K) := by
  refine F.ok sc_present_after (fun vs H Q E h => ?_) (fun cdv A outer s H vs Q E hr h => ?_)
  · obtain ⟨a, ns, rfl, _⟩ := h
    rfl
  · obtain ⟨a, ns, rfl, hS, hh, q⟩ := h
    refine ⟨_, (pss_cons (ps_expr (pe_c T_check_history hr (by decide) (by rfl) (pa_cons (pv 0) pa_nil)))
        (pss_cons (ps_asg (pe_c T_replay hr (by decide) (by rfl) (pa_cons (pv 0) pa_nil)) (pg_tup rfl (pgs_cons (pg_name (i := 1) sc_present_after.nd rfl (Or.inl rfl)) (pgs_cons (pg_name (i := 2) sc_present_after.nd rfl (Or.inl rfl)) pgs_nil))))
        (pss_one (ps_ret (pe_ix ix_list (pv 1) (pe_un un_neg pe_int) (fun _ _ => rfl)))))), ?_⟩
    refine ⟨_, rfl, a, ns, rfl, hS, hh, fun H1 s1 => ?_⟩
    refine ⟨_, rfl, a, ns, rfl, s1.seq hS, hh, fun H2 t p d kvs s2 ht hp hd _ => ?_⟩
    refine ⟨t, _, rfl, .of ht, rfl, _, _, rfl, _, _, rfl, rfl, ?_⟩
    have e := presL_last ns ns.length
    rw [List.take_length] at e
    exact ⟨_, rfl, 1, rfl, p, _, -1, _, rfl, rfl, .of hp, e, q _ (s1.trans s2)⟩

end
theorem filt_at {ns : List Int} {f : Int → Bool} {m : Nat} {e : Int} (h : ns[m]? = some e) (hf : f e = true) : (ns.filter f)[((ns.take m).filter f).length]? = some e := by
  have hm := lt_get h
  have e1 : ns[m] = e := Option.some.inj ((List.getElem?_eq_getElem hm).symm.trans h)
  have e2 : ns.filter f = (ns.take m).filter f ++ e :: (ns.drop (m + 1)).filter f := by
    conv => lhs; rw [← List.take_append_drop m ns, List.filter_append, List.drop_eq_getElem_cons hm, e1, List.filter_cons, if_pos hf]
  rw [e2, List.getElem?_append_right (Nat.le_refl _), Nat.sub_self]
  rfl
theorem hist_filt {ns : List Int} (hh : Hist ns) (p : Int → Bool) : Hist (ns.filter fun e => p (if e < 0 then -e else e)) := by
  have nd := hh.nd.sublist (List.filter_sublist (p := fun e => p (if e < 0 then -e else e)))
  refine ⟨fun e he => hh.rng e ((List.mem_filter.mp he).1), nd, fun i e he h0 => ?_, Nat.le_trans (List.length_filter_le _ _) hh.len⟩
  obtain ⟨m1, m2⟩ := List.mem_filter.mp (mem_get he)
  obtain ⟨m, hm, em⟩ := List.mem_iff_getElem.mp m1
  have hme : ns[m]? = some e := by rw [List.getElem?_eq_getElem hm, em]
  have ei := nd_ix nd he (filt_at hme m2)
  have pre := hh.ord m e hme h0
  have e2 : ns.filter (fun e => p (if e < 0 then -e else e)) = (ns.take m).filter (fun e => p (if e < 0 then -e else e)) ++ (ns.drop m).filter (fun e => p (if e < 0 then -e else e)) := by
    conv => lhs; rw [← List.take_append_drop m ns, List.filter_append]
  rw [e2, ei, List.take_append_of_le_length (Nat.le_refl _), List.take_length]
  refine List.mem_filter.mpr ⟨pre, ?_⟩
  rw [if_pos h0] at m2
  rw [if_neg (show ¬ -e < 0 by omega)]
  exact m2
end L69
set_option Elab.async false
set_option linter.all false
set_option maxRecDepth 100000
namespace L69
open PySem PySem.Spec PyProof.Rows L2 Lp
/-! ### settings -/
def tpI (ts : List (List Int)) (s : Int) (k : Int) : Bool := decide (s ∈ ts.getD (k - 1).toNat [])
def own (ts : List (List Int)) (s : Int) (ns : List Int) : List Int := ns.filter fun e => tpI ts s (if e < 0 then -e else e)
theorem own_hist {ts : List (List Int)} {s : Int} {ns : List Int} (hh : Hist ns) : Hist (own ts s ns) := hist_filt hh (tpI ts s)
theorem own_mem {ts : List (List Int)} {s : Int} {ns : List Int} {e : Int} : e ∈ own ts s ns ↔ e ∈ ns ∧ tpI ts s (if e < 0 then -e else e) = true := List.mem_filter
def keysH (ts : List (List Int)) (s : Int) (ns : List Int) : List Int := (hl (own ts s ns)).map (·.1)
theorem keysH_mem {ts : List (List Int)} {s : Int} {ns : List Int} {k : Int} : k ∈ keysH ts s ns ↔ (k ∈ ns ∧ 0 < k ∧ -k ∉ ns) ∧ tpI ts s k = true := by
  unfold keysH
  rw [hl_keys, own_mem, own_mem]
  constructor
  · rintro ⟨⟨a, b⟩, c, d⟩
    rw [if_neg (by omega)] at b
    exact ⟨⟨a, c, fun z => d ⟨z, by rw [if_pos (by omega), Int.neg_neg]; exact b⟩⟩, b⟩
  · rintro ⟨⟨a, c, d⟩, b⟩
    exact ⟨⟨a, by rw [if_neg (by omega)]; exact b⟩, c, fun z => d z.1⟩
theorem runL_mem {ns : List Int} {k : Int} : k ∈ runL ns ↔ k ∈ ns ∧ 0 < k ∧ -k ∉ ns := by
  unfold runL stL
  rw [List.mem_filter, List.mem_filter]
  constructor
  · rintro ⟨⟨a, b⟩, c⟩
    exact ⟨a, of_decide_eq_true b, of_decide_eq_true c⟩
  · rintro ⟨a, b, c⟩
    exact ⟨⟨a, decide_eq_true b⟩, decide_eq_true c⟩
theorem runL_nd {ns : List Int} (nd : ns.Nodup) : (runL ns).Nodup := (nd.sublist List.filter_sublist).sublist List.filter_sublist
def spoB (ts : List (List Int)) (ns left : List Int) (p : Int) : Bool := (List.range 10).any fun s : Nat => decide ((lk (hl (own ts s ns)) p).getD 0 ≠ 0) && (keysH ts s ns).all fun k => decide (k ∈ left)
structure Os (ts : List (List Int)) (ns order left : List Int) : Prop where
  pm : (order ++ left).Perm (runL ns)
  ok : ∀ s : Nat, s < 10 → (∀ k ∈ keysH ts s ns, k ∈ left) ∨ ∃ q, (order.filter fun k => decide (k ∈ keysH ts s ns)).getLast? = some q ∧ lk (hl (own ts s ns)) q = some 0
theorem Os.init {ts : List (List Int)} {ns R : List Int} (pm : R.Perm (runL ns)) : Os ts ns [] R :=
  ⟨pm, fun s _ => .inl fun k hk => pm.mem_iff.mpr (runL_mem.mpr (keysH_mem.mp hk).1)⟩
theorem filt_left {left : List Int} {f : Int → Bool} : (left.filter fun p => decide (p ∉ left.filter fun p => !f p)) = left.filter f := by
  refine List.filter_congr fun p hp => ?_
  cases e : f p with
  | true =>
    refine decide_eq_true fun z => ?_
    have := (List.mem_filter.mp z).2
    rw [e] at this
    cases this
  | false => exact decide_eq_false fun z => z (List.mem_filter.mpr ⟨hp, by rw [e]; rfl⟩)
theorem Os.step {ts : List (List Int)} {ns order left : List Int} (hh : Hist ns) (h : Os ts ns order left) :
    Os ts ns ((left.filter fun p => !spoB ts ns left p) ++ order) (left.filter fun p => decide (p ∉ left.filter fun p => !spoB ts ns left p)) := by
  have ndr : (order ++ left).Nodup := h.pm.nodup_iff.mpr (runL_nd hh.nd)
  have dj : ∀ k, k ∈ order → k ∈ left → False := fun k a b => (List.nodup_append.mp ndr).2.2 k a k b rfl
  constructor
  · rw [filt_left]
    have p1 : (left.filter (fun p => !spoB ts ns left p) ++ left.filter (spoB ts ns left)).Perm left := by
      have := List.filter_append_perm (spoB ts ns left) left
      exact (List.perm_append_comm).trans this
    refine List.Perm.trans ?_ h.pm
    have : ((left.filter (fun p => !spoB ts ns left p) ++ order) ++ left.filter (spoB ts ns left)).Perm (order ++ (left.filter (fun p => !spoB ts ns left p) ++ left.filter (spoB ts ns left))) := by
      rw [← List.append_assoc]
      exact List.Perm.append_right _ List.perm_append_comm
    exact this.trans (List.Perm.append_left _ p1)
  · intro s hs
    rcases h.ok s hs with a | ⟨q, e1, e2⟩
    · have e0 : (order.filter fun k => decide (k ∈ keysH ts s ns)) = [] := by
        rw [List.filter_eq_nil_iff]
        intro k hk z
        exact dj k hk (a k (of_decide_eq_true z))
      rw [List.filter_append, e0, List.append_nil]
      cases e : ((left.filter fun p => !spoB ts ns left p).filter fun k => decide (k ∈ keysH ts s ns)).getLast? with
      | none =>
        rw [List.getLast?_eq_none_iff, List.filter_eq_nil_iff] at e
        refine .inl fun k hk => List.mem_filter.mpr ⟨a k hk, decide_eq_true fun z => e k z (decide_eq_true hk)⟩
      | some q =>
        refine .inr ⟨q, rfl, ?_⟩
        have hq := List.mem_of_getLast? e
        obtain ⟨h1, h2⟩ := List.mem_filter.mp hq
        obtain ⟨h3, h4⟩ := List.mem_filter.mp h1
        have hk := of_decide_eq_true h2
        obtain ⟨v, ev, _⟩ := lk_some (l := hl (own ts s ns)) (k := q) hk
        rw [ev]
        have hns : spoB ts ns left q = false := by
          cases c : spoB ts ns left q with
          | false => rfl
          | true => rw [c] at h4; cases h4
        by_cases v0 : v = 0
        · rw [v0]
        · exfalso
          unfold spoB at hns
          rw [List.any_eq_false] at hns
          refine hns s (List.mem_range.mpr hs) ?_
          rw [Bool.and_eq_true]
          refine ⟨decide_eq_true (by rw [ev]; exact v0), ?_⟩
          rw [List.all_eq_true]
          exact fun k hk => decide_eq_true (a k hk)
    · refine .inr ⟨q, ?_, e2⟩
      rw [List.filter_append, List.getLast?_append, e1]
      rfl
theorem foldl_stops : ∀ (F : List Int) (s : PSt), (∀ k ∈ F, 0 < k) → (F.map fun k => 0 - k).foldl stepP s = ((F.getLast?.map s.2).getD s.1, s.2)
  | [], s, _ => rfl
  | k :: F, s, h => by
    have hk := h k List.mem_cons_self
    have e : stepP s (0 - k) = (s.2 k, s.2) := by
      unfold stepP
      rw [if_neg (by omega), show -(0 - k) = k by omega]
    show (F.map fun k => 0 - k).foldl stepP (stepP s (0 - k)) = _
    rw [e, foldl_stops F _ fun x hx => h x (List.mem_cons_of_mem _ hx)]
    cases F with
    | nil => rfl
    | cons x F =>
      rw [List.getLast?_cons_cons]
      cases e2 : (x :: F).getLast? with
      | none => rw [List.getLast?_eq_none_iff] at e2; cases e2
      | some q => rfl
theorem runP_stops {o F : List Int} (h : ∀ k ∈ F, 0 < k) : (runP (o ++ F.map fun k => 0 - k)).1 = (F.getLast?.map (runP o).2).getD (runP o).1 := by
  unfold runP
  rw [List.foldl_append, foldl_stops F _ h]
theorem len200 {l : List Int} (nd : l.Nodup) (h : ∀ e ∈ l, e ≠ 0 ∧ -100 ≤ e ∧ e ≤ 100) : l.length ≤ 200 := by
  have hu : ∀ x : Int, 1 ≤ x → x ≤ 100 → x ∈ upL 100 := fun x a b => List.mem_map.mpr ⟨(x - 1).toNat, List.mem_range.mpr (by omega), by omega⟩
  have := nodup_len (m := upL 100 ++ (upL 100).map fun x => -x) nd fun x hx => by
    obtain ⟨a, b, c⟩ := h x hx
    rw [List.mem_append]
    by_cases p : 0 < x
    · exact .inl (hu x (by omega) c)
    · exact .inr (List.mem_map.mpr ⟨-x, hu _ (by omega) (by omega), by omega⟩)
  rw [List.length_append, List.length_map, upL_len] at this
  exact this
theorem Os.fin {ts : List (List Int)} {ns order : List Int} (hh : Hist ns) (h : Os ts ns order []) {s : Nat} (hs : s < 10) (lost : ¬((runR (own ts s ns)).1 ≠ 0 ∧ hl (own ts s ns) = [])) :
    Hist (own ts s ns ++ (order.filter fun k => tpI ts s k).map fun k => 0 - k) ∧ (runP (own ts s ns ++ (order.filter fun k => tpI ts s k).map fun k => 0 - k)).1 = 0 := by
  have ho := own_hist (ts := ts) (s := s) hh
  have pm := h.pm
  rw [List.append_nil] at pm
  have hm : ∀ k ∈ order, k ∈ ns ∧ 0 < k ∧ -k ∉ ns := fun k hk => runL_mem.mp (pm.mem_iff.mp hk)
  have eF : (order.filter fun k => tpI ts s k) = order.filter fun k => decide (k ∈ keysH ts s ns) := by
    refine List.filter_congr fun k hk => ?_
    by_cases c : tpI ts s k = true
    · rw [c, decide_eq_true (keysH_mem.mpr ⟨hm k hk, c⟩)]
    · rw [Bool.not_eq_true] at c
      rw [c, decide_eq_false fun z => by rw [(keysH_mem.mp z).2] at c; cases c]
  have hF : ∀ k ∈ order.filter fun k => tpI ts s k, (k ∈ ns ∧ 0 < k ∧ -k ∉ ns) ∧ k ∈ own ts s ns ∧ k ∈ keysH ts s ns := fun k hk => by
    obtain ⟨a, b⟩ := List.mem_filter.mp hk
    have m := hm k a
    exact ⟨m, own_mem.mpr ⟨m.1, by rw [if_neg (by omega)]; exact b⟩, keysH_mem.mpr ⟨m, b⟩⟩
  have ndF : (order.filter fun k => tpI ts s k).Nodup := (pm.nodup_iff.mpr (runL_nd hh.nd)).sublist List.filter_sublist
  have hp : ∀ k ∈ order.filter fun k => tpI ts s k, 0 < k := fun k hk => (hF k hk).1.2.1
  constructor
  · have rg : ∀ e ∈ own ts s ns ++ (order.filter fun k => tpI ts s k).map fun k => 0 - k, e ≠ 0 ∧ -100 ≤ e ∧ e ≤ 100 := fun e he => by
      rcases List.mem_append.mp he with a | a
      · exact ho.rng e a
      · obtain ⟨k, hk, rfl⟩ := List.mem_map.mp a
        obtain ⟨b, c, d⟩ := hh.rng k (hF k hk).1.1
        have := (hF k hk).1.2.1
        omega
    have nd : (own ts s ns ++ (order.filter fun k => tpI ts s k).map fun k => 0 - k).Nodup := by
      rw [List.nodup_append]
      refine ⟨ho.nd, nodup_map (fun x y e => by omega) ndF, fun a ha b hb e => ?_⟩
      obtain ⟨k, hk, rfl⟩ := List.mem_map.mp hb
      refine (hF k hk).1.2.2 ?_
      have := (own_mem.mp ha).1
      rw [e] at this
      rw [show -k = 0 - k by omega]
      exact this
    refine ⟨rg, nd, fun i e he h0 => ?_, len200 nd rg⟩
    by_cases c : i < (own ts s ns).length
    · rw [List.getElem?_append_left c] at he
      rw [List.take_append_of_le_length (by omega)]
      exact ho.ord i e he h0
    · rw [List.getElem?_append_right (by omega)] at he
      obtain ⟨k, hk, rfl⟩ := List.mem_map.mp (mem_get he)
      rw [List.take_append, List.mem_append, List.take_of_length_le (by omega)]
      exact .inl (by rw [show -(0 - k) = k by omega]; exact (hF k hk).2.1)
  · rw [runP_stops hp]
    have er := runRP ho
    rcases h.ok s hs with a | ⟨q, e1, e2⟩
    · have k0 : keysH ts s ns = [] := List.eq_nil_iff_forall_not_mem.mpr fun k hk => nomatch a k hk
      have e0 : (order.filter fun k => tpI ts s k) = [] := List.eq_nil_iff_forall_not_mem.mpr fun k hk => by
        have := (hF k hk).2.2
        rw [k0] at this
        cases this
      have h0 : hl (own ts s ns) = [] := List.map_eq_nil_iff.mp k0
      rw [e0]
      show (runP (own ts s ns)).1 = 0
      rw [← er.1]
      exact Classical.byContradiction fun z => lost ⟨z, h0⟩
    · rw [eF, e1]
      show (runP (own ts s ns)).2 q = 0
      have hq := List.mem_of_getLast? e1
      have hq2 : q ∈ order.filter fun k => tpI ts s k := by rw [eF]; exact hq
      obtain ⟨m1, m2, m3⟩ := hF q hq2
      have l1 := er.2 q m2 m1.2.1
      have l2 := lk_hl (t := own ts s ns) (e := -q) fun z => m1.2.2 (own_mem.mp z).1
      rw [Int.neg_neg, e2, l1] at l2
      exact (Option.some.inj l2).symm
end L69
set_option Elab.async false
set_option linter.all false
set_option maxRecDepth 100000
namespace L69
open PySem PySem.Spec PyProof.Rows L2 Lp
def relab (sc0 sc1 : Scope) : Scope := { sc1 with names := sc1.names.map fun (n, k) => if (k == NameKind.free && sc0.kind == .function && sc0.names.lookup n == some .cell) then (n, NameKind.cell) else (n, k) }
theorem blkOk_in {X : Cx} {s : Shared} {H : Hp} {sc0 sc1 scope : Scope} {C : Addr} {cl : List (Str × Addr)} {fp : List Addr} {N : List Str} {own : List (Str × Nat)} (e : X.env.scope = sc0) (h : blkC N (relab sc0 sc1) scope own = true) : BlkOk N (X.blk s H sc1 (compEnvC sc1 cl C X.env) fp).env.scope scope own := by
  subst e
  exact blkOk_by h
/-- pi_list in a block within a block: K is named, since what is read may not speak of the block -/
theorem pi_listK {X : Cx} {K : PySem.W.Frag} {tg l : Expr} {tl : TE} (e : X.K = K) (hl : PE X l tl) : PI X tg l (iList K tl) := by
  subst e
  exact pi_list hl
theorem k_eqD {X : Cx} {K : PySem.W.Frag} (e : X.K = K) (hu : X.A.units + 64 < cLine) : OpR X (compareOp .Eq) (rEqD K) := by
  subst e
  exact op_eqD hu
theorem k_dictP {X : Cx} {K : PySem.W.Frag} (e : X.K = K) (hc : X.calm = true) : CallR X (.type "dict") (fun xs H Q => ∃ (a : Addr) (ps : List Addr) (kvs : List (Key × V)), xs = [.ref a] ∧ SqL K H a (ps.map V.ref) ∧ Paired (fun p kv => SqT K H p [kV kv.1, kv.2]) ps kvs ∧ ∀ p, H p = none → Q (.ref p) (upd H p (.dK (mergeK [] kvs)))) := by
  subst e
  exact call_dictP hc
theorem k_all {X : Cx} {K : PySem.W.Frag} (e : X.K = K) (hc : X.calm = true) : CallR X (.builtin "all") (rAll K) := by
  subst e
  exact cr_all hc
structure Ts (H : Hp) (t : Addr) (ts : List (Addr × List Int)) : Prop where
  h : H t = some (.lst (ts.map fun z => V.ref z.1))
  q : ∀ z ∈ ts, H z.1 = some (.lst (z.2.map V.int))
theorem Ts.same {H H' : Hp} {t : Addr} {ts : List (Addr × List Int)} (h : Ts H t ts) (s : Same H H') : Ts H' t ts := ⟨s _ _ h.h, fun z hz => s _ _ (h.q z hz)⟩
structure SetL (l : List Int) : Prop where
  ne : l ≠ []
  asc : l.Pairwise (· < ·)
  rng : ∀ x ∈ l, 0 ≤ x ∧ x ≤ 9
theorem SetL.len {l : List Int} (h : SetL l) : l.length ≤ 10 := by
  have := nodup_len (m := (List.range 10).map fun i : Nat => (i : Int)) (h.asc.imp fun a => Int.ne_of_lt a) fun x hx => by
    obtain ⟨a, b⟩ := h.rng x hx
    exact List.mem_map.mpr ⟨x.toNat, List.mem_range.mpr (by omega), by omega⟩
  rw [List.length_map, List.length_range] at this
  exact this
structure TsOk (ts : List (Addr × List Int)) (ns : List Int) : Prop where
  len : ts.length ≤ 100
  set : ∀ z ∈ ts, SetL z.2
  cov : ∀ e ∈ ns, 0 < e → e ≤ (ts.length : Int)
theorem get_ref {α : Type} {f : α → Addr} {ps : List α} {i : Nat} {x : V} (hx : (ps.map fun z => V.ref (f z))[i]? = some x) : ∃ z ∈ ps, x = .ref (f z) ∧ ps[i]? = some z := by
  rw [List.getElem?_map] at hx
  cases e : ps[i]? with
  | none => rw [e] at hx; cases hx
  | some z => rw [e] at hx; cases hx; exact ⟨z, mem_get e, rfl, rfl⟩
section
variable {P : Program} {w : World} {K : PySem.W.Frag} {mg : Str → Option Value} {base : Heap}
def spAreSet (K : PySem.W.Frag) : Sp := fun vs H Q _ => ∃ (a : Addr) (l : List Int), vs = [.ref a] ∧ SqL K H a (l.map V.int) ∧ SetL l ∧ ∀ H', Same H H' → Q (.bl true) H'
theorem ok_are_settings {f : Addr} {fd : FuncData} (F : Fun K "_are_settings" "_are_settings" s_are_settings f fd) (B : NoB mg) {t1 : Tok} (T_g_MANY_SETTINGS : mg "MANY_SETTINGS" = some (.int 10 t1)) (T_are_integers : Cal P w K mg base 3 "are_integers" (spAreInts K)) : FnG P w K mg base CX0 4 f fd ["value"] (spAreSet K) := by
  refine okG F sc_are_settings (fun vs H Q E h => ?_) (fun cdv A outer s H vs Q E hG hr h => ?_)
  · obtain ⟨a, l, rfl, _⟩ := h
    rfl
  · obtain ⟨a, l, rfl, hS, hl, q⟩ := h
    have hu64 := hr.units
    have hu := hu_of hr
    have sl := hl.len
    refine ⟨_, (pss_cons (ps_if (pt_not (pt_val (pe_c T_are_integers hr (by decide) (by rfl) (pa_cons (pv 0) (pa_cons pe_int (pa_cons (pe_op op_sub (pe_glob (v := .int 10) (by rfl) T_g_MANY_SETTINGS ⟨_, rfl⟩) pe_int) (pa_cons (pe_glob (v := .int 10) (by rfl) T_g_MANY_SETTINGS ⟨_, rfl⟩) pa_nil))))))) (pss_one (ps_ret pe_bl)) pss_nil)
        (pss_one (ps_ret (pe_and (pe_cmpR (op_neD hu64) (pv 0) (pe_lst pa_nil) (nomark _)) (pe_one (pe_cmpR (op_eqD hu64) (pv 0) (pe_callB (cr_sortedSet rfl) (by rfl) B.sorted (by decide +kernel) (pa_cons (pe_callTy (cr_setL rfl) (by rfl) B.set (by decide +kernel) (pa_cons (pv 0) pa_nil)) pa_nil)) (nomark _))))))), ?_⟩
    refine ⟨_, rfl, _, _, rfl, rfl, a, l, 0, 9, 10, rfl, hS, by omega, by omega, fun n hn => hl.rng n hn, fun H1 s1 => ?_⟩
    refine ⟨_, rfl, iteF ?_⟩
    have hS1 := s1.seq hS
    refine ⟨_, rfl, by show 0 ≤ sizeLine; decide, fun p np => ?_⟩
    have s2 := same_new (o := .lst []) np
    refine ⟨dI l, dI [], dp_ints (s2.seq hS1), dp_ints (ns := []) (.of upd_same), shaped_ints _, shaped_ints _, true, neqT hl.ne, iteT ?_⟩
    have s12 := s1.trans s2
    generalize upd H1 p (.lst []) = H2 at s2 s12 ⊢
    refine ⟨_, rfl, _, rfl, a, l, rfl, s12.seq hS, by omega, fun sp c nsp hc => ⟨sp, _, c, rfl, upd_same, by omega, fun ms mp pw mem nmc nmp => ?_⟩⟩
    have s6 := (same_new (o := SetO w sp (fun j => decide (j ∈ l)) c) nsp).trans (same_new (o := .lst (ms.map V.int)) nmp)
    have ems : l = ms := by
      refine sorted_uniq ((List.perm_ext_iff_of_nodup (hl.asc.imp fun a => Int.ne_of_lt a) (pw.imp fun a => Int.ne_of_lt a)).mpr fun x => ?_) (hl.asc.imp fun a => Int.le_of_lt a) (pw.imp fun a => Int.le_of_lt a)
      rw [mem x, decide_eq_true_eq]
    refine ⟨dI _, dI ms, dp_ints ((s12.trans s6).seq hS), dp_ints (.of upd_same), shaped_ints _, shaped_ints _, ?_⟩
    rw [eqvT ems]
    exact q _ (s12.trans s6)
def spChkT (K : PySem.W.Frag) : Sp := fun vs H Q _ => ∃ (a t : Addr) (ns : List Int) (ts : List (Addr × List Int)), vs = [.ref a, .ref t] ∧ SqL K H a (ns.map V.int) ∧ Hist ns ∧ Ts H t ts ∧ TsOk ts ns ∧ ∀ H', Same H H' → Q .non H'
theorem ok_check_touches {f : Addr} {fd : FuncData} (F : Fun K "_check_touches" "_check_touches" s_check_touches f fd) (B : NoB mg) {t1 : Tok} (T_g_LAST_PATCH : mg "LAST_PATCH" = some (.int 100 t1)) (T_check_history : Cal P w K mg base 6 "check_history" (spCheck K)) (T_starts_of : Cal P w K mg base 1 "starts_of" (spStarts K)) (T_are_settings : Gc P w K mg base 4 "_are_settings" (spAreSet K)) :
    FnG P w K mg base CX0 7 f fd ["history", "touches"] (spChkT K) := by
  refine okG F sc_check_touches (fun vs H Q E h => ?_) (fun cdv A outer s H vs Q E hG hr h => ?_)
  · obtain ⟨a, t, ns, ts, rfl, _⟩ := h
    rfl
  · obtain ⟨a, t, ns, ts, rfl, hS, hh, ht, ok, q⟩ := h
    have hl := ok.len
    refine ⟨_, (pss_cons (ps_expr (pe_c T_check_history hr (by decide) (by rfl) (pa_cons (pv 0) pa_nil)))
        (pss_cons (ps_if (PW.pt (pw_or (pt_cmpR op_neTy (pe_callTy call_type1 (by rfl) B.type (by decide +kernel) (pa_cons (pv 1) pa_nil)) (pe_bltn (v := .ty "list") (by rfl) B.list boot_list rfl) (nomark _)) (pw_or (pt_cmpR op_gt (pe_callB call_len_seq (by rfl) B.len PySem.boot_len (pa_cons (pv 1) pa_nil)) (pe_glob (v := .int 100) (by rfl) T_g_LAST_PATCH ⟨_, rfl⟩) (nomark _)) (pw_or1 (pt_not (pt_val (pe_callB (cr_all rfl) (by rfl) B.all (by decide +kernel) (pa_cons (pe_lc (own := [("item", 2)]) (g := gName 2) (tt := tYes) rfl sc_check_touches.nd (pi_list (pv 1)) (blkOk_by (own := [("item", 2)]) (N := N_check_touches) (sc := defScope s_check_touches) (by decide +kernel)) (fun _ _ _ _ _ => (pg_name (i := 2) sc_check_touches.nd rfl (Or.inl rfl))) (fun _ _ _ _ _ => pts_nil) (fun _ _ _ _ _ => (pe_g T_are_settings hG hr (by decide) (by rfl) (pa_cons (pv 2) pa_nil)))) pa_nil)))))))) (pss_one ps_never) pss_nil)
        (pss_one (ps_if (pt_not (pt_val (pe_callB (cr_all rfl) (by rfl) B.all (by decide +kernel) (pa_cons (pe_lc (own := [("patch", 3)]) (g := gName 3) (tt := tYes) rfl sc_check_touches.nd (pi_list (pe_c T_starts_of hr (by decide) (by rfl) (pa_cons (pv 0) pa_nil))) (blkOk_by (own := [("patch", 3)]) (N := N_check_touches) (sc := defScope s_check_touches) (by decide +kernel)) (fun _ _ _ _ _ => (pg_name (i := 3) sc_check_touches.nd rfl (Or.inl rfl))) (fun _ _ _ _ _ => pts_nil) (fun _ _ _ _ _ => (pe_cmpR op_le (pv 3) (pe_callB (k_len (K := K) rfl) (by rfl) B.len PySem.boot_len (pa_cons (pv 1) pa_nil)) (nomark _)))) pa_nil)))) (pss_one ps_never) pss_nil)))), ?_⟩
    refine ⟨_, rfl, a, ns, rfl, hS, hh, fun H1 s1 => ?_⟩
    have ht1 := ht.same s1
    refine ⟨_, rfl, _, _, rfl, .lst (.of ht1.h), _, rfl, rfl, PySem.TypeEq.meta_list, false, rfl, iteF ?_⟩
    refine ⟨_, rfl, t, _, rfl, .inl (.of ht1.h), _, _, rfl, rfl, false, dF (by rw [List.length_map]; omega), iteF ?_⟩
    refine ⟨_, rfl, t, rfl, ⟨_, .of ht1.h⟩, fun D nD => lc_list (xs := ts.map fun z : Addr × List Int => V.ref z.1) (LcP H1 D fun i => (List.replicate i true).map V.bl) (.init nD rfl) (fun i H' _ p => .of (p.2.1 _ _ ht1.h)) (fun i x H' hx p => ?_) (fun H2 p => ?_)⟩
    · obtain ⟨z, hz, rfl, hi⟩ := get_ref hx
      have li := lt_get hi
      refine ⟨rfl, ?_⟩
      refine ⟨_, rfl, z.1, z.2, rfl, .of (p.2.1 _ _ (ht1.q z hz)), ok.set z hz, fun H4 s4 => ?_⟩
      refine p.put s4 ?_ (by rw [List.length_map, List.length_replicate]; omega)
      rw [List.replicate_succ', List.map_append]
      rfl
    refine ⟨D, _, rfl, .of p.2.2, ?_⟩
    have e : (List.replicate (ts.map fun z => V.ref z.1).length true).all id = true := by
      rw [List.all_eq_true]
      intro b hb
      exact (List.eq_of_mem_replicate hb)
    rw [e]
    refine ⟨_, rfl, iteF ?_⟩
    have s2 := s1.trans p.2.1
    refine ⟨_, rfl, a, ns, rfl, s2.seq hS, by have := hh.len; omega, fun H3 st s3 hst _ => ?_⟩
    have s03 := s2.trans s3
    have s3' := p.2.1.trans s3
    have stl := stL_len ns
    have hnl := hh.len
    refine ⟨st, rfl, ⟨_, .of hst⟩, fun D2 nD2 => lc_list (xs := (stL ns).map V.int) (LcP H3 D2 fun i => (List.replicate i true).map V.bl) (.init nD2 rfl) (fun i H' _ p => .of (p.2.1 _ _ hst)) (fun i x H' hx p => ?_) (fun H4 p4 => ?_)⟩
    · obtain ⟨n, rfl, hn⟩ := get_int hx
      have hm := List.mem_filter.mp (mem_get hn)
      have li := lt_get hn
      have cv := ok.cov n hm.1 (of_decide_eq_true hm.2)
      have ht4 := ht1.same ((p.2.1 : Same H3 H') |> fun z => (s3'.trans z))
      refine ⟨rfl, ?_⟩
      refine ⟨_, rfl, _, rfl, t, _, rfl, .inl (.of ht4.h), _, _, rfl, rfl, ?_⟩
      show ∃ acc, _ ∧ _ ∧ LcP _ _ _ _ (upd _ _ (HO.lst (acc ++ [V.bl (decide (n ≤ (((ts.map fun z : Addr × List Int => V.ref z.1).length : Nat) : Int)))])))
      rw [dT (by rw [List.length_map]; exact cv)]
      refine p.put (.refl _) ?_ (by rw [List.length_map, List.length_replicate]; omega)
      rw [List.replicate_succ', List.map_append]
      rfl
    refine ⟨D2, _, rfl, .of p4.2.2, ?_⟩
    have e2 : (List.replicate ((stL ns).map V.int).length true).all id = true := by
      rw [List.all_eq_true]
      intro b hb
      exact (List.eq_of_mem_replicate hb)
    rw [e2]
    exact ⟨_, rfl, iteF (q _ (s03.trans p4.2.1))⟩
end
end L69
set_option Elab.async false
set_option linter.all false
set_option maxRecDepth 100000
namespace L69
open PySem PySem.Spec PyProof.Rows L2 Lp
/-- the states of all settings in the heap -/
structure StZ where
  t : Addr
  l : Addr
  ps : List (Addr × Int × Int)
def StIs (H : Hp) (z : StZ) (os : List Int) : Prop := StO H z.t z.l (runR os).1 z.ps ∧ (z.ps.map (·.2)).Perm (hl os) ∧ (z.ps.map (·.2)).Pairwise fun x y => x.1 ≤ y.1
theorem StIs.same {H H' : Hp} {z : StZ} {os : List Int} (h : StIs H z os) (s : Same H H') : StIs H' z os := ⟨h.1.same s, h.2⟩
structure StsF (H : Hp) (r : Addr) (zs : List StZ) (n : Nat) (f : Nat → List Int) : Prop where
  h : H r = some (.lst (zs.map fun z => V.ref z.t))
  len : zs.length = n
  at_ : ∀ i z, zs[i]? = some z → StIs H z (f i)
theorem StO.ne {H : Hp} {t l D : Addr} {p : Int} {ps : List (Addr × Int × Int)} {xs : List V} (h : StO H t l p ps) (hD : H D = some (.lst xs)) : t ≠ D ∧ ∀ z ∈ ps, z.1 ≠ D :=
  ⟨fun z => (by have := h.ht; rw [z, hD] at this; cases this), fun z hz e => (by have := h.sv.q z hz; rw [e, hD] at this; cases this)⟩
theorem StO.put {H : Hp} {t l D : Addr} {p : Int} {ps : List (Addr × Int × Int)} {xs ys : List V} (h : StO H t l p ps) (hD : H D = some (.lst xs)) (n : l ≠ D) : StO (upd H D (.lst ys)) t l p ps := by
  obtain ⟨n1, n2⟩ := h.ne hD
  exact ⟨by rw [upd_ne n1]; exact h.ht, by rw [upd_ne n]; exact h.sv.h, fun z hz => by rw [upd_ne (n2 z hz)]; exact h.sv.q z hz⟩
section
variable {P : Program} {w : World} {K : PySem.W.Frag} {mg : Str → Option Value} {base : Heap}
def tsL (ts : List (Addr × List Int)) : List (List Int) := ts.map (·.2)
theorem ts_at {ts : List (Addr × List Int)} {k : Int} (h1 : 1 ≤ k) (h2 : k ≤ (ts.length : Int)) : ∃ z ∈ ts, atI (ts.map fun z => V.ref z.1) (k - 1) = some (.ref z.1) ∧ (tsL ts).getD (k - 1).toNat [] = z.2 := by
  obtain ⟨m, hm⟩ : ∃ m : Nat, k - 1 = (m : Int) := ⟨(k - 1).toNat, by omega⟩
  rw [hm, Int.toNat_natCast]
  have hl : m < ts.length := by omega
  refine ⟨ts[m], List.getElem_mem hl, ?_, ?_⟩
  · exact atI_nat (by rw [List.getElem?_map, List.getElem?_eq_getElem hl]; rfl)
  · unfold tsL
    rw [List.getD_eq_getElem?_getD, List.getElem?_map, List.getElem?_eq_getElem hl]
    rfl
theorem ab_in {ts : List (Addr × List Int)} {ns : List Int} (hh : Hist ns) (ok : TsOk ts ns) {e : Int} (he : e ∈ ns) : 1 ≤ (if e < 0 then -e else e) ∧ (if e < 0 then -e else e) ≤ (ts.length : Int) := by
  have r := hh.rng e he
  by_cases h0 : e < 0
  · rw [if_pos h0]
    have m := ord_mem hh.ord he h0
    exact ⟨by omega, ok.cov _ m (by omega)⟩
  · rw [if_neg h0]
    exact ⟨by omega, ok.cov _ he (by omega)⟩
def spStates (K : PySem.W.Frag) : Sp := fun vs H Q _ => ∃ (a t : Addr) (ns : List Int) (ts : List (Addr × List Int)), vs = [.ref a, .ref t] ∧ SqL K H a (ns.map V.int) ∧ Hist ns ∧ Ts H t ts ∧ TsOk ts ns ∧
  ∀ H' r zs, Same H H' → StsF H' r zs 10 (fun i => own (tsL ts) i ns) → Q (.ref r) H'
theorem ok_states_by {f : Addr} {fd : FuncData} (F : Fun K "_states_by" "_states_by" s_states_by f fd) (B : NoB mg) {t1 : Tok} (T_g_MANY_SETTINGS : mg "MANY_SETTINGS" = some (.int 10 t1)) (T_check_touches : Gc P w K mg base 7 "_check_touches" (spChkT K)) (T_state_after : Cal P w K mg base 8 "state_after" (spStAfter K)) :
    FnG P w K mg base CX0 9 f fd ["history", "touches"] (spStates K) := by
  refine okG F sc_states_by (fun vs H Q E h => ?_) (fun cdv A outer s H vs Q E hG hr h => ?_)
  · obtain ⟨a, t, ns, ts, rfl, _⟩ := h
    rfl
  · obtain ⟨a, t, ns, ts, rfl, hS, hh, ht, ok, q⟩ := h
    have hl := ok.len
    refine ⟨_, (pss_cons (ps_expr (pe_g T_check_touches hG hr (by decide) (by rfl) (pa_cons (pv 0) (pa_cons (pv 1) pa_nil))))
        (pss_one (ps_ret (pe_lc (own := [("setting", 2)]) (g := gName 2) (tt := tYes) rfl sc_states_by.nd (pi_range1 rfl B.range (pa_cons (pe_glob (v := .int 10) (by rfl) T_g_MANY_SETTINGS ⟨_, rfl⟩) pa_nil)) (blkOk_by (own := [("setting", 2)]) (N := N_states_by) (sc := defScope s_states_by) (by decide +kernel)) (fun _ _ _ _ _ => (pg_name (i := 2) sc_states_by.nd rfl (Or.inr rfl))) (fun _ _ _ _ _ => pts_nil) (fun _ _ _ _ _ => (pe_c T_state_after hr (by decide) (by rfl) (pa_cons (pe_lc (own := [("event", 3)]) (g := gName 3) (tt := _) rfl sc_states_by.nd (pi_listK (K := K) rfl (pv 0)) (blkOk_in (sc0 := defScope s_states_by) (own := [("event", 3)]) (N := N_states_by) rfl (by decide +kernel)) (fun _ _ _ _ _ => (pg_name (i := 3) sc_states_by.nd rfl (Or.inl rfl))) (fun _ _ _ _ _ => (pts_one (pt_cmpR (k_in (K := K) rfl) (pv 2) (pe_ix (k_ix (K := K) rfl) (pv 1) (pe_op op_sub (pe_callB call_abs (by rfl) B.abs (by decide +kernel) (pa_cons (pv 3) pa_nil)) pe_int) (fun _ _ => rfl)) (by rfl)))) (fun _ _ _ _ _ => (pv 3))) pa_nil))))))), ?_⟩
    refine ⟨_, rfl, _, rfl, a, t, ns, ts, rfl, hS, hh, ht, ok, fun H1 s1 => ?_⟩
    have ht1 := ht.same s1
    have hS1 := s1.seq hS
    refine ⟨10, rfl, by decide, by decide, fun D nD => ?_⟩
    refine lc_range (lo := 0) (n := 10) (fun i H' => Same H1 H' ∧ ∃ zs : List StZ, StsF H' D zs i (fun i => own (tsL ts) i ns) ∧ ∀ z ∈ zs, z.l ≠ D) ⟨same_new nD, [], ⟨upd_same, rfl, fun i z h => by cases i <;> cases h⟩, fun z h => nomatch h⟩ (fun i H' hi p => ?_) (fun H' p => ?_)
    · obtain ⟨sm, zs, hz, nz⟩ := p
      refine ⟨rfl, ?_⟩
      have sA := s1.trans sm
      have ht' := ht1.same sm
      have hSa := sm.seq hS1
      have hnl := hh.len
      refine ⟨_, rfl, a, rfl, ⟨_, hSa⟩, fun D2 nD2 => lc_list (xs := ns.map V.int) (LcP H' D2 fun j => ((ns.take j).filter fun e => tpI (tsL ts) i (if e < 0 then -e else e)).map V.int) (.init nD2 rfl) (fun j H2 _ p => p.2.1.seq hSa) (fun j x H2 hx p => ?_) (fun H2 p => ?_)⟩
      · obtain ⟨e, rfl, he⟩ := get_int hx
        obtain ⟨b1, b2⟩ := ab_in hh ok (mem_get he)
        obtain ⟨z, hz, az, gz⟩ := ts_at b1 b2
        have htz := ht'.same p.2.1
        have fs := filt_succ (f := fun e => tpI (tsL ts) i (if e < 0 then -e else e)) he
        have fl := filt_len (ns := ns) (f := fun e => tpI (tsL ts) i (if e < 0 then -e else e)) j
        have li := lt_get he
        refine ⟨rfl, ?_⟩
        refine ⟨_, rfl, _, rfl, _, rfl, e, rfl, _, _, rfl, rfl, t, _, _, _, rfl, rfl, .of htz.h, az, z.1, _, rfl, .inl (.of (htz.q z hz)), rfl, flatI _, ?_⟩
        have e0 : (0 : Int) + (i : Int) = (i : Int) := by omega
        have et : tpI (tsL ts) i (if e < 0 then -e else e) = decide ((i : Int) ∈ z.2) := by
          unfold tpI
          rw [gz]
        rw [et] at fs
        by_cases hs : (i : Int) ∈ z.2
        · rw [decide_eq_true hs, if_pos rfl] at fs
          refine ⟨true, by rw [e0]; exact inT hs, _, rfl, p.put (.refl _) ?_ (by rw [List.length_map]; omega)⟩
          show ((ns.take (j + 1)).filter _).map V.int = _
          rw [fs, List.map_append]
          rfl
        · rw [decide_eq_false hs, if_neg (by decide), List.append_nil] at fs
          refine ⟨false, by rw [e0]; exact inF hs, p.skip (.refl _) ?_⟩
          show ((ns.take (j + 1)).filter _).map V.int = _
          rw [fs]
      · have hD2 : H2 D2 = some (.lst ((own (tsL ts) i ns).map V.int)) := by
          have h := p.2.2
          rw [List.length_map] at h
          rw [h]
          show some (HO.lst (((ns.take ns.length).filter _).map V.int)) = _
          rw [List.take_length]
          rfl
        have s2 := p.2.1
        have hD := s2 _ _ hz.h
        refine ⟨D2, own (tsL ts) i ns, rfl, .of hD2, own_hist hh, fun H5 t' l' ps s5 nt nl so pm pw => ?_⟩
        have hD5 := s5 _ _ hD
        have ll := hz.len
        have nl' : l' ≠ D := fun z => by rw [z, hD] at nl; cases nl
        refine ⟨zs.map fun z => V.ref z.t, hD5, by rw [List.length_map]; exact zl (by omega), ?_, zs ++ [⟨t', l', ps⟩], ⟨?_, ?_, fun m z hm => ?_⟩, fun z hz' => ?_⟩
        · exact Lp.Same.mut ((sm.trans s2).trans s5) nD
        · rw [upd_same, List.map_append]
          rfl
        · rw [List.length_append, ll]
          rfl
        · by_cases hlt : m < zs.length
          · rw [List.getElem?_append_left hlt] at hm
            have h := (hz.at_ m z hm).same (s2.trans s5)
            exact ⟨h.1.put hD5 (nz z (mem_get hm)), h.2⟩
          · rw [List.getElem?_append_right (by omega)] at hm
            have hm0 := lt_get hm
            have e : m = zs.length := by
              have : m - zs.length < 1 := hm0
              omega
            subst e
            rw [Nat.sub_self] at hm
            cases hm
            rw [ll]
            exact ⟨so.put hD5 nl', pm, pw⟩
        · rcases List.mem_append.mp hz' with hz' | hz'
          · exact nz z hz'
          · rw [List.mem_singleton.mp hz']
            exact nl'
    · obtain ⟨sm, zs, hz, _⟩ := p
      exact q _ _ zs (s1.trans sm) hz
end
end L69
set_option Elab.async false
set_option linter.all false
set_option maxRecDepth 100000
namespace L69
open PySem PySem.Spec PyProof.Rows L2 Lp
structure DsF (H : Hp) (r : Addr) (ds : List Addr) (n : Nat) (f : Nat → List Int) : Prop where
  h : H r = some (.lst (ds.map V.ref))
  len : ds.length = n
  at_ : ∀ i d, ds[i]? = some d → ∃ S : List (Int × Int), H d = some (.dK (S.map entI)) ∧ S.Perm (hl (f i))
theorem DsF.same {H H' : Hp} {r : Addr} {ds : List Addr} {n : Nat} {f : Nat → List Int} (h : DsF H r ds n f) (s : Same H H') : DsF H' r ds n f :=
  ⟨s _ _ h.h, h.len, fun i d e => by obtain ⟨S, a, b⟩ := h.at_ i d e; exact ⟨S, s _ _ a, b⟩⟩
theorem hl_nd {ns : List Int} (nd : ns.Nodup) : ((hl ns).map (·.1)).Nodup := (keysR_nd nd).sublist (List.filter_sublist.map _)
theorem same_lock {H H' : Hp} {d : Addr} {kv : List (Key × V)} {od : Obj} (hd : H d = some (.dK kv)) (s : Same (upd H d (.frz od (.dK kv))) H') : Same H (upd H' d (.dK kv)) := fun b o h => by
  by_cases e : b = d
  · subst e
    rw [hd] at h
    rw [upd_same]
    exact h
  · rw [upd_ne e]
    exact s _ _ (by rw [upd_ne e]; exact h)
theorem ent_get {S : List (Int × Int)} {i : Nat} {k : Key} {x : V} (h : (S.map entI)[i]? = some (k, x)) : ∃ z, S[i]? = some z ∧ k = Sum.inl z.1 ∧ x = .int z.2 := by
  rw [List.getElem?_map] at h
  cases e : S[i]? with
  | none => rw [e] at h; cases h
  | some z => rw [e] at h; cases h; exact ⟨z, rfl, rfl, rfl⟩
theorem all_perm {S S' : List (Int × Int)} (pm : S.Perm S') (f : Int → Bool) : (S.map fun z => f z.1).all id = (S'.map (·.1)).all f := by
  rw [Bool.eq_iff_iff, List.all_eq_true, List.all_eq_true]
  constructor
  · intro h k hk
    obtain ⟨z, hz, rfl⟩ := List.mem_map.mp hk
    exact h _ (List.mem_map.mpr ⟨z, pm.mem_iff.mpr hz, rfl⟩)
  · intro h b hb
    obtain ⟨z, hz, rfl⟩ := List.mem_map.mp hb
    exact h _ (List.mem_map.mpr ⟨z, pm.mem_iff.mp hz, rfl⟩)
section
variable {P : Program} {w : World} {K : PySem.W.Frag} {mg : Str → Option Value} {base : Heap}
def presB (ts : List (List Int)) (ns : List Int) : List Int := (List.range 10).map fun s : Nat => (runR (own ts s ns)).1
def spPresB (K : PySem.W.Frag) : Sp := fun vs H Q _ => ∃ (a t : Addr) (ns : List Int) (ts : List (Addr × List Int)), vs = [.ref a, .ref t] ∧ SqL K H a (ns.map V.int) ∧ Hist ns ∧ Ts H t ts ∧ TsOk ts ns ∧
  ∀ H' r, Same H H' → H r = none → H' r = some (.lst ((presB (tsL ts) ns).map V.int)) → Q (.ref r) H'
theorem ok_presents_by {f : Addr} {fd : FuncData} (F : Fun K "presents_by" "presents_by" s_presents_by f fd) (T_states_by : Gc P w K mg base 9 "_states_by" (spStates K)) : FnG P w K mg base CX0 10 f fd ["history", "touches"] (spPresB K) := by
  refine okG F sc_presents_by (fun vs H Q E h => ?_) (fun cdv A outer s H vs Q E hG hr h => ?_)
  · obtain ⟨a, t, ns, ts, rfl, _⟩ := h
    rfl
  · obtain ⟨a, t, ns, ts, rfl, hS, hh, ht, ok, q⟩ := h
    refine ⟨_, (pss_one (ps_ret (pe_lc (own := [("present", 2), ("_", 3)]) (g := _) (tt := tYes) rfl sc_presents_by.nd (pi_list (pe_g T_states_by hG hr (by decide) (by rfl) (pa_cons (pv 0) (pa_cons (pv 1) pa_nil)))) (blkOk_by (own := [("present", 2), ("_", 3)]) (N := N_presents_by) (sc := defScope s_presents_by) (by decide +kernel)) (fun _ _ _ _ _ => (k_tup (K := K) (n := 2) rfl rfl (pgs_cons (pg_name (i := 2) sc_presents_by.nd rfl (Or.inl rfl)) (pgs_cons (pg_name (i := 3) sc_presents_by.nd rfl (Or.inl rfl)) pgs_nil)))) (fun _ _ _ _ _ => pts_nil) (fun _ _ _ _ _ => (pv 2))))), ?_⟩
    refine ⟨_, rfl, _, rfl, a, t, ns, ts, rfl, hS, hh, ht, ok, fun H1 r zs s1 hz => ?_⟩
    have ll := hz.len
    refine ⟨r, rfl, ⟨_, .of hz.h⟩, fun D nD => lc_list (xs := zs.map fun z => V.ref z.t) (LcP H1 D fun j => ((List.range j).map fun s : Nat => (runR (own (tsL ts) s ns)).1).map V.int) (.init nD rfl) (fun j H2 _ p => .of (p.2.1 _ _ hz.h)) (fun j x H2 hx p => ?_) (fun H2 p => ?_)⟩
    · obtain ⟨z, hm, rfl, hj⟩ := get_ref hx
      have hst := (hz.at_ j z hj).same p.2.1
      have lj := lt_get hj
      refine ⟨z.t, _, rfl, .of hst.1.ht, rfl, _, _, rfl, _, _, rfl, rfl, rfl, ?_⟩
      refine ⟨_, rfl, p.put (.refl _) ?_ (by rw [List.length_map, List.length_map, List.length_range]; omega)⟩
      rw [List.range_succ, List.map_append, List.map_append]
      rfl
    · have h := p.2.2
      rw [List.length_map, ll] at h
      exact q _ _ (s1.trans p.2.1) (s1.free nD) h
def spSavB (K : PySem.W.Frag) : Sp := fun vs H Q _ => ∃ (a t : Addr) (ns : List Int) (ts : List (Addr × List Int)), vs = [.ref a, .ref t] ∧ SqL K H a (ns.map V.int) ∧ Hist ns ∧ Ts H t ts ∧ TsOk ts ns ∧
  ∀ H' r ds, Same H H' → DsF H' r ds 10 (fun s => own (tsL ts) s ns) → Q (.ref r) H'
theorem ok_savings_by {f : Addr} {fd : FuncData} (F : Fun K "_savings_by" "_savings_by" s_savings_by f fd) (T_z_dict : mg "dict" = none) (T_states_by : Gc P w K mg base 9 "_states_by" (spStates K)) : FnG P w K mg base CX0 10 f fd ["history", "touches"] (spSavB K) := by
  refine okG F sc_savings_by (fun vs H Q E h => ?_) (fun cdv A outer s H vs Q E hG hr h => ?_)
  · obtain ⟨a, t, ns, ts, rfl, _⟩ := h
    rfl
  · obtain ⟨a, t, ns, ts, rfl, hS, hh, ht, ok, q⟩ := h
    refine ⟨_, (pss_one (ps_ret (pe_lc (own := [("_", 2), ("saved", 3)]) (g := _) (tt := tYes) rfl sc_savings_by.nd (pi_list (pe_g T_states_by hG hr (by decide) (by rfl) (pa_cons (pv 0) (pa_cons (pv 1) pa_nil)))) (blkOk_by (own := [("_", 2), ("saved", 3)]) (N := N_savings_by) (sc := defScope s_savings_by) (by decide +kernel)) (fun _ _ _ _ _ => (k_tup (K := K) (n := 2) rfl rfl (pgs_cons (pg_name (i := 2) sc_savings_by.nd rfl (Or.inl rfl)) (pgs_cons (pg_name (i := 3) sc_savings_by.nd rfl (Or.inl rfl)) pgs_nil)))) (fun _ _ _ _ _ => pts_nil) (fun _ _ _ _ _ => (pe_callTy (k_dictP (K := K) rfl rfl) (by rfl) T_z_dict (by decide +kernel) (pa_cons (pv 3) pa_nil)))))), ?_⟩
    refine ⟨_, rfl, _, rfl, a, t, ns, ts, rfl, hS, hh, ht, ok, fun H1 r zs s1 hz => ?_⟩
    have ll := hz.len
    refine ⟨r, rfl, ⟨_, .of hz.h⟩, fun D nD => lc_list (xs := zs.map fun z => V.ref z.t) (fun j H2 => Same H1 H2 ∧ ∃ ds, DsF H2 D ds j (fun s => own (tsL ts) s ns)) ⟨same_new nD, [], upd_same, rfl, fun i d h => by cases i <;> cases h⟩ (fun j H2 _ p => .of (p.1 _ _ hz.h)) (fun j x H2 hx p => ?_) (fun H2 p => ?_)⟩
    · obtain ⟨z, hm, rfl, hj⟩ := get_ref hx
      obtain ⟨sm, ds, hd⟩ := p
      have hst := (hz.at_ j z hj).same sm
      have lj := lt_get hj
      have ld := hd.len
      refine ⟨z.t, _, rfl, .of hst.1.ht, rfl, _, _, rfl, _, _, rfl, rfl, rfl, ?_⟩
      have aS : SqL K H2 z.l ((z.ps.map (·.1)).map V.ref) := by
        have e : (z.ps.map (·.1)).map V.ref = z.ps.map fun z => V.ref z.1 := by rw [List.map_map]; rfl
        rw [e]
        exact .of hst.1.sv.h
      have nd : ((z.ps.map (·.2)).map (·.1)).Nodup := (hst.2.1.map (·.1)).nodup_iff.mpr (hl_nd (own_hist hh).nd)
      refine ⟨_, rfl, z.l, z.ps.map (fun z : Addr × Int × Int => z.1), (z.ps.map (fun z : Addr × Int × Int => z.2)).map entI, rfl, aS, paired_pairs z.ps hst.1.sv.q, fun d nnd => ?_⟩
      rw [merge_ent0 nd]
      have e4 := same_new (o := .dK ((z.ps.map (fun z : Addr × Int × Int => z.2)).map entI)) nnd
      have hD4 := e4 _ _ hd.h
      have hdd : (upd H2 d (.dK ((z.ps.map (fun z : Addr × Int × Int => z.2)).map entI))) d = some (.dK ((z.ps.map (fun z : Addr × Int × Int => z.2)).map entI)) := upd_same
      refine ⟨ds.map V.ref, hD4, by rw [List.length_map]; exact zl (by omega), Lp.Same.mut (sm.trans e4) nD, ds ++ [d], ?_, ?_, fun m d' hm => ?_⟩
      · rw [upd_same, List.map_append]
        rfl
      · rw [List.length_append, ld]
        rfl
      · have neD : ∀ {y : Addr} {kv : List (Key × V)}, (upd H2 d (.dK ((z.ps.map (fun z : Addr × Int × Int => z.2)).map entI))) y = some (.dK kv) → y ≠ D := fun {y kv} e z => by rw [z, hD4] at e; cases e
        by_cases hlt : m < ds.length
        · rw [List.getElem?_append_left hlt] at hm
          obtain ⟨S, a1, a2⟩ := hd.at_ m d' hm
          have a3 := e4 _ _ a1
          exact ⟨S, by rw [upd_ne (neD a3)]; exact a3, a2⟩
        · rw [List.getElem?_append_right (by omega)] at hm
          have hm0 := lt_get hm
          have e : m = ds.length := by
            have : m - ds.length < 1 := hm0
            omega
          subst e
          rw [Nat.sub_self] at hm
          cases hm
          rw [ld]
          exact ⟨_, by rw [upd_ne (neD hdd)]; exact hdd, hst.2.1⟩
    · obtain ⟨sm, ds, hd⟩ := p
      rw [List.length_map, ll] at hd
      exact q _ _ ds (s1.trans sm) hd
def lostL (ts : List (List Int)) (ns : List Int) (n : Nat) : List Int := ((List.range n).filter fun s : Nat => decide ((runR (own ts s ns)).1 ≠ 0 ∧ hl (own ts s ns) = [])).map fun s : Nat => (s : Int)
def spLostS (K : PySem.W.Frag) : Sp := fun vs H Q _ => ∃ (a t : Addr) (ns : List Int) (ts : List (Addr × List Int)), vs = [.ref a, .ref t] ∧ SqL K H a (ns.map V.int) ∧ Hist ns ∧ Ts H t ts ∧ TsOk ts ns ∧
  ∀ H' r, Same H H' → H' r = some (.lst ((lostL (tsL ts) ns 10).map V.int)) → Q (.ref r) H'
theorem lostL_succ (ts : List (List Int)) (ns : List Int) (n : Nat) : lostL ts ns (n + 1) = lostL ts ns n ++ if (runR (own ts n ns)).1 ≠ 0 ∧ hl (own ts n ns) = [] then [(n : Int)] else [] := by
  unfold lostL
  rw [List.range_succ, List.filter_append, List.map_append]
  by_cases h : (runR (own ts n ns)).1 ≠ 0 ∧ hl (own ts n ns) = []
  · rw [if_pos h, List.filter_cons_of_pos (by exact decide_eq_true h)]
    rfl
  · rw [if_neg h, List.filter_cons_of_neg (by rw [decide_eq_false h]; decide)]
    rfl
theorem lostL_len (ts : List (List Int)) (ns : List Int) (n : Nat) : (lostL ts ns n).length ≤ n := by
  unfold lostL
  rw [List.length_map]
  exact Nat.le_trans (List.length_filter_le _ _) (by rw [List.length_range]; exact Nat.le_refl _)
theorem ok_lost_settings {f : Addr} {fd : FuncData} (F : Fun K "_lost_settings" "_lost_settings" s_lost_settings f fd) (B : NoB mg) (T_states_by : Gc P w K mg base 9 "_states_by" (spStates K)) : FnG P w K mg base CX0 10 f fd ["history", "touches"] (spLostS K) := by
  refine okG F sc_lost_settings (fun vs H Q E h => ?_) (fun cdv A outer s H vs Q E hG hr h => ?_)
  · obtain ⟨a, t, ns, ts, rfl, _⟩ := h
    rfl
  · obtain ⟨a, t, ns, ts, rfl, hS, hh, ht, ok, q⟩ := h
    have hu64 := hr.units
    refine ⟨_, (pss_cons (ps_set (i := 2) sc_lost_settings.nd rfl (Or.inl rfl) (pe_g T_states_by hG hr (by decide) (by rfl) (pa_cons (pv 0) (pa_cons (pv 1) pa_nil))))
        (pss_one (ps_ret (pe_lc (own := [("setting", 3), ("present", 4), ("saved", 5)]) (g := _) (tt := _) rfl sc_lost_settings.nd (pi_enum (by rfl) B.enumerate (pa_cons (pv 2) pa_nil)) (blkOk_by (own := [("setting", 3), ("present", 4), ("saved", 5)]) (N := N_lost_settings) (sc := defScope s_lost_settings) (by decide +kernel)) (fun _ _ _ _ _ => (k_tup (K := K) (n := 2) rfl rfl (pgs_cons (pg_name (i := 3) sc_lost_settings.nd rfl (Or.inl rfl)) (pgs_cons (k_tup (K := K) (n := 2) rfl rfl (pgs_cons (pg_name (i := 4) sc_lost_settings.nd rfl (Or.inl rfl)) (pgs_cons (pg_name (i := 5) sc_lost_settings.nd rfl (Or.inl rfl)) pgs_nil))) pgs_nil)))) (fun _ _ _ _ _ => (pts_one (PW.pt (pw_and (pt_cmpR op_ne (pv 4) pe_int (nomark _)) (pw_and1 (pt_cmpR (k_eqD (K := K) rfl hu64) (pv 5) (pe_lst pa_nil) (nomark _))))))) (fun _ _ _ _ _ => (pv 3)))))), ?_⟩
    refine ⟨_, rfl, _, rfl, a, t, ns, ts, rfl, hS, hh, ht, ok, fun H1 r zs s1 hz => ?_⟩
    have ll := hz.len
    refine ⟨_, rfl, r, _, rfl, .of hz.h, fun D nD => lc_enum (xs := zs.map fun z => V.ref z.t) (LcP H1 D fun j => (lostL (tsL ts) ns j).map V.int) (.init nD rfl) (fun j H2 _ p => .of (p.2.1 _ _ hz.h)) (fun j x T H2 hx nT p => ?_) (fun H2 p => ?_)⟩
    · obtain ⟨z, hm, rfl, hj⟩ := get_ref hx
      have lj := lt_get hj
      have sT := same_new (o := .tup [.int (j : Nat), .ref z.t]) nT
      have hst := (hz.at_ j z hj).same (p.2.1.trans sT)
      have hst0 := hst
      have ls := lostL_succ (tsL ts) ns j
      have lle := lostL_len (tsL ts) ns j
      have eS : z.ps.map (·.2) = [] ↔ hl (own (tsL ts) j ns) = [] := ⟨fun e => by have h := hst.2.1; rw [e] at h; exact h.nil_eq.symm, fun e => by have h := hst.2.1; rw [e] at h; exact h.eq_nil⟩
      refine ⟨T, _, rfl, .of upd_same, rfl, _, _, rfl, _, _, rfl, z.t, _, rfl, .of hst.1.ht, rfl, _, _, rfl, _, _, rfl, rfl, rfl, ?_⟩
      refine ⟨rfl, ?_⟩
      by_cases hp : (runR (own (tsL ts) j ns)).1 = 0
      · rw [if_neg fun z => z.1 hp, List.append_nil] at ls
        exact ⟨_, rfl, rfl, false, nF (congrArg V.int hp), p.skip sT (by show (lostL (tsL ts) ns (j + 1)).map V.int = _; rw [ls])⟩
      · refine ⟨_, rfl, rfl, true, Lp.nT (vne hp), _, rfl, by show 0 ≤ sizeLine; decide, fun e ne => ?_⟩
        have s3 := same_new (o := .lst []) ne
        have st3 := hst.1.same s3
        have dl : Dp K (upd (upd H2 T (.tup [.int (j : Nat), .ref z.t])) e (.lst [])) (.ref z.l) (dP (z.ps.map (·.2))) := .lst (.of st3.sv.h) (dpAll_pairs z.ps st3.sv.q)
        by_cases hs : hl (own (tsL ts) j ns) = []
        · rw [if_pos ⟨hp, hs⟩] at ls
          refine ⟨_, dP [], dl, .lst (.of upd_same) .nil, shaped_dP _, shaped_dP _, true, by rw [eqv_dP, decide_eq_true (eS.mpr hs)], ?_⟩
          refine ⟨_, rfl, p.put (sT.trans s3) ?_ (by rw [List.length_map]; omega)⟩
          show (lostL (tsL ts) ns (j + 1)).map V.int = _
          rw [ls, List.map_append]
          rfl
        · rw [if_neg fun z => hs z.2, List.append_nil] at ls
          refine ⟨_, dP [], dl, .lst (.of upd_same) .nil, shaped_dP _, shaped_dP _, false, by rw [eqv_dP, decide_eq_false fun z => hs (eS.mp z)], ?_⟩
          exact p.skip (sT.trans s3) (by show (lostL (tsL ts) ns (j + 1)).map V.int = _; rw [ls])
    · have h := p.2.2
      rw [List.length_map, ll] at h
      exact q _ _ (s1.trans p.2.1) h
def spSpoils (K : PySem.W.Frag) : Sp := fun vs H Q _ => ∃ (r l : Addr) (k : Int) (ds : List Addr) (ts : List (List Int)) (ns left : List Int), vs = [.ref r, .ref l, .int k] ∧ DsF H r ds 10 (fun s => own ts s ns) ∧ H l = some (.lst (left.map V.int)) ∧ left.length ≤ 200 ∧ Hist ns ∧
  ∀ H', Same H H' → Q (.bl (spoB ts ns left k)) H'
def spoF (ts : List (List Int)) (ns left : List Int) (k : Int) (s : Nat) : Bool := decide ((lk (hl (own ts s ns)) k).getD 0 ≠ 0) && (keysH ts s ns).all fun k => decide (k ∈ left)
theorem ok_spoils {f : Addr} {fd : FuncData} (F : Fun K "_spoils" "_spoils" s_spoils f fd) (B : NoB mg) (T_z_any : mg "any" = none) : FnG P w K mg base CX0 1 f fd ["savings", "patches", "patch"] (spSpoils K) := by
  refine okG F sc_spoils (fun vs H Q E h => ?_) (fun cdv A outer s H vs Q E hG hr h => ?_)
  · obtain ⟨r, l, k, ds, ts, ns, left, rfl, _⟩ := h
    rfl
  · obtain ⟨r, l, k, ds, ts, ns, left, rfl, hd, hS, hl0, hh, q⟩ := h
    have hu := hu_of hr
    refine ⟨_, (pss_one (ps_ret (pe_callB (cr_any rfl) (by rfl) T_z_any (by decide +kernel) (pa_cons (pe_lc (own := [("saved", 3)]) (g := gName 3) (tt := tYes) rfl sc_spoils.nd (pi_list (pv 0)) (blkOk_by (own := [("saved", 3)]) (N := N_spoils) (sc := defScope s_spoils) (by decide +kernel)) (fun _ _ _ _ _ => (pg_name (i := 3) sc_spoils.nd rfl (Or.inl rfl))) (fun _ _ _ _ _ => pts_nil) (fun _ _ _ _ _ => (pe_and (pe_cmpR op_ne (pe_dget2 hu (pv 3) (pv 2) pe_int (by constructor <;> rfl)) pe_int (nomark _)) (pe_one (pe_callB (k_all (K := K) rfl rfl) (by rfl) B.all (by decide +kernel) (pa_cons (pe_lock (pe_lc (own := [("other", 4)]) (g := gName 4) (tt := tYes) rfl sc_spoils.nd (pi_keys (pv 3)) (blkOk_in (sc0 := defScope s_spoils) (own := [("other", 4)]) (N := N_spoils) rfl (by decide +kernel)) (fun _ _ _ _ _ => (pg_name (i := 4) sc_spoils.nd rfl (Or.inl rfl))) (fun _ _ _ _ _ => pts_nil) (fun _ _ _ _ _ => (pe_cmpR (k_in (K := K) rfl) (pv 4) (pv 1) (by rfl))))) pa_nil)))))) pa_nil)))), ?_⟩
    have ll := hd.len
    refine ⟨_, rfl, r, rfl, ⟨_, .of hd.h⟩, fun D nD => lc_list (xs := ds.map V.ref) (LcP H D fun j => ((List.range j).map fun s => spoF ts ns left k s).map V.bl) (.init nD rfl) (fun j H2 _ p => .of (p.2.1 _ _ hd.h)) (fun j x H2 hx p => ?_) (fun H2 p => ?_)⟩
    · obtain ⟨d, hm, rfl, hj⟩ := get_ref (f := fun z : Addr => z) hx
      obtain ⟨S, hdd, pm⟩ := (hd.same p.2.1).at_ j d hj
      have lj := lt_get hj
      have ek : lk S k = lk (hl (own ts j ns)) k := lk_perm pm ((pm.map (·.1)).nodup_iff.mpr (hl_nd (own_hist hh).nd)) k
      have isd : IsD H2 d := .inl ⟨_, .inl hdd⟩
      have g := DGet.k (k := Sum.inl k) hdd
      rw [valV_ent, ek] at g
      have acs : (((List.range (j + 1)).map fun s => spoF ts ns left k s).map V.bl) = (((List.range j).map fun s => spoF ts ns left k s).map V.bl) ++ [.bl (spoF ts ns left k j)] := by
        rw [List.range_succ, List.map_append, List.map_append]
        rfl
      have acl : (((List.range j).map fun s => spoF ts ns left k s).map V.bl).length < 100000 := by rw [List.length_map, List.length_map, List.length_range]; omega
      refine ⟨rfl, ?_⟩
      have zero : ∀ v, lk (hl (own ts j ns)) k = v → v.getD 0 = 0 → spoF ts ns left k j = false := fun v e1 e2 => by
        unfold spoF
        rw [e1, e2]
        rfl
      cases ev : lk (hl (own ts j ns)) k with
      | none =>
        rw [ev] at g
        refine ⟨_, rfl, d, rfl, isd, _, rfl, none, g, rfl, false, nF rfl, p.put (.refl _) ?_ acl⟩
        rw [acs, zero _ ev rfl]
      | some v =>
        rw [ev] at g
        by_cases v0 : v = 0
        · subst v0
          refine ⟨_, rfl, d, rfl, isd, _, rfl, some _, g, rfl, false, nF rfl, p.put (.refl _) ?_ acl⟩
          rw [acs, zero _ ev rfl]
        · refine ⟨_, rfl, d, rfl, isd, _, rfl, some _, g, rfl, true, nT (vne v0), ?_⟩
          refine ⟨d, _, hdd, trivial, fun od => ?_⟩
          refine ⟨_, rfl, d, od, rfl, .inl ⟨S.map entI, upd_same, fun D2 nD2 => ?_⟩⟩
          refine lc_it walk_keys (LcP (upd H2 d (.frz od (.dK (S.map entI)))) D2 fun i => (((S.take i).map fun z => decide (z.1 ∈ left))).map V.bl) (.init nD2 rfl) (fun i H'' _ pp => pp.2.1 _ _ upd_same) (fun i x H'' H3' hi pp hy => ?_) (fun H7 p7 => ?_)
          · obtain ⟨rfl, kk, vv, hk, rfl⟩ := hy
            obtain ⟨z, hz, rfl, rfl⟩ := ent_get hk
            have li := lt_get hz
            have hl2 := p.2.1 _ _ hS
            have nld : l ≠ d := fun z => by rw [z, hdd] at hl2; cases hl2
            have hlq : H3' l = some (.lst (left.map V.int)) := pp.2.1 _ _ (by rw [upd_ne nld]; exact hl2)
            have Sl : S.length ≤ 200 := by
              have h1 := pm.length_eq
              have h2 := hl_len (own ts j ns)
              have h3 := (own_hist (ts := ts) (s := j) hh).len
              omega
            refine ⟨rfl, ?_⟩
            refine ⟨_, rfl, _, rfl, l, _, rfl, .inl (.of hlq), rfl, flatI _, pp.put (.refl _) ?_ (by rw [List.length_map, List.length_map, List.length_take]; omega)⟩
            rw [take_get hz, List.map_append, List.map_append]
            show _ ++ [V.bl (decide (z.1 ∈ left))] = _
            by_cases hm : z.1 ∈ left
            · exact congrArg (fun y => _ ++ [y]) ((dT hm).trans (inT hm).symm)
            · exact congrArg (fun y => _ ++ [y]) ((dF hm).trans (inF hm).symm)
          · have hdf := p7.2.1 d _ upd_same
            have sl := same_lock hdd p7.2.1
            have nDd : D2 ≠ d := (ne_of_none upd_same nD2).symm
            have hD7 := p7.2.2
            have hD8 : (upd H7 d (.dK (S.map entI))) D2 = some (.lst ((S.map fun z => decide (z.1 ∈ left)).map V.bl)) := by
              rw [upd_ne nDd, hD7, List.length_map]
              show some (HO.lst ((((S.take S.length).map fun z => decide (z.1 ∈ left))).map V.bl)) = _
              rw [List.take_length]
            refine ⟨hdf, D2, _, rfl, .of hD8, p.put sl ?_ acl⟩
            rw [acs, all_perm pm fun k => decide (k ∈ left)]
            show _ = _ ++ [V.bl (keysH ts j ns |>.all fun k => decide (k ∈ left))]
            unfold spoF
            rw [ev, decide_eq_true (show (some v).getD 0 ≠ 0 from v0), Bool.true_and]
    · have h := p.2.2
      rw [List.length_map, ll] at h
      refine ⟨D, _, rfl, .of h, ?_⟩
      have e : ((List.range 10).map fun s => spoF ts ns left k s).any id = spoB ts ns left k := by
        rw [List.any_map]
        rfl
      rw [e]
      exact q _ p.2.1
end
end L69
set_option Elab.async false
set_option linter.all false
set_option maxRecDepth 100000
namespace L69
open PySem PySem.Spec PyProof.Rows L2 Lp
def harm (ts : List (List Int)) (ns left : List Int) : List Int := left.filter fun p => !spoB ts ns left p
def osR (ts : List (List Int)) (ns : List Int) : Nat → List Int → List Int → List Int × List Int
  | 0, o, l => (o, l)
  | n + 1, o, l => if harm ts ns l = [] then (o, l) else osR ts ns n (harm ts ns l ++ o) (l.filter fun p => decide (p ∉ harm ts ns l))
theorem harm_lt {ts : List (List Int)} {ns l : List Int} (h : harm ts ns l ≠ []) : (l.filter fun p => decide (p ∉ harm ts ns l)).length < l.length := by
  obtain ⟨x, hx⟩ := List.exists_mem_of_ne_nil _ h
  exact List.length_filter_lt_length_iff_exists.mpr ⟨x, (List.mem_filter.mp hx).1, by rw [decide_eq_false fun z => z hx]; decide⟩
theorem osR_nil (ts : List (List Int)) (ns o : List Int) : ∀ n, osR ts ns n o [] = (o, [])
  | 0 => rfl
  | _ + 1 => if_pos rfl
theorem osR_more (ts : List (List Int)) (ns : List Int) : ∀ (n m : Nat) (o l : List Int), l.length ≤ n → l.length ≤ m → osR ts ns n o l = osR ts ns m o l
  | 0, m, o, l, h, _ => by
    rw [List.length_eq_zero_iff.mp (Nat.le_zero.mp h), osR_nil, osR_nil]
  | n + 1, 0, o, l, _, h => by
    rw [List.length_eq_zero_iff.mp (Nat.le_zero.mp h), osR_nil, osR_nil]
  | n + 1, m + 1, o, l, h1, h2 => by
    by_cases hh : harm ts ns l = []
    · unfold osR
      rw [if_pos hh, if_pos hh]
    · have := harm_lt hh
      unfold osR
      rw [if_neg hh, if_neg hh]
      exact osR_more ts ns n m _ _ (by omega) (by omega)
theorem osR_end {ts : List (List Int)} {ns o l : List Int} (h : harm ts ns l = []) : ∀ n, osR ts ns n o l = (o, l)
  | 0 => rfl
  | _ + 1 => if_pos h
theorem osR_step {ts : List (List Int)} {ns o l : List Int} (h : harm ts ns l ≠ []) : osR ts ns l.length o l = osR ts ns (l.filter fun p => decide (p ∉ harm ts ns l)).length (harm ts ns l ++ o) (l.filter fun p => decide (p ∉ harm ts ns l)) := by
  have := harm_lt h
  cases e : l.length with
  | zero => omega
  | succ n =>
    rw [show osR ts ns (n + 1) o l = osR ts ns n (harm ts ns l ++ o) (l.filter fun p => decide (p ∉ harm ts ns l)) from if_neg h]
    exact osR_more ts ns _ _ _ _ (by omega) (Nat.le_refl _)
structure OsE (ts : List (List Int)) (ns order left : List Int) : Prop where
  os : Os ts ns order left
  fin : ∃ R : List Int, R.Perm (runL ns) ∧ R.Pairwise (· ≤ ·) ∧ osR ts ns R.length [] R = (order, left)
theorem OsE.uniq {ts : List (List Int)} {ns o l o' l' : List Int} (h : OsE ts ns o l) (h' : OsE ts ns o' l') : l = l' := by
  obtain ⟨R, p, s, e⟩ := h.fin
  obtain ⟨R', p', s', e'⟩ := h'.fin
  have : R = R' := sorted_uniq (p.trans p'.symm) s s'
  subst this
  rw [e] at e'
  exact congrArg Prod.snd e'
section
variable {P : Program} {w : World} {K : PySem.W.Frag} {mg : Str → Option Value} {base : Heap}
def spOS (K : PySem.W.Frag) : Sp := fun vs H Q _ => ∃ (a t : Addr) (ns : List Int) (ts : List (Addr × List Int)), vs = [.ref a, .ref t] ∧ SqL K H a (ns.map V.int) ∧ Hist ns ∧ Ts H t ts ∧ TsOk ts ns ∧
  ∀ H' T o l order left, Same H H' → H' T = some (.tup [.ref o, .ref l]) → H' o = some (.lst (order.map V.int)) → H' l = some (.lst (left.map V.int)) → OsE (tsL ts) ns order left → Q (.ref T) H'
theorem ok_order_and_stuck {f : Addr} {fd : FuncData} (F : Fun K "_order_and_stuck" "_order_and_stuck" s_order_and_stuck f fd) (T_running_after : Cal P w K mg base 7 "running_after" (spRunA K)) (T_savings_by : Gc P w K mg base 10 "_savings_by" (spSavB K)) (T_spoils : Gc P w K mg base 1 "_spoils" (spSpoils K)) :
    FnG P w K mg base CX0 11 f fd ["history", "touches"] (spOS K) := by
  refine okG F sc_order_and_stuck (fun vs H Q E h => ?_) (fun cdv A outer s H vs Q E hG hr h => ?_)
  · obtain ⟨a, t, ns, ts, rfl, _⟩ := h
    rfl
  · obtain ⟨a, t, ns, ts, rfl, hS, hh, ht, ok, q⟩ := h
    have hu64 := hr.units
    have hnl := hh.len
    refine ⟨_, (pss_cons (ps_asg (pe_tup (pa_cons (pe_g T_savings_by hG hr (by decide) (by rfl) (pa_cons (pv 0) (pa_cons (pv 1) pa_nil))) (pa_cons (pe_lst pa_nil) (pa_cons (pe_c T_running_after hr (by decide) (by rfl) (pa_cons (pv 0) pa_nil)) pa_nil)))) (pg_tup rfl (pgs_cons (pg_name (i := 2) sc_order_and_stuck.nd rfl (Or.inr rfl)) (pgs_cons (pg_name (i := 3) sc_order_and_stuck.nd rfl (Or.inl rfl)) (pgs_cons (pg_name (i := 4) sc_order_and_stuck.nd rfl (Or.inr rfl)) pgs_nil)))))
        (pss_one (ps_while PassesOwn.never (pt_val pe_bl) (pss_cons (ps_set (i := 5) sc_order_and_stuck.nd rfl (Or.inr rfl) (pe_lc (own := [("patch", 6)]) (g := gName 6) (tt := _) rfl sc_order_and_stuck.nd (pi_list (pv 4)) (blkOk_by (own := [("patch", 6)]) (N := N_order_and_stuck) (sc := defScope s_order_and_stuck) (by decide +kernel)) (fun _ _ _ _ _ => (pg_name (i := 6) sc_order_and_stuck.nd rfl (Or.inl rfl))) (fun _ _ _ _ _ => (pts_one (pt_not (pt_val (pe_g T_spoils hG hr (by decide) (by rfl) (pa_cons (pv 2) (pa_cons (pv 4) (pa_cons (pv 6) pa_nil)))))))) (fun _ _ _ _ _ => (pv 6))))
          (pss_cons (ps_if (pt_cmpR (op_eqD hu64) (pv 5) (pe_lst pa_nil) (nomark _)) (pss_one (ps_ret (pe_tup (pa_cons (pv 3) (pa_cons (pv 4) pa_nil))))) pss_nil)
          (pss_cons (ps_set (i := 3) sc_order_and_stuck.nd rfl (Or.inl rfl) (pe_op op_cat (pv 5) (pv 3)))
          (pss_one (ps_set (i := 4) sc_order_and_stuck.nd rfl (Or.inr rfl) (pe_lc (own := [("patch", 6)]) (g := gName 6) (tt := _) rfl sc_order_and_stuck.nd (pi_list (pv 4)) (blkOk_by (own := [("patch", 6)]) (N := N_order_and_stuck) (sc := defScope s_order_and_stuck) (by decide +kernel)) (fun _ _ _ _ _ => (pg_name (i := 6) sc_order_and_stuck.nd rfl (Or.inl rfl))) (fun _ _ _ _ _ => (pts_one (pt_cmpR (k_notin (K := K) rfl) (pv 6) (pv 5) (by rfl)))) (fun _ _ _ _ _ => (pv 6))))))))))), ?_⟩
    refine ⟨_, rfl, _, rfl, a, t, ns, ts, rfl, hS, hh, ht, ok, fun H1 r ds s1 hd => ?_⟩
    refine ⟨by show 0 ≤ sizeLine; decide, fun o0 no0 => ?_⟩
    have s2 := same_new (o := .lst []) no0
    have s12 := s1.trans s2
    refine ⟨_, rfl, a, ns, rfl, s12.seq hS, hh, fun H3 rr R s3 nr hr3 pm pw => ?_⟩
    refine ⟨by show 3 ≤ sizeLine; decide, fun T0 nT0 => ?_⟩
    have s4 := same_new (o := .tup [.ref r, .ref o0, .ref rr]) nT0
    have s34 := s3.trans s4
    have s04 := s12.trans s34
    have ho0 : (upd H3 T0 (.tup [.ref r, .ref o0, .ref rr])) o0 = some (.lst (([] : List Int).map V.int)) := s34 _ _ upd_same
    have hl0 := s4 _ _ hr3
    have hd4 := hd.same (s2.trans s34)
    refine ⟨T0, _, rfl, .of upd_same, rfl, _, _, rfl, _, _, rfl, _, _, rfl, rfl, ?_⟩
    generalize upd H3 T0 (.tup [.ref r, .ref o0, .ref rr]) = HB at s04 ho0 hl0 hd4 ⊢
    have Rl : R.length ≤ 200 := by
      have h1 := pm.length_eq
      have h2 := nodup_len (runL_nd hh.nd) fun x hx => (runL_mem.mp hx).1
      omega
    refine ⟨fun m σ H' => ∃ (o l : Addr) (order left : List Int), (∃ y z, σ = [some (.ref a), some (.ref t), some (.ref r), some (.ref o), some (.ref l), y, z]) ∧ Same HB H' ∧ H' o = some (.lst (order.map V.int)) ∧ H' l = some (.lst (left.map V.int)) ∧ Os (tsL ts) ns order left ∧ osR (tsL ts) ns left.length order left = osR (tsL ts) ns R.length [] R ∧ left.length = m, ⟨R.length, o0, rr, [], R, ⟨_, _, rfl⟩, .refl _, ho0, hl0, Os.init pm, rfl, rfl⟩, ?_⟩
    rintro m σ H' ⟨o, l, order, left, ⟨y, z, rfl⟩, sm, ho, hl, os, ef, rfl⟩
    have Ll : order.length + left.length ≤ 200 := by
      have h1 := os.pm.length_eq
      have h2 := pm.length_eq
      rw [List.length_append] at h1
      omega
    refine ⟨true, rfl, ?_⟩
    refine ⟨fun σ' H'' => ∃ m', m' < left.length ∧ ∃ (o l : Addr) (order left : List Int), (∃ y z, σ' = [some (.ref a), some (.ref t), some (.ref r), some (.ref o), some (.ref l), y, z]) ∧ Same HB H'' ∧ H'' o = some (.lst (order.map V.int)) ∧ H'' l = some (.lst (left.map V.int)) ∧ Os (tsL ts) ns order left ∧ osR (tsL ts) ns left.length order left = osR (tsL ts) ns R.length [] R ∧ left.length = m', fun σ' H'' h => h, ?_⟩
    refine ⟨_, rfl, l, rfl, ⟨_, .of hl⟩, fun D nD => lc_list (xs := left.map V.int) (LcP H' D fun j => ((left.take j).filter fun p => !spoB (tsL ts) ns left p).map V.int) (.init nD rfl) (fun j H2 _ p => .of (p.2.1 _ _ hl)) (fun j x H2 hx p => ?_) (fun H2 p => ?_)⟩
    · obtain ⟨n, rfl, hn⟩ := get_int hx
      have fs := filt_succ (f := fun p => !spoB (tsL ts) ns left p) hn
      have fl := filt_len (ns := left) (f := fun p => !spoB (tsL ts) ns left p) j
      have li := lt_get hn
      refine ⟨rfl, ?_⟩
      refine ⟨_, rfl, _, rfl, _, rfl, r, l, n, ds, tsL ts, ns, left, rfl, hd4.same (sm.trans p.2.1), p.2.1 _ _ hl, by omega, hh, fun H4 s5 => ⟨spoB (tsL ts) ns left n, rfl, ?_⟩⟩
      cases e : spoB (tsL ts) ns left n with
      | true =>
        rw [e] at fs
        refine p.skip s5 ?_
        show ((left.take (j + 1)).filter _).map V.int = _
        rw [fs, if_neg (by decide), List.append_nil]
      | false =>
        rw [e] at fs
        refine ⟨_, rfl, p.put s5 ?_ (by rw [List.length_map]; omega)⟩
        show ((left.take (j + 1)).filter _).map V.int = _
        rw [fs, if_pos (by decide), List.map_append]
        rfl
    have hD : H2 D = some (.lst ((harm (tsL ts) ns left).map V.int)) := by
      have h := p.2.2
      rw [List.length_map] at h
      rw [h]
      show some (HO.lst (((left.take left.length).filter _).map V.int)) = _
      rw [List.take_length]
      rfl
    have s5 := p.2.1
    have hhl : (harm (tsL ts) ns left).length ≤ left.length := List.length_filter_le _ _
    refine ⟨_, rfl, by show 0 ≤ sizeLine; decide, fun e ne => ?_⟩
    have s6 := same_new (o := .lst []) ne
    have s56 := s5.trans s6
    have hD6 := s6 _ _ hD
    have hl6 := s56 _ _ hl
    have ho6 := s56 _ _ ho
    by_cases h0 : harm (tsL ts) ns left = []
    · refine ⟨dI _, dI [], dp_ints (.of hD6), dp_ints (ns := []) (.of upd_same), shaped_ints _, shaped_ints _, true, eqvT h0, iteT ?_⟩
      refine ⟨_, rfl, _, rfl, by show 2 ≤ sizeLine; decide, fun T nT => ?_⟩
      have s7 := same_new (o := .tup [.ref o, .ref l]) nT
      refine q _ T o l order left ((s04.trans sm).trans (s56.trans s7)) upd_same (s7 _ _ ho6) (s7 _ _ hl6) ⟨os, R, pm, pw, ?_⟩
      rw [← ef]
      exact osR_end h0 _
    · refine ⟨dI _, dI [], dp_ints (.of hD6), dp_ints (ns := []) (.of upd_same), shaped_ints _, shaped_ints _, false, eqvF h0, iteF ?_⟩
      refine ⟨_, rfl, _, rfl, D, o, _, _, rfl, rfl, hD6, ho6, Lp.zs (by rw [List.length_map, List.length_map]; omega), fun o2 no2 => ?_⟩
      rw [← List.map_append]
      have s7 := same_new (o := .lst ((harm (tsL ts) ns left ++ order).map V.int)) no2
      have hl7 := s7 _ _ hl6
      have hD7 := s7 _ _ hD6
      have ho7 : (upd (upd H2 e (.lst [])) o2 (.lst ((harm (tsL ts) ns left ++ order).map V.int))) o2 = some (.lst ((harm (tsL ts) ns left ++ order).map V.int)) := upd_same
      have s57 := s56.trans s7
      generalize upd (upd H2 e (.lst [])) o2 (.lst ((harm (tsL ts) ns left ++ order).map V.int)) = H7 at s57 hl7 hD7 ho7 ⊢
      refine ⟨_, rfl, l, rfl, ⟨_, .of hl7⟩, fun D2 nD2 => lc_list (xs := left.map V.int) (LcP H7 D2 fun j => ((left.take j).filter fun p => decide (p ∉ harm (tsL ts) ns left)).map V.int) (.init nD2 rfl) (fun j H2 _ p => .of (p.2.1 _ _ hl7)) (fun j x H2 hx p => ?_) (fun H8 p8 => ?_)⟩
      · obtain ⟨n, rfl, hn⟩ := get_int hx
        have fs := filt_succ (f := fun p => decide (p ∉ harm (tsL ts) ns left)) hn
        have fl := filt_len (ns := left) (f := fun p => decide (p ∉ harm (tsL ts) ns left)) j
        have li := lt_get hn
        refine ⟨rfl, ?_⟩
        refine ⟨_, rfl, _, rfl, D, _, rfl, .inl (.of (p.2.1 _ _ hD7)), rfl, flatI _, ?_⟩
        by_cases hm : n ∈ harm (tsL ts) ns left
        · rw [decide_eq_false fun z => z hm] at fs
          refine ⟨false, notInF hm, p.skip (.refl _) ?_⟩
          show ((left.take (j + 1)).filter _).map V.int = _
          rw [fs, if_neg (by decide), List.append_nil]
        · rw [decide_eq_true hm] at fs
          refine ⟨true, notInT hm, _, rfl, p.put (.refl _) ?_ (by rw [List.length_map]; omega)⟩
          show ((left.take (j + 1)).filter _).map V.int = _
          rw [fs, if_pos rfl, List.map_append]
          rfl
      · have hD8 : H8 D2 = some (.lst ((left.filter fun p => decide (p ∉ harm (tsL ts) ns left)).map V.int)) := by
          have h := p8.2.2
          rw [List.length_map] at h
          rw [h]
          show some (HO.lst (((left.take left.length).filter _).map V.int)) = _
          rw [List.take_length]
        exact ⟨_, harm_lt h0, o2, D2, _, _, ⟨_, _, rfl⟩, (sm.trans s57).trans p8.2.1, p8.2.1 _ _ ho7, hD8, os.step hh, (osR_step h0).symm.trans ef, rfl⟩
def spObs (K : PySem.W.Frag) : Sp := fun vs H Q _ => ∃ (a t : Addr) (ns : List Int) (ts : List (Addr × List Int)), vs = [.ref a, .ref t] ∧ SqL K H a (ns.map V.int) ∧ Hist ns ∧ Ts H t ts ∧ TsOk ts ns ∧
  ∀ H' v, Same H H' → (v = .non ↔ lostL (tsL ts) ns 10 = [] ∧ ∃ o, OsE (tsL ts) ns o []) → Q v H'
theorem ok_obstacle {f : Addr} {fd : FuncData} (F : Fun K "obstacle" "obstacle" s_obstacle f fd) (T_lost_settings : Gc P w K mg base 10 "_lost_settings" (spLostS K)) (T_order_and_stuck : Gc P w K mg base 11 "_order_and_stuck" (spOS K)) :
    FnG P w K mg base CX0 12 f fd ["history", "touches"] (spObs K) := by
  refine okG F sc_obstacle (fun vs H Q E h => ?_) (fun cdv A outer s H vs Q E hG hr h => ?_)
  · obtain ⟨a, t, ns, ts, rfl, _⟩ := h
    rfl
  · obtain ⟨a, t, ns, ts, rfl, hS, hh, ht, ok, q⟩ := h
    have hu64 := hr.units
    refine ⟨_, (pss_cons (ps_set (i := 2) sc_obstacle.nd rfl (Or.inl rfl) (pe_g T_lost_settings hG hr (by decide) (by rfl) (pa_cons (pv 0) (pa_cons (pv 1) pa_nil))))
        (pss_cons (ps_if (pt_cmpR (op_neD hu64) (pv 2) (pe_lst pa_nil) (nomark _)) (pss_one (ps_ret (pe_tup (pa_cons pe_str (pa_cons (pe_ix ix_list (pv 2) pe_int (fun _ _ => rfl)) pa_nil))))) pss_nil)
        (pss_cons (ps_asg (pe_g T_order_and_stuck hG hr (by decide) (by rfl) (pa_cons (pv 0) (pa_cons (pv 1) pa_nil))) (pg_tup rfl (pgs_cons (pg_name (i := 3) sc_obstacle.nd rfl (Or.inl rfl)) (pgs_cons (pg_name (i := 4) sc_obstacle.nd rfl (Or.inl rfl)) pgs_nil))))
        (pss_one (ps_ret (pe_ifExp (pt_cmpR (op_neD hu64) (pv 4) (pe_lst pa_nil) (nomark _)) (pe_tup (pa_cons pe_str (pa_cons (pv 4) pa_nil))) pe_non)))))), ?_⟩
    refine ⟨_, rfl, _, rfl, a, t, ns, ts, rfl, hS, hh, ht, ok, fun H1 r s1 hr1 => ?_⟩
    refine ⟨_, rfl, by show 0 ≤ sizeLine; decide, fun e ne => ?_⟩
    have s2 := same_new (o := .lst []) ne
    have s12 := s1.trans s2
    have hr2 := s2 _ _ hr1
    cases hc : lostL (tsL ts) ns 10 with
    | cons x xs =>
      rw [hc] at hr2
      refine ⟨dI _, dI [], dp_ints (.of hr2), dp_ints (ns := []) (.of upd_same), shaped_ints _, shaped_ints _, true, neqT (by simp), iteT ?_⟩
      refine ⟨_, rfl, r, _, 0, _, rfl, rfl, .of hr2, at0, by show 2 ≤ sizeLine; decide, fun T nT => q _ _ (s12.trans (same_new nT)) ⟨(fun z => nomatch z), (fun z => by rw [hc] at z; exact nomatch z.1)⟩⟩
    | nil =>
      rw [hc] at hr2
      refine ⟨dI _, dI [], dp_ints (ns := []) (.of hr2), dp_ints (ns := []) (.of upd_same), shaped_ints _, shaped_ints _, false, neqF rfl, iteF ?_⟩
      generalize upd H1 e (.lst []) = H2 at s12 ⊢
      refine ⟨_, rfl, _, rfl, a, t, ns, ts, rfl, s12.seq hS, hh, ht.same s12, ok, fun H3 T o l order left s3 hT ho hl os => ?_⟩
      refine ⟨T, _, rfl, .of hT, rfl, _, _, rfl, _, _, rfl, rfl, ?_⟩
      have s03 := s12.trans s3
      refine ⟨_, rfl, by show 0 ≤ sizeLine; decide, fun e2 ne2 => ?_⟩
      have s4 := same_new (o := .lst []) ne2
      have hl4 := s4 _ _ hl
      have s04 := s03.trans s4
      by_cases h0 : left = []
      · subst h0
        refine ⟨dI _, dI [], dp_ints (ns := []) (.of hl4), dp_ints (ns := []) (.of upd_same), shaped_ints _, shaped_ints _, false, neqF rfl, ?_⟩
        exact q _ _ s04 ⟨fun _ => ⟨hc, order, os⟩, fun _ => rfl⟩
      · refine ⟨dI _, dI [], dp_ints (.of hl4), dp_ints (ns := []) (.of upd_same), shaped_ints _, shaped_ints _, true, neqT h0, ?_⟩
        exact ⟨_, rfl, by show 2 ≤ sizeLine; decide, fun T2 nT2 => q _ _ (s04.trans (same_new nT2)) ⟨(fun z => nomatch z), fun ⟨_, o', os'⟩ => absurd (os.uniq os') h0⟩⟩
def spRest (K : PySem.W.Frag) : Sp := fun vs H Q _ => ∃ (a t : Addr) (ns : List Int) (ts : List (Addr × List Int)), vs = [.ref a, .ref t] ∧ SqL K H a (ns.map V.int) ∧ Hist ns ∧ Ts H t ts ∧ TsOk ts ns ∧
  ∀ H' v, Same H H' → (v ≠ .non ↔ lostL (tsL ts) ns 10 = [] ∧ ∃ o, OsE (tsL ts) ns o []) → Q v H'
theorem ok_restoring_order {f : Addr} {fd : FuncData} (F : Fun K "restoring_order" "restoring_order" s_restoring_order f fd) (T_obstacle : Gc P w K mg base 12 "obstacle" (spObs K)) (T_order_and_stuck : Gc P w K mg base 11 "_order_and_stuck" (spOS K)) :
    FnG P w K mg base CX0 13 f fd ["history", "touches"] (spRest K) := by
  refine okG F sc_restoring_order (fun vs H Q E h => ?_) (fun cdv A outer s H vs Q E hG hr h => ?_)
  · obtain ⟨a, t, ns, ts, rfl, _⟩ := h
    rfl
  · obtain ⟨a, t, ns, ts, rfl, hS, hh, ht, ok, q⟩ := h
    refine ⟨_, (pss_cons (ps_if (pt_cmpR op_notN (pe_g T_obstacle hG hr (by decide) (by rfl) (pa_cons (pv 0) (pa_cons (pv 1) pa_nil))) pe_non (nomark _)) (pss_one (ps_ret pe_non)) pss_nil)
        (pss_cons (ps_asg (pe_g T_order_and_stuck hG hr (by decide) (by rfl) (pa_cons (pv 0) (pa_cons (pv 1) pa_nil))) (pg_tup rfl (pgs_cons (pg_name (i := 2) sc_restoring_order.nd rfl (Or.inl rfl)) (pgs_cons (pg_name (i := 3) sc_restoring_order.nd rfl (Or.inl rfl)) pgs_nil))))
        (pss_one (ps_ret (pv 2))))), ?_⟩
    refine ⟨_, rfl, _, rfl, a, t, ns, ts, rfl, hS, hh, ht, ok, fun H1 v s1 hv => ?_⟩
    by_cases h0 : v = .non
    · refine ⟨rfl, false, nF h0, ?_⟩
      obtain ⟨hc, o0, os0⟩ := hv.mp h0
      refine ⟨_, rfl, _, rfl, a, t, ns, ts, rfl, s1.seq hS, hh, ht.same s1, ok, fun H3 T o l order left s3 hT ho hl os => ?_⟩
      refine ⟨T, _, rfl, .of hT, rfl, _, _, rfl, _, _, rfl, rfl, ?_⟩
      have e := os0.uniq os
      subst e
      exact ⟨_, rfl, q _ _ (s1.trans s3) ⟨fun _ => ⟨hc, o0, os0⟩, fun _ => (fun z => nomatch z)⟩⟩
    · exact ⟨rfl, true, nT h0, q _ _ s1 ⟨fun z => absurd rfl z, fun z => absurd (hv.mpr z) h0⟩⟩
end
/-! ### if some order restores all settings, none is lost and the greedy search leaves out no patch -/
abbrev harmL := harm
theorem osR_fin (ts : List (List Int)) (ns : List Int) : ∀ (n : Nat) (o l : List Int), l.length ≤ n → harm ts ns (osR ts ns n o l).2 = []
  | 0, o, l, h => by
    rw [List.length_eq_zero_iff.mp (Nat.le_zero.mp h)]
    rfl
  | n + 1, o, l, h => by
    by_cases hh : harm ts ns l = []
    · rw [osR_end hh]
      exact hh
    · have := harm_lt hh
      rw [show osR ts ns (n + 1) o l = osR ts ns n (harm ts ns l ++ o) (l.filter fun p => decide (p ∉ harm ts ns l)) from if_neg hh]
      exact osR_fin ts ns n _ _ (by omega)
theorem OsE.harm {ts : List (List Int)} {ns o l : List Int} (h : OsE ts ns o l) : harmL ts ns l = [] := by
  obtain ⟨R, _, _, e⟩ := h.fin
  have := osR_fin ts ns R.length [] R (Nat.le_refl _)
  rw [e] at this
  exact this
theorem last_filter {l : List Int} {f : Int → Bool} {p : Int} (h : l.getLast? = some p) (hf : f p = true) : (l.filter f).getLast? = some p := by
  obtain ⟨ys, rfl⟩ := List.getLast?_eq_some_iff.mp h
  rw [List.filter_append, List.filter_cons_of_pos hf]
  exact List.getLast?_concat ..
def Restores (ts : List (List Int)) (ns O : List Int) : Prop := ∀ s : Nat, s < 10 → (runP (own ts s ns ++ (O.filter fun k => tpI ts s k).map fun k => 0 - k)).1 = 0
theorem restores_last {ts : List (List Int)} {ns O : List Int} (hh : Hist ns) (pm : O.Perm (runL ns)) {s : Nat} :
    (runP (own ts s ns ++ (O.filter fun k => tpI ts s k).map fun k => 0 - k)).1 = (((O.filter fun k => decide (k ∈ keysH ts s ns)).getLast?.bind fun q => lk (hl (own ts s ns)) q).getD (runR (own ts s ns)).1) := by
  have ho := own_hist (ts := ts) (s := s) hh
  have er := runRP ho
  have hm : ∀ k ∈ O, k ∈ ns ∧ 0 < k ∧ -k ∉ ns := fun k hk => runL_mem.mp (pm.mem_iff.mp hk)
  have eF : (O.filter fun k => tpI ts s k) = O.filter fun k => decide (k ∈ keysH ts s ns) := by
    refine List.filter_congr fun k hk => ?_
    by_cases c : tpI ts s k = true
    · rw [c, decide_eq_true (keysH_mem.mpr ⟨hm k hk, c⟩)]
    · rw [Bool.not_eq_true] at c
      rw [c, decide_eq_false fun z => by rw [(keysH_mem.mp z).2] at c; cases c]
  rw [runP_stops fun k hk => (hm k (List.mem_filter.mp hk).1).2.1, eF]
  cases e : (O.filter fun k => decide (k ∈ keysH ts s ns)).getLast? with
  | none => exact er.1.symm
  | some q =>
    have hq := of_decide_eq_true (List.mem_filter.mp (List.mem_of_getLast? e)).2
    obtain ⟨⟨m1, m2, m3⟩, m4⟩ := keysH_mem.mp hq
    have ho2 : q ∈ own ts s ns := own_mem.mpr ⟨m1, by rw [if_neg (by omega)]; exact m4⟩
    have l1 := er.2 q ho2 m2
    have l2 := lk_hl (t := own ts s ns) (e := -q) fun z => m3 (own_mem.mp z).1
    rw [Int.neg_neg, l1] at l2
    show (runP (own ts s ns)).2 q = ((lk (hl (own ts s ns)) q).getD _)
    rw [l2]
    rfl
theorem os_complete {ts : List (List Int)} {ns order left O : List Int} (hh : Hist ns) (h : OsE ts ns order left) (pm : O.Perm (runL ns)) (g : Restores ts ns O) : left = [] ∧ lostL ts ns 10 = [] := by
  constructor
  · refine Classical.byContradiction fun hl0 => ?_
    obtain ⟨x, hx⟩ := List.exists_mem_of_ne_nil _ hl0
    have inO : ∀ k ∈ left, k ∈ O := fun k hk => pm.mem_iff.mpr (h.os.pm.mem_iff.mp (List.mem_append_right _ hk))
    have hne : (O.filter fun k => decide (k ∈ left)) ≠ [] := fun e => by
      have : x ∈ O.filter fun k => decide (k ∈ left) := List.mem_filter.mpr ⟨inO x hx, decide_eq_true hx⟩
      rw [e] at this
      cases this
    cases ep : (O.filter fun k => decide (k ∈ left)).getLast? with
    | none => exact hne (List.getLast?_eq_none_iff.mp ep)
    | some p =>
      have hp := of_decide_eq_true (List.mem_filter.mp (List.mem_of_getLast? ep)).2
      have hs : spoB ts ns left p = true := by
        cases c : spoB ts ns left p with
        | true => rfl
        | false =>
          have : p ∈ harmL ts ns left := List.mem_filter.mpr ⟨hp, by rw [c]; rfl⟩
          rw [h.harm] at this
          cases this
      unfold spoB at hs
      obtain ⟨s, hs1, hs2⟩ := List.any_eq_true.mp hs
      rw [Bool.and_eq_true] at hs2
      obtain ⟨h1, h2⟩ := hs2
      have h1 := of_decide_eq_true h1
      have h2 : ∀ k ∈ keysH ts s ns, k ∈ left := fun k hk => of_decide_eq_true (List.all_eq_true.mp h2 k hk)
      have hk : p ∈ keysH ts s ns := Classical.byContradiction fun z => h1 (by rw [lk_none z]; rfl)
      have el : (O.filter fun k => decide (k ∈ keysH ts s ns)).getLast? = some p := by
        have e2 := last_filter (f := fun k => decide (k ∈ keysH ts s ns)) ep (decide_eq_true hk)
        rw [List.filter_filter] at e2
        rw [← e2]
        refine congrArg List.getLast? (List.filter_congr fun k _ => ?_)
        by_cases c : k ∈ keysH ts s ns
        · rw [decide_eq_true c, decide_eq_true (h2 k c)]
          rfl
        · rw [decide_eq_false c]
          rfl
      have gs := g s (List.mem_range.mp hs1)
      rw [restores_last hh pm, el] at gs
      refine h1 ?_
      obtain ⟨v, ev, _⟩ := lk_some (l := hl (own ts s ns)) (k := p) hk
      have gs : (lk (hl (own ts s ns)) p).getD (runR (own ts s ns)).1 = 0 := gs
      rw [ev] at gs ⊢
      exact gs
  · unfold lostL
    rw [List.map_eq_nil_iff, List.filter_eq_nil_iff]
    intro s hs z
    obtain ⟨z1, z2⟩ := of_decide_eq_true z
    have gs := g s (List.mem_range.mp hs)
    have k0 : keysH ts s ns = [] := by unfold keysH; rw [z2]; rfl
    rw [restores_last hh pm, k0] at gs
    refine z1 ?_
    have e0 : (O.filter fun k => decide (k ∈ ([] : List Int))) = [] := List.filter_eq_nil_iff.mpr fun k _ c => nomatch (of_decide_eq_true c)
    rw [e0] at gs
    exact gs
end L69
set_option Elab.async false
set_option linter.all false
set_option maxRecDepth 100000
namespace L69
open PySem PySem.Spec PyProof.Rows L2 Lp
/-! ### all orders of a list, the one that has an index, and the index of one -/
def stepG {α : Type} [DecidableEq α] (ts : List α) (F : List (List α)) : List (List α) := F.flatMap fun r => (ts.filter fun o => decide (o ∉ r)).map fun o => r ++ [o]
def allG {α : Type} [DecidableEq α] (ts : List α) : Nat → List (List α)
  | 0 => [[]]
  | n + 1 => stepG ts (allG ts n)
def nthG {α : Type} : Nat → List α → Nat → List α
  | 0, _, _ => []
  | n + 1, l, i => match l[i / facN n]? with
    | some x => x :: nthG n (l.eraseIdx (i / facN n)) (i % facN n)
    | none => []
def rankG {α : Type} [DecidableEq α] : List α → List α → Nat → Nat
  | _, [], r => r
  | rest, p :: ps, r => rankG (rest.erase p) ps (r * rest.length + rest.idxOf p)
theorem erase_map' {α β : Type} (f : α → β) : ∀ (l : List α) (k : Nat), (l.map f).eraseIdx k = (l.eraseIdx k).map f
  | [], _ => rfl
  | _ :: _, 0 => rfl
  | x :: l, k + 1 => by
    show f x :: (l.map f).eraseIdx k = f x :: (l.eraseIdx k).map f
    rw [erase_map' f l k]
theorem nthG_map {α β : Type} (f : α → β) : ∀ (n : Nat) (l : List α) (i : Nat), nthG n (l.map f) i = (nthG n l i).map f
  | 0, _, _ => rfl
  | n + 1, l, i => by
    unfold nthG
    rw [List.getElem?_map]
    cases l[i / facN n]? with
    | none => rfl
    | some x =>
      show f x :: nthG n ((l.map f).eraseIdx _) _ = f x :: (nthG n _ _).map f
      rw [erase_map', nthG_map f n]
section
variable {α β : Type} [DecidableEq α] [DecidableEq β] {f : α → β} {ts : List α}
theorem allG_sub : ∀ n : Nat, ∀ r ∈ allG ts n, ∀ x ∈ r, x ∈ ts
  | 0, r, hr, x, hx => by
    have : r = [] := by simpa [allG] using hr
    subst this
    exact absurd hx List.not_mem_nil
  | n + 1, r, hr, x, hx => by
    obtain ⟨r0, h0, h1⟩ := List.mem_flatMap.mp (show r ∈ stepG ts (allG ts n) from hr)
    obtain ⟨o, ho, rfl⟩ := List.mem_map.mp h1
    rcases List.mem_append.mp hx with hx | hx
    · exact allG_sub n r0 h0 x hx
    · rw [List.mem_singleton] at hx
      subst hx
      exact (List.mem_filter.mp ho).1
theorem mem_map_inj (hf : ∀ x ∈ ts, ∀ y ∈ ts, f x = f y → x = y) {r : List α} (hr : ∀ x ∈ r, x ∈ ts) {o : α} (ho : o ∈ ts) : f o ∈ r.map f ↔ o ∈ r := by
  rw [List.mem_map]
  constructor
  · rintro ⟨y, hy, e⟩
    rw [← hf y (hr y hy) o ho e]
    exact hy
  · exact fun h => ⟨o, h, rfl⟩
theorem filter_map' {γ δ : Type} (g : γ → δ) (p : δ → Bool) (q : γ → Bool) : ∀ l : List γ, (∀ x ∈ l, p (g x) = q x) → (l.map g).filter p = (l.filter q).map g
  | [], _ => rfl
  | x :: l, h => by
    rw [List.map_cons, List.filter_cons, List.filter_cons, h x List.mem_cons_self, filter_map' g p q l fun y hy => h y (List.mem_cons_of_mem _ hy)]
    split <;> rfl
theorem allG_map (hf : ∀ x ∈ ts, ∀ y ∈ ts, f x = f y → x = y) : ∀ n : Nat, allG (ts.map f) n = (allG ts n).map (List.map f)
  | 0 => rfl
  | n + 1 => by
    show stepG (ts.map f) (allG (ts.map f) n) = (stepG ts (allG ts n)).map (List.map f)
    rw [allG_map hf n]
    have sub := allG_sub (ts := ts) n
    generalize allG ts n = F at sub
    unfold stepG
    induction F with
    | nil => rfl
    | cons r F ih =>
      rw [List.map_cons, List.flatMap_cons, List.flatMap_cons, List.map_append, ih fun r' hr' => sub r' (List.mem_cons_of_mem _ hr')]
      congr 1
      rw [filter_map' f (fun o => decide (o ∉ r.map f)) (fun o => decide (o ∉ r)) ts fun x hx => decide_eq_decide.mpr (not_congr (mem_map_inj hf (sub r List.mem_cons_self) hx)), List.map_map, List.map_map]
      refine List.map_congr_left fun o _ => ?_
      show r.map f ++ [f o] = (r ++ [o]).map f
      rw [List.map_append]
      rfl
end
/-! all that is asked at up to five of them -/
def ixR (n : Nat) : List Nat := List.range n
theorem five_all : ∀ n : Fin 6, (allG (ixR n.val) n.val).length = facN n.val ∧ ((allG (ixR n.val) n.val).all fun r => decide (r.length = n.val) && ((ixR n.val).all fun x => r.contains x)) = true := by decide +kernel
theorem five_last : ∀ n : Fin 5, ∀ k : Fin 5, k.val ≤ n.val → ((allG (ixR (n.val + 1)) (n.val + 1)).filter fun r => decide (r.getLast? = some k.val)) = (List.range (facN n.val)).map fun i => nthG n.val ((ixR (n.val + 1)).filter fun x => decide (x ≠ k.val)) i ++ [k.val] := by decide +kernel
theorem five_rank : ∀ n : Fin 5, ∀ k : Fin 5, k.val ≤ n.val → ((List.range (facN n.val)).all fun i => decide (rankG ((ixR (n.val + 1)).filter fun x => decide (x ≠ k.val)) (nthG n.val ((ixR (n.val + 1)).filter fun x => decide (x ≠ k.val)) i) 0 = i) && (decide ((nthG n.val ((ixR (n.val + 1)).filter fun x => decide (x ≠ k.val)) i).length = n.val) && ((ixR (n.val + 1)).filter fun x => decide (x ≠ k.val)).all fun x => (nthG n.val ((ixR (n.val + 1)).filter fun x => decide (x ≠ k.val)) i).contains x)) = true := by decide +kernel
end L69
set_option Elab.async false
set_option linter.all false
set_option maxRecDepth 100000
namespace L69
open PySem PySem.Spec PyProof.Rows L2 Lp
/-! ### the same of the ascending list of the running patches -/
section
variable {α β : Type} [DecidableEq α] [DecidableEq β] {f : α → β} {ts : List α}
theorem erase_inj (hf : ∀ x ∈ ts, ∀ y ∈ ts, f x = f y → x = y) {p : α} (hp : p ∈ ts) : ∀ l : List α, (∀ x ∈ l, x ∈ ts) → (l.map f).erase (f p) = (l.erase p).map f
  | [], _ => rfl
  | x :: l, h => by
    have ih := erase_inj hf hp l fun y hy => h y (List.mem_cons_of_mem _ hy)
    by_cases e : x = p
    · subst e
      rw [List.map_cons, List.erase_cons_head, List.erase_cons_head]
    · have e2 : ¬ f x = f p := fun z => e (hf x (h x List.mem_cons_self) p hp z)
      rw [List.map_cons, List.erase_cons_tail (by simpa using e2), List.erase_cons_tail (by simpa using e), List.map_cons, ih]
theorem idx_inj (hf : ∀ x ∈ ts, ∀ y ∈ ts, f x = f y → x = y) {p : α} (hp : p ∈ ts) : ∀ l : List α, (∀ x ∈ l, x ∈ ts) → (l.map f).idxOf (f p) = l.idxOf p
  | [], _ => rfl
  | x :: l, h => by
    have ih := idx_inj hf hp l fun y hy => h y (List.mem_cons_of_mem _ hy)
    by_cases e : x = p
    · subst e
      rw [List.map_cons, List.idxOf_cons, List.idxOf_cons, beq_self_eq_true, beq_self_eq_true]
      rfl
    · have e2 : ¬ f x = f p := fun z => e (hf x (h x List.mem_cons_self) p hp z)
      have b1 : (x == p) = false := by simpa using e
      have b2 : (f x == f p) = false := by simpa using e2
      rw [List.map_cons, List.idxOf_cons, List.idxOf_cons, b1, b2, ih]
theorem rankG_map (hf : ∀ x ∈ ts, ∀ y ∈ ts, f x = f y → x = y) : ∀ (ps rest : List α) (r : Nat), (∀ x ∈ rest, x ∈ ts) → (∀ x ∈ ps, x ∈ ts) → rankG (rest.map f) (ps.map f) r = rankG rest ps r
  | [], _, _, _, _ => rfl
  | p :: ps, rest, r, h, g => by
    have hp := g p List.mem_cons_self
    show rankG ((rest.map f).erase (f p)) (ps.map f) (r * (rest.map f).length + (rest.map f).idxOf (f p)) = rankG (rest.erase p) ps (r * rest.length + rest.idxOf p)
    rw [erase_inj hf hp rest h, idx_inj hf hp rest h, List.length_map]
    exact rankG_map hf ps (rest.erase p) _ (fun x hx => h x (List.mem_of_mem_erase hx)) (fun x hx => g x (List.mem_cons_of_mem _ hx))
end
section
variable {R : List Int}
def fR (R : List Int) : Nat → Int := fun i => R.getD i 0
theorem fR_list (R : List Int) : R = (ixR R.length).map (fR R) := by
  refine List.ext_getElem? fun i => ?_
  unfold ixR
  rw [List.getElem?_map]
  by_cases h : i < R.length
  · rw [List.getElem?_range h, List.getElem?_eq_getElem h]
    show _ = some (R.getD i 0)
    rw [List.getD_eq_getElem?_getD, List.getElem?_eq_getElem h]
    rfl
  · rw [List.getElem?_eq_none (by omega), List.getElem?_eq_none (by rw [List.length_range]; omega)]
    rfl
theorem fR_get {i : Nat} (h : i < R.length) : fR R i = R[i] := by
  show R.getD i 0 = _
  rw [List.getD_eq_getElem?_getD, List.getElem?_eq_getElem h]
  rfl
theorem fR_inj (nd : R.Nodup) : ∀ x ∈ ixR R.length, ∀ y ∈ ixR R.length, fR R x = fR R y → x = y := fun x hx y hy e => by
  have hx := List.mem_range.mp hx
  have hy := List.mem_range.mp hy
  rw [fR_get hx, fR_get hy] at e
  exact nd_ix nd (List.getElem?_eq_getElem hx) (by rw [e]; exact List.getElem?_eq_getElem hy)
def allR (R : List Int) : List (List Int) := allG R R.length
theorem allR_eq (nd : R.Nodup) : allR R = (allG (ixR R.length) R.length).map (List.map (fR R)) := by
  have z := allG_map (fR_inj nd) R.length
  rw [← fR_list R] at z
  exact z
theorem allR_len (nd : R.Nodup) (h : R.length ≤ 5) : (allR R).length = facN R.length := by
  rw [allR_eq nd, List.length_map]
  exact (five_all ⟨R.length, by omega⟩).1
theorem perm_of {α : Type} [DecidableEq α] {l m : List α} (nd : m.Nodup) (hl : l.length = m.length) (h : ∀ x ∈ m, x ∈ l) : l.Perm m := by
  have key : ∀ (m l : List α), m.Nodup → l.length = m.length → (∀ x ∈ m, x ∈ l) → l.Perm m := by
    intro m
    induction m with
    | nil => intro l _ hl _; rw [List.length_eq_zero_iff.mp hl]
    | cons x m ih =>
      intro l nd hl h
      obtain ⟨n1, n2⟩ := List.nodup_cons.mp nd
      have hx := h x List.mem_cons_self
      refine (List.perm_cons_erase hx).trans (List.Perm.cons x (ih (l.erase x) n2 ?_ fun y hy => ?_))
      · rw [List.length_erase_of_mem hx, hl]
        rfl
      · exact (List.mem_erase_of_ne fun e => n1 (by rw [← e]; exact hy)).mpr (h y (List.mem_cons_of_mem _ hy))
  exact key m l nd hl h
theorem allR_perm (nd : R.Nodup) (h : R.length ≤ 5) : ∀ r ∈ allR R, r.Perm R := fun r hr => by
  rw [allR_eq nd] at hr
  obtain ⟨s, hs, rfl⟩ := List.mem_map.mp hr
  have z := List.all_eq_true.mp (five_all ⟨R.length, by omega⟩).2 s hs
  rw [Bool.and_eq_true, decide_eq_true_eq, List.all_eq_true] at z
  have p : s.Perm (ixR R.length) := perm_of List.nodup_range (by rw [z.1]; unfold ixR; rw [List.length_range]) fun x hx => by have := z.2 x hx; simpa using this
  have z2 := p.map (fR R)
  rw [← fR_list R] at z2
  exact z2
/-- those that end with one of them -/
def outP (R : List Int) (p : Int) : List Int := R.filter fun x => decide (x ≠ p)
theorem outP_ix (nd : R.Nodup) {k : Nat} (hk : k < R.length) : outP R (fR R k) = ((ixR R.length).filter fun x => decide (x ≠ k)).map (fR R) := by
  have z := filter_map' (fR R) (fun x => decide (x ≠ fR R k)) (fun x => decide (x ≠ k)) (ixR R.length) fun x hx => decide_eq_decide.mpr (not_congr ⟨fun e => fR_inj nd x hx k (List.mem_range.mpr hk) e, fun e => by rw [e]⟩)
  rw [← fR_list R] at z
  exact z
theorem allR_last (nd : R.Nodup) {m : Nat} (hn : R.length = m + 1) (h : R.length ≤ 5) {p : Int} (hp : p ∈ R) : ((allR R).filter fun r => decide (r.getLast? = some p)) = (List.range (facN m)).map fun i => nthG m (outP R p) i ++ [p] := by
  obtain ⟨k, hk, rfl⟩ := List.mem_iff_getElem.mp hp
  rw [← fR_get hk, allR_eq nd]
  have sub := allG_sub (ts := ixR R.length) R.length
  rw [filter_map' (List.map (fR R)) (fun r => decide (r.getLast? = some (fR R k))) (fun r => decide (r.getLast? = some k)) _ fun r hr => decide_eq_decide.mpr ?_]
  · have z := five_last ⟨m, by omega⟩ ⟨k, by omega⟩ (by show k ≤ m; omega)
    have z : ((allG (ixR (m + 1)) (m + 1)).filter fun r => decide (r.getLast? = some k)) = (List.range (facN m)).map fun i => nthG m ((ixR (m + 1)).filter fun x => decide (x ≠ k)) i ++ [k] := z
    rw [hn, z, List.map_map]
    refine List.map_congr_left fun i _ => ?_
    show (nthG m _ i ++ [k]).map (fR R) = _
    rw [List.map_append, outP_ix nd hk, nthG_map, hn]
    rfl
  · rw [List.getLast?_map]
    constructor
    · intro e
      cases g : r.getLast? with
      | none => rw [g] at e; cases e
      | some y =>
        rw [g] at e
        have e : fR R y = fR R k := Option.some.inj e
        rw [fR_inj nd y (sub r hr y (List.mem_of_getLast? g)) k (List.mem_range.mpr hk) e]
    · intro e
      rw [e]
      rfl
theorem nth_perm (nd : R.Nodup) {m : Nat} (hn : R.length = m + 1) (h : R.length ≤ 5) {p : Int} (hp : p ∈ R) {i : Nat} (hi : i < facN m) : (nthG m (outP R p) i).Perm (outP R p) ∧ rankG (outP R p) (nthG m (outP R p) i) 0 = i ∧ (nthG m (outP R p) i).length = m := by
  obtain ⟨k, hk, rfl⟩ := List.mem_iff_getElem.mp hp
  rw [← fR_get hk, outP_ix nd hk, nthG_map]
  have z := five_rank ⟨m, by omega⟩ ⟨k, by omega⟩ (by show k ≤ m; omega)
  have z := List.all_eq_true.mp z i (List.mem_range.mpr hi)
  rw [Bool.and_eq_true, Bool.and_eq_true, decide_eq_true_eq, decide_eq_true_eq, List.all_eq_true] at z
  obtain ⟨z1, z2, z3⟩ := z
  have z1 : rankG ((ixR (m + 1)).filter fun x => decide (x ≠ k)) (nthG m ((ixR (m + 1)).filter fun x => decide (x ≠ k)) i) 0 = i := z1
  have z2 : (nthG m ((ixR (m + 1)).filter fun x => decide (x ≠ k)) i).length = m := z2
  rw [hn]
  have fl : ((ixR (m + 1)).filter fun x => decide (x ≠ k)).length = m := by
    have : ∀ mm : Fin 5, ∀ kk : Fin 5, kk.val ≤ mm.val → ((ixR (mm.val + 1)).filter fun x => decide (x ≠ kk.val)).length = mm.val := by decide +kernel
    exact this ⟨m, by omega⟩ ⟨k, by omega⟩ (by show k ≤ m; omega)
  have fnd : ((ixR (m + 1)).filter fun x => decide (x ≠ k)).Nodup := List.nodup_range.sublist List.filter_sublist
  have pm : (nthG m ((ixR (m + 1)).filter fun x => decide (x ≠ k)) i).Perm ((ixR (m + 1)).filter fun x => decide (x ≠ k)) := perm_of fnd (by rw [z2, fl]) fun x hx => by have := z3 x hx; simpa using this
  refine ⟨pm.map _, ?_, by rw [List.length_map]; exact z2⟩
  have hm : ∀ x ∈ (ixR (m + 1)).filter fun x => decide (x ≠ k), x ∈ ixR R.length := fun x hx => by rw [hn]; exact (List.mem_filter.mp hx).1
  rw [rankG_map (fR_inj nd) _ _ 0 hm fun x hx => hm x (pm.mem_iff.mp hx)]
  exact z1
end
theorem hist_stops {ns order : List Int} (hh : Hist ns) (nd : order.Nodup) (hm : ∀ k ∈ order, k ∈ ns ∧ 0 < k ∧ -k ∉ ns) : Hist (ns ++ order.map fun k => -k) := by
  have rg : ∀ e ∈ ns ++ order.map fun k => -k, e ≠ 0 ∧ -100 ≤ e ∧ e ≤ 100 := fun e he => by
    rcases List.mem_append.mp he with a | a
    · exact hh.rng e a
    · obtain ⟨k, hk, rfl⟩ := List.mem_map.mp a
      obtain ⟨b, c, d⟩ := hh.rng k (hm k hk).1
      have := (hm k hk).2.1
      omega
  have nd2 : (ns ++ order.map fun k => -k).Nodup := by
    rw [List.nodup_append]
    refine ⟨hh.nd, nodup_map (fun x y e => by omega) nd, fun a ha b hb e => ?_⟩
    obtain ⟨k, hk, rfl⟩ := List.mem_map.mp hb
    exact (hm k hk).2.2 (e ▸ ha)
  refine ⟨rg, nd2, fun i e he h0 => ?_, len200 nd2 rg⟩
  by_cases c : i < ns.length
  · rw [List.getElem?_append_left c] at he
    rw [List.take_append_of_le_length (by omega)]
    exact hh.ord i e he h0
  · rw [List.getElem?_append_right (by omega)] at he
    obtain ⟨k, hk, rfl⟩ := List.mem_map.mp (mem_get he)
    rw [List.take_append, List.mem_append, List.take_of_length_le (by omega)]
    exact .inl (by rw [Int.neg_neg]; exact (hm k hk).1)
theorem order_len {ns order : List Int} (hh : Hist ns) (pm : order.Perm (runL ns)) : order.length ≤ 100 := by
  have nd := pm.nodup_iff.mpr (runL_nd hh.nd)
  have := nodup_len (m := upL 100) nd fun x hx => by
    obtain ⟨a, b, _⟩ := runL_mem.mp (pm.mem_iff.mp hx)
    have := (hh.rng x a).2.2
    exact List.mem_map.mpr ⟨(x - 1).toNat, List.mem_range.mpr (by omega), by omega⟩
  rw [upL_len] at this
  exact this
theorem runL_len {ns : List Int} (hh : Hist ns) : (runL ns).length ≤ 100 := order_len hh (.refl _)
theorem stL_nd {ns : List Int} (hh : Hist ns) : (stL ns).Nodup := hh.nd.sublist List.filter_sublist
theorem fl_put {ns : List Int} {f : Int → Bool} {i : Nat} {e : Int} (h : ns[i]? = some e) (hf : f e = true) (g : Int → V) : ((ns.take (i + 1)).filter f).map g = ((ns.take i).filter f).map g ++ [g e] := by
  rw [filt_succ h, if_pos hf, List.map_append]
  rfl
theorem fl_skip {ns : List Int} {f : Int → Bool} {i : Nat} {e : Int} (h : ns[i]? = some e) (hf : f e = false) (g : Int → V) : ((ns.take (i + 1)).filter f).map g = ((ns.take i).filter f).map g := by
  rw [filt_succ h, if_neg (by rw [hf]; exact Bool.false_ne_true), List.append_nil]
theorem fl_len {ns : List Int} {f : Int → Bool} {i : Nat} {g : Int → V} (h : i ≤ 1000) : (((ns.take i).filter f).map g).length < 100000 := by
  rw [List.length_map]
  have := filt_len (ns := ns) (f := f) i
  omega
theorem fl_end {H : Hp} {D : Addr} {l : List Int} {f : Int → Bool} {g : Int → V} {n : Nat} (hn : n = l.length) (h : H D = some (.lst (((l.take n).filter f).map g))) : H D = some (.lst ((l.filter f).map g)) := by
  subst hn
  rw [List.take_length] at h
  exact h
end L69
set_option Elab.async false
set_option linter.all false
set_option maxRecDepth 100000
namespace L69
open PySem PySem.Spec PyProof.Rows L2 Lp
/-! ### orders: the math -/
theorem mem_run {ns : List Int} {k : Int} : k ∈ runL ns ↔ k ∈ ns ∧ 0 < k ∧ -k ∉ ns := runL_mem
theorem closedH {ns O : List Int} (hh : Hist ns) (pm : O.Perm (runL ns)) (hl : ns.length + O.length ≤ 200) : Hist (ns ++ O.map fun k => -k) := hist_stops hh (pm.nodup_iff.mpr (runL_nd hh.nd)) fun k hk => runL_mem.mp (pm.mem_iff.mp hk)
theorem neg_map (O : List Int) : (O.map fun k => -k) = O.map fun k => 0 - k := List.map_congr_left fun k _ => (Int.zero_sub k).symm
theorem run_app (ns : List Int) (k : Int) : runP (ns ++ [k]) = stepP (runP ns) k := by unfold runP; rw [List.foldl_append]; rfl
/-- what is present behind the stops -/
def leftP (ns O : List Int) : Int := (runP (ns ++ O.map fun k => -k)).1
theorem left_stops (ns : List Int) : ∀ (n : Nat) (O : List Int), O.length = n → (∀ k ∈ O, 0 < k) → (runP (ns ++ O.map fun k => -k)).2 = (runP ns).2 ∧ leftP ns O = (match O.getLast? with | some k => (runP ns).2 k | none => (runP ns).1)
  | 0, O, h, _ => by
    have : O = [] := List.length_eq_zero_iff.mp h
    subst this
    unfold leftP
    rw [List.map_nil, List.append_nil]
    exact ⟨rfl, rfl⟩
  | n + 1, O, h, pos => by
    have ne : O ≠ [] := fun z => by rw [z] at h; cases h
    obtain ⟨l, k, rfl⟩ : ∃ l k, O = l ++ [k] := ⟨O.dropLast, O.getLast ne, (List.dropLast_concat_getLast ne).symm⟩
    have hl : l.length = n := by rw [List.length_append] at h; exact Nat.succ.inj h
    have ih := (left_stops ns n l hl fun x hx => pos x (List.mem_append_left _ hx)).1
    have k0 := pos k (List.mem_append_right _ (List.mem_singleton.mpr rfl))
    unfold leftP
    rw [List.map_append, ← List.append_assoc]
    show (runP (ns ++ l.map _ ++ [-k])).2 = _ ∧ (runP (ns ++ l.map _ ++ [-k])).1 = _
    rw [run_app, List.getLast?_concat]
    unfold stepP
    rw [if_neg (by omega), ih, Int.neg_neg]
    exact ⟨rfl, rfl⟩
theorem left_last {ns O : List Int} {k : Int} (pos : ∀ k ∈ O, 0 < k) (h : O.getLast? = some k) : leftP ns O = (runP ns).2 k := by
  rw [(left_stops ns _ O rfl pos).2, h]
theorem left_nil (ns : List Int) : leftP ns [] = (runP ns).1 := (left_stops ns 0 [] rfl fun _ h => absurd h List.not_mem_nil).2
/-- how many leave a value -/
def cntL (ns : List Int) : Ft → Nat
  | .saved _ => facN ((runL ns).length - 1)
  | .pres => if runL ns = [] then 1 else 0
  | .lost _ => 0
/-- the one with an index -/
def nthL (R : List Int) (i : Nat) : Ft → List Int
  | .saved e => nthG (R.length - 1) (outP R e) i ++ [e]
  | _ => []
section
variable {P : Program} {w : World} {K : PySem.W.Frag} {mg : Str → Option Value} {base : Heap}
/-! ### is_order, check_order, count_orders -/
def spOrder (K : PySem.W.Frag) : Sp := fun vs H Q _ => ∃ (a b : Addr) (ns O : List Int), vs = [.ref a, .ref b] ∧ SqL K H a (ns.map V.int) ∧ SqL K H b (O.map V.int) ∧ Hist ns ∧ O.Perm (runL ns) ∧ ∀ H', Same H H' → Q (.bl true) H'
theorem ok_is_order {f : Addr} {fd : FuncData} (F : Fun K "is_order" "is_order" s_is_order f fd) (B : NoB mg) {t1 : Tok} (T_g_LAST_PATCH : mg "LAST_PATCH" = some (.int 100 t1)) (T_running_after : Cal P w K mg base 7 "running_after" (spRunA K)) (T_are_integers : Cal P w K mg base 3 "are_integers" (spAreInts K)) : FnG P w K mg base CX0 8 f fd ["history", "value"] (spOrder K) := by
  refine okG F sc_is_order (fun vs H Q E h => ?_) (fun cdv A outer s H vs Q E hG hr h => ?_)
  · obtain ⟨a, b, ns, O, rfl, _⟩ := h
    rfl
  · obtain ⟨a, b, ns, O, rfl, hS, hO, hh, pm, q⟩ := h
    have hu64 := hr.units
    refine ⟨_, (pss_cons (ps_set (i := 2) sc_is_order.nd rfl (Or.inl rfl) (pe_c T_running_after hr (by decide) (by rfl) (pa_cons (pv 0) pa_nil)))
        (pss_one (ps_ret (pe_and (pe_c T_are_integers hr (by decide) (by rfl) (pa_cons (pv 1) (pa_cons pe_int (pa_cons (pe_glob (v := .int 100) (by rfl) T_g_LAST_PATCH ⟨_, rfl⟩) (pa_cons (pe_glob (v := .int 100) (by rfl) T_g_LAST_PATCH ⟨_, rfl⟩) pa_nil))))) (pe_one (pe_cmpR (op_eqD hu64) (pe_callB cr_sortedI (by rfl) B.sorted (by decide +kernel) (pa_cons (pv 1) pa_nil)) (pv 2) (nomark _))))))), ?_⟩
    refine ⟨_, rfl, a, ns, rfl, hS, hh, fun H1 p R s1 np hp pR pw => ?_⟩
    have lO := pm.length_eq
    have lr := runL_len hh
    have rO : ∀ n ∈ O, 1 ≤ n ∧ n ≤ 100 := fun n hn => by
      obtain ⟨h1, h2, _⟩ := mem_run.mp (pm.mem_iff.mp hn)
      have := hh.rng n h1
      omega
    refine ⟨_, rfl, b, O, 1, 100, 100, rfl, s1.seq hO, by omega, by omega, rO, fun H2 s2 => ?_⟩
    refine ⟨_, rfl, iteT ?_⟩
    have s12 := s1.trans s2
    refine ⟨_, rfl, b, O, rfl, s12.seq hO, fun ns' z pz wz nz => ?_⟩
    have s3 := same_new (o := .lst (ns'.map V.int)) nz
    have e : ns' = R := sorted_uniq (pz.trans (pm.trans pR.symm)) wz pw
    subst e
    refine ⟨_, rfl, dI ns', dI ns', dp_ints (.of upd_same), dp_ints (.of (s3 _ _ (s2 _ _ hp))), shaped_ints _, shaped_ints _, ?_⟩
    have ee : PyData.eqv (dI ns') (dI ns') = true := by rw [eqv_ints]; exact decide_eq_true rfl
    rw [ee]
    exact q _ (s12.trans s3)
def spCheckO (K : PySem.W.Frag) : Sp := fun vs H Q _ => ∃ (a b : Addr) (ns O : List Int), vs = [.ref a, .ref b] ∧ SqL K H a (ns.map V.int) ∧ SqL K H b (O.map V.int) ∧ Hist ns ∧ O.Perm (runL ns) ∧ ∀ H', Same H H' → Q .non H'
theorem ok_check_order {f : Addr} {fd : FuncData} (F : Fun K "check_order" "check_order" s_check_order f fd) (T_is_order : Gc P w K mg base 8 "is_order" (spOrder K)) : FnG P w K mg base CX0 9 f fd ["history", "order"] (spCheckO K) := by
  refine okG F sc_check_order (fun vs H Q E h => ?_) (fun cdv A outer s H vs Q E hG hr h => ?_)
  · obtain ⟨a, b, ns, O, rfl, _⟩ := h
    rfl
  · obtain ⟨a, b, ns, O, rfl, hS, hO, hh, pm, q⟩ := h
    refine ⟨_, (pss_one (ps_if (pt_not (pt_val (pe_g T_is_order hG hr (by decide) (by rfl) (pa_cons (pv 0) (pa_cons (pv 1) pa_nil))))) (pss_one ps_never) pss_nil)), ?_⟩
    exact ⟨_, rfl, _, rfl, a, b, ns, O, rfl, hS, hO, hh, pm, fun H1 s1 => ⟨true, rfl, q _ s1⟩⟩
def spCntO (K : PySem.W.Frag) : Sp := fun vs H Q _ => ∃ (a : Addr) (ns : List Int), vs = [.ref a] ∧ SqL K H a (ns.map V.int) ∧ Hist ns ∧ ∀ H', Same H H' → Q (.int (facN (runL ns).length : Nat)) H'
theorem ok_count_orders {f : Addr} {fd : FuncData} (F : Fun K "count_orders" "count_orders" s_count_orders f fd) (B : NoB mg) (T_m_factorial : mg "factorial" = some (.builtin "math.factorial")) (T_running_after : Cal P w K mg base 7 "running_after" (spRunA K)) : FnG P w K mg base CX0 8 f fd ["history"] (spCntO K) := by
  refine okG F sc_count_orders (fun vs H Q E h => ?_) (fun cdv A outer s H vs Q E hG hr h => ?_)
  · obtain ⟨a, ns, rfl, _⟩ := h
    rfl
  · obtain ⟨a, ns, rfl, hS, hh, q⟩ := h
    refine ⟨_, (pss_one (ps_ret (pe_callBfun cr_fac (by rfl) T_m_factorial (pa_cons (pe_callB call_len_seq (by rfl) B.len PySem.boot_len (pa_cons (pe_c T_running_after hr (by decide) (by rfl) (pa_cons (pv 0) pa_nil)) pa_nil)) pa_nil)))), ?_⟩
    refine ⟨_, rfl, a, ns, rfl, hS, hh, fun H1 p R s1 np hp pR pw => ?_⟩
    refine ⟨p, _, rfl, .inl (.of hp), R.length, ?_, ?_, ?_⟩
    · rw [List.length_map]
    · rw [pR.length_eq]
      have := runL_len hh
      omega
    · rw [pR.length_eq]
      exact q _ s1
/-! ### left_by -/
def spLeft (K : PySem.W.Frag) : Sp := fun vs H Q _ => ∃ (a b : Addr) (ns O : List Int), vs = [.ref a, .ref b] ∧ H a = some (.lst (ns.map V.int)) ∧ SqL K H b (O.map V.int) ∧ Hist ns ∧ O.Perm (runL ns) ∧ ns.length + O.length ≤ 200 ∧ ∀ H', Same H H' → Q (.int (leftP ns O)) H'
theorem ok_left_by {f : Addr} {fd : FuncData} (F : Fun K "left_by" "left_by" s_left_by f fd) (T_check_order : Gc P w K mg base 9 "check_order" (spCheckO K)) (T_present_after : Cal P w K mg base 7 "present_after" (spPresentA K)) : FnG P w K mg base CX0 10 f fd ["history", "order"] (spLeft K) := by
  refine okG F sc_left_by (fun vs H Q E h => ?_) (fun cdv A outer s H vs Q E hG hr h => ?_)
  · obtain ⟨a, b, ns, O, rfl, _⟩ := h
    rfl
  · obtain ⟨a, b, ns, O, rfl, ha, hO, hh, pm, hl, q⟩ := h
    refine ⟨_, (pss_cons (ps_expr (pe_g T_check_order hG hr (by decide) (by rfl) (pa_cons (pv 0) (pa_cons (pv 1) pa_nil))))
        (pss_one (ps_ret (pe_c T_present_after hr (by decide) (by rfl) (pa_cons (pe_op op_cat (pv 0) (pe_lc (own := [("patch", 2)]) (g := gName 2) (tt := tYes) rfl sc_left_by.nd (pi_list (pv 1)) (blkOk_by (own := [("patch", 2)]) (N := N_left_by) (sc := defScope s_left_by) (by decide +kernel)) (fun _ _ _ _ _ => (pg_name (i := 2) sc_left_by.nd rfl (Or.inl rfl))) (fun _ _ _ _ _ => pts_nil) (fun _ _ _ _ _ => (pe_un un_neg (pv 2))))) pa_nil))))), ?_⟩
    refine ⟨_, rfl, _, rfl, a, b, ns, O, rfl, .of ha, hO, hh, pm, fun H1 s1 => ?_⟩
    have ha1 := s1 _ _ ha
    have hO1 := s1.seq hO
    refine ⟨_, rfl, _, rfl, b, rfl, ⟨_, hO1⟩, fun D nD => lc_list (xs := O.map V.int) (LcP H1 D fun i => ((O.take i).map fun k => -k).map V.int) (.init nD rfl) (fun i H' _ p => p.2.1.seq hO1) (fun i x H' hx p => ?_) (fun H2 p => ?_)⟩
    · obtain ⟨k, rfl, hk⟩ := get_int hx
      refine ⟨rfl, ?_⟩
      refine ⟨_, rfl, k, rfl, p.put (.refl _) ?_ (by rw [List.length_map, List.length_map, List.length_take]; omega)⟩
      rw [take_get hk, List.map_append, List.map_append]
      rfl
    · have hD := p.2.2
      have s2 := p.2.1
      rw [List.length_map] at hD
      have hD : H2 D = some (.lst (((O.take O.length).map fun k => -k).map V.int)) := hD
      rw [List.take_length] at hD
      refine ⟨a, D, _, _, rfl, rfl, s2 _ _ ha1, hD, ?_, fun z nz => ?_⟩
      · rw [List.length_map, List.length_map, List.length_map]
        exact Nat.le_trans hl (by decide)
      · have s3 := same_new (o := .lst (ns.map V.int ++ (O.map fun k => -k).map V.int)) nz
        refine ⟨z, ns ++ O.map fun k => -k, rfl, .of ?_, closedH hh pm hl, fun H4 s4 => q _ (((s1.trans s2).trans s3).trans s4)⟩
        rw [upd_same, List.map_append]
/-! ### count_leaving -/
def spCntL (K : PySem.W.Frag) : Sp := fun vs H Q _ => ∃ (a : Addr) (ns : List Int) (v : Int) (f : Ft), vs = [.ref a, .int v] ∧ SqL K H a (ns.map V.int) ∧ Hist ns ∧ fate ns ns.length v = some f ∧ ∀ H', Same H H' → Q (.int (cntL ns f : Nat)) H'
theorem ok_count_leaving {f : Addr} {fd : FuncData} (F : Fun K "count_leaving" "count_leaving" s_count_leaving f fd) (B : NoB mg) (T_m_factorial : mg "factorial" = some (.builtin "math.factorial")) (T_fate_of : Cal P w K mg base 7 "fate_of" (spFate K)) (T_running_after : Cal P w K mg base 7 "running_after" (spRunA K)) : FnG P w K mg base CX0 8 f fd ["history", "value"] (spCntL K) := by
  refine okG F sc_count_leaving (fun vs H Q E h => ?_) (fun cdv A outer s H vs Q E hG hr h => ?_)
  · obtain ⟨a, ns, v, ff, rfl, _⟩ := h
    rfl
  · obtain ⟨a, ns, v, ff, rfl, hS, hh, hf, q⟩ := h
    have hu64 := hr.units
    refine ⟨_, (pss_cons (ps_par (i := 2) (j := 3) (by rfl) sc_count_leaving.nd rfl rfl (by decide) rfl rfl (pa_cons (pe_c T_fate_of hr (by decide) (by rfl) (pa_cons (pv 0) (pa_cons (pv 1) pa_nil))) (pa_cons (pe_c T_running_after hr (by decide) (by rfl) (pa_cons (pv 0) pa_nil)) pa_nil)) (by rfl))
        (pss_cons (ps_if (pt_cmpR op_eq (pe_ix ix_tup (pv 2) pe_int (fun _ _ => rfl)) pe_str (nomark _)) (pss_one (ps_ret (pe_callBfun cr_fac (by rfl) T_m_factorial (pa_cons (pe_op op_sub (pe_callB call_len_seq (by rfl) B.len PySem.boot_len (pa_cons (pv 3) pa_nil)) pe_int) pa_nil)))) pss_nil)
        (pss_one (ps_ret (pe_ifExp (PW.pt (pw_and (pt_cmpR op_eq (pe_ix ix_tup (pv 2) pe_int (fun _ _ => rfl)) pe_str (nomark _)) (pw_and1 (pt_cmpR (op_eqD hu64) (pv 3) (pe_lst pa_nil) (nomark _))))) pe_int pe_int))))), ?_⟩
    refine ⟨_, rfl, _, rfl, a, ns, v, ff, rfl, hS, hh, hf, fun H1 t s1 ht nt => ?_⟩
    refine ⟨_, rfl, a, ns, rfl, s1.seq hS, hh, fun H2 p R s2 np hp pR pw => ⟨_, _, rfl, ?_⟩⟩
    have s12 := s1.trans s2
    have ht2 := s2 _ _ ht
    have lR := pR.length_eq
    have lr := runL_len hh
    cases ff with
    | saved e =>
      obtain ⟨e0, e1, e2, _⟩ := fate_saved hh hf
      have er : e ∈ runL ns := mem_run.mpr ⟨e1, e0, e2⟩
      have pos := List.length_pos_of_mem er
      refine ⟨_, rfl, t, _, 0, _, rfl, rfl, .of ht2, rfl, rfl, true, rfl, ?_⟩
      refine ⟨_, rfl, p, _, rfl, .inl (.of hp), _, _, rfl, rfl, R.length - 1, ?_, by omega, ?_⟩
      · rw [List.length_map]
        have : (((R.length - 1 : Nat)) : Int) = (R.length : Int) - 1 := by omega
        rw [this]
      · rw [lR]
        exact q _ s12
    | pres =>
      refine ⟨_, rfl, t, _, 0, _, rfl, rfl, .of ht2, rfl, rfl, false, rfl, ?_⟩
      refine ⟨_, rfl, t, _, 0, _, rfl, rfl, .of ht2, rfl, rfl, true, rfl, ?_⟩
      refine ⟨_, rfl, Nat.zero_le _, fun z nz => ?_⟩
      have s3 := same_new (o := .lst []) nz
      have d1 : Dp K (upd H2 z (.lst [])) (.ref p) (dI R) := dp_ints (.of (s3 _ _ hp))
      have d2 : Dp K (upd H2 z (.lst [])) (.ref z) (dI []) := dp_ints (ns := []) (.of upd_same)
      by_cases hR : R = []
      · have hr0 : runL ns = [] := List.length_eq_zero_iff.mp (by rw [← lR, hR]; rfl)
        refine ⟨dI R, dI [], d1, d2, shaped_ints _, shaped_ints _, true, eqvT hR, ?_⟩
        have z := q _ (s12.trans s3)
        have e : cntL ns .pres = 1 := if_pos hr0
        rw [e] at z
        exact z
      · have hr0 : runL ns ≠ [] := fun z => hR (List.length_eq_zero_iff.mp (by rw [lR, z]; rfl))
        refine ⟨dI R, dI [], d1, d2, shaped_ints _, shaped_ints _, false, eqvF hR, ?_⟩
        have z := q _ (s12.trans s3)
        have e : cntL ns .pres = 0 := if_neg hr0
        rw [e] at z
        exact z
    | lost i =>
      refine ⟨_, rfl, t, _, 0, _, rfl, rfl, .of ht2, rfl, rfl, false, rfl, ?_⟩
      refine ⟨_, rfl, t, _, 0, _, rfl, rfl, .of ht2, rfl, rfl, false, rfl, ?_⟩
      exact q _ s12
end
end L69
set_option Elab.async false
set_option linter.all false
set_option maxRecDepth 100000
namespace L69
open PySem PySem.Spec PyProof.Rows L2 Lp
section
variable {P : Program} {w : World} {K : PySem.W.Frag} {mg : Str → Option Value} {base : Heap}
/-! ### check_number -/
def spCheckN : Sp := fun vs H Q _ => ∃ i lo hi : Int, vs = [.int i, .int lo, .int hi] ∧ lo ≤ i ∧ i ≤ hi ∧ Q .non H
theorem ok_check_number {f : Addr} {fd : FuncData} (F : Fun K "check_number" "check_number" s_check_number f fd) (T_is_integer_within : Cal P w K mg base 2 "is_integer_within" spWithin) : FnG P w K mg base CX0 3 f fd ["value", "least", "greatest"] spCheckN := by
  refine okG F sc_check_number (fun vs H Q E h => ?_) (fun cdv A outer s H vs Q E hG hr h => ?_)
  · obtain ⟨i, lo, hi, rfl, _⟩ := h
    rfl
  · obtain ⟨i, lo, hi, rfl, h1, h2, q⟩ := h
    refine ⟨_, (pss_one (ps_if (pt_not (pt_val (pe_c T_is_integer_within hr (by decide) (by rfl) (pa_cons (pv 0) (pa_cons (pv 1) (pa_cons (pv 2) pa_nil)))))) (pss_one ps_never) pss_nil)), ?_⟩
    exact ⟨_, rfl, _, rfl, _, rfl, i, lo, hi, rfl, h1, h2, _, rfl, iteF q⟩
theorem natAbs_lt {n k : Nat} (h : n < 2 ^ k) : ((n : Nat) : Int).natAbs < 2 ^ k := h
end
theorem six_nat {n j : Nat} (h : j < n) : seqIndex? (j : Int) n = some j := by
  unfold seqIndex?
  rw [if_neg (show ¬ ((j : Int) < 0) by omega), if_pos (by rw [decide_eq_true (show (0 : Int) ≤ j by omega), decide_eq_true (show (j : Int) < (n : Int) by omega)]; rfl)]
  rfl
theorem divP_ok {i j : Int} (h0 : 0 < j) (h1 : j ≤ 1000) : CDivP i j := by
  refine ⟨h0, ?_⟩
  have h : ¬ ((if (j == 0) = true then 0 else j.natAbs.log2 / 30 + 1) > 300) := by
    split
    · omega
    · have : j.natAbs.log2 < 10 := PySem.Flt.log2_lt_of (by decide) (show j.natAbs < 2 ^ 10 by omega)
      omega
  show (decide ((if (j == 0) = true then 0 else j.natAbs.log2 / 30 + 1) > 300) && _) = false
  rw [decide_eq_false h]
  rfl
section
variable {P : Program} {w : World} {K : PySem.W.Frag} {mg : Str → Option Value} {base : Heap}
def spCI : Sp := fun vs H Q _ => ∃ i c : Int, vs = [.int i, .int c] ∧ 0 ≤ i ∧ i < c ∧ Q .non H
theorem ok_check_index {f : Addr} {fd : FuncData} (F : Fun K "check_index" "check_index" s_check_index f fd) (T_check_number : Gc P w K mg base 3 "check_number" spCheckN) : FnG P w K mg base CX0 4 f fd ["index", "count"] spCI := by
  refine okG F sc_check_index (fun vs H Q E h => ?_) (fun cdv A outer s H vs Q E hG hr h => ?_)
  · obtain ⟨i, c, rfl, _⟩ := h
    rfl
  · obtain ⟨i, c, rfl, h0, h1, q⟩ := h
    refine ⟨_, (pss_one (ps_expr (pe_g T_check_number hG hr (by decide) (by rfl) (pa_cons (pv 0) (pa_cons pe_int (pa_cons (pe_op op_sub (pv 1) pe_int) pa_nil)))))), ?_⟩
    exact ⟨_, rfl, _, rfl, _, _, rfl, rfl, i, 0, c - 1, rfl, h0, by omega, q⟩
/-! ### _nth_permutation -/
theorem nthG_len {α : Type} : ∀ (n : Nat) (l : List α) (i : Nat), l.length = n → i < facN n → (nthG n l i).length = n
  | 0, _, _, _, _ => rfl
  | n + 1, l, i, hl, hi => by
    have f0 := facN_pos' n
    have hp : i / facN n < l.length := by
      rw [hl]
      exact Nat.div_lt_of_lt_mul hi
    unfold nthG
    rw [List.getElem?_eq_getElem hp]
    show (nthG n _ _).length + 1 = n + 1
    rw [nthG_len n _ _ (by rw [List.length_eraseIdx, if_pos hp, hl]; rfl) (Nat.mod_lt _ f0)]
def spNthP (K : PySem.W.Frag) : Sp := fun vs H Q _ => ∃ (a : Addr) (l : List Int) (i : Nat), vs = [.ref a, .int (i : Int)] ∧ SqL K H a (l.map V.int) ∧ l.length ≤ 5 ∧ i < facN l.length ∧ ∀ H' p, Same H H' → H p = none → H' p = some (.lst ((nthG l.length l i).map V.int)) → Q (.ref p) H'
theorem ok_nth_permutation {f : Addr} {fd : FuncData} (F : Fun K "_nth_permutation" "_nth_permutation" s_nth_permutation f fd) (B : NoB mg) (T_z_divmod : mg "divmod" = none) (T_m_factorial : mg "factorial" = some (.builtin "math.factorial")) : FnG P w K mg base CX0 1 f fd ["patches", "index"] (spNthP K) := by
  refine okG F sc_nth_permutation (fun vs H Q E h => ?_) (fun cdv A outer s H vs Q E hG hr h => ?_)
  · obtain ⟨a, l, i, rfl, _⟩ := h
    rfl
  · obtain ⟨a, l0, i0, rfl, hS, hl0, hi0, q⟩ := h
    have hu64 := hr.units
    refine ⟨_, (pss_cons (ps_par (i := 2) (j := 3) (by rfl) sc_nth_permutation.nd rfl rfl (by decide) rfl rfl (pa_cons (pe_callTy call_list_of (by rfl) B.list (by decide +kernel) (pa_cons (pv 0) pa_nil)) (pa_cons (pe_lst pa_nil) pa_nil)) (by rfl))
        (pss_cons (ps_while PassesOwn.never (pt_cmpR (op_neD hu64) (pv 2) (pe_lst pa_nil) (nomark _)) (pss_cons (ps_asg (pe_callB call_divmodW (by rfl) T_z_divmod (by decide +kernel) (pa_cons (pv 1) (pa_cons (pe_callBfun cr_fac (by rfl) T_m_factorial (pa_cons (pe_op op_sub (pe_callB call_len_seq (by rfl) B.len PySem.boot_len (pa_cons (pv 2) pa_nil)) pe_int) pa_nil)) pa_nil))) (pg_tup rfl (pgs_cons (pg_name (i := 4) sc_nth_permutation.nd rfl (Or.inl rfl)) (pgs_cons (pg_name (i := 1) sc_nth_permutation.nd rfl (Or.inl rfl)) pgs_nil))))
          (pss_one (ps_expr (pe_bm PySem.F.plainAttrs_list PySem.F.slot_list_append PySem.F.type_list_append mt_append (pv 3) (pa_cons (pe_bm PySem.F.plainAttrs_list PySem.F.slot_list_pop PySem.F.type_list_pop mt_popAt (pv 2) (pa_cons (pv 4) pa_nil)) pa_nil))))))
        (pss_one (ps_ret (pv 3))))), ?_⟩
    refine ⟨_, rfl, a, _, rfl, .inl hS, fun r nr => ⟨Nat.zero_le _, fun p np => ⟨_, _, rfl, ?_⟩⟩⟩
    have rp : r ≠ p := ne_of_none upd_same np
    have np0 : H p = none := by rw [upd_ne rp.symm] at np; exact np
    have s1 : Same H (upd (upd H r (.lst (l0.map V.int))) p (.lst [])) := (same_new nr).trans (same_new np)
    refine ⟨fun m σ H' => ∃ (l : List Int) (i : Nat) (ys : List Int) (y : Option V), m = l.length ∧ σ = [some (.ref a), some (.int (i : Int)), some (.ref r), some (.ref p), y] ∧ Same H H' ∧ H' r = some (.lst (l.map V.int)) ∧ H' p = some (.lst (ys.map V.int)) ∧ l.length ≤ 5 ∧ i < facN l.length ∧ ys ++ nthG l.length l i = nthG l0.length l0 i0 ∧ ys.length ≤ 5, ⟨_, l0, i0, [], _, rfl, rfl, s1, ?_, upd_same, hl0, hi0, rfl, by decide⟩, ?_⟩
    · rw [upd_ne rp, upd_same]
    · rintro m σ H' ⟨l, i, ys, y, rfl, rfl, sm, hr', hp', hl, hi, e, hy⟩
      refine ⟨_, rfl, Nat.zero_le _, fun z nz => ?_⟩
      have sz := same_new (o := .lst []) nz
      have d1 : Dp K (upd H' z (.lst [])) (.ref r) (dI l) := dp_ints (.of (sz _ _ hr'))
      have d2 : Dp K (upd H' z (.lst [])) (.ref z) (dI []) := dp_ints (ns := []) (.of upd_same)
      by_cases h0 : l = []
      · refine ⟨dI l, dI [], d1, d2, shaped_ints _, shaped_ints _, false, neqF h0, ?_⟩
        subst h0
        refine ⟨_, rfl, q _ p (sm.trans sz) np0 ?_⟩
        rw [sz _ _ hp', ← e]
        show _ = some (HO.lst ((ys ++ []).map V.int))
        rw [List.append_nil]
      · refine ⟨dI l, dI [], d1, d2, shaped_ints _, shaped_ints _, true, neqT h0, ?_⟩
        obtain ⟨n, hn⟩ : ∃ n, l.length = n + 1 := ⟨l.length - 1, by have := List.length_pos_iff.mpr h0; omega⟩
        rw [hn] at hi e
        have f0 := facN_pos' n
        have hpl : i / facN n < l.length := by
          rw [hn]
          exact Nat.div_lt_of_lt_mul hi
        have hgx : l[i / facN n]? = some l[i / facN n] := List.getElem?_eq_getElem hpl
        have le5 : facN n ≤ 24 := by
          have : ∀ k : Fin 5, facN k.val ≤ 24 := by decide +kernel
          exact this ⟨n, by omega⟩
        have ile : i < 120 := by
          have : facN (n + 1) = facN n * (n + 1) := rfl
          rw [this] at hi
          have : facN n * (n + 1) ≤ 24 * 5 := Nat.mul_le_mul le5 (by omega)
          omega
        refine ⟨fun σ' H2 => ∃ (l : List Int) (i : Nat) (ys : List Int) (y : Option V), n = l.length ∧ σ' = [some (.ref a), some (.int (i : Int)), some (.ref r), some (.ref p), y] ∧ Same H H2 ∧ H2 r = some (.lst (l.map V.int)) ∧ H2 p = some (.lst (ys.map V.int)) ∧ l.length ≤ 5 ∧ i < facN l.length ∧ ys ++ nthG l.length l i = nthG l0.length l0 i0 ∧ ys.length ≤ 5, fun σ' H2 ⟨l', i', ys', y', en, rest⟩ => ⟨n, by omega, l', i', ys', y', en, rest⟩, ?_⟩
        have hr2 := sz _ _ hr'
        have hp2 := sz _ _ hp'
        have s2 := sm.trans sz
        refine ⟨_, rfl, _, rfl, r, _, rfl, .inl (.of hr2), _, _, rfl, rfl, n, ?_, by omega, ?_⟩
        · rw [List.length_map, hn]
          have : ((n + 1 : Nat) : Int) - 1 = (n : Int) := by omega
          exact congrArg (fun z => [V.int z]) this
        have fpos : (0 : Int) < ((facN n : Nat) : Int) := by omega
        refine ⟨(i : Int), _, rfl, divP_ok fpos (by omega), fun t nt => ?_⟩
        have st := same_new (o := .tup [V.int ((i : Int) / ((facN n : Nat) : Int)), .int ((i : Int) % ((facN n : Nat) : Int))]) nt
        refine ⟨t, _, rfl, .of upd_same, rfl, _, _, rfl, _, _, rfl, rfl, ?_⟩
        have hr3 := st _ _ hr2
        have hp3 := st _ _ hp2
        have s3 := s2.trans st
        generalize upd (upd H' z (.lst [])) t (.tup [V.int ((i : Int) / ((facN n : Nat) : Int)), .int ((i : Int) % ((facN n : Nat) : Int))]) = H3 at hr3 hp3 s3 ⊢
        have ed : (i : Int) / ((facN n : Nat) : Int) = ((i / facN n : Nat) : Int) := (Int.natCast_ediv i (facN n)).symm
        have em : (i : Int) % ((facN n : Nat) : Int) = ((i % facN n : Nat) : Int) := (Int.natCast_emod i (facN n)).symm
        rw [ed, em]
        have hgV : (l.map V.int)[i / facN n]? = some (.int l[i / facN n]) := by rw [List.getElem?_map, hgx]; rfl
        have pl63 : -2 ^ 63 ≤ ((i / facN n : Nat) : Int) ∧ ((i / facN n : Nat) : Int) < 2 ^ 63 := by
          generalize i / facN n = z at hpl
          omega
        refine ⟨_, rfl, .inl ⟨rfl, _, .of hp3⟩, _, rfl, .inl ⟨rfl, _, .of hr3⟩, _, rfl, r, _, _, i / facN n, _, rfl, rfl, hr3, pl63.1, pl63.2, six_nat (by rw [List.length_map]; exact hpl), hgV, ?_⟩
        rw [erase_map']
        have hp4 : (upd H3 r (.lst ((l.eraseIdx (i / facN n)).map V.int))) p = some (.lst (ys.map V.int)) := by rw [upd_ne rp.symm]; exact hp3
        have hyl : ys.length + (n + 1) ≤ 5 := by
          have z := congrArg List.length e
          rw [List.length_append, nthG_len (n + 1) l i hn hi, nthG_len _ l0 i0 rfl hi0] at z
          omega
        refine ⟨p, _, _, rfl, rfl, hp4, by rw [List.length_map]; exact Nat.lt_of_le_of_lt (show ys.length ≤ 5 by omega) (by decide), ?_⟩
        have hel : (l.eraseIdx (i / facN n)).length = n := by rw [List.length_eraseIdx, if_pos hpl, hn]; rfl
        refine ⟨l.eraseIdx (i / facN n), i % facN n, ys ++ [l[i / facN n]], _, hel.symm, rfl, Lp.Same.mut (Lp.Same.mut s3 nr) np0, ?_, ?_, by omega, by rw [hel]; exact Nat.mod_lt _ f0, ?_, by rw [List.length_append]; show ys.length + 1 ≤ 5; omega⟩
        · rw [upd_ne rp, upd_same]
        · rw [upd_same, List.map_append]
          rfl
        · rw [hel, ← e]
          have : nthG (n + 1) l i = l[i / facN n] :: nthG n (l.eraseIdx (i / facN n)) (i % facN n) := by
            rw [nthG, hgx]
          rw [this, List.append_assoc]
          rfl
/-! ### nth_leaving -/
def spNthL (K : PySem.W.Frag) : Sp := fun vs H Q _ => ∃ (a : Addr) (ns R : List Int) (v : Int) (f : Ft) (i : Nat), vs = [.ref a, .int v, .int (i : Int)] ∧ SqL K H a (ns.map V.int) ∧ Hist ns ∧ fate ns ns.length v = some f ∧ R.Perm (runL ns) ∧ R.Pairwise (· ≤ ·) ∧ R.length ≤ 5 ∧ i < cntL ns f ∧ ∀ H' p, Same H H' → H p = none → H' p = some (.lst ((nthL R i f).map V.int)) → Q (.ref p) H'
theorem ok_nth_leaving {f : Addr} {fd : FuncData} (F : Fun K "nth_leaving" "nth_leaving" s_nth_leaving f fd) (B : NoB mg) (T_check_index : Gc P w K mg base 4 "check_index" spCI) (T_count_leaving : Gc P w K mg base 8 "count_leaving" (spCntL K)) (T_fate_of : Cal P w K mg base 7 "fate_of" (spFate K)) (T_running_after : Cal P w K mg base 7 "running_after" (spRunA K)) (T_nth_permutation : Gc P w K mg base 1 "_nth_permutation" (spNthP K)) : FnG P w K mg base CX0 9 f fd ["history", "value", "index"] (spNthL K) := by
  refine okG F sc_nth_leaving (fun vs H Q E h => ?_) (fun cdv A outer s H vs Q E hG hr h => ?_)
  · obtain ⟨a, ns, R, v, ff, i, rfl, _⟩ := h
    rfl
  · obtain ⟨a, ns, R, v, ff, i, rfl, hS, hh, hf, pR, wR, lR, hi, q⟩ := h
    refine ⟨_, (pss_cons (ps_expr (pe_g T_check_index hG hr (by decide) (by rfl) (pa_cons (pv 2) (pa_cons (pe_g T_count_leaving hG hr (by decide) (by rfl) (pa_cons (pv 0) (pa_cons (pv 1) pa_nil))) pa_nil))))
        (pss_cons (ps_par (i := 3) (j := 4) (by rfl) sc_nth_leaving.nd rfl rfl (by decide) rfl rfl (pa_cons (pe_c T_fate_of hr (by decide) (by rfl) (pa_cons (pv 0) (pa_cons (pv 1) pa_nil))) (pa_cons (pe_c T_running_after hr (by decide) (by rfl) (pa_cons (pv 0) pa_nil)) pa_nil)) (by rfl))
        (pss_cons (ps_if (pt_cmpR op_eq (pe_ix ix_tup (pv 3) pe_int (fun _ _ => rfl)) pe_str (nomark _)) (pss_one (ps_ret (pe_lst pa_nil))) pss_nil)
        (pss_cons (ps_set (i := 5) sc_nth_leaving.nd rfl (Or.inr rfl) (pe_ix ix_tup (pv 3) pe_int (fun _ _ => rfl)))
        (pss_one (ps_ret (pe_op op_cat (pe_g T_nth_permutation hG hr (by decide) (by rfl) (pa_cons (pe_lc (own := [("patch", 6)]) (g := gName 6) (tt := _) rfl sc_nth_leaving.nd (pi_list (pv 4)) (blkOk_by (own := [("patch", 6)]) (N := N_nth_leaving) (sc := defScope s_nth_leaving) (by decide +kernel)) (fun _ _ _ _ _ => (pg_name (i := 6) sc_nth_leaving.nd rfl (Or.inl rfl))) (fun _ _ _ _ _ => (pts_one (pt_cmpR op_ne (pv 6) (pv 5) (nomark _)))) (fun _ _ _ _ _ => (pv 6))) (pa_cons (pv 2) pa_nil))) (pe_lst (pa_cons (pv 5) pa_nil))))))))), ?_⟩
    refine ⟨_, rfl, _, rfl, _, rfl, a, ns, v, ff, rfl, hS, hh, hf, fun H1 s1 => ⟨(i : Int), _, rfl, by omega, by omega, ?_⟩⟩
    refine ⟨_, rfl, _, rfl, a, ns, v, ff, rfl, s1.seq hS, hh, hf, fun H2 t s2 ht nt => ?_⟩
    have s12 := s1.trans s2
    refine ⟨_, rfl, a, ns, rfl, s12.seq hS, hh, fun H3 p R' s3 np hp pR' pw => ⟨_, _, rfl, ?_⟩⟩
    have eR : R' = R := sorted_uniq (pR'.trans pR.symm) pw wR
    subst eR
    have s13 := s12.trans s3
    have ht3 := s3 _ _ ht
    cases ff with
    | saved e =>
      obtain ⟨e0, e1, e2, _⟩ := fate_saved hh hf
      have er : e ∈ R' := pR.mem_iff.mpr (mem_run.mpr ⟨e1, e0, e2⟩)
      refine ⟨_, rfl, t, _, 0, _, rfl, rfl, .of ht3, rfl, rfl, false, rfl, ?_⟩
      refine ⟨_, rfl, t, _, 1, _, rfl, rfl, .of ht3, rfl, ?_⟩
      refine ⟨_, rfl, p, rfl, ⟨_, .of hp⟩, fun D nD => ?_⟩
      refine lc_list (xs := R'.map V.int) (LcP H3 D fun j => ((R'.take j).filter fun x => decide (x ≠ e)).map V.int) (.init nD rfl) (fun j H' _ p' => .of (p'.2.1 _ _ hp)) (fun j x H' hx p' => ?_) (fun H4 p4 => ?_)
      · obtain ⟨k, rfl, hk⟩ := get_int hx
        have il := lt_get hk
        refine ⟨rfl, ?_⟩
        by_cases c : k = e
        · exact ⟨_, rfl, _, rfl, rfl, false, nF (congrArg V.int c), p'.skip (Same.refl _) (fl_skip hk (decide_eq_false (fun z => z c)) V.int)⟩
        · exact ⟨_, rfl, _, rfl, rfl, true, nT (vne c), _, rfl, p'.put (Same.refl _) (fl_put hk (decide_eq_true c) V.int) (fl_len (by omega))⟩
      · have hD : H4 D = some (.lst ((outP R' e).map V.int)) := fl_end (List.length_map ..) p4.2.2
        have s4 := p4.2.1
        have nd : R'.Nodup := pR.nodup_iff.mpr ((stL_nd hh).sublist List.filter_sublist)
        have lo : (outP R' e).length + 1 = R'.length := by
          have z := (List.perm_cons_erase er).length_eq
          have z2 : outP R' e = R'.erase e := by
            unfold outP
            rw [nd.erase_eq_filter]
            refine List.filter_congr fun x _ => ?_
            by_cases h : x = e <;> simp [h]
          rw [z2]
          exact z.symm
        have lr : R'.length = (runL ns).length := pR.length_eq
        have hc : i < facN (outP R' e).length := by
          have : cntL ns (.saved e) = facN ((runL ns).length - 1) := rfl
          rw [this] at hi
          rwa [show (outP R' e).length = (runL ns).length - 1 by omega]
        refine ⟨_, rfl, D, outP R' e, i, rfl, .of hD, by omega, hc, fun H5 p5 s5 n5 h5 => ?_⟩
        refine ⟨_, rfl, by show 1 ≤ sizeLine; decide, fun z nz => ⟨p5, z, _, _, rfl, rfl, same_new nz _ _ h5, upd_same, ?_, fun z2 nz2 => ?_⟩⟩
        · rw [List.length_map, nthG_len _ _ _ rfl hc]
          exact Nat.le_trans (show (outP R' e).length + 1 ≤ 6 by omega) (by decide)
        · have sz := (same_new (o := .lst [V.int e]) nz).trans (same_new (o := .lst ((nthG (outP R' e).length (outP R' e) i).map V.int ++ [V.int e])) nz2)
          refine q _ z2 (((s13.trans s4).trans s5).trans sz) (s13.free (s4.free (s5.free ((same_new nz).free nz2)))) ?_
          rw [upd_same]
          unfold nthL
          rw [show R'.length - 1 = (outP R' e).length by omega, List.map_append]
          rfl
    | pres =>
      refine ⟨_, rfl, t, _, 0, _, rfl, rfl, .of ht3, rfl, rfl, true, rfl, ?_⟩
      exact ⟨Nat.zero_le _, fun z nz => q _ z (s13.trans (same_new nz)) (s13.free nz) upd_same⟩
    | lost j => exact absurd hi (Nat.not_lt_zero _)
/-! ### _permutation_rank, leaving_rank -/
def spPRank (K : PySem.W.Frag) : Sp := fun vs H Q _ => ∃ (a : Addr) (L S : List Int), vs = [.ref a] ∧ SqL K H a (L.map V.int) ∧ L.Nodup ∧ L.length ≤ 5 ∧ S.Perm L ∧ S.Pairwise (· ≤ ·) ∧ ∀ H', Same H H' → Q (.int (rankG S L 0 : Nat)) H'
theorem idx_first {l : List Int} {x : Int} (h : x ∈ l) : l[l.idxOf x]? = some x ∧ ∀ m, m < l.idxOf x → l[m]? ≠ some x := by
  induction l with
  | nil => exact absurd h List.not_mem_nil
  | cons y l ih =>
    by_cases e : y = x
    · subst e
      rw [List.idxOf_cons, beq_self_eq_true]
      exact ⟨rfl, fun m hm => absurd hm (Nat.not_lt_zero _)⟩
    · have b : (y == x) = false := by simpa using e
      rw [List.idxOf_cons, b]
      have hx : x ∈ l := (List.mem_cons.mp h).resolve_left fun z => e z.symm
      obtain ⟨i1, i2⟩ := ih hx
      refine ⟨i1, fun m hm => ?_⟩
      cases m with
      | zero => exact fun z => e (Option.some.inj z)
      | succ m => exact i2 m (Nat.lt_of_succ_lt_succ hm)
theorem erase_ix {l : List Int} {x : Int} (h : x ∈ l) : l.eraseIdx (l.idxOf x) = l.erase x := by
  induction l with
  | nil => exact absurd h List.not_mem_nil
  | cons y l ih =>
    by_cases e : y = x
    · subst e
      rw [List.idxOf_cons, beq_self_eq_true, List.erase_cons_head]
      rfl
    · have b : (y == x) = false := by simpa using e
      have hx : x ∈ l := (List.mem_cons.mp h).resolve_left fun z => e z.symm
      rw [List.idxOf_cons, b, List.erase_cons_tail (by simpa using e)]
      show y :: l.eraseIdx (l.idxOf x) = _
      rw [ih hx]
theorem ok_permutation_rank {f : Addr} {fd : FuncData} (F : Fun K "_permutation_rank" "_permutation_rank" s_permutation_rank f fd) (B : NoB mg) : FnG P w K mg base CX0 1 f fd ["permutation"] (spPRank K) := by
  refine okG F sc_permutation_rank (fun vs H Q E h => ?_) (fun cdv A outer s H vs Q E hG hr h => ?_)
  · obtain ⟨a, L, S, rfl, _⟩ := h
    rfl
  · obtain ⟨a, L, S, rfl, hS, nd, hl, pS, wS, q⟩ := h
    refine ⟨_, (pss_cons (ps_par (i := 1) (j := 2) (by rfl) sc_permutation_rank.nd rfl rfl (by decide) rfl rfl (pa_cons (pe_callB cr_sortedI (by rfl) B.sorted (by decide +kernel) (pa_cons (pv 0) pa_nil)) (pa_cons pe_int pa_nil)) (by rfl))
        (pss_cons (ps_for PassesOwn.never rfl (pi_list (pv 0)) (pg_name (i := 3) sc_permutation_rank.nd rfl (Or.inl rfl))
          (pss_cons (ps_set (i := 2) sc_permutation_rank.nd rfl (Or.inl rfl) (pe_op op_add (pe_op op_mulW (pv 2) (pe_callB call_len_seq (by rfl) B.len PySem.boot_len (pa_cons (pv 1) pa_nil))) (pe_bm PySem.F.plainAttrs_list PySem.F.slot_list_index PySem.F.type_list_index mt_index (pv 1) (pa_cons (pv 3) pa_nil))))
          (pss_one (ps_expr (pe_bm PySem.F.plainAttrs_list PySem.F.slot_list_remove PySem.F.type_list_remove mt_remove (pv 1) (pa_cons (pv 3) pa_nil))))))
        (pss_one (ps_ret (pv 2))))), ?_⟩
    refine ⟨_, rfl, a, L, rfl, hS, fun S' r pz wz nr => ⟨_, _, rfl, ?_⟩⟩
    have eS : S' = S := sorted_uniq (pz.trans pS.symm) wz wS
    subst eS
    have s1 := same_new (o := .lst (S'.map V.int)) nr
    refine ⟨_, rfl, a, rfl, ⟨_, s1.seq hS⟩, for_list (xs := L.map V.int) (fun j σ H' => ∃ (rest : List Int) (n : Nat) (y : Option V), σ = [some (.ref a), some (.ref r), some (.int (n : Int)), y] ∧ Same H H' ∧ H' r = some (.lst (rest.map V.int)) ∧ rest.Perm (L.drop j) ∧ rankG rest (L.drop j) n = rankG S' L 0 ∧ n < 6 ^ j) ⟨S', 0, _, rfl, s1, upd_same, pz, rfl, Nat.zero_lt_one⟩ (fun j σ H' _ ⟨_, _, _, _, sm, _⟩ => sm.seq hS) (fun j x σ H' hx h => ?_) (fun σ H' h => ?_)⟩
    · obtain ⟨k, rfl, hk⟩ := get_int hx
      obtain ⟨rest, n, y, rfl, sm, hr', pm, er, hn⟩ := h
      have lj := lt_get hk
      have dj : L.drop j = k :: L.drop (j + 1) := by
        rw [List.drop_eq_getElem_cons lj]
        rw [List.getElem?_eq_getElem lj] at hk
        rw [Option.some.inj hk]
      rw [dj] at pm er
      have km : k ∈ rest := pm.mem_iff.mpr List.mem_cons_self
      obtain ⟨i1, i2⟩ := idx_first km
      have ndr : rest.Nodup := by
        have : (L.drop j).Nodup := nd.sublist (List.drop_sublist _ _)
        rw [dj] at this
        exact pm.nodup_iff.mpr this
      have rl : rest.length ≤ 5 := by
        rw [pm.length_eq, ← dj, List.length_drop]
        omega
      have p6 : 6 ^ j ≤ 7776 := Nat.le_trans (Nat.pow_le_pow_right (by decide) (show j ≤ 5 by omega)) (by decide)
      have gV : (rest.map V.int)[rest.idxOf k]? = some (.int k) := by rw [List.getElem?_map, i1]; rfl
      have il : rest.idxOf k < rest.length := lt_get i1
      refine ⟨_, rfl, _, rfl, r, _, rfl, .inl (.of hr'), _, _, rfl, rfl, wide_mul (a := 14) (b := 14) (by omega) (by rw [List.length_map]; omega) (by decide) (by decide) (by decide), ?_⟩
      refine ⟨_, rfl, .inl ⟨rfl, _, .of hr'⟩, _, rfl, r, _, .int k, rest.idxOf k, .int k, rfl, rfl, .of hr', rfl, flatI rest, gV, by show (k == k) = true; exact beq_self_eq_true k, fun m z' hm hz' => ?_, ?_⟩
      · obtain ⟨x, rfl, hx2⟩ := get_int hz'
        show (x == k) = false
        have : x ≠ k := fun z => i2 m hm (z ▸ hx2)
        simpa using this
      refine ⟨_, _, rfl, rfl, ?_⟩
      refine ⟨_, rfl, .inl ⟨rfl, _, .of hr'⟩, _, rfl, r, rest, k, rest.idxOf k, rfl, rfl, hr', i1, i2, ?_⟩
      rw [erase_ix km]
      refine ⟨rest.erase k, n * rest.length + rest.idxOf k, some (.int k), ?_, Lp.Same.mut sm nr, upd_same, ?_, er, ?_⟩
      · rw [List.length_map]
        have : ((n * rest.length + rest.idxOf k : Nat) : Int) = (n : Int) * (rest.length : Int) + (rest.idxOf k : Int) := by
          rw [Int.natCast_add, Int.natCast_mul]
        rw [this]
        rfl
      · have := pm.erase k
        rwa [List.erase_cons_head] at this
      · rw [Nat.pow_succ]
        have h1 : n * rest.length ≤ n * 5 := Nat.mul_le_mul_left n rl
        omega
    · obtain ⟨rest, n, y, rfl, sm, hr', pm, er, hn⟩ := h
      rw [List.length_map, List.drop_length] at er
      have e : n = rankG S' L 0 := er
      refine ⟨_, rfl, ?_⟩
      rw [e]
      exact q _ sm
def spLRank (K : PySem.W.Frag) : Sp := fun vs H Q _ => ∃ (a b : Addr) (ns O S : List Int), vs = [.ref a, .ref b] ∧ SqL K H a (ns.map V.int) ∧ SqL K H b (O.map V.int) ∧ Hist ns ∧ O.Perm (runL ns) ∧ O.length ≤ 5 ∧ S.Perm O.dropLast ∧ S.Pairwise (· ≤ ·) ∧ ∀ H', Same H H' → Q (.int (rankG S O.dropLast 0 : Nat)) H'
theorem cut_last (O : List Int) : cutV (O.map V.int) none (some (-1)) = O.dropLast.map V.int := by
  unfold cutV
  rw [HT.sIx_none, List.drop_zero, Nat.sub_zero, HT.sIx.eq_2, if_pos (by decide), List.length_map, List.dropLast_eq_take, List.map_take]
  congr 1
  omega
theorem ok_leaving_rank {f : Addr} {fd : FuncData} (F : Fun K "leaving_rank" "leaving_rank" s_leaving_rank f fd) (T_check_order : Gc P w K mg base 9 "check_order" (spCheckO K)) (T_permutation_rank : Gc P w K mg base 1 "_permutation_rank" (spPRank K)) : FnG P w K mg base CX0 10 f fd ["history", "order"] (spLRank K) := by
  refine okG F sc_leaving_rank (fun vs H Q E h => ?_) (fun cdv A outer s H vs Q E hG hr h => ?_)
  · obtain ⟨a, b, ns, O, S, rfl, _⟩ := h
    rfl
  · obtain ⟨a, b, ns, O, S, rfl, hS, hO, hh, pm, lO, pS, wS, q⟩ := h
    refine ⟨_, (pss_cons (ps_expr (pe_g T_check_order hG hr (by decide) (by rfl) (pa_cons (pv 0) (pa_cons (pv 1) pa_nil))))
        (pss_one (ps_ret (pe_g T_permutation_rank hG hr (by decide) (by rfl) (pa_cons (pe_slice sl_list (pv 1) po_none (po_some (pe_un un_neg pe_int))) pa_nil))))), ?_⟩
    refine ⟨_, rfl, _, rfl, a, b, ns, O, rfl, hS, hO, hh, pm, fun H1 s1 => ?_⟩
    refine ⟨_, rfl, 1, rfl, _, rfl, b, _, rfl, s1.seq hO, fun z nz => ?_⟩
    have s2 := same_new (o := .lst (cutV (O.map V.int) none (some (-1)))) nz
    have ndO : O.Nodup := pm.nodup_iff.mpr ((stL_nd hh).sublist List.filter_sublist)
    refine ⟨z, O.dropLast, S, rfl, .of (by rw [upd_same, cut_last]), ndO.sublist (List.dropLast_sublist _), by rw [List.length_dropLast]; omega, pS, wS, fun H3 s3 => q _ ((s1.trans s2).trans s3)⟩
end
end L69
set_option Elab.async false
set_option linter.all false
set_option maxRecDepth 100000
namespace L69
open PySem PySem.Spec PyProof.Rows L2 Lp
section
variable {P : Program} {w : World} {K : PySem.W.Frag} {mg : Str → Option Value} {base : Heap}
/-! ### the bag of draws -/
def Bag (H : Hp) (a : Addr) (n : Nat) : Prop := ∃ x y : Int, H a = some (.lst [.int x, .int y]) ∧ 0 ≤ x ∧ 0 ≤ y ∧ y ≤ (n : Int)
theorem lt_pow {i : Int} {n : Nat} (h0 : 0 ≤ i) (h : i < 2 ^ n) : i.natAbs < 2 ^ n := by
  have e : ((i.natAbs : Nat) : Int) = i := Int.natAbs_of_nonneg h0
  have h' : ((i.natAbs : Nat) : Int) < ((2 ^ n : Nat) : Int) := by
    rw [e]
    simpa using h
  exact Int.ofNat_lt.mp h'
def spBag : Sp := fun vs H Q _ => ∃ (c : Int) (k : Nat), vs = [.int c, .int (k : Int)] ∧ k ≤ 100 ∧ ∀ H' p, Same H H' → H p = none → Bag H' p 5000 → Q (.ref p) H'
theorem ok_law_bag {f : Addr} {fd : FuncData} (F : Fun K "_law_bag" "_law_bag" s_law_bag f fd) : FnOk P w K mg base CX0 1 f fd ["cell", "k"] spBag := by
  refine F.ok sc_law_bag (fun vs H Q E h => ?_) (fun cdv A outer s H vs Q E hr h => ?_)
  · obtain ⟨c, k, rfl, _⟩ := h
    rfl
  · obtain ⟨c, k, rfl, hk, q⟩ := h
    refine ⟨_, (pss_cons (ps_if (pt_cmpR op_lt (pv 0) pe_int (nomark _)) (pss_one (ps_ret (pe_lst (pa_cons (pe_un un_neg (pv 0)) (pa_cons (pe_op op_add (pe_op op_mulW pe_int (pv 1)) pe_int) pa_nil))))) pss_nil)
        (pss_one (ps_ret (pe_lst (pa_cons (pv 0) (pa_cons (pe_op op_mulW pe_int (pv 1)) pa_nil)))))), ?_⟩
    have wm : CMulW 37 (k : Int) := wide_mul (a := 30) (b := 30) (by decide) (lt_pow (by omega) (by omega)) (by decide) (by decide) (by decide)
    by_cases h0 : c < 0
    · refine ⟨_, rfl, _, _, rfl, rfl, true, dT h0, ?_⟩
      refine ⟨_, rfl, _, rfl, _, rfl, _, _, rfl, rfl, wm, _, _, rfl, rfl, by show 2 ≤ sizeLine; decide, fun p np => q _ p (same_new np) np ⟨-c, 37 * (k : Int) + 18, upd_same, by omega, by omega, by omega⟩⟩
    · refine ⟨_, rfl, _, _, rfl, rfl, false, dF h0, ?_⟩
      exact ⟨_, rfl, _, rfl, _, _, rfl, rfl, wm, by show 2 ≤ sizeLine; decide, fun p np => q _ p (same_new np) np ⟨c, 37 * (k : Int), upd_same, by omega, by omega, by omega⟩⟩
def spDraw (K : PySem.W.Frag) : Sp := fun vs H Q _ => ∃ (a : Addr) (m : Int) (n : Nat), vs = [.ref a, .int m] ∧ Bag H a n ∧ n ≤ 100000 ∧ 1 ≤ m ∧ m ≤ 1000 ∧ ∀ r H', 0 ≤ r → r < m → Bag H' a (n + 1) → Bt a H H' → Q (.int r) H'
theorem ok_law_draw {f : Addr} {fd : FuncData} (F : Fun K "_law_draw" "_law_draw" s_law_draw f fd) : FnOk P w K mg base CX0 1 f fd ["bag", "many"] (spDraw K) := by
  refine F.ok sc_law_draw (fun vs H Q E h => ?_) (fun cdv A outer s H vs Q E hr h => ?_)
  · obtain ⟨a, m, n, rfl, _⟩ := h
    rfl
  · obtain ⟨a, m, n, rfl, ⟨x, y, ha, x0, y0, y1⟩, hn, m0, m1, q⟩ := h
    refine ⟨_, (pss_cons (ps_augS (pv 0) pe_int get_list pe_int ip_add set_list)
        (pss_cons (ps_if (pt_cmpR op_ge (pe_ix ix_list (pv 0) pe_int (fun _ _ => rfl)) (pe_op op_powW pe_int pe_int) (nomark _)) (pss_cons (ps_set (i := 2) sc_law_draw.nd rfl (Or.inl rfl) (pe_op op_mod (pe_ix ix_list (pv 0) pe_int (fun _ _ => rfl)) (pv 1)))
          (pss_cons (ps_asg (pe_op op_fdivW (pe_ix ix_list (pv 0) pe_int (fun _ _ => rfl)) (pv 1)) (pg_sub (pv 0) pe_int set_list))
          (pss_one (ps_ret (pv 2))))) pss_nil)
        (pss_cons (ps_set (i := 3) sc_law_draw.nd rfl (Or.inl rfl) (pe_op op_mod (pe_op op_add (pe_op op_add (pe_op op_mod (pe_ix ix_list (pv 0) pe_int (fun _ _ => rfl)) pe_int) (pe_op op_mulW pe_int (pe_ix ix_list (pv 0) pe_int (fun _ _ => rfl)))) pe_int) pe_int))
        (pss_cons (ps_set (i := 3) sc_law_draw.nd rfl (Or.inl rfl) (pe_op op_mod (pe_op op_mulW (pv 3) (pv 3)) pe_int))
        (pss_cons (ps_set (i := 3) sc_law_draw.nd rfl (Or.inl rfl) (pe_op op_mod (pe_op op_add (pv 3) (pe_op op_mulW pe_int (pe_ix ix_list (pv 0) pe_int (fun _ _ => rfl)))) pe_int))
        (pss_cons (ps_set (i := 3) sc_law_draw.nd rfl (Or.inl rfl) (pe_op op_mod (pe_op op_mulW (pv 3) (pv 3)) pe_int))
        (pss_one (ps_ret (pe_op op_mod (pe_op op_fdivW (pv 3) pe_int) (pv 1)))))))))), ?_⟩
    refine ⟨_, rfl, a, _, 1, _, rfl, rfl, .of ha, by decide, at1, _, _, rfl, rfl, a, _, 1, 1, rfl, rfl, ha, rfl, ?_⟩
    have hb1 : (upd H a (.lst (([.int x, .int y] : List V).set 1 (.int (y + 1))))) a = some (.lst [.int x, .int (y + 1)]) := upd_same
    have bt1 : Bt a H (upd H a (.lst (([.int x, .int y] : List V).set 1 (.int (y + 1))))) := .at_ _ _ _
    generalize upd H a (.lst (([.int x, .int y] : List V).set 1 (.int (y + 1)))) = H1 at hb1 bt1 ⊢
    have hS : SqL K H1 a [.int x, .int (y + 1)] := .of hb1
    have p1 : CPowW 10 18 := powW_ok (n := 4) (by decide) (by decide) (by decide)
    by_cases hx : x ≥ 10 ^ (18 : Int).toNat
    · refine ⟨_, rfl, a, _, 0, _, rfl, rfl, hS, at0, _, _, rfl, rfl, p1, _, _, rfl, rfl, true, dT hx, ?_⟩
      refine ⟨_, rfl, a, _, 0, _, rfl, rfl, hS, at0, _, rfl, _, _, rfl, rfl, (by show (0 : Int) < m; omega), ?_⟩
      refine ⟨_, rfl, a, _, 0, _, rfl, rfl, hS, at0, _, rfl, _, _, rfl, rfl, wide_div (b := 30) (by omega) (lt_pow (by omega) (by omega)) (by decide) (by decide), ?_⟩
      refine ⟨_, rfl, a, _, 0, 0, rfl, rfl, hb1, rfl, _, rfl, ?_⟩
      exact q _ _ (Int.emod_nonneg _ (by omega)) (Int.emod_lt_of_pos _ (by omega)) ⟨_, _, upd_same, Int.ediv_nonneg x0 (by omega), by omega, by omega⟩ (bt1.trans (.at_ _ _ _))
    · refine ⟨_, rfl, a, _, 0, _, rfl, rfl, hS, at0, _, _, rfl, rfl, p1, _, _, rfl, rfl, false, dF hx, ?_⟩
      have w1 : CMulW 104729 (y + 1) := wide_mul (a := 30) (b := 30) (by decide) (lt_pow (by omega) (by omega)) (by decide) (by decide) (by decide)
      have w2 : CMulW 40692 (y + 1) := wide_mul (a := 30) (b := 30) (by decide) (lt_pow (by omega) (by omega)) (by decide) (by decide) (by decide)
      refine ⟨_, rfl, a, _, 0, _, rfl, rfl, hS, at0, _, _, rfl, rfl, (by show (0 : Int) < 2147483629; decide), _, rfl, a, _, 1, _, rfl, rfl, hS, at1, _, _, rfl, rfl, w1, _, _, rfl, rfl, _, _, rfl, rfl, _, _, rfl, rfl, (by show (0 : Int) < 2147483587; decide), ?_⟩
      generalize (x % 2147483629 + 104729 * (y + 1) + 1) = big1
      have b0 : 0 ≤ big1 % 2147483587 := Int.emod_nonneg _ (by decide)
      have b1 : big1 % 2147483587 < 2147483587 := Int.emod_lt_of_pos _ (by decide)
      dsimp only
      generalize big1 % 2147483587 = o1 at b0 b1 ⊢
      have w3 : CMulW o1 o1 := wide_mul (a := 40) (b := 40) (lt_pow (by omega) (by omega)) (lt_pow (by omega) (by omega)) (by decide) (by decide) (by decide)
      refine ⟨_, rfl, _, rfl, _, _, rfl, rfl, w3, _, _, rfl, rfl, (by show (0 : Int) < 2147483587; decide), ?_⟩
      generalize o1 * o1 = big2
      have c0 : 0 ≤ big2 % 2147483587 := Int.emod_nonneg _ (by decide)
      have c1 : big2 % 2147483587 < 2147483587 := Int.emod_lt_of_pos _ (by decide)
      dsimp only
      generalize big2 % 2147483587 = o2 at c0 c1 ⊢
      refine ⟨_, rfl, _, rfl, a, _, 1, _, rfl, rfl, hS, at1, _, _, rfl, rfl, w2, _, _, rfl, rfl, _, _, rfl, rfl, (by show (0 : Int) < 2147483563; decide), ?_⟩
      generalize (o2 + 40692 * (y + 1)) = big3
      have d0 : 0 ≤ big3 % 2147483563 := Int.emod_nonneg _ (by decide)
      have d1 : big3 % 2147483563 < 2147483563 := Int.emod_lt_of_pos _ (by decide)
      dsimp only
      generalize big3 % 2147483563 = o3 at d0 d1 ⊢
      have w4 : CMulW o3 o3 := wide_mul (a := 40) (b := 40) (lt_pow (by omega) (by omega)) (lt_pow (by omega) (by omega)) (by decide) (by decide) (by decide)
      refine ⟨_, rfl, _, rfl, _, _, rfl, rfl, w4, _, _, rfl, rfl, (by show (0 : Int) < 2147483563; decide), ?_⟩
      generalize o3 * o3 = big4
      have e0 : 0 ≤ big4 % 2147483563 := Int.emod_nonneg _ (by decide)
      dsimp only
      generalize big4 % 2147483563 = o4 at e0 ⊢
      refine ⟨_, rfl, _, _, rfl, rfl, wide_div (b := 30) (by decide) (by decide) (by decide) (by decide), _, rfl, _, _, rfl, rfl, (by show (0 : Int) < m; omega), ?_⟩
      exact q _ _ (Int.emod_nonneg _ (by omega)) (Int.emod_lt_of_pos _ (by omega)) ⟨_, _, hb1, x0, by omega, by omega⟩ bt1
end
end L69
set_option Elab.async false
set_option linter.all false
set_option maxRecDepth 100000
namespace L69
open PySem PySem.Spec PyProof.Rows L2 Lp
theorem Hist.no_stop {ns : List Int} (hh : Hist ns) {i : Nat} {e : Int} (he : ns[i]? = some e) (h0 : 0 < e) : -e ∉ ns.take i := by
  intro hm
  obtain ⟨j, hj, e1⟩ := List.mem_iff_getElem.mp hm
  rw [List.length_take] at hj
  have e2 : ns[j]? = some (-e) := by rw [List.getElem?_eq_getElem (by omega), ← e1, List.getElem_take]
  have z := hh.ord j (-e) e2 (by omega)
  rw [Int.neg_neg] at z
  exact not_mem_take hh.nd he ((List.take_subset_take_left ns (by omega : j ≤ i)) z)
theorem keys_put_new {kvs : List (Key × V)} {k : Key} {v : V} (h : k ∉ kvs.map (·.1)) : (putK kvs k v).map (·.1) = kvs.map (·.1) ++ [k] := by
  unfold putK
  have e : (kvs.any fun kv => decide (kv.1 = k)) = false := by
    cases e : (kvs.any fun kv => decide (kv.1 = k)) with
    | false => rfl
    | true =>
      obtain ⟨p, hp, e⟩ := List.any_eq_true.mp e
      exact absurd (List.mem_map.mpr ⟨p, hp, of_decide_eq_true e⟩) h
  rw [e, if_neg (fun z => nomatch z), List.map_append]
  rfl
theorem runL_start {t : List Int} {e : Int} (h0 : 0 < e) (hn : -e ∉ t) : runL (t ++ [e]) = runL t ++ [e] := by
  rw [← runL_hl, hl_start h0 hn, List.map_append, runL_hl]
  rfl
theorem runL_stop {t : List Int} {e : Int} (h0 : e < 0) : runL (t ++ [e]) = (runL t).filter fun k => decide (k ≠ -e) := by
  rw [← runL_hl, hl_stop h0, ← runL_hl, List.filter_map]
  rfl
theorem erase_filt : ∀ {l : List Int} {j : Nat} {k : Int}, l.Nodup → l[j]? = some k → l.eraseIdx j = l.filter fun x => decide (x ≠ k)
  | [], _, _, _, h => by simp at h
  | a :: r, 0, k, nd, h => by
    cases h
    have hn := (List.nodup_cons.mp nd).1
    show r = _
    rw [List.filter_cons_of_neg (by simp)]
    refine (List.filter_eq_self.mpr fun x hx => ?_).symm
    have hx2 : x ≠ a := fun z => hn (by rw [← z]; exact hx)
    exact decide_eq_true hx2
  | a :: r, j + 1, k, nd, h => by
    have hn := List.nodup_cons.mp nd
    have hr : r[j]? = some k := h
    have ne : a ≠ k := fun z => hn.1 (z ▸ mem_get hr)
    show a :: r.eraseIdx j = _
    rw [List.filter_cons_of_pos (by simp [ne]), erase_filt hn.2 hr]
section
variable {P : Program} {w : World} {K : PySem.W.Frag} {mg : Str → Option Value} {base : Heap}
def spPlay69 (K : PySem.W.Frag) : Sp := fun vs H Q _ => ∃ (a : Addr) (ns : List Int), vs = [.ref a] ∧ SqL K H a (ns.map V.int) ∧ Hist ns ∧
  ∀ H' t p d r kvs, Same H H' → H' t = some (.tup [.ref p, .ref d, .ref r]) → H' p = some (.lst (presL ns ns.length)) → H' d = some (.dK kvs) → Saves kvs ns (runP ns).2 → kvs.length = (stL ns).length → H' r = some (.lst ((runL ns).map V.int)) → H r = none → Q (.ref t) H'
theorem putK_len1 {kvs : List (Key × V)} {k : Key} {v : V} (h : k ∉ kvs.map (·.1)) : (putK kvs k v).length = kvs.length + 1 := by
  have := congrArg List.length (keys_put_new (v := v) h)
  rw [List.length_map, List.length_append, List.length_map] at this
  exact this
theorem ok_law_play {f : Addr} {fd : FuncData} (F : Fun K "_law_play" "_law_play" s_law_play f fd) : FnG P w K mg base CX0 1 f fd ["events"] (spPlay69 K) := by
  refine okG F sc_law_play (fun vs H Q E h => ?_) (fun cdv A outer s H vs Q E hG hr h => ?_)
  · obtain ⟨a, ns, rfl, _⟩ := h
    rfl
  · obtain ⟨a, ns, rfl, hS, hh, q⟩ := h
    have hu := hu_of hr
    have hlen := hh.len
    refine ⟨_, (pss_cons (ps_set (i := 1) sc_law_play.nd rfl (Or.inl rfl) (pe_lst (pa_cons pe_int pa_nil)))
        (pss_cons (ps_set (i := 2) sc_law_play.nd rfl (Or.inl rfl) pe_dnewK)
        (pss_cons (ps_set (i := 3) sc_law_play.nd rfl (Or.inl rfl) (pe_lst pa_nil))
        (pss_cons (ps_for PassesOwn.never rfl (pi_list (pv 0)) (pg_name (i := 4) sc_law_play.nd rfl (Or.inl rfl))
          (pss_one (ps_if (pt_cmpR op_gt (pv 4) pe_int (nomark _)) (pss_cons (ps_dput hu (pv 2) (pv 4) (pe_ix ix_list (pv 1) (pe_un un_neg pe_int) (fun _ _ => rfl)) rfl)
            (pss_cons (ps_expr (pe_bm PySem.F.plainAttrs_list PySem.F.slot_list_append PySem.F.type_list_append mt_append (pv 3) (pa_cons (pv 4) pa_nil)))
            (pss_one (ps_expr (pe_bm PySem.F.plainAttrs_list PySem.F.slot_list_append PySem.F.type_list_append mt_append (pv 1) (pa_cons (pv 4) pa_nil)))))) (pss_cons (ps_expr (pe_bm PySem.F.plainAttrs_list PySem.F.slot_list_remove PySem.F.type_list_remove mt_remove (pv 3) (pa_cons (pe_un un_neg (pv 4)) pa_nil)))
            (pss_one (ps_expr (pe_bm PySem.F.plainAttrs_list PySem.F.slot_list_append PySem.F.type_list_append mt_append (pv 1) (pa_cons (pe_dget hu (pv 2) (pe_un un_neg (pv 4)) (fun _ _ => rfl)) pa_nil))))))))
        (pss_one (ps_ret (pe_tup (pa_cons (pv 1) (pa_cons (pv 2) (pa_cons (pv 3) pa_nil)))))))))), ?_⟩
    refine ⟨by show 1 ≤ sizeLine; decide, fun p np => ?_⟩
    have m1 := same_new (o := .lst [.int 0]) np
    have hp0 := upd_same (H := H) (a := p) (o := .lst [.int 0])
    generalize upd H p (.lst [.int 0]) = H1 at m1 hp0 ⊢
    refine fun d nd => ?_
    have m2 := same_new (o := .dK []) nd
    have hd0 := upd_same (H := H1) (a := d) (o := .dK [])
    have hp1 := m2 _ _ hp0
    have npd : p ≠ d := ne_of_none hp0 nd
    generalize upd H1 d (.dK []) = H2 at m2 hd0 hp1 ⊢
    refine ⟨by show 0 ≤ sizeLine; decide, fun r nr => ?_⟩
    have m3 := same_new (o := .lst []) nr
    have hr0 := upd_same (H := H2) (a := r) (o := .lst [])
    have hp2 := m3 _ _ hp1
    have hd2 := m3 _ _ hd0
    have npr : p ≠ r := ne_of_none hp1 nr
    have ndr : d ≠ r := ne_of_none hd0 nr
    have zp : H p = none := np
    have zd : H d = none := m1.free nd
    have zr : H r = none := (m1.trans m2).free nr
    have s03 := (m1.trans m2).trans m3
    generalize upd H2 r (.lst []) = H3 at m3 hr0 hp2 hd2 s03 ⊢
    refine ⟨_, rfl, a, rfl, ⟨_, s03.seq hS⟩, for_list (xs := ns.map V.int) (fun i σ H' => (∃ y, σ = [some (.ref a), some (.ref p), some (.ref d), some (.ref r), y]) ∧ Same H H' ∧ H' p = some (.lst (presL ns i)) ∧ H' r = some (.lst ((runL (ns.take i)).map V.int)) ∧
      ∃ kvs, H' d = some (.dK kvs) ∧ kvs.length = (stL (ns.take i)).length ∧ (∀ k : Int, (Sum.inl k : Key) ∈ kvs.map (·.1) → k ∈ ns.take i) ∧ Saves kvs (ns.take i) (runP (ns.take i)).2) ⟨⟨_, rfl⟩, s03, hp2, hr0, [], hd2, rfl, (fun k hk => nomatch hk), fun k hk => (by simp at hk)⟩ (fun i σ H' _ h => h.2.1.seq hS) (fun i x σ H' hx h => ?_) (fun σ H' h => ?_)⟩
    · obtain ⟨n, rfl, hn⟩ := get_int hx
      obtain ⟨⟨y, rfl⟩, sm, hp, hrr, kvs, hd, hl, hk, hv⟩ := h
      obtain ⟨h0, _⟩ := hh.rng n (mem_get hn)
      have hi := lt_get hn
      have tk := take_get hn
      have stl := stL_len (ns.take i)
      have rll : (runL (ns.take i)).length ≤ i := by
        have h1 : (runL (ns.take i)).length ≤ (stL (ns.take i)).length := List.length_filter_le _ _
        rw [List.length_take] at stl
        omega
      rw [List.length_take] at stl
      by_cases hpos : 0 < n
      · have eP : runP (ns.take (i + 1)) = (n, putF1 (runP (ns.take i)).2 n (runP (ns.take i)).1) := by
          rw [runP_succ hn]
          unfold stepP
          rw [if_pos hpos]
        have hno : -n ∉ ns.take i := hh.no_stop hn hpos
        refine ⟨_, rfl, _, _, rfl, rfl, true, dT hpos, ?_⟩
        refine ⟨_, rfl, 1, rfl, p, _, -1, _, rfl, rfl, .of hp, presL_last ns i, _, rfl, _, rfl, d, _, rfl, DPut.k (k := Sum.inl n) hd (zl (by omega)), ?_⟩
        have hr2 : (upd H' d (.dK (putK kvs (Sum.inl n) (.int (runP (ns.take i)).1)))) r = some (.lst ((runL (ns.take i)).map V.int)) := by rw [upd_ne ndr.symm]; exact hrr
        refine ⟨_, rfl, .inl ⟨rfl, _, .of hr2⟩, _, rfl, r, _, _, rfl, rfl, hr2, by rw [List.length_map]; exact zl (by omega), ?_⟩
        have hp3 : (upd (upd H' d (.dK (putK kvs (Sum.inl n) (.int (runP (ns.take i)).1)))) r (.lst ((runL (ns.take i)).map V.int ++ [.int n]))) p = some (.lst (presL ns i)) := by rw [upd_ne npr, upd_ne npd]; exact hp
        refine ⟨_, rfl, .inl ⟨rfl, _, .of hp3⟩, _, rfl, p, _, _, rfl, rfl, hp3, by rw [presL_len]; exact zl (by omega), ⟨_, rfl⟩, Lp.Same.mut (Lp.Same.mut (Lp.Same.mut sm zd) zr) zp, ?_, ?_, putK kvs (Sum.inl n) (.int (runP (ns.take i)).1), ?_, ?_, fun k hk' => ?_, ?_⟩
        · rw [upd_same, presL_succ, eP]
        · rw [upd_ne npr.symm, upd_same, tk, runL_start hpos hno, List.map_append]
          rfl
        · rw [upd_ne npd.symm, upd_ne ndr, upd_same]
        · rw [putK_len1 fun z => not_mem_take hh.nd hn (hk n z), hl, tk]
          unfold stL
          rw [List.filter_append, List.filter_cons_of_pos (by simp [hpos]), List.length_append]
          rfl
        · rw [keys_put_new fun z => not_mem_take hh.nd hn (hk n z)] at hk'
          rcases List.mem_append.mp hk' with z | z
          · exact (mem_take_succ hn).mpr (.inl (hk k z))
          · have := List.mem_singleton.mp z
            cases this
            exact (mem_take_succ hn).mpr (.inr rfl)
        · rw [eP]
          exact hv.put hn
      · have hneg : n < 0 := by omega
        have hpre := hh.ord i n hn hneg
        have eP : runP (ns.take (i + 1)) = ((runP (ns.take i)).2 (-n), (runP (ns.take i)).2) := by
          rw [runP_succ hn]
          unfold stepP
          rw [if_neg hpos]
        have hin : -n ∈ runL (ns.take i) := runL_mem.mpr ⟨hpre, by omega, by rw [Int.neg_neg]; exact not_mem_take hh.nd hn⟩
        have ndr' := runL_nd (hh.nd.sublist (List.take_sublist i ns))
        obtain ⟨j, hj, ej⟩ := List.mem_iff_getElem.mp hin
        have hj' : (runL (ns.take i))[j]? = some (-n) := by rw [List.getElem?_eq_getElem hj, ej]
        refine ⟨_, rfl, _, _, rfl, rfl, false, dF hpos, ?_⟩
        refine ⟨_, rfl, .inl ⟨rfl, _, .of hrr⟩, _, rfl, n, rfl, r, runL (ns.take i), -n, j, rfl, rfl, hrr, hj', fun m hm e => ?_, ?_⟩
        · have := nd_ix ndr' e hj'
          omega
        have hp3 : (upd H' r (.lst (((runL (ns.take i)).eraseIdx j).map V.int))) p = some (.lst (presL ns i)) := by rw [upd_ne npr]; exact hp
        have hd3 : (upd H' r (.lst (((runL (ns.take i)).eraseIdx j).map V.int))) d = some (.dK kvs) := by rw [upd_ne ndr]; exact hd
        refine ⟨_, rfl, .inl ⟨rfl, _, .of hp3⟩, _, rfl, _, rfl, n, rfl, d, _, rfl, sv_get hv hd3 hpre (by omega), p, _, _, rfl, rfl, hp3, by rw [presL_len]; exact zl (by omega), ⟨_, rfl⟩, Lp.Same.mut (Lp.Same.mut sm zr) zp, ?_, ?_, kvs, ?_, ?_, fun k z => (mem_take_succ hn).mpr (.inl (hk k z)), ?_⟩
        · rw [upd_same, presL_succ, eP]
        · rw [upd_ne npr.symm, upd_same, tk, runL_stop hneg, erase_filt ndr' hj']
        · rw [upd_ne npd.symm]
          exact hd3
        · rw [hl, tk]
          unfold stL
          rw [List.filter_append, List.filter_cons_of_neg (by simp; omega)]
          simp
        · rw [eP]
          exact hv.keep hn hneg
    · obtain ⟨⟨y, rfl⟩, sm, hp, hrr, kvs, hd, hl, hk, hv⟩ := h
      rw [List.length_map] at hp hv hrr hl
      rw [List.take_length] at hv hrr hl
      refine ⟨_, rfl, _, rfl, _, rfl, by show 3 ≤ sizeLine; decide, fun t nt => ?_⟩
      have s4 := same_new (o := .tup [.ref p, .ref d, .ref r]) nt
      exact q _ t p d r kvs (sm.trans s4) upd_same (s4 _ _ hp) (s4 _ _ hd) hv hl (s4 _ _ hrr) zr
end
end L69
set_option Elab.async false
set_option linter.all false
set_option maxRecDepth 100000
namespace L69
open PySem PySem.Spec PyProof.Rows L2 Lp
theorem upL_drop {n k : Nat} (h : k < n) : (upL n).drop k = ((k : Int) + 1) :: (upL n).drop (k + 1) := by
  have hl : k < (upL n).length := by rw [upL_len]; exact h
  rw [List.drop_eq_getElem_cons hl]
  refine congrArg (· :: _) ?_
  have e : (upL n)[k]? = some ((k : Int) + 1) := by
    unfold upL
    rw [List.getElem?_map, List.getElem?_range h]
    show some (1 + (k : Int)) = _
    rw [Int.add_comm]
  rw [List.getElem?_eq_getElem hl] at e
  exact Option.some.inj e
theorem upL_take {n k : Nat} (h : k < n) : (upL n).take (k + 1) = (upL n).take k ++ [(k : Int) + 1] := by
  have hl : k < (upL n).length := by rw [upL_len]; exact h
  rw [List.take_succ_eq_append_getElem hl]
  refine congrArg (_ ++ [·]) ?_
  have e : (upL n)[k]? = some ((k : Int) + 1) := by
    unfold upL
    rw [List.getElem?_map, List.getElem?_range h]
    show some (1 + (k : Int)) = _
    rw [Int.add_comm]
  rw [List.getElem?_eq_getElem hl] at e
  exact Option.some.inj e
structure Evs (H H' : Hp) (b f r : Addr) (many k c : Nat) (rs ns : List Int) : Prop where
  g : Good ((upL many).drop k) rs ns
  st : stL ns = (upL many).take k
  ln : ns.length = 2 * k - rs.length
  lr : rs.length ≤ k
  hf : H' f = some (.lst (ns.map V.int))
  hr : H' r = some (.lst (rs.map V.int))
  bt : Bt b H H'
  bag : Bag H' b c
theorem Evs.new {H G : Hp} {b f r e : Addr} {many k c : Nat} {rs ns : List Int} {o : HO} (ev : Evs H G b f r many k c rs ns) (ne : G e = none) : Evs H (upd G e o) b f r many k c rs ns := by
  have s := same_new (o := o) ne
  obtain ⟨x, y, hx, t⟩ := ev.bag
  exact ⟨ev.g, ev.st, ev.ln, ev.lr, s _ _ ev.hf, s _ _ ev.hr, ev.bt.trans (.of s), x, y, s _ _ hx, t⟩
theorem Evs.draw {H G G' : Hp} {b f r : Addr} {many k c c' : Nat} {rs ns : List Int} (ev : Evs H G b f r many k c rs ns) (nf : f ≠ b) (nr : r ≠ b) (bt : Bt b G G') (bag : Bag G' b c') : Evs H G' b f r many k c' rs ns :=
  ⟨ev.g, ev.st, ev.ln, ev.lr, bt _ _ nf ev.hf, bt _ _ nr ev.hr, ev.bt.trans bt, bag⟩
section
variable {P : Program} {w : World} {K : PySem.W.Frag} {mg : Str → Option Value} {base : Heap}
def spEvents (K : PySem.W.Frag) : Sp := fun vs H Q _ => ∃ (b : Addr) (n : Nat), vs = [.ref b, .int 5, .bl false] ∧ Bag H b n ∧ n ≤ 50000 ∧
  ∀ (H' : Hp) (f : Addr) (ns : List Int) (m : Nat), m ≤ 5 → Hist ns → stL ns = upL m → Bt b H H' → Bag H' b (n + 30) → H f = none → H' f = some (.lst (ns.map V.int)) → Q (.ref f) H'
theorem ok_law_events {f : Addr} {fd : FuncData} (F : Fun K "_law_events" "_law_events" s_law_events f fd) (B : NoB mg) (T_law_draw : Gc P w K mg base 1 "_law_draw" (spDraw K)) : FnG P w K mg base CX0 2 f fd ["bag", "most", "to_end"] (spEvents K) := by
  refine okG F sc_law_events (fun vs H Q E h => ?_) (fun cdv A outer s H vs Q E hG hr h => ?_)
  · obtain ⟨b, n, rfl, _⟩ := h
    rfl
  · obtain ⟨b, n, rfl, hb, hn, q⟩ := h
    have hu64 := hr.units
    refine ⟨_, (pss_cons (ps_set (i := 3) sc_law_events.nd rfl (Or.inl rfl) (pe_g T_law_draw hG hr (by decide) (by rfl) (pa_cons (pv 0) (pa_cons (pe_op op_add (pv 1) pe_int) pa_nil))))
        (pss_cons (ps_set (i := 4) sc_law_events.nd rfl (Or.inl rfl) (pe_lst pa_nil))
        (pss_cons (ps_set (i := 5) sc_law_events.nd rfl (Or.inl rfl) pe_int)
        (pss_cons (ps_set (i := 6) sc_law_events.nd rfl (Or.inl rfl) (pe_lst pa_nil))
        (pss_cons (ps_while PassesOwn.never (PW.pt (pw_or (pt_cmpR op_lt (pv 5) (pv 3) (nomark _)) (pw_or1 (PW.pt (pw_and (pt_val (pv 2)) (pw_and1 (pt_cmpR (op_neD hu64) (pv 6) (pe_lst pa_nil) (nomark _)))))))) (pss_one (ps_if (pt_mid (PW.pt (pw_or (pt_cmpR (op_eqD hu64) (pv 6) (pe_lst pa_nil) (nomark _)) (pw_or1 (PW.pt (pw_and (pt_cmpR op_lt (pv 5) (pv 3) (nomark _)) (pw_and1 (pt_cmpR op_eq (pe_g T_law_draw hG hr (by decide) (by rfl) (pa_cons (pv 0) (pa_cons pe_int pa_nil))) pe_int (nomark _))))))))) (pss_cons (ps_aug (i := 5) sc_law_events.nd rfl (Or.inl rfl) pe_int ip_add)
            (pss_cons (ps_expr (pe_bm PySem.F.plainAttrs_list PySem.F.slot_list_append PySem.F.type_list_append mt_append (pv 6) (pa_cons (pv 5) pa_nil)))
            (pss_one (ps_expr (pe_bm PySem.F.plainAttrs_list PySem.F.slot_list_append PySem.F.type_list_append mt_append (pv 4) (pa_cons (pv 5) pa_nil)))))) (pss_one (ps_expr (pe_bm PySem.F.plainAttrs_list PySem.F.slot_list_append PySem.F.type_list_append mt_append (pv 4) (pa_cons (pe_un un_neg (pe_bm PySem.F.plainAttrs_list PySem.F.slot_list_pop PySem.F.type_list_pop mt_popAt (pv 6) (pa_cons (pe_g T_law_draw hG hr (by decide) (by rfl) (pa_cons (pv 0) (pa_cons (pe_callB call_len_seq (by rfl) B.len PySem.boot_len (pa_cons (pv 6) pa_nil)) pa_nil))) pa_nil))) pa_nil)))))))
        (pss_one (ps_ret (pv 4)))))))), ?_⟩
    refine ⟨_, rfl, _, rfl, _, _, rfl, rfl, b, 6, n, rfl, hb, by omega, by decide, by decide, fun z H1 z0 z1 hb1 b1 => ?_⟩
    obtain ⟨many, rfl⟩ : ∃ m : Nat, z = (m : Int) := ⟨z.toNat, by omega⟩
    refine ⟨by show 0 ≤ sizeLine; decide, fun f nf => ?_⟩
    have nfb : f ≠ b := fun e => by
      obtain ⟨x, y, hx, _⟩ := hb1
      rw [e, hx] at nf
      cases nf
    have hf1 := upd_same (H := H1) (a := f) (o := .lst [])
    have b2 := b1.add (o := .lst []) nf
    have zf : H f = none := free_of b1 nfb nf
    have bag1 : ∀ {G G' : Hp} {c : Nat}, Bag G b c → (∀ o, G b = some o → G' b = some o) → Bag G' b c := fun {G G' c} ⟨x, y, hx, t⟩ k => ⟨x, y, k _ hx, t⟩
    have hb2 : Bag (upd H1 f (.lst [])) b (n + 1) := bag1 hb1 fun o e => by rw [upd_ne nfb.symm]; exact e
    generalize upd H1 f (.lst []) = H2 at hf1 b2 hb2 ⊢
    refine ⟨by show 0 ≤ sizeLine; decide, fun r nr => ?_⟩
    have nrb : r ≠ b := fun e => by
      obtain ⟨x, y, hx, _⟩ := hb2
      rw [e, hx] at nr
      cases nr
    have nfr : f ≠ r := ne_of_none hf1 nr
    have zr : H r = none := free_of b2 nrb nr
    have hf3 : (upd H2 r (.lst [])) f = some (.lst []) := by rw [upd_ne nfr]; exact hf1
    have hr3 := upd_same (H := H2) (a := r) (o := .lst [])
    have b3 := b2.add (o := .lst []) nr
    have hb3 : Bag (upd H2 r (.lst [])) b (n + 1) := bag1 hb2 fun o e => by rw [upd_ne nrb.symm]; exact e
    generalize upd H2 r (.lst []) = H3 at hf3 hr3 b3 hb3 ⊢
    have g0 : Good ((upL many).drop 0) [] [] := ⟨by simp, List.nodup_nil, (fun i e he => by simp at he), List.nodup_nil, by simp, upL_nd _, fun k hk => by have := upL_mem hk; exact ⟨this.1, by omega, by simp⟩⟩
    refine ⟨fun m σ H' => ∃ (k c : Nat) (rs ns : List Int), σ = [some (.ref b), some (.int 5), some (.bl false), some (.int (many : Int)), some (.ref f), some (.int (k : Int)), some (.ref r)] ∧ k ≤ many ∧ Evs H H' b f r many k c rs ns ∧ m = 2 * (many - k) + rs.length ∧ c + 2 * m ≤ n + 1 + 4 * many, ⟨2 * many, 0, n + 1, [], [], rfl, Nat.zero_le _, ⟨g0, rfl, rfl, Nat.le_refl _, hf3, hr3, b3, hb3⟩, rfl, by omega⟩, ?_⟩
    rintro m σ H' ⟨k, c, rs, ns, rfl, hk, ev, hm, hc⟩
    by_cases hkm : (k : Int) < (many : Int)
    · refine ⟨_, rfl, _, rfl, _, _, rfl, rfl, true, dT hkm, ?_⟩
      have hkn : k < many := by omega
      have lr := ev.lr
      have ln := ev.ln
      refine ⟨fun σ' H'' => ∃ m', m' < m ∧ ∃ (k c : Nat) (rs ns : List Int), σ' = [some (.ref b), some (.int 5), some (.bl false), some (.int (many : Int)), some (.ref f), some (.int (k : Int)), some (.ref r)] ∧ k ≤ many ∧ Evs H H'' b f r many k c rs ns ∧ m' = 2 * (many - k) + rs.length ∧ c + 2 * m' ≤ n + 1 + 4 * many, fun σ' H'' h => h, ?_⟩
      refine ⟨fun b' G => (b' = false → rs ≠ []) ∧ ∃ c', c' ≤ c + 1 ∧ Evs H G b f r many k c' rs ns, ?_, ?_⟩
      · refine ⟨_, rfl, by show 0 ≤ sizeLine; decide, fun e ne => ?_⟩
        have ev2 := ev.new (o := .lst []) ne
        have he := upd_same (H := H') (a := e) (o := .lst [])
        generalize upd H' e (.lst []) = H5 at ev2 he ⊢
        by_cases h0 : rs = []
        · exact ⟨dI rs, dI [], dp_ints (.of ev2.hr), dp_ints (ns := []) (.of he), shaped_ints _, shaped_ints _, true, eqvT h0, (fun z => nomatch z), c, Nat.le_succ _, ev2⟩
        · refine ⟨dI rs, dI [], dp_ints (.of ev2.hr), dp_ints (ns := []) (.of he), shaped_ints _, shaped_ints _, false, eqvF h0, ?_⟩
          refine ⟨_, rfl, _, rfl, _, _, rfl, rfl, true, dT hkm, ?_⟩
          refine ⟨_, rfl, b, 2, c, rfl, ev2.bag, by omega, by decide, by decide, fun z H6 z0 z1 hb6 b6 => ?_⟩
          have ev3 := ev2.draw nfb nrb b6 hb6
          by_cases hz : z = 0
          · exact ⟨rfl, true, dT (congrArg V.int hz), (fun z => nomatch z), c + 1, Nat.le_refl _, ev3⟩
          · exact ⟨rfl, false, dF (vne hz), fun _ => h0, c + 1, Nat.le_refl _, ev3⟩
      rintro b' G ⟨hM, c', hc', ev'⟩
      have hl2 := ev'.hr
      cases b' with
      | true =>
        have g := ev'.g
        rw [upL_drop hkn] at g
        refine ⟨_, rfl, _, _, rfl, rfl, ?_⟩
        refine ⟨_, rfl, .inl ⟨rfl, _, .of ev'.hr⟩, _, rfl, r, _, _, rfl, rfl, ev'.hr, by rw [List.length_map]; exact zl (by omega), ?_⟩
        have hf2 : (upd G r (.lst (rs.map V.int ++ [.int ((k : Int) + 1)]))) f = some (.lst (ns.map V.int)) := by rw [upd_ne nfr]; exact ev'.hf
        refine ⟨_, rfl, .inl ⟨rfl, _, .of hf2⟩, _, rfl, f, _, _, rfl, rfl, hf2, by rw [List.length_map]; exact zl (by omega), 2 * (many - (k + 1)) + (rs.length + 1), by omega, k + 1, c', rs ++ [(k : Int) + 1], ns ++ [(k : Int) + 1], rfl, by omega, ⟨g.push, ?_, ?_, ?_, ?_, ?_, (ev'.bt.mut zr).mut zf, ?_⟩, ?_, by omega⟩
        · rw [upL_take hkn, ← ev'.st]
          unfold stL
          rw [List.filter_append]
          have : ([(k : Int) + 1].filter fun e => decide (0 < e)) = [(k : Int) + 1] := by simp
          rw [this]
        · rw [List.length_append, List.length_append, ln]
          show _ + 1 = 2 * (k + 1) - (rs.length + 1)
          omega
        · rw [List.length_append]
          show rs.length + 1 ≤ k + 1
          omega
        · rw [upd_same, List.map_append]
          rfl
        · rw [upd_ne nfr.symm, upd_same, List.map_append]
          rfl
        · exact bag1 ev'.bag fun o e => by rw [upd_ne nfb.symm, upd_ne nrb.symm]; exact e
        · rw [List.length_append]
          rfl
      | false =>
        have h0 := hM rfl
        have hpos : 0 < rs.length := List.length_pos_iff.mpr h0
        refine ⟨_, rfl, .inl ⟨rfl, _, .of ev'.hf⟩, _, rfl, .inl ⟨rfl, _, .of ev'.hr⟩, _, rfl, _, rfl, r, _, rfl, .inl (.of ev'.hr), b, _, c', rfl, ev'.bag, by omega, by rw [List.length_map]; omega, by rw [List.length_map]; omega, fun z H6 z0 z1 hb6 b6 => ?_⟩
        obtain ⟨j, rfl⟩ : ∃ m : Nat, z = (m : Int) := ⟨z.toNat, by omega⟩
        rw [List.length_map] at z1
        have hj : j < rs.length := by omega
        have ev6 := ev'.draw nfb nrb b6 hb6
        refine ⟨r, _, _, j, _, rfl, rfl, ev6.hr, (nm (by omega)).1, (nm (by omega)).2, by rw [List.length_map]; exact ix_at hj, get_at hj, _, rfl, ?_⟩
        have hf7 : (upd H6 r (.lst ((rs.map V.int).eraseIdx j))) f = some (.lst (ns.map V.int)) := by rw [upd_ne nfr]; exact ev6.hf
        refine ⟨f, _, _, rfl, rfl, hf7, by rw [List.length_map]; exact zl (by omega), 2 * (many - k) + (rs.length - 1), by omega, k, c' + 1, rs.eraseIdx j, ns ++ [-rs[j]], rfl, hk, ⟨ev6.g.stop hj, ?_, ?_, ?_, ?_, ?_, (ev6.bt.mut zr).mut zf, ?_⟩, ?_, by omega⟩
        · rw [← ev'.st]
          unfold stL
          have := (ev'.g.avm rs[j] (List.getElem_mem hj)).1
          rw [List.filter_append, List.filter_cons_of_neg (by simp; omega)]
          simp
        · rw [List.length_append, List.length_eraseIdx_of_lt hj, ln]
          show _ + 1 = _
          omega
        · rw [List.length_eraseIdx_of_lt hj]
          omega
        · rw [upd_same, List.map_append]
          rfl
        · rw [upd_ne nfr.symm, upd_same, erase_map]
        · exact bag1 ev6.bag fun o e => by rw [upd_ne nfb.symm, upd_ne nrb.symm]; exact e
        · rw [List.length_eraseIdx_of_lt hj]
    · refine ⟨_, rfl, _, rfl, _, _, rfl, rfl, false, dF hkm, _, rfl, false, rfl, ?_⟩
      have ek : k = many := by omega
      subst ek
      have st := ev.st
      rw [List.take_of_length_le (by rw [upL_len]; exact Nat.le_refl _)] at st
      refine ⟨_, rfl, q _ f ns k (by omega) ⟨ev.g.rng, ev.g.nd, ev.g.ord, by have := ev.ln; omega⟩ st ev.bt ?_ zf ev.hf⟩
      obtain ⟨x, y, hx, x0, y0, y1⟩ := ev.bag
      exact ⟨x, y, hx, x0, y0, by omega⟩
end
end L69
set_option Elab.async false
set_option linter.all false
set_option maxRecDepth 100000
namespace L69
open PySem PySem.Spec PyProof.Rows L2 Lp
def resB (ts : List (List Int)) (ns order : List Int) : Bool := decide (presB ts (ns ++ order.map fun k => -k) = [0, 0, 0, 0, 0, 0, 0, 0, 0, 0])
section
variable {P : Program} {w : World} {K : PySem.W.Frag} {mg : Str → Option Value} {base : Heap}
def spResto (K : PySem.W.Frag) : Sp := fun vs H Q _ => ∃ (a t o : Addr) (ns order : List Int) (ts : List (Addr × List Int)), vs = [.ref a, .ref t, .ref o] ∧ H a = some (.lst (ns.map V.int)) ∧ Hist ns ∧ Ts H t ts ∧ TsOk ts ns ∧ H o = some (.lst (order.map V.int)) ∧ order.Perm (runL ns) ∧ ∀ H', Same H H' → Q (.bl (resB (tsL ts) ns order)) H'
theorem ok_is_restoring {f : Addr} {fd : FuncData} (F : Fun K "is_restoring" "is_restoring" s_is_restoring f fd) (B : NoB mg) {t1 : Tok} (T_g_MANY_SETTINGS : mg "MANY_SETTINGS" = some (.int 10 t1)) (T_check_touches : Gc P w K mg base 7 "_check_touches" (spChkT K)) (T_check_order : Gc P w K mg base 9 "check_order" (spCheckO K)) (T_presents_by : Gc P w K mg base 10 "presents_by" (spPresB K)) : FnG P w K mg base CX0 11 f fd ["history", "touches", "order"] (spResto K) := by
  refine okG F sc_is_restoring (fun vs H Q E h => ?_) (fun cdv A outer s H vs Q E hG hr h => ?_)
  · obtain ⟨a, t, o, ns, order, ts, rfl, _⟩ := h
    rfl
  · obtain ⟨a, t, o, ns, order, ts, rfl, ha, hh, ht, ok, ho, pm, q⟩ := h
    have hu64 := hr.units
    have ol := order_len hh pm
    have hnl := hh.len
    have nd := pm.nodup_iff.mpr (runL_nd hh.nd)
    have hm : ∀ k ∈ order, k ∈ ns ∧ 0 < k ∧ -k ∉ ns := fun k hk => runL_mem.mp (pm.mem_iff.mp hk)
    have hF := hist_stops hh nd hm
    refine ⟨_, (pss_cons (ps_expr (pe_g T_check_touches hG hr (by decide) (by rfl) (pa_cons (pv 0) (pa_cons (pv 1) pa_nil))))
        (pss_cons (ps_expr (pe_g T_check_order hG hr (by decide) (by rfl) (pa_cons (pv 0) (pa_cons (pv 2) pa_nil))))
        (pss_cons (ps_set (i := 3) sc_is_restoring.nd rfl (Or.inl rfl) (pe_g T_presents_by hG hr (by decide) (by rfl) (pa_cons (pe_op op_cat (pv 0) (pe_lc (own := [("patch", 4)]) (g := gName 4) (tt := tYes) rfl sc_is_restoring.nd (pi_list (pv 2)) (blkOk_by (own := [("patch", 4)]) (N := N_is_restoring) (sc := defScope s_is_restoring) (by decide +kernel)) (fun _ _ _ _ _ => (pg_name (i := 4) sc_is_restoring.nd rfl (Or.inl rfl))) (fun _ _ _ _ _ => pts_nil) (fun _ _ _ _ _ => (pe_un un_neg (pv 4))))) (pa_cons (pv 1) pa_nil))))
        (pss_one (ps_ret (pe_cmpR (op_eqD hu64) (pv 3) (pe_op op_rep (pe_lst (pa_cons pe_int pa_nil)) (pe_glob (v := .int 10) (by rfl) T_g_MANY_SETTINGS ⟨_, rfl⟩)) (nomark _))))))), ?_⟩
    refine ⟨_, rfl, _, rfl, a, t, ns, ts, rfl, .of ha, hh, ht, ok, fun H1 s1 => ?_⟩
    refine ⟨_, rfl, _, rfl, a, o, ns, order, rfl, .of (s1 _ _ ha), .of (s1 _ _ ho), hh, pm, fun H2 s2 => ?_⟩
    have s02 := s1.trans s2
    have ho2 := s02 _ _ ho
    refine ⟨_, rfl, _, rfl, o, rfl, ⟨_, .of ho2⟩, fun D nD => lc_list (xs := order.map V.int) (LcP H2 D fun j => ((order.take j).map fun k => -k).map V.int) (.init nD rfl) (fun j H3 _ p => .of (p.2.1 _ _ ho2)) (fun j x H3 hx p => ?_) (fun H3 p => ?_)⟩
    · obtain ⟨k, rfl, hk⟩ := get_int hx
      have li := lt_get hk
      refine ⟨rfl, ?_⟩
      refine ⟨_, rfl, k, rfl, p.put (.refl _) ?_ (by rw [List.length_map, List.length_map, List.length_take]; omega)⟩
      rw [take_get hk, List.map_append, List.map_append]
      rfl
    have hD : H3 D = some (.lst ((order.map fun k => -k).map V.int)) := by
      have h := p.2.2
      rw [List.length_map] at h
      rw [h]
      show some (HO.lst (((order.take order.length).map _).map V.int)) = _
      rw [List.take_length]
    have s03 := s02.trans p.2.1
    refine ⟨a, D, _, _, rfl, rfl, s03 _ _ ha, hD, Lp.zs (by rw [List.length_map, List.length_map, List.length_map]; omega), fun z nz => ?_⟩
    have s4 := same_new (o := .lst (ns.map V.int ++ (order.map fun k => -k).map V.int)) nz
    have s04 := s03.trans s4
    refine ⟨_, rfl, z, t, ns ++ order.map fun k => -k, ts, rfl, .of (by rw [upd_same, ← List.map_append]), hF, ht.same s04, ⟨ok.len, ok.set, fun e he h0 => ?_⟩, fun H5 r s5 _ hr5 => ?_⟩
    · rcases List.mem_append.mp he with he | he
      · exact ok.cov e he h0
      · obtain ⟨k, hk, rfl⟩ := List.mem_map.mp he
        have := (hm k hk).2.1
        omega
    have s05 := s04.trans s5
    refine ⟨_, rfl, by show 1 ≤ sizeLine; decide, fun q2 nq2 => ?_⟩
    have u2 := same_new (o := .lst [.int 0]) nq2
    refine ⟨q2, 10, _, rfl, rfl, upd_same, by decide, by decide, by decide, fun q3 nq3 => ?_⟩
    have u3 := same_new (o := .lst (List.replicate (10 : Int).toNat [V.int 0]).flatten) nq3
    have h3 : (upd (upd H5 q2 (.lst [.int 0])) q3 (.lst (List.replicate (10 : Int).toNat [V.int 0]).flatten)) q3 = some (.lst (([0, 0, 0, 0, 0, 0, 0, 0, 0, 0] : List Int).map V.int)) := upd_same
    refine ⟨dI _, dI [0, 0, 0, 0, 0, 0, 0, 0, 0, 0], dp_ints (.of (u3 _ _ (u2 _ _ hr5))), dp_ints (.of h3), shaped_ints _, shaped_ints _, ?_⟩
    rw [eqv_ints]
    exact q _ (s05.trans (u2.trans u3))
end
section
variable {P : Program} {w : World} {K : PySem.W.Frag} {mg : Str → Option Value} {base : Heap} {CE : Addr}
/-- a value that is no integer -/
def NoInt (K : PySem.W.Frag) (H : Hp) (v : V) : Prop := ∃ t, TyX K H v t ∧ (PySem.W.kitOne K t (.type "int") = some false ∨ (PySem.W.kitOne K t (.type "int") = some true ∧ PySem.W.kitOne K t (.type "bool") = some true))
def spIsIntV (K : PySem.W.Frag) : Sp := fun vs H Q _ => ∃ v : V, vs = [v] ∧ ((∃ i : Int, v = .int i ∧ Q (.bl true) H) ∨ (NoInt K H v ∧ Q (.bl false) H))
theorem ok_is_integer_V {f : Addr} {fd : FuncData} (F : Fun K "is_integer" "is_integer" s_is_integer f fd) (B : NoB mg) : FnOk P w K mg base CX0 1 f fd ["value"] (spIsIntV K) := by
  refine F.ok sc_is_integer (fun vs H Q E h => ?_) (fun cdv A outer s H vs Q E hr h => ?_)
  · obtain ⟨i, rfl, _⟩ := h
    rfl
  · obtain ⟨v, rfl, h⟩ := h
    refine ⟨_, (pss_one (ps_ret (pe_and (pe_callB call_isi (by rfl) B.isinstance (by decide +kernel) (pa_cons (pv 0) (pa_cons (pe_bltn (v := .ty "int") (by rfl) B.int boot_int rfl) pa_nil))) (pe_one (pe_not (pe_callB call_isi (by rfl) B.isinstance (by decide +kernel) (pa_cons (pv 0) (pa_cons (pe_bltn (v := .ty "bool") (by rfl) B.bool boot_bool rfl) pa_nil)))))))), ?_⟩
    rcases h with ⟨i, rfl, q⟩ | ⟨⟨t, ty, h | ⟨h1, h2⟩⟩, q⟩
    · refine ⟨_, rfl, _, _, _, _, true, rfl, .ty _, .base (.int i), kit_ty (by decide +kernel), true, rfl, iteT ?_⟩
      exact ⟨_, rfl, _, _, _, _, false, rfl, .ty _, .base (.int i), kit_ty (by decide +kernel), false, rfl, q⟩
    · exact ⟨_, rfl, _, _, _, _, false, rfl, .ty _, ty, h, false, rfl, iteF q⟩
    · refine ⟨_, rfl, _, _, _, _, true, rfl, .ty _, ty, h1, true, rfl, iteT ?_⟩
      exact ⟨_, rfl, _, _, _, _, true, rfl, .ty _, ty, h2, true, rfl, q⟩
def spCon (K : PySem.W.Frag) (CE : Addr) : Sp := fun vs H Q _ => ∃ (x dx a1 a3 a4 a5 : Addr) (p : Int) (ns : List Int) (v : V), vs = [.ref x, v] ∧ H x = some (.ins CE dx (fE a1 p a3 a4 a5)) ∧ H a1 = some (.lst (ns.map V.int)) ∧
  ((∃ i : Int, v = .int i ∧ Q (.bl (decide (0 < i ∧ (i ∈ ns ∨ -i ∈ ns)))) H) ∨ (NoInt K H v ∧ Q (.bl false) H))
theorem ok_Effect_contains {f : Addr} {fd : FuncData} (F : Fun K "__contains__" "Effect.__contains__" s_Effect_contains f fd) (B : NoB mg) (T : Txt K CE) (T_is_integer : Cal P w K mg base 1 "is_integer" (spIsIntV K)) : FnOk P w K mg base CX0 2 f fd ["self", "patch"] (spCon K CE) := by
  refine F.ok sc_Effect_contains (fun vs H Q E h => ?_) (fun cdv A outer s H vs Q E hr h => ?_)
  · obtain ⟨x, dx, a1, a3, a4, a5, p, ns, v, rfl, _⟩ := h
    rfl
  · obtain ⟨x, dx, a1, a3, a4, a5, p, ns, v, rfl, hx, ha, h⟩ := h
    refine ⟨_, (pss_one (ps_ret (pe_and (pe_c T_is_integer hr (by decide) (by rfl) (pa_cons (pv 1) pa_nil)) (pe_and (pe_cmpR op_gt (pv 1) pe_int (nomark _)) (pe_one (pe_or (pe_cmpR op_in_seq (pv 1) (pe_fld (pv 0) rfl) (by rfl)) (pe_one (pe_cmpR op_in_seq (pe_un un_neg (pv 1)) (pe_fld (pv 0) rfl) (by rfl))))))))), ?_⟩
    rcases h with ⟨i, rfl, q⟩ | ⟨h, q⟩
    · refine ⟨_, rfl, _, rfl, .inl ⟨i, rfl, true, rfl, iteT ?_⟩⟩
      by_cases c0 : 0 < i
      · refine ⟨_, rfl, _, _, rfl, rfl, true, dT c0, iteT ?_⟩
        by_cases c1 : i ∈ ns
        · refine ⟨_, rfl, _, rfl, x, CE, dx, _, _, rfl, hx, T.cE, T.n0, lE0 .., a1, ns.map V.int, rfl, .inl (.of ha), rfl, flatI ns, true, inT c1, iteT ?_⟩
          rw [decide_eq_true ⟨c0, .inl c1⟩] at q
          exact q
        · refine ⟨_, rfl, _, rfl, x, CE, dx, _, _, rfl, hx, T.cE, T.n0, lE0 .., a1, ns.map V.int, rfl, .inl (.of ha), rfl, flatI ns, false, inF c1, iteF ?_⟩
          refine ⟨_, rfl, i, rfl, _, rfl, x, CE, dx, _, _, rfl, hx, T.cE, T.n0, lE0 .., a1, ns.map V.int, rfl, .inl (.of ha), rfl, flatI ns, ?_⟩
          by_cases c2 : -i ∈ ns
          · rw [decide_eq_true ⟨c0, .inr c2⟩] at q
            rw [inT c2]
            exact q
          · rw [decide_eq_false (fun z => z.2.elim c1 c2)] at q
            rw [inF c2]
            exact q
      · refine ⟨_, rfl, _, _, rfl, rfl, false, dF c0, iteF ?_⟩
        rw [decide_eq_false (fun z => c0 z.1)] at q
        exact q
    · exact ⟨_, rfl, v, rfl, .inr ⟨h, false, rfl, iteF q⟩⟩
end
section
variable {P : Program} {w : World} {K : PySem.W.Frag} {mg : Str → Option Value} {base : Heap} {CE : Addr}
def spEnded (CE : Addr) : Sp := fun vs H Q _ => ∃ (x dx a1 a3 a4 a5 : Addr) (p : Int) (xs : List V), vs = [.ref x] ∧ H x = some (.ins CE dx (fE a1 p a3 a4 a5)) ∧ H a5 = some (.lst xs) ∧ ∀ l, H l = none → Q (.ref l) (upd H l (.lst xs))
theorem ok_Effect_ended {f : Addr} {fd : FuncData} (F : Fun K "ended" "Effect.ended" s_Effect_ended f fd) (B : NoB mg) (T : Txt K CE) : FnOk P w K mg base CX0 1 f fd ["self"] (spEnded CE) := by
  refine F.ok sc_Effect_ended (fun vs H Q E h => ?_) (fun cdv A outer s H vs Q E hr h => ?_)
  · obtain ⟨x, dx, a1, a3, a4, a5, p, xs, rfl, _⟩ := h
    rfl
  · obtain ⟨x, dx, a1, a3, a4, a5, p, xs, rfl, hx, ha, q⟩ := h
    refine ⟨_, (pss_one (ps_ret (pe_callTy call_list_of (by rfl) B.list (by decide +kernel) (pa_cons (pe_fld (pv 0) rfl) pa_nil)))), ?_⟩
    exact ⟨_, rfl, x, CE, dx, _, _, rfl, hx, T.cE, T.n4, lE4 .., a5, xs, rfl, .inl (.of ha), q⟩
end
end L69
set_option Elab.async false
set_option linter.all false
set_option maxRecDepth 100000
namespace L69
open PySem PySem.Spec PyProof.Rows L2 Lp
theorem osR_sub (ts : List (List Int)) (ns : List Int) : ∀ (n : Nat) (o l : List Int), (osR ts ns n o l).2.Sublist l
  | 0, o, l => List.Sublist.refl _
  | n + 1, o, l => by
    by_cases hh : harm ts ns l = []
    · rw [osR_end hh]
      exact List.Sublist.refl _
    · rw [show osR ts ns (n + 1) o l = osR ts ns n (harm ts ns l ++ o) (l.filter fun p => decide (p ∉ harm ts ns l)) from if_neg hh]
      exact (osR_sub ts ns n _ _).trans List.filter_sublist
theorem OsE.sorted {ts : List (List Int)} {ns o l : List Int} (h : OsE ts ns o l) : l.Pairwise (· ≤ ·) := by
  obtain ⟨R, _, s, e⟩ := h.fin
  have := osR_sub ts ns R.length [] R
  rw [e] at this
  exact s.sublist this
def ObsR (ts : List (List Int)) (ns : List Int) (v : V) (H : Hp) : Prop := (v = .non ∧ lostL ts ns 10 = [] ∧ ∃ o, OsE ts ns o []) ∨ (∃ T x, v = .ref T ∧ H T = some (.tup [.str "lost", .int x]) ∧ x ∈ lostL ts ns 10) ∨
  ∃ T l left o, v = .ref T ∧ H T = some (.tup [.str "stuck", .ref l]) ∧ H l = some (.lst (left.map V.int)) ∧ left ≠ [] ∧ lostL ts ns 10 = [] ∧ OsE ts ns o left
section
variable {P : Program} {w : World} {K : PySem.W.Frag} {mg : Str → Option Value} {base : Heap}
def spObsT (K : PySem.W.Frag) : Sp := fun vs H Q _ => ∃ (a t : Addr) (ns : List Int) (ts : List (Addr × List Int)), vs = [.ref a, .ref t] ∧ SqL K H a (ns.map V.int) ∧ Hist ns ∧ Ts H t ts ∧ TsOk ts ns ∧ ∀ H' v, Same H H' → ObsR (tsL ts) ns v H' → Q v H'
theorem ok_obstacle_T {f : Addr} {fd : FuncData} (F : Fun K "obstacle" "obstacle" s_obstacle f fd) (T_lost_settings : Gc P w K mg base 10 "_lost_settings" (spLostS K)) (T_order_and_stuck : Gc P w K mg base 11 "_order_and_stuck" (spOS K)) :
    FnG P w K mg base CX0 12 f fd ["history", "touches"] (spObsT K) := by
  refine okG F sc_obstacle (fun vs H Q E h => ?_) (fun cdv A outer s H vs Q E hG hr h => ?_)
  · obtain ⟨a, t, ns, ts, rfl, _⟩ := h
    rfl
  · obtain ⟨a, t, ns, ts, rfl, hS, hh, ht, ok, q⟩ := h
    have hu64 := hr.units
    refine ⟨_, (pss_cons (ps_set (i := 2) sc_obstacle.nd rfl (Or.inl rfl) (pe_g T_lost_settings hG hr (by decide) (by rfl) (pa_cons (pv 0) (pa_cons (pv 1) pa_nil))))
        (pss_cons (ps_if (pt_cmpR (op_neD hu64) (pv 2) (pe_lst pa_nil) (nomark _)) (pss_one (ps_ret (pe_tup (pa_cons pe_str (pa_cons (pe_ix ix_list (pv 2) pe_int (fun _ _ => rfl)) pa_nil))))) pss_nil)
        (pss_cons (ps_asg (pe_g T_order_and_stuck hG hr (by decide) (by rfl) (pa_cons (pv 0) (pa_cons (pv 1) pa_nil))) (pg_tup rfl (pgs_cons (pg_name (i := 3) sc_obstacle.nd rfl (Or.inl rfl)) (pgs_cons (pg_name (i := 4) sc_obstacle.nd rfl (Or.inl rfl)) pgs_nil))))
        (pss_one (ps_ret (pe_ifExp (pt_cmpR (op_neD hu64) (pv 4) (pe_lst pa_nil) (nomark _)) (pe_tup (pa_cons pe_str (pa_cons (pv 4) pa_nil))) pe_non)))))), ?_⟩
    refine ⟨_, rfl, _, rfl, a, t, ns, ts, rfl, hS, hh, ht, ok, fun H1 r s1 hr1 => ?_⟩
    refine ⟨_, rfl, by show 0 ≤ sizeLine; decide, fun e ne => ?_⟩
    have s2 := same_new (o := .lst []) ne
    have s12 := s1.trans s2
    have hr2 := s2 _ _ hr1
    cases hc : lostL (tsL ts) ns 10 with
    | cons x xs =>
      rw [hc] at hr2
      refine ⟨dI _, dI [], dp_ints (.of hr2), dp_ints (ns := []) (.of upd_same), shaped_ints _, shaped_ints _, true, neqT (by simp), iteT ?_⟩
      refine ⟨_, rfl, r, _, 0, _, rfl, rfl, .of hr2, at0, by show 2 ≤ sizeLine; decide, fun T nT => q _ _ (s12.trans (same_new nT)) (.inr (.inl ⟨T, x, rfl, upd_same, by rw [hc]; exact List.mem_cons_self⟩))⟩
    | nil =>
      rw [hc] at hr2
      refine ⟨dI _, dI [], dp_ints (ns := []) (.of hr2), dp_ints (ns := []) (.of upd_same), shaped_ints _, shaped_ints _, false, neqF rfl, iteF ?_⟩
      generalize upd H1 e (.lst []) = H2 at s12 ⊢
      refine ⟨_, rfl, _, rfl, a, t, ns, ts, rfl, s12.seq hS, hh, ht.same s12, ok, fun H3 T o l order left s3 hT ho hl os => ?_⟩
      refine ⟨T, _, rfl, .of hT, rfl, _, _, rfl, _, _, rfl, rfl, ?_⟩
      have s03 := s12.trans s3
      refine ⟨_, rfl, by show 0 ≤ sizeLine; decide, fun e2 ne2 => ?_⟩
      have s4 := same_new (o := .lst []) ne2
      have hl4 := s4 _ _ hl
      have s04 := s03.trans s4
      by_cases h0 : left = []
      · subst h0
        refine ⟨dI _, dI [], dp_ints (ns := []) (.of hl4), dp_ints (ns := []) (.of upd_same), shaped_ints _, shaped_ints _, false, neqF rfl, ?_⟩
        exact q _ _ s04 (.inl ⟨rfl, hc, order, os⟩)
      · refine ⟨dI _, dI [], dp_ints (.of hl4), dp_ints (ns := []) (.of upd_same), shaped_ints _, shaped_ints _, true, neqT h0, ?_⟩
        exact ⟨_, rfl, by show 2 ≤ sizeLine; decide, fun T2 nT2 => q _ _ (s04.trans (same_new nT2)) (.inr (.inr ⟨T2, l, left, order, rfl, upd_same, same_new nT2 _ _ hl4, h0, hc, os⟩))⟩
end
end L69
set_option Elab.async false
set_option linter.all false
set_option maxRecDepth 100000
namespace L69
open PySem PySem.Spec PyProof.Rows L2 Lp
section
variable {P : Program} {w : World} {K : PySem.W.Frag} {mg : Str → Option Value} {base : Heap}
def spStuck (K : PySem.W.Frag) : Sp := fun vs H Q _ => ∃ (r l : Addr) (ds : List Addr) (ts : List (List Int)) (ns left : List Int), vs = [.ref r, .ref l] ∧ DsF H r ds 10 (fun s => own ts s ns) ∧ H l = some (.lst (left.map V.int)) ∧ Hist ns ∧ left ≠ [] ∧ left.length ≤ 5 ∧ left.Pairwise (· < ·) ∧ (∀ k ∈ left, 1 ≤ k ∧ k ≤ 100) ∧ (∀ k ∈ left, spoB ts ns left k = true) ∧ ∀ H', Same H H' → Q (.bl true) H'
theorem ok_is_stuck {f : Addr} {fd : FuncData} (F : Fun K "_is_stuck" "_is_stuck" s_is_stuck f fd) (B : NoB mg) {t1 : Tok} (T_g_LAST_PATCH : mg "LAST_PATCH" = some (.int 100 t1)) (T_are_integers : Cal P w K mg base 3 "are_integers" (spAreInts K)) (T_spoils : Gc P w K mg base 1 "_spoils" (spSpoils K)) : FnG P w K mg base CX0 4 f fd ["savings", "value"] (spStuck K) := by
  refine okG F sc_is_stuck (fun vs H Q E h => ?_) (fun cdv A outer s H vs Q E hG hr h => ?_)
  · obtain ⟨r, l, ds, ts, ns, left, rfl, _⟩ := h
    rfl
  · obtain ⟨r, l, ds, ts, ns, left, rfl, hd, hl, hh, ne, l5, asc, rg, sp, q⟩ := h
    have hu64 := hr.units
    have hu := hu_of hr
    have ll : left.length ≤ 100 := by
      have := nodup_len (m := upL 100) (asc.imp fun a => Int.ne_of_lt a) fun x hx => by
        have := rg x hx
        exact List.mem_map.mpr ⟨(x - 1).toNat, List.mem_range.mpr (by omega), by omega⟩
      rw [upL_len] at this
      exact this
    refine ⟨_, (pss_cons (ps_if (PW.pt (pw_or (pt_not (pt_val (pe_c T_are_integers hr (by decide) (by rfl) (pa_cons (pv 1) (pa_cons pe_int (pa_cons (pe_glob (v := .int 100) (by rfl) T_g_LAST_PATCH ⟨_, rfl⟩) (pa_cons (pe_glob (v := .int 100) (by rfl) T_g_LAST_PATCH ⟨_, rfl⟩) pa_nil))))))) (pw_or1 (pt_cmpR (op_neD hu64) (pv 1) (pe_callB (cr_sortedSet rfl) (by rfl) B.sorted (by decide +kernel) (pa_cons (pe_callTy (cr_setL rfl) (by rfl) B.set (by decide +kernel) (pa_cons (pv 1) pa_nil)) pa_nil)) (nomark _))))) (pss_one (ps_ret pe_bl)) pss_nil)
        (pss_one (ps_ret (pe_and (pe_cmpR (op_neD hu64) (pv 1) (pe_lst pa_nil) (nomark _)) (pe_one (pe_callB (cr_all rfl) (by rfl) B.all (by decide +kernel) (pa_cons (pe_lc (own := [("patch", 2)]) (g := gName 2) (tt := tYes) rfl sc_is_stuck.nd (pi_list (pv 1)) (blkOk_by (own := [("patch", 2)]) (N := N_is_stuck) (sc := defScope s_is_stuck) (by decide +kernel)) (fun _ _ _ _ _ => (pg_name (i := 2) sc_is_stuck.nd rfl (Or.inl rfl))) (fun _ _ _ _ _ => pts_nil) (fun _ _ _ _ _ => (pe_g T_spoils hG hr (by decide) (by rfl) (pa_cons (pv 0) (pa_cons (pv 1) (pa_cons (pv 2) pa_nil)))))) pa_nil))))))), ?_⟩
    refine ⟨_, rfl, l, left, 1, 100, 100, rfl, .of hl, by omega, by omega, rg, fun H1 s1 => ⟨true, rfl, ?_⟩⟩
    refine ⟨_, rfl, _, rfl, l, left, rfl, .of (s1 _ _ hl), by omega, fun sq c nsp hc => ⟨sq, _, c, rfl, upd_same, by omega, fun ms mp pw mem nmc nmp => ?_⟩⟩
    have s6 := (same_new (o := SetO w sq (fun j => decide (j ∈ left)) c) nsp).trans (same_new (o := .lst (ms.map V.int)) nmp)
    have ems : left = ms := by
      refine sorted_uniq ((List.perm_ext_iff_of_nodup (asc.imp fun a => Int.ne_of_lt a) (pw.imp fun a => Int.ne_of_lt a)).mpr fun x => ?_) (asc.imp fun a => Int.le_of_lt a) (pw.imp fun a => Int.le_of_lt a)
      rw [mem x, decide_eq_true_eq]
    refine ⟨dI _, dI ms, dp_ints (.of (s6 _ _ (s1 _ _ hl))), dp_ints (.of upd_same), shaped_ints _, shaped_ints _, false, neqF ems, iteF ?_⟩
    have s16 := s1.trans s6
    refine ⟨_, rfl, by show 0 ≤ sizeLine; decide, fun e nee => ?_⟩
    have s7 := same_new (o := .lst []) nee
    have s3 := s16.trans s7
    refine ⟨dI left, dI [], dp_ints (.of (s3 _ _ hl)), dp_ints (ns := []) (.of upd_same), shaped_ints _, shaped_ints _, true, neqT ne, iteT ?_⟩
    have hl3 := s3 _ _ hl
    refine ⟨_, rfl, l, rfl, ⟨_, .of hl3⟩, fun D nD => lc_list (xs := left.map V.int) (LcP _ D fun i => (List.replicate i true).map V.bl) (.init nD rfl) (fun i H' _ p => .of (p.2.1 _ _ hl3)) (fun i x H' hx p => ?_) (fun H4 p4 => ?_)⟩
    · obtain ⟨k, rfl, hk⟩ := get_int hx
      have li := lt_get hk
      refine ⟨rfl, ?_⟩
      refine ⟨_, rfl, _, rfl, _, rfl, r, l, k, ds, ts, ns, left, rfl, hd.same (s3.trans p.2.1), p.2.1 _ _ hl3, by omega, hh, fun H5 s5 => ?_⟩
      rw [sp k (mem_get hk)]
      refine p.put s5 ?_ (by rw [List.length_map, List.length_replicate]; omega)
      rw [List.replicate_succ', List.map_append]
      rfl
    · have e2 : (List.replicate (left.map V.int).length true).all id = true := by
        rw [List.all_eq_true]
        intro b hb
        exact (List.eq_of_mem_replicate hb)
      refine ⟨D, _, rfl, .of p4.2.2, ?_⟩
      rw [e2]
      exact q _ (s3.trans p4.2.1)
end
end L69
set_option Elab.async false
set_option linter.all false
set_option maxRecDepth 100000
namespace L69
open PySem PySem.Spec PyProof.Rows L2 Lp
theorem lostL_rng {ts : List (List Int)} {ns : List Int} {x : Int} (h : x ∈ lostL ts ns 10) : 0 ≤ x ∧ x ≤ 9 := by
  obtain ⟨s, hs, rfl⟩ := List.mem_map.mp h
  have := List.mem_range.mp (List.mem_filter.mp hs).1
  omega
theorem OsE.spo {ts : List (List Int)} {ns o l : List Int} (h : OsE ts ns o l) : ∀ k ∈ l, spoB ts ns l k = true := fun k hk => by
  cases c : spoB ts ns l k with
  | true => rfl
  | false =>
    have : k ∈ harmL ts ns l := List.mem_filter.mpr ⟨hk, by rw [c]; rfl⟩
    rw [h.harm] at this
    cases this
theorem OsE.sub {ts : List (List Int)} {ns o l : List Int} (h : OsE ts ns o l) : ∀ k ∈ l, k ∈ runL ns := fun k hk => h.os.pm.mem_iff.mp (List.mem_append_right _ hk)
theorem OsE.asc {ts : List (List Int)} {ns o l : List Int} (hh : Hist ns) (h : OsE ts ns o l) : l.Pairwise (· < ·) := by
  have nd : (o ++ l).Nodup := h.os.pm.nodup_iff.mpr (runL_nd hh.nd)
  have nl : l.Nodup := (List.nodup_append.mp nd).2.1
  exact (h.sorted.and nl).imp fun ⟨a, b⟩ => by omega
theorem OsE.len {ts : List (List Int)} {ns o l : List Int} (h : OsE ts ns o l) : l.length ≤ (runL ns).length := by
  have := h.os.pm.length_eq
  rw [List.length_append] at this
  omega
section
variable {P : Program} {w : World} {K : PySem.W.Frag} {mg : Str → Option Value} {base : Heap}
def spIsObsT (K : PySem.W.Frag) : Sp := fun vs H Q _ => ∃ (a t : Addr) (v : V) (ns : List Int) (ts : List (Addr × List Int)), vs = [.ref a, .ref t, v] ∧ SqL K H a (ns.map V.int) ∧ Hist ns ∧ Ts H t ts ∧ TsOk ts ns ∧ (runL ns).length ≤ 5 ∧ ObsR (tsL ts) ns v H ∧ v ≠ .non ∧ ∀ H', Same H H' → Q (.bl true) H'
theorem ok_is_obstacle_T {f : Addr} {fd : FuncData} (F : Fun K "is_obstacle" "is_obstacle" s_is_obstacle f fd) (B : NoB mg) {t1 : Tok} (T_g_MANY_SETTINGS : mg "MANY_SETTINGS" = some (.int 10 t1)) (T_lost_settings : Gc P w K mg base 10 "_lost_settings" (spLostS K)) (T_savings_by : Gc P w K mg base 10 "_savings_by" (spSavB K)) (T_is_integer_within : Cal P w K mg base 2 "is_integer_within" spWithin) (T_is_stuck : Gc P w K mg base 4 "_is_stuck" (spStuck K)) : FnG P w K mg base CX0 11 f fd ["history", "touches", "value"] (spIsObsT K) := by
  refine okG F sc_is_obstacle (fun vs H Q E h => ?_) (fun cdv A outer s H vs Q E hG hr h => ?_)
  · obtain ⟨a, t, v, ns, ts, rfl, _⟩ := h
    rfl
  · obtain ⟨a, t, v, ns, ts, rfl, hS, hh, ht, ok, l5, ob, hv, q⟩ := h
    refine ⟨_, (pss_cons (ps_par (i := 3) (j := 4) (by rfl) sc_is_obstacle.nd rfl rfl (by decide) rfl rfl (pa_cons (pe_g T_lost_settings hG hr (by decide) (by rfl) (pa_cons (pv 0) (pa_cons (pv 1) pa_nil))) (pa_cons (pe_g T_savings_by hG hr (by decide) (by rfl) (pa_cons (pv 0) (pa_cons (pv 1) pa_nil))) pa_nil)) (by rfl))
        (pss_cons (ps_if (PW.pt (pw_or (pt_cmpR op_neTy (pe_callTy call_type1 (by rfl) B.type (by decide +kernel) (pa_cons (pv 2) pa_nil)) (pe_bltn (v := .ty "tuple") (by rfl) B.tuple boot_tuple rfl) (nomark _)) (pw_or (pt_cmpR op_ne (pe_callB call_len_seq (by rfl) B.len PySem.boot_len (pa_cons (pv 2) pa_nil)) pe_int (nomark _)) (pw_or1 (pt_not (pt_val (pe_callB call_isi (by rfl) B.isinstance (by decide +kernel) (pa_cons (pe_ix ix_tup (pv 2) pe_int (fun _ _ => rfl)) (pa_cons (pe_bltn (v := .ty "str") (by rfl) B.str boot_str rfl) pa_nil))))))))) (pss_one (ps_ret pe_bl)) pss_nil)
        (pss_cons (ps_asg (pv 2) (pg_tup rfl (pgs_cons (pg_name (i := 5) sc_is_obstacle.nd rfl (Or.inl rfl)) (pgs_cons (pg_name (i := 6) sc_is_obstacle.nd rfl (Or.inl rfl)) pgs_nil))))
        (pss_cons (ps_if (pt_cmpR op_eq (pv 5) pe_str (nomark _)) (pss_one (ps_ret (pe_and (pe_c T_is_integer_within hr (by decide) (by rfl) (pa_cons (pv 6) (pa_cons pe_int (pa_cons (pe_op op_sub (pe_glob (v := .int 10) (by rfl) T_g_MANY_SETTINGS ⟨_, rfl⟩) pe_int) pa_nil)))) (pe_one (pe_cmpR op_in_seq (pv 6) (pv 3) (by rfl)))))) pss_nil)
        (pss_one (ps_ret (pe_and (pe_cmpR op_eq (pv 5) pe_str (nomark _)) (pe_one (pe_g T_is_stuck hG hr (by decide) (by rfl) (pa_cons (pv 4) (pa_cons (pv 6) pa_nil))))))))))), ?_⟩
    refine ⟨_, rfl, _, rfl, a, t, ns, ts, rfl, hS, hh, ht, ok, fun H1 r s1 hr1 => ?_⟩
    refine ⟨_, rfl, _, rfl, a, t, ns, ts, rfl, s1.seq hS, hh, ht.same s1, ok, fun H2 r2 ds s2 hds => ⟨_, _, rfl, ?_⟩⟩
    have s02 := s1.trans s2
    rcases ob with ⟨e, _⟩ | ⟨T, x, rfl, hT, hx⟩ | ⟨T, l, left, o, rfl, hT, hl, ne, hlost, os⟩
    · exact absurd e hv
    · obtain ⟨x0, x9⟩ := lostL_rng hx
      have hT2 : SqT K H2 T [.str "lost", .int x] := .of (s02 _ _ hT)
      refine ⟨_, rfl, _, _, rfl, .tup hT2, _, rfl, rfl, PySem.TypeEq.meta_tuple, _, rfl, ?_⟩
      refine ⟨_, rfl, T, _, rfl, .inr hT2, rfl, false, nF rfl, ?_⟩
      refine ⟨_, rfl, T, _, 0, _, rfl, rfl, hT2, at0, _, _, _, _, true, rfl, .ty _, .base (.str _), kit_ty (by decide +kernel), true, rfl, iteF ?_⟩
      refine ⟨_, rfl, T, _, rfl, hT2, rfl, _, _, rfl, _, _, rfl, rfl, ?_⟩
      refine ⟨_, rfl, rfl, true, dT rfl, ?_⟩
      refine ⟨_, rfl, _, _, rfl, rfl, x, 0, 9, rfl, by omega, by omega, true, rfl, ?_⟩
      refine ⟨_, rfl, _, rfl, r, _, rfl, .inl (.of (s2 _ _ hr1)), rfl, flatI _, ?_⟩
      show Q (V.bl (if false = true then !inV (.int x) _ else inV (.int x) _)) H2
      rw [inT hx]
      exact q _ s02
    · have hT2 : SqT K H2 T [.str "stuck", .ref l] := .of (s02 _ _ hT)
      refine ⟨_, rfl, _, _, rfl, .tup hT2, _, rfl, rfl, PySem.TypeEq.meta_tuple, _, rfl, ?_⟩
      refine ⟨_, rfl, T, _, rfl, .inr hT2, rfl, false, nF rfl, ?_⟩
      refine ⟨_, rfl, T, _, 0, _, rfl, rfl, hT2, at0, _, _, _, _, true, rfl, .ty _, .base (.str _), kit_ty (by decide +kernel), true, rfl, iteF ?_⟩
      refine ⟨_, rfl, T, _, rfl, hT2, rfl, _, _, rfl, _, _, rfl, rfl, ?_⟩
      refine ⟨_, rfl, rfl, false, dF (by decide), ?_⟩
      refine ⟨_, rfl, rfl, true, dT rfl, ?_⟩
      refine ⟨_, rfl, _, rfl, r2, l, ds, tsL ts, ns, left, rfl, hds, s02 _ _ hl, hh, ne, Nat.le_trans os.len l5, os.asc hh, fun k hk => ?_, os.spo, fun H3 s3 => q _ (s02.trans s3)⟩
      obtain ⟨k1, k2, _⟩ := runL_mem.mp (os.sub k hk)
      have := hh.rng k k1
      omega
end
end L69
set_option Elab.async false
set_option linter.all false
set_option maxRecDepth 100000
namespace L69
open PySem PySem.Spec PyProof.Rows L2 Lp
/-! ### what a display of values of any kind gives; what is drawn from stands apart -/
abbrev only (a : Addr) : Addr → Bool := fun b => decide (b = a)
def avA (A : Addr → Bool) (H : Hp) : Hp := fun b => if A b = true then none else H b
abbrev av (a : Addr) (H : Hp) : Hp := avA (only a) H
section
variable {A : Addr → Bool} {a b p src : Addr} {H H' H1 : Hp} {o : HO}
theorem avA_ne (n : A b = false) : avA A H b = H b := if_neg (by rw [n]; exact Bool.false_ne_true)
theorem avA_at (n : A b = false) (h : H b = some o) : avA A H b = some o := by rw [avA_ne n]; exact h
theorem avA_some (h : avA A H b = some o) : A b = false ∧ H b = some o := by
  by_cases e : A b = true
  · have : avA A H b = none := if_pos e
    rw [this] at h
    cases h
  · have e := Bool.eq_false_iff.mpr e
    rw [avA_ne e] at h
    exact ⟨e, h⟩
theorem av_ne (n : b ≠ a) : av a H b = H b := avA_ne (decide_eq_false n)
theorem av_at (n : b ≠ a) (h : H b = some o) : av a H b = some o := avA_at (decide_eq_false n) h
theorem av_some (h : av a H b = some o) : b ≠ a ∧ H b = some o := ⟨of_decide_eq_false (avA_some h).1, (avA_some h).2⟩
theorem avA_le : Same (avA A H) H := fun b o h => (avA_some h).2
theorem av_le : Same (av a H) H := avA_le
theorem avA_bt (hA : A src = true) (s : Bt src H H') : Same (avA A H) (avA A H') := fun b o h => by
  obtain ⟨n, e⟩ := avA_some h
  exact avA_at n (s b o (fun z => by rw [z, hA] at n; cases n) e)
theorem av_bt (s : Bt src H H') : Same (av src H) (av src H') := avA_bt (decide_eq_true rfl) s
theorem avA_same (s : Same H H') : Same (avA A H) (avA A H') := fun b o h => by
  obtain ⟨n, e⟩ := avA_some h
  exact avA_at n (s b o e)
theorem av_same (s : Same H H') : Same (av src H) (av src H') := avA_same s
/-- a thing apart from those of A and from a new p -/
theorem avA_new {u : HO} (n : H p = none) : Same (avA A H) (av p (avA A (upd H p u))) := fun b o h => by
  obtain ⟨n1, e⟩ := avA_some h
  have bp : b ≠ p := ne_of_none e n
  exact av_at bp (avA_at n1 (by rw [upd_ne bp]; exact e))
theorem avA_mut {u : HO} : Same (av p (avA A H)) (av p (avA A (upd H p u))) := fun b o h => by
  obtain ⟨bp, h⟩ := av_some h
  obtain ⟨n1, e⟩ := avA_some h
  exact av_at bp (avA_at n1 (by rw [upd_ne bp]; exact e))
end
abbrev both (a b : Addr) : Addr → Bool := fun x => decide (x = a) || decide (x = b)
theorem both_ne {a b x : Addr} (h : x ≠ a) (g : x ≠ b) : both a b x = false := by
  show (decide (x = a) || decide (x = b)) = false
  rw [decide_eq_false h, decide_eq_false g]
  rfl
theorem both_of {a b : Addr} {H : Hp} : Same (av b (av a H)) (avA (both a b) H) := fun x o h => by
  obtain ⟨n1, h⟩ := av_some h
  obtain ⟨n2, h⟩ := av_some h
  exact avA_at (both_ne n2 n1) h
theorem both_to {a b : Addr} {H : Hp} : Same (avA (both a b) H) (av b (av a H)) := fun x o h => by
  obtain ⟨n, h⟩ := avA_some h
  have n : (decide (x = a) || decide (x = b)) = false := n
  rw [Bool.or_eq_false_iff] at n
  exact av_at (of_decide_eq_false n.2) (av_at (of_decide_eq_false n.1) h)
/-! ### lists of lists of ints -/
inductive LLs (H : Hp) : List Addr → List (List Int) → Prop
  | nil : LLs H [] []
  | cons {p : Addr} {ps : List Addr} {r : List Int} {F : List (List Int)} : H p = some (.lst (r.map V.int)) → LLs H ps F → LLs H (p :: ps) (r :: F)
section
variable {H H' : Hp}
theorem LLs.same (s : Same H H') : ∀ {ps : List Addr} {F : List (List Int)}, LLs H ps F → LLs H' ps F
  | _, _, .nil => .nil
  | _, _, .cons h t => .cons (s _ _ h) (LLs.same s t)
theorem LLs.app : ∀ {ps qs : List Addr} {F G : List (List Int)}, LLs H ps F → LLs H qs G → LLs H (ps ++ qs) (F ++ G)
  | _, _, _, _, .nil, h => h
  | _, _, _, _, .cons h t, g => .cons h (LLs.app t g)
theorem LLs.len : ∀ {ps : List Addr} {F : List (List Int)}, LLs H ps F → ps.length = F.length
  | _, _, .nil => rfl
  | _, _, .cons _ t => congrArg (· + 1) (LLs.len t)
theorem LLs.get : ∀ {ps : List Addr} {F : List (List Int)} {i : Nat} {p : Addr}, LLs H ps F → ps[i]? = some p → ∃ r, F[i]? = some r ∧ H p = some (.lst (r.map V.int))
  | _, _, 0, _, .cons h _, e => by cases e; exact ⟨_, rfl, h⟩
  | _, _, i + 1, _, .cons _ t, e => LLs.get (i := i) t e
theorem LLs.dp {K : PySem.W.Frag} : ∀ {ps : List Addr} {F : List (List Int)}, LLs H ps F → DpAll K H (ps.map V.ref) (F.map dI)
  | _, _, .nil => .nil
  | _, _, .cons h t => .cons (dp_ints (.of h)) (LLs.dp t)
theorem get_refA {ps : List Addr} {i : Nat} {x : V} (h : (ps.map V.ref)[i]? = some x) : ∃ p, x = .ref p ∧ ps[i]? = some p := by
  rw [List.getElem?_map] at h
  cases e : ps[i]? with
  | none => rw [e] at h; cases h
  | some p => rw [e] at h; cases h; exact ⟨p, rfl, rfl⟩
end
section
variable {P : Program} {w : World} {K : PySem.W.Frag} {mg : Str → Option Value} {base : Heap}
/-! ### _law_all -/
def grow (R r : List Int) (k : Nat) : List (List Int) := ((R.take k).filter fun o => decide (o ∉ r)).map fun o => r ++ [o]
theorem grow_put {R r : List Int} {k : Nat} {o : Int} (h : R[k]? = some o) (c : o ∉ r) : grow R r (k + 1) = grow R r k ++ [r ++ [o]] := by
  unfold grow
  rw [take_get h, List.filter_append, List.filter_cons, if_pos (decide_eq_true c), List.map_append]
  rfl
theorem grow_skip {R r : List Int} {k : Nat} {o : Int} (h : R[k]? = some o) (c : ¬ o ∉ r) : grow R r (k + 1) = grow R r k := by
  unfold grow
  rw [take_get h, List.filter_append, List.filter_cons, if_neg (by rw [decide_eq_true_eq]; exact c), List.filter_nil, List.append_nil]
theorem grow_len (R r : List Int) (k : Nat) : (grow R r k).length ≤ k := by
  unfold grow
  rw [List.length_map]
  exact Nat.le_trans (List.length_filter_le _ _) (by rw [List.length_take]; omega)
def spOrds (K : PySem.W.Frag) : Sp := fun vs H Q _ => ∃ (a : Addr) (R : List Int), vs = [.ref a] ∧ SqL K H a (R.map V.int) ∧ R.Pairwise (· ≤ ·) ∧ R.length ≤ 5 ∧ ∀ H' t ps, Same H H' → H t = none → H' t = some (.lst (ps.map V.ref)) → LLs H' ps (allR R) → (∀ p ∈ ps, H p = none) → Q (.ref t) H'
theorem step_take {R : List Int} {F : List (List Int)} {i : Nat} {r : List Int} (h : F[i]? = some r) : stepG R (F.take (i + 1)) = stepG R (F.take i) ++ grow R r R.length := by
  unfold stepG grow
  rw [take_get h, List.flatMap_append, List.take_length]
  simp
theorem stepG_len {R : List Int} (h : R.length ≤ 5) : ∀ F : List (List Int), (stepG R F).length ≤ F.length * 5
  | [] => Nat.le_refl _
  | r :: F => by
    have ih := stepG_len h F
    show (((R.filter fun o => decide (o ∉ r)).map fun o => r ++ [o]) ++ stepG R F).length ≤ (F.length + 1) * 5
    rw [List.length_append, List.length_map]
    have := List.length_filter_le (fun o => decide (o ∉ r)) R
    omega
theorem allG_len {R : List Int} (h : R.length ≤ 5) : ∀ n : Nat, (allG R n).length ≤ 5 ^ n
  | 0 => Nat.le_refl _
  | n + 1 => Nat.le_trans (stepG_len h _) (by rw [Nat.pow_succ]; exact Nat.mul_le_mul_right 5 (allG_len h n))
theorem allG_row {R : List Int} : ∀ (n : Nat) (r : List Int), r ∈ allG R n → r.length = n
  | 0, r, hr => by
    have : r = [] := by simpa [allG] using hr
    rw [this]
    rfl
  | n + 1, r, hr => by
    obtain ⟨r0, h0, h1⟩ := List.mem_flatMap.mp (show r ∈ stepG R (allG R n) from hr)
    obtain ⟨o, ho, rfl⟩ := List.mem_map.mp h1
    rw [List.length_append, allG_row n r0 h0]
    rfl
theorem ok_law_orders {f : Addr} {fd : FuncData} (F : Fun K "_law_orders" "_law_orders" s_law_orders f fd) (B : NoB mg) : FnG P w K mg base CX0 1 f fd ["items"] (spOrds K) := by
  refine okG F sc_law_orders (fun vs H Q E h => ?_) (fun cdv A outer s H vs Q E hG hr h => ?_)
  · obtain ⟨a, R, rfl, _⟩ := h
    rfl
  · obtain ⟨a, R, rfl, hS, wR, hR, q⟩ := h
    refine ⟨_, (pss_cons (ps_set (i := 1) sc_law_orders.nd rfl (Or.inl rfl) (pe_lst (pa_cons (pe_lst pa_nil) pa_nil)))
        (pss_cons (ps_for PassesOwn.never rfl (pi_range1 rfl B.range (pa_cons (pe_callB call_len_seq (by rfl) B.len PySem.boot_len (pa_cons (pv 0) pa_nil)) pa_nil)) (pg_name (i := 2) sc_law_orders.nd rfl (Or.inl rfl))
          (pss_cons (ps_set (i := 3) sc_law_orders.nd rfl (Or.inl rfl) (pe_lst pa_nil))
          (pss_cons (ps_for PassesOwn.never rfl (pi_list (pv 1)) (pg_name (i := 4) sc_law_orders.nd rfl (Or.inr rfl))
            (pss_one (ps_expr (pe_bm PySem.F.plainAttrs_list PySem.F.slot_list_extend PySem.F.type_list_extend mt_extend (pv 3) (pa_cons (pe_lc (own := [("item", 5)]) (g := gName 5) (tt := _) rfl sc_law_orders.nd (pi_list (pe_callB cr_sortedI (by rfl) B.sorted (by decide +kernel) (pa_cons (pv 0) pa_nil))) (blkOk_by (own := [("item", 5)]) (N := N_law_orders) (sc := defScope s_law_orders) (by decide +kernel)) (fun _ _ _ _ _ => (pg_name (i := 5) sc_law_orders.nd rfl (Or.inl rfl))) (fun _ _ _ _ _ => (pts_one (pt_cmpR (k_notin (K := K) rfl) (pv 5) (pv 4) (by rfl)))) (fun _ _ _ _ _ => (pe_op op_cat (pv 4) (pe_lst (pa_cons (pv 5) pa_nil))))) pa_nil)))))
          (pss_one (ps_set (i := 1) sc_law_orders.nd rfl (Or.inl rfl) (pv 3))))))
        (pss_one (ps_ret (pv 1))))), ?_⟩
    refine ⟨Nat.zero_le _, fun e0 ne0 => ⟨by show 1 ≤ sizeLine; decide, fun f0 nf0 => ?_⟩⟩
    have s1 := (same_new (o := .lst []) ne0).trans (same_new (o := .lst [V.ref e0]) nf0)
    have e0f : (upd (upd H e0 (.lst [])) f0 (.lst [.ref e0])) e0 = some (.lst []) := same_new nf0 _ _ upd_same
    have ff0 : (upd (upd H e0 (.lst [])) f0 (.lst [.ref e0])) f0 = some (.lst [.ref e0]) := upd_same
    have nf00 := (same_new (o := .lst []) ne0).free nf0
    generalize upd (upd H e0 (.lst [])) f0 (.lst [.ref e0]) = H1 at s1 e0f ff0 ⊢
    refine ⟨_, rfl, a, _, rfl, .inl (s1.seq hS), _, rfl, by omega, by rw [List.length_map]; omega, ?_⟩
    rw [show (((R.map V.int).length : Nat) : Int).toNat = R.length by rw [List.length_map]; rfl]
    refine for_range (lo := 0) (n := R.length) (fun j σ H' => ∃ (fo : Addr) (ps : List Addr) (y2 y3 y4 : Option V), σ = [some (.ref a), some (.ref fo), y2, y3, y4, none] ∧ Same H H' ∧ H fo = none ∧ H' fo = some (.lst (ps.map V.ref)) ∧ LLs H' ps (allG R j) ∧ ∀ p ∈ ps, H p = none) ⟨f0, [e0], _, _, _, rfl, s1, nf00, ff0, .cons e0f .nil, fun p hp => by rw [List.mem_singleton.mp hp]; exact ne0⟩ (fun j σ H' lj h => ?_) (fun σ H' h => ?_)
    · obtain ⟨fo, ps, y2, y3, y4, rfl, sm, nfo, hfo, hll, hnn⟩ := h
      have g5 : (allG R j).length ≤ 625 := Nat.le_trans (allG_len hR j) (Nat.le_trans (Nat.pow_le_pow_right (by decide) (show j ≤ 4 by omega)) (by decide))
      refine ⟨Nat.zero_le _, fun lo nlo => ?_⟩
      have slo := same_new (o := .lst []) nlo
      have hfo1 := slo _ _ hfo
      refine ⟨_, rfl, fo, rfl, ⟨_, .of hfo1⟩, for_list (xs := ps.map V.ref) (fun i σ H2 => ∃ (qs : List Addr) (y4 : Option V), σ = [some (.ref a), some (.ref fo), some (.int (0 + (j : Int))), some (.ref lo), y4, none] ∧ Same H' H2 ∧ H2 lo = some (.lst (qs.map V.ref)) ∧ LLs (av lo H2) qs (stepG R ((allG R j).take i)) ∧ ∀ p ∈ qs, H p = none) ⟨[], _, rfl, slo, upd_same, .nil, fun p hp => nomatch hp⟩ (fun i σ H2 _ ⟨_, _, _, s2, _⟩ => .of (s2 _ _ hfo)) (fun i x σ H2 hx2 h2 => ?_) (fun σ H2 h2 => ?_)⟩
      · obtain ⟨pr, rfl, hpr⟩ := get_refA hx2
        obtain ⟨qs, y4', rfl, s2, hlo, hqs, hqn⟩ := h2
        obtain ⟨r, hr1, hpr1⟩ := hll.get hpr
        have hpr2 := s2 _ _ hpr1
        have lr : r.length = j := allG_row j r (mem_get hr1)
        have lqs := hqs.len
        have lst5 := stepG_len hR ((allG R j).take i)
        have lti : ((allG R j).take i).length ≤ 625 := by rw [List.length_take]; omega
        refine ⟨_, rfl, .inl ⟨rfl, _, .of hlo⟩, ?_⟩
        have hS2 : SqL K H2 a (R.map V.int) := (sm.trans s2).seq hS
        refine ⟨_, rfl, a, R, rfl, hS2, fun R' so pm pw nso => ?_⟩
        have eR : R = R' := (sorted_uniq pm pw wR).symm
        subst eR
        have sso := same_new (o := .lst (R.map V.int)) nso
        have hpr2 := sso _ _ hpr2
        have hso := upd_same (H := H2) (a := so) (o := .lst (R.map V.int))
        have s2 := s2.trans sso
        have hlo := sso _ _ hlo
        have hqs : LLs (av lo (upd H2 so (.lst (R.map V.int)))) qs _ := hqs.same (av_same sso)
        generalize upd H2 so (.lst (R.map V.int)) = H2 at s2 hlo hqs hpr2 hso ⊢
        refine ⟨so, rfl, ⟨_, .of hso⟩, fun D nD => ?_⟩
        refine lc_list (xs := R.map V.int) (fun m H3 => Same H2 H3 ∧ ∃ rs : List Addr, H3 D = some (.lst (rs.map V.ref)) ∧ LLs (avA (both lo D) H3) rs (grow R r m) ∧ ∀ p ∈ rs, H p = none) ⟨same_new nD, [], upd_same, .nil, fun p hp => nomatch hp⟩ (fun m H3 _ h3 => .of (h3.1 _ _ hso)) (fun m x H3 hx3 h3 => ?_) (fun H3 h3 => ?_)
        · obtain ⟨o, rfl, ho⟩ := get_int hx3
          obtain ⟨s3, rs, hD, hrs, hrn⟩ := h3
          have lm := lt_get ho
          have hpr3 := s3 _ _ hpr2
          refine ⟨rfl, ?_⟩
          by_cases c : o ∈ r
          · refine ⟨_, rfl, _, rfl, pr, _, rfl, .inl (.of hpr3), rfl, flatI _, false, notInF c, s3, rs, hD, ?_⟩
            rw [grow_skip ho (fun z => z c)]
            exact ⟨hrs, hrn⟩
          · refine ⟨_, rfl, _, rfl, pr, _, rfl, .inl (.of hpr3), rfl, flatI _, true, notInT c, ?_⟩
            refine ⟨_, rfl, _, rfl, by show 1 ≤ sizeLine; decide, fun z1 nz1 => ⟨pr, z1, _, _, rfl, rfl, same_new nz1 _ _ hpr3, upd_same, by rw [List.length_map, lr]; exact Nat.le_trans (show j + 1 ≤ 5 by omega) (by decide), fun z2 nz2 => ?_⟩⟩
            have sz1 := same_new (o := .lst [V.int o]) nz1
            have sz2 := same_new (o := .lst (r.map V.int ++ [V.int o])) nz2
            have sz := sz1.trans sz2
            have hD' := sz _ _ hD
            have zfr : H z2 = none := (((sm.trans s2).trans s3).trans sz1).free nz2
            have nz2D : z2 ≠ D := fun z => by rw [z, sz1 _ _ hD] at nz2; cases nz2
            have nz2l : z2 ≠ lo := fun z => by rw [z, sz1 _ _ (s3 _ _ hlo)] at nz2; cases nz2
            have hz2 : (upd (upd H3 z1 (.lst [V.int o])) z2 (.lst (r.map V.int ++ [V.int o]))) z2 = some (.lst ((r ++ [o]).map V.int)) := by rw [upd_same, List.map_append]; rfl
            generalize upd (upd H3 z1 (.lst [V.int o])) z2 (.lst (r.map V.int ++ [V.int o])) = H4 at sz hD' hz2 ⊢
            have lrs := hrs.len
            have lg := grow_len R r m
            refine ⟨_, hD', by rw [List.length_map, lrs]; exact Nat.lt_of_le_of_lt (show (grow R r m).length ≤ 5 by omega) (by decide), Lp.Same.mut (s3.trans sz) nD, rs ++ [z2], by rw [upd_same, List.map_append]; rfl, ?_⟩
            rw [grow_put ho c]
            have mv : Same (avA (both lo D) H3) (avA (both lo D) (upd H4 D (.lst (rs.map V.ref ++ [V.ref z2])))) := fun b ob hb => by
              obtain ⟨n1, e⟩ := avA_some hb
              have nD1 : b ≠ D := fun z => by
                have : (decide (b = lo) || decide (b = D)) = false := n1
                rw [Bool.or_eq_false_iff] at this
                exact of_decide_eq_false this.2 z
              exact avA_at n1 (by rw [upd_ne nD1]; exact sz _ _ e)
            refine ⟨(hrs.same mv).app (.cons (avA_at (both_ne nz2l nz2D) (by rw [upd_ne nz2D]; exact hz2)) .nil), fun p hp => ?_⟩
            rcases List.mem_append.mp hp with hp | hp
            · exact hrn p hp
            · rw [List.mem_singleton.mp hp]
              exact zfr
        · obtain ⟨s3, rs, hD, hrs, hrn⟩ := h3
          rw [List.length_map] at hrs
          have lrs := hrs.len
          have lg := grow_len R r R.length
          have hlo3 := s3 _ _ hlo
          refine ⟨lo, D, _, _, rfl, rfl, hlo3, hD, ?_, ?_⟩
          · rw [List.length_map, List.length_map, lrs, lqs]
            exact Nat.le_trans (show _ ≤ 5000 by omega) (by decide)
          · refine ⟨qs ++ rs, _, rfl, Lp.Same.mut (s2.trans s3) nlo, by rw [upd_same, List.map_append], ?_⟩
            rw [step_take hr1]
            have m1 : Same (av lo H2) (av lo (upd H3 lo (.lst (qs.map V.ref ++ rs.map V.ref)))) := fun b ob hb => by
              obtain ⟨n1, e⟩ := av_some hb
              exact av_at n1 (by rw [upd_ne n1]; exact s3 _ _ e)
            have m2 : Same (avA (both lo D) H3) (av lo (upd H3 lo (.lst (qs.map V.ref ++ rs.map V.ref)))) := fun b ob hb => by
              obtain ⟨n1, e⟩ := avA_some hb
              have : (decide (b = lo) || decide (b = D)) = false := n1
              rw [Bool.or_eq_false_iff] at this
              have nl := of_decide_eq_false this.1
              exact av_at nl (by rw [upd_ne nl]; exact e)
            refine ⟨(hqs.same m1).app (hrs.same m2), fun p hp => ?_⟩
            rcases List.mem_append.mp hp with hp | hp
            · exact hqn p hp
            · exact hrn p hp
      · obtain ⟨qs, y4', rfl, s2, hlo, hqs, hqn⟩ := h2
        have lps := hll.len
        rw [List.length_map, lps, List.take_length] at hqs
        exact ⟨_, rfl, lo, qs, _, _, _, rfl, sm.trans s2, sm.free nlo, hlo, hqs.same av_le, hqn⟩
    · obtain ⟨fo, ps, y2, y3, y4, rfl, sm, nfo, hfo, hll, hnn⟩ := h
      exact ⟨_, rfl, q _ fo ps sm nfo hfo hll hnn⟩
end
end L69
set_option Elab.async false
set_option linter.all false
set_option maxRecDepth 100000
namespace L69
open PySem PySem.Spec PyProof.Rows L2 Lp
/-! ### lists of lists of ints as data -/
abbrev dL (rows : List (List Int)) : PyData := .list (rows.map dI)
theorem layL : ∀ rows : List (List Int), PyData.canLayAll0 (rows.map dI) = true
  | [] => rfl
  | r :: rest => by
    show (PyData.canLay0 (dI r) && PyData.canLayAll0 (rest.map dI)) = true
    rw [layL rest]
    show (PyData.canLayAll0 (r.map PyData.int) && true) = true
    rw [lay_ints]
    rfl
theorem depL : ∀ rows : List (List Int), PyData.depthAll (rows.map dI) ≤ 1
  | [] => Nat.zero_le _
  | r :: rest => by
    show max (PyData.depthAll (r.map PyData.int) + 1) (PyData.depthAll (rest.map dI)) ≤ 1
    rw [depth_ints]
    exact Nat.max_le.mpr ⟨Nat.le_refl _, depL rest⟩
theorem shapedL (rows : List (List Int)) : SeqAt.shaped (dL rows) = true := by
  show (PyData.canLayAll0 (rows.map dI) && decide (PyData.depthAll (rows.map dI) + 1 ≤ 64)) = true
  have := depL rows
  rw [layL, decide_eq_true (show PyData.depthAll (rows.map dI) + 1 ≤ 64 by omega)]
  rfl
theorem eqvL : ∀ rows : List (List Int), PyData.eqvAll (rows.map dI) (rows.map dI) = true
  | [] => rfl
  | r :: rest => by
    show (PyData.eqv (dI r) (dI r) && PyData.eqvAll (rest.map dI) (rest.map dI)) = true
    rw [eqvL rest, eqv_ints, decide_eq_true rfl]
    rfl
theorem neqL (rows : List (List Int)) : V.bl (!PyData.eqv (dL rows) (dL rows)) = V.bl false := by
  have e : PyData.eqv (dL rows) (dL rows) = true := eqvL rows
  rw [e]
  rfl
theorem noDictL : ∀ rows : List (List Int), PyData.hasDictAll (rows.map dI) = false
  | [] => rfl
  | r :: rest => by
    show (PyData.hasDictAll (r.map PyData.int) || PyData.hasDictAll (rest.map dI)) = false
    rw [noDictL rest, noDict_ints]
    rfl
theorem showL : ∀ rows : List (List Int), (∀ r ∈ rows, ∀ n ∈ r, -100 ≤ n ∧ n ≤ 100) → PyData.showableAll (rows.map dI) = true
  | [], _ => rfl
  | r :: rest, h => by
    show (PyData.showableAll (r.map PyData.int) && PyData.showableAll (rest.map dI)) = true
    rw [showL rest fun x hx => h x (List.mem_cons_of_mem _ hx), show_ints r fun n hn => log2_small (h r List.mem_cons_self n hn).1 (h r List.mem_cons_self n hn).2]
    rfl
theorem shown_le {ns : List Int} (hb : ∀ n ∈ ns, -100 ≤ n ∧ n ≤ 100) (hl : ns.length ≤ 200) : (dI ns).shown.length ≤ 1300 := by
  show (textFrom 0 "[" (PyData.shownAll (ns.map PyData.int)) ++ ("]" : Str)).length ≤ 1300
  rw [Str.length_append]
  have z := textFrom_le (PyData.shownAll (ns.map PyData.int)) 0 "[" 4 (fun t ht => by
    obtain ⟨n, hn, e⟩ := shownAll_mem ns t ht
    rw [e]
    exact num_len n (hb n hn).1 (hb n hn).2)
  rw [shownAll_len] at z
  have e1 : ("[" : Str).length = 1 := rfl
  have e2 : ("]" : Str).length = 1 := rfl
  rw [e1] at z
  rw [e2]
  omega
theorem shownL2 {r : List Int} (hb : ∀ n ∈ r, -100 ≤ n ∧ n ≤ 100) (hl : r.length ≤ 200) : (dL [r, r]).shown.length ≤ sizeLine := by
  have h := shown_le hb hl
  show (textFrom 0 "[" [(dI r).shown, (dI r).shown] ++ ("]" : Str)).length ≤ sizeLine
  rw [Str.length_append]
  have z := textFrom_le [(dI r).shown, (dI r).shown] 0 "[" 1300 (fun t ht => by
    rcases List.mem_cons.mp ht with e | e
    · rw [e]; exact h
    · rw [List.mem_singleton.mp e]; exact h)
  have e1 : ("[" : Str).length = 1 := rfl
  have e2 : ("]" : Str).length = 1 := rfl
  have e3 : [(dI r).shown, (dI r).shown].length = 2 := rfl
  rw [e1, e3] at z
  rw [e2]
  exact Lp.zs (by omega)
/-! ### sorted lists of lists -/
/-! ### lists of lists, by what they hold -/
def toI : V → Int
  | .int n => n
  | _ => 0
def kH (H : Hp) : V → List Int
  | .ref a => match H a with
    | some (.lst xs) => xs.map toI
    | _ => []
  | _ => []
theorem kH_ref {H : Hp} {a : Addr} {r : List Int} (h : H a = some (.lst (r.map V.int))) : kH H (.ref a) = r := by
  show (match H a with
    | some (.lst xs) => xs.map toI
    | _ => []) = r
  rw [h]
  show (r.map V.int).map toI = r
  rw [List.map_map]
  exact (List.map_congr_left fun _ _ => rfl).trans (List.map_id r)
theorem rr_key {H : Hp} : ∀ {rs : List V} {rows : List (List Int)}, RowsR H rs rows → rs.map (kH H) = rows
  | [], [], _ => rfl
  | [], _ :: _, h => absurd h.1 (by simp)
  | _ :: _, [], h => absurd h.1 (by simp)
  | v :: rs, r :: rows, h => by
    obtain ⟨a, b, c⟩ := h.2 0 r rfl
    have e : v = .ref a := Option.some.inj b
    subst e
    rw [List.map_cons, kH_ref c, rr_key ⟨Nat.succ.inj h.1, fun i row e => h.2 (i + 1) row e⟩]
theorem rr_mem {H : Hp} {rs : List V} {rows : List (List Int)} (h : RowsR H rs rows) {x : V} (hx : x ∈ rs) : ∃ t, x = .ref t ∧ H t = some (.lst ((kH H x).map V.int)) := by
  obtain ⟨i, hi, e⟩ := List.mem_iff_getElem.mp hx
  have hi2 : i < rows.length := by rw [← h.1]; exact hi
  obtain ⟨a, b, c⟩ := h.2 i _ (List.getElem?_eq_getElem hi2)
  rw [List.getElem?_eq_getElem hi, e] at b
  have e2 : x = .ref a := Option.some.inj b
  subst e2
  exact ⟨a, rfl, by rw [kH_ref c]; exact c⟩
theorem rr_of {H : Hp} {k : V → List Int} : ∀ {ys : List V}, (∀ y ∈ ys, ∃ t, y = .ref t ∧ H t = some (.lst ((k y).map V.int))) → RowsR H ys (ys.map k)
  | [], _ => RowsR.nil H
  | y :: ys, h => by
    obtain ⟨t, rfl, e⟩ := h y List.mem_cons_self
    exact (RowsR.one e).app (rr_of fun z hz => h z (List.mem_cons_of_mem _ hz))
theorem dp_of {K : PySem.W.Frag} {H H' : Hp} {k : V → List Int} (s : Same H H') : ∀ {ys : List V}, (∀ y ∈ ys, ∃ t, y = .ref t ∧ H t = some (.lst ((k y).map V.int))) → DpAll K H' ys ((ys.map k).map dI)
  | [], _ => .nil
  | y :: ys, h => by
    obtain ⟨t, rfl, e⟩ := h y List.mem_cons_self
    exact .cons (dp_ints (.of (s _ _ e))) (dp_of s fun z hz => h z (List.mem_cons_of_mem _ hz))
/-! ### the orders that leave a value -/
theorem grp_eq {ns R : List Int} (hh : Hist ns) (pR : R.Perm (runL ns)) (h5 : R.length ≤ 5) {v : Int} {f : Ft} (hf : fate ns ns.length v = some f) :
    ((allR R).filter fun O => decide (leftP ns O = v)) = (List.range (cntL ns f)).map fun i => nthL R i f := by
  have nd : R.Nodup := pR.nodup_iff.mpr ((stL_nd hh).sublist List.filter_sublist)
  have lR := pR.length_eq
  have inR : ∀ k ∈ R, k ∈ ns ∧ 0 < k ∧ -k ∉ ns := fun k hk => mem_run.mp (pR.mem_iff.mp hk)
  cases hR : R with
  | nil =>
    have r0 : runL ns = [] := List.length_eq_zero_iff.mp (by rw [← lR, hR]; rfl)
    have e0 : allR [] = [[]] := rfl
    rw [e0, List.filter_cons, List.filter_nil, left_nil]
    cases f with
    | pres =>
      have c : cntL ns .pres = 1 := if_pos r0
      rw [c, fate_pres hf, if_pos (decide_eq_true rfl)]
      rfl
    | saved e =>
      obtain ⟨e0, e1, e2, _⟩ := fate_saved hh hf
      have : e ∈ runL ns := mem_run.mpr ⟨e1, e0, e2⟩
      rw [r0] at this
      exact absurd this List.not_mem_nil
    | lost i =>
      have : ¬ (runP ns).1 = v := fun z => by
        rw [← z, fate_now] at hf
        cases hf
      rw [decide_eq_false this]
      rfl
  | cons x xs =>
    rw [← hR]
    obtain ⟨m, hm⟩ : ∃ m, R.length = m + 1 := ⟨xs.length, by rw [hR]; rfl⟩
    have lastIn : ∀ O ∈ allR R, ∃ k, O.getLast? = some k ∧ k ∈ R ∧ leftP ns O = (runP ns).2 k := fun O hO => by
      have p := allR_perm nd h5 O hO
      have ne : O ≠ [] := fun z => by
        have := p.length_eq
        rw [z, hm] at this
        cases this
      have hl : O.getLast? = some (O.getLast ne) := List.getLast?_eq_some_getLast ne
      exact ⟨_, hl, p.mem_iff.mp (List.getLast_mem ne), left_last (fun k hk => (inR k (p.mem_iff.mp hk)).2.1) hl⟩
    have ft : ∀ O ∈ allR R, ∀ k, O.getLast? = some k → leftP ns O = v → f = .saved k := fun O hO k hk e => by
      obtain ⟨k', e1, e2, e3⟩ := lastIn O hO
      rw [hk] at e1
      cases e1
      have z := fate_run hh (inR k e2).2.1 (inR k e2).1 (inR k e2).2.2
      rw [← e3, e, hf] at z
      exact Option.some.inj z
    cases f with
    | saved e =>
      obtain ⟨e0, e1, e2, e3⟩ := fate_saved hh hf
      have er : e ∈ R := pR.mem_iff.mpr (mem_run.mpr ⟨e1, e0, e2⟩)
      have same : ((allR R).filter fun O => decide (leftP ns O = v)) = (allR R).filter fun O => decide (O.getLast? = some e) := List.filter_congr fun O hO => decide_eq_decide.mpr (by
        constructor
        · intro h
          obtain ⟨k, h1, h2, h3⟩ := lastIn O hO
          have := ft O hO k h1 h
          cases this
          exact h1
        · intro h
          obtain ⟨k, h1, h2, h3⟩ := lastIn O hO
          rw [h] at h1
          cases h1
          rw [h3, e3])
      have c : cntL ns (.saved e) = facN m := by
        show facN ((runL ns).length - 1) = _
        rw [← lR, hm]
        rfl
      rw [same, allR_last nd hm h5 er, c]
      refine List.map_congr_left fun i _ => ?_
      show _ = nthG (R.length - 1) (outP R e) i ++ [e]
      rw [hm]
      rfl
    | pres =>
      have c : cntL ns .pres = 0 := if_neg fun z => by
        rw [z, hm] at lR
        cases lR
      rw [c]
      refine List.filter_eq_nil_iff.mpr fun O hO h => ?_
      obtain ⟨k, h1, _, _⟩ := lastIn O hO
      cases ft O hO k h1 (of_decide_eq_true h)
    | lost i =>
      refine List.filter_eq_nil_iff.mpr fun O hO h => ?_
      obtain ⟨k, h1, _, _⟩ := lastIn O hO
      cases ft O hO k h1 (of_decide_eq_true h)
theorem nthL_perm {ns R : List Int} (hh : Hist ns) (pR : R.Perm (runL ns)) (h5 : R.length ≤ 5) {v : Int} {f : Ft} (hf : fate ns ns.length v = some f) {i : Nat} (hi : i < cntL ns f) : (nthL R i f).Perm R ∧ ∃ S : List Int, S.Perm (nthL R i f).dropLast ∧ (R.Pairwise (· ≤ ·) → S.Pairwise (· ≤ ·)) ∧ rankG S (nthL R i f).dropLast 0 = i := by
  have nd : R.Nodup := pR.nodup_iff.mpr ((stL_nd hh).sublist List.filter_sublist)
  have lR := pR.length_eq
  cases f with
  | saved e =>
    obtain ⟨e0, e1, e2, e3⟩ := fate_saved hh hf
    have er : e ∈ R := pR.mem_iff.mpr (mem_run.mpr ⟨e1, e0, e2⟩)
    obtain ⟨m, hm⟩ : ∃ m, R.length = m + 1 := ⟨R.length - 1, by have := List.length_pos_of_mem er; omega⟩
    have hi : i < facN m := by
      have c : cntL ns (.saved e) = facN ((runL ns).length - 1) := rfl
      rw [c, ← lR, hm] at hi
      exact hi
    obtain ⟨p, rk, ln⟩ := nth_perm nd hm h5 er hi
    have en : nthL R i (.saved e) = nthG m (outP R e) i ++ [e] := by
      show nthG (R.length - 1) (outP R e) i ++ [e] = _
      rw [hm]
      rfl
    rw [en, List.dropLast_concat]
    refine ⟨?_, outP R e, p.symm, fun w => w.sublist List.filter_sublist, rk⟩
    have z2 : outP R e = R.erase e := by
      unfold outP
      rw [nd.erase_eq_filter]
      refine List.filter_congr fun x _ => ?_
      by_cases h : x = e <;> simp [h]
    rw [z2] at p
    rw [z2]
    exact (List.perm_append_comm.trans (List.Perm.cons e p)).trans (List.perm_cons_erase er).symm
  | pres =>
    have r0 : runL ns = [] := by
      by_cases h : runL ns = []
      · exact h
      · have c : cntL ns .pres = 0 := if_neg h
        rw [c] at hi
        exact absurd hi (Nat.not_lt_zero _)
    have eR : R = [] := List.length_eq_zero_iff.mp (by rw [lR, r0]; rfl)
    have c : cntL ns .pres = 1 := if_pos r0
    rw [c] at hi
    have i0 : i = 0 := by omega
    subst i0
    rw [eR]
    exact ⟨.nil, [], .nil, fun w => w, rfl⟩
  | lost j => exact absurd hi (Nat.not_lt_zero _)
theorem units65 {k : Nat} {A : Around} (r : Room k A) : A.units + 65 < cLine := by have := r.un; omega
theorem idx_any {α : Type} [DecidableEq α] {x : α} : ∀ {l : List α}, x ∈ l → ∃ j : Nat, l[j]? = some x ∧ ∀ m, m < j → l[m]? ≠ some x
  | [], h => absurd h List.not_mem_nil
  | y :: l, h => by
    by_cases e : y = x
    · exact ⟨0, by rw [← e]; rfl, fun m hm => absurd hm (Nat.not_lt_zero _)⟩
    · obtain ⟨j, h1, h2⟩ := idx_any ((List.mem_cons.mp h).resolve_left fun z => e z.symm)
      refine ⟨j + 1, h1, fun m hm => ?_⟩
      cases m with
      | zero => exact fun z => e (Option.some.inj z)
      | succ m => exact h2 m (Nat.lt_of_succ_lt_succ hm)
def selA (g : List Int → Bool) : List Addr → List (List Int) → List Addr
  | p :: ps, O :: F => if g O = true then p :: selA g ps F else selA g ps F
  | _, _ => []
theorem selA_lls {H : Hp} {g : List Int → Bool} : ∀ {ps : List Addr} {F : List (List Int)}, LLs H ps F → LLs H (selA g ps F) (F.filter g)
  | _, _, .nil => .nil
  | _, _, .cons (r := r) h t => by
    show LLs H (if g r = true then _ :: selA g _ _ else selA g _ _) _
    rw [List.filter_cons]
    by_cases c : g r = true
    · rw [if_pos c, if_pos c]
      exact .cons h (selA_lls t)
    · rw [if_neg c, if_neg c]
      exact selA_lls t
theorem selA_app {g : List Int → Bool} : ∀ {ps : List Addr} {F : List (List Int)} {p : Addr} {O : List Int}, ps.length = F.length → selA g (ps ++ [p]) (F ++ [O]) = selA g ps F ++ if g O = true then [p] else []
  | [], [], p, O, _ => by
    show (if g O = true then p :: selA g [] [] else selA g [] []) = [] ++ _
    rfl
  | q :: ps, r :: F, p, O, h => by
    have ih := selA_app (g := g) (ps := ps) (F := F) (p := p) (O := O) (Nat.succ.inj h)
    show (if g r = true then q :: selA g (ps ++ [p]) (F ++ [O]) else selA g (ps ++ [p]) (F ++ [O])) = (if g r = true then q :: selA g ps F else selA g ps F) ++ _
    rw [ih]
    split <;> rfl
  | [], _ :: _, _, _, h => nomatch h
  | _ :: _, [], _, _, h => nomatch h
theorem selA_len {g : List Int → Bool} : ∀ {ps : List Addr} {F : List (List Int)}, ps.length = F.length → (selA g ps F).length = (F.filter g).length
  | [], [], _ => rfl
  | _ :: ps, r :: F, h => by
    have ih := selA_len (g := g) (ps := ps) (F := F) (Nat.succ.inj h)
    show (if g r = true then _ :: selA g ps F else selA g ps F).length = _
    rw [List.filter_cons]
    split
    · rw [List.length_cons, List.length_cons, ih]
    · exact ih
  | [], _ :: _, h => nomatch h
  | _ :: _, [], h => nomatch h
theorem upL_pw (m : Nat) : (upL m).Pairwise (· < ·) := by
  unfold upL
  rw [List.pairwise_map]
  refine List.pairwise_lt_range.imp fun h => ?_
  omega
theorem run_sorted {ns : List Int} {m : Nat} (st : stL ns = upL m) : (runL ns).Pairwise (· ≤ ·) := by
  have e : (runL ns).Sublist (upL m) := by rw [← st]; exact List.filter_sublist
  exact ((upL_pw m).sublist e).imp fun h => Int.le_of_lt h
theorem run_len {ns : List Int} {m : Nat} (st : stL ns = upL m) : (runL ns).length ≤ m := by
  have e : (runL ns).length ≤ (stL ns).length := List.length_filter_le _ _
  rw [st, upL_len] at e
  exact e
theorem upL_in {m : Nat} {x : Int} (h1 : 1 ≤ x) (h2 : x ≤ m) : x ∈ upL m := by
  unfold upL
  exact List.mem_map.mpr ⟨(x - 1).toNat, List.mem_range.mpr (by omega), by omega⟩
theorem left_count {ns R : List Int} (hh : Hist ns) (pR : R.Perm (runL ns)) (h5 : R.length ≤ 5) {v : Int} {f : Ft} (hf : fate ns ns.length v = some f) : ((allR R).map (leftP ns)).count v = cntL ns f := by
  have e := congrArg List.length (grp_eq hh pR h5 hf)
  rw [List.length_map, List.length_range] at e
  rw [← e, List.count, List.countP_map, List.countP_eq_length_filter]
  refine congrArg List.length (List.filter_congr fun O _ => ?_)
  show (leftP ns O == v) = _
  by_cases c : leftP ns O = v <;> simp [c]
theorem fate_left {ns O : List Int} (hh : Hist ns) (pm : O.Perm (runL ns)) : ∃ f, fate ns ns.length (leftP ns O) = some f := by
  cases e : O.getLast? with
  | none =>
    rw [List.getLast?_eq_none_iff.mp e, left_nil]
    exact ⟨_, fate_now ns⟩
  | some k =>
    have hm : ∀ k ∈ O, k ∈ ns ∧ 0 < k ∧ -k ∉ ns := fun k hk => runL_mem.mp (pm.mem_iff.mp hk)
    obtain ⟨k1, k2, k3⟩ := hm k (List.mem_of_getLast? e)
    rw [left_last (fun x hx => (hm x hx).2.1) e]
    exact ⟨_, fate_run hh k2 k1 k3⟩
theorem atI_get {l : List V} {k : Nat} {x : V} (h : l[k]? = some x) : atI l (0 + (k : Int)) = some x := by
  rw [show (0 : Int) + (k : Int) = (k : Int) by omega]
  exact atI_nat h
section
variable {P : Program} {w : World} {K : PySem.W.Frag} {mg : Str → Option Value} {base : Heap}
def spOrdR (K : PySem.W.Frag) : Sp := fun vs H Q _ => ∃ (b a : Addr) (n m : Nat) (ns : List Int), vs = [.ref b, .ref a] ∧ Bag H b n ∧ n ≤ 50000 ∧ H a = some (.lst (ns.map V.int)) ∧ a ≠ b ∧ Hist ns ∧ stL ns = upL m ∧ m ≤ 5 ∧ ∀ H', Bt b H H' → Bag H' b (n + 1) → Q (.bl true) H'
set_option maxHeartbeats 4000000 in
theorem ok_law_orders_right {f : Addr} {fd : FuncData} (F : Fun K "_law_orders_right" "_law_orders_right" s_law_orders_right f fd) (B : NoB mg) (T_law_draw : Gc P w K mg base 1 "_law_draw" (spDraw K)) (T_law_play : Gc P w K mg base 1 "_law_play" (spPlay69 K)) (T_law_orders : Gc P w K mg base 1 "_law_orders" (spOrds K)) (T_left_by : Gc P w K mg base 10 "left_by" (spLeft K)) (T_count_orders : Gc P w K mg base 8 "count_orders" (spCntO K)) (T_count_leaving : Gc P w K mg base 8 "count_leaving" (spCntL K)) (T_nth_leaving : Gc P w K mg base 9 "nth_leaving" (spNthL K)) (T_leaving_rank : Gc P w K mg base 10 "leaving_rank" (spLRank K)) :
    FnG P w K mg base CX0 11 f fd ["bag", "events"] (spOrdR K) := by
  refine okG F sc_law_orders_right (fun vs H Q E h => ?_) (fun cdv A outer s H vs Q E hG hr h => ?_)
  · obtain ⟨b, a, n, m, ns, rfl, _⟩ := h
    rfl
  · obtain ⟨b, a, n, m, ns, rfl, hb, hn, ha, nab, hh, st, m5, q⟩ := h
    have hu := hu_of hr
    have hu64 := hr.units
    have hu65 := units65 hr
    have wR := run_sorted st
    have lR5 : (runL ns).length ≤ 5 := Nat.le_trans (run_len st) m5
    have ndR := runL_nd hh.nd
    have lall := allR_len ndR lR5
    have f120 : facN (runL ns).length ≤ 120 := by
      have : ∀ k : Fin 6, facN k.val ≤ 120 := by decide +kernel
      exact this ⟨(runL ns).length, by omega⟩
    have f1 : 1 ≤ facN (runL ns).length := facN_pos' _
    have pmO : ∀ O ∈ allR (runL ns), O.Perm (runL ns) := fun O hO => allR_perm ndR lR5 O hO
    have hcl : ∀ O ∈ allR (runL ns), Hist (ns ++ O.map fun k => -k) := fun O hO => hist_stops hh ((pmO O hO).nodup_iff.mpr ndR) fun k hk => runL_mem.mp ((pmO O hO).mem_iff.mp hk)
    have hln : ∀ O ∈ allR (runL ns), ns.length + O.length ≤ 200 := fun O hO => by
      have := (hcl O hO).len
      rw [List.length_append, List.length_map] at this
      exact this
    refine ⟨_, (pss_cons (ps_asg (pe_g T_law_play hG hr (by decide) (by rfl) (pa_cons (pv 1) pa_nil)) (pg_tup rfl (pgs_cons (pg_name (i := 2) sc_law_orders_right.nd rfl (Or.inl rfl)) (pgs_cons (pg_name (i := 3) sc_law_orders_right.nd rfl (Or.inl rfl)) (pgs_cons (pg_name (i := 4) sc_law_orders_right.nd rfl (Or.inl rfl)) pgs_nil)))))
        (pss_cons (ps_set (i := 5) sc_law_orders_right.nd rfl (Or.inr rfl) (pe_g T_law_orders hG hr (by decide) (by rfl) (pa_cons (pv 4) pa_nil)))
        (pss_cons (ps_set (i := 6) sc_law_orders_right.nd rfl (Or.inr rfl) (pe_lc (own := [("order", 11)]) (g := gName 11) (tt := tYes) rfl sc_law_orders_right.nd (pi_list (pv 5)) (blkOk_by (own := [("order", 11)]) (N := N_law_orders_right) (sc := defScope s_law_orders_right) (by decide +kernel)) (fun _ _ _ _ _ => (pg_name (i := 11) sc_law_orders_right.nd rfl (Or.inl rfl))) (fun _ _ _ _ _ => pts_nil) (fun _ _ _ _ _ => (pe_ix (k_ix (K := K) rfl) (pe_ix (k_ixT (K := K) rfl) (pe_g T_law_play hG hr (by decide) (by rfl) (pa_cons (pe_op op_cat (pv 1) (pe_lc (own := [("patch", 12)]) (g := gName 12) (tt := tYes) rfl sc_law_orders_right.nd (pi_listK (K := K) rfl (pv 11)) (blkOk_in (sc0 := defScope s_law_orders_right) (own := [("patch", 12)]) (N := N_law_orders_right) rfl (by decide +kernel)) (fun _ _ _ _ _ => (pg_name (i := 12) sc_law_orders_right.nd rfl (Or.inl rfl))) (fun _ _ _ _ _ => pts_nil) (fun _ _ _ _ _ => (pe_un un_neg (pv 12))))) pa_nil)) pe_int (fun _ _ => rfl)) (pe_un un_neg pe_int) (fun _ _ => rfl)))))
        (pss_cons (ps_if (PW.pt (pw_or (pt_cmpR op_ne (pe_g T_count_orders hG hr (by decide) (by rfl) (pa_cons (pv 1) pa_nil)) (pe_callB call_len_seq (by rfl) B.len PySem.boot_len (pa_cons (pv 5) pa_nil)) (nomark _)) (pw_or1 (pt_cmpR (op_neD hu64) (pe_lc (own := [("order", 11)]) (g := gName 11) (tt := tYes) rfl sc_law_orders_right.nd (pi_list (pv 5)) (blkOk_by (own := [("order", 11)]) (N := N_law_orders_right) (sc := defScope s_law_orders_right) (by decide +kernel)) (fun _ _ _ _ _ => (pg_name (i := 11) sc_law_orders_right.nd rfl (Or.inl rfl))) (fun _ _ _ _ _ => pts_nil) (fun _ _ _ _ _ => (pe_g T_left_by hG hr (by decide) (by rfl) (pa_cons (pv 1) (pa_cons (pv 11) pa_nil))))) (pv 6) (nomark _))))) (pss_one (ps_ret pe_bl)) pss_nil)
        (pss_cons (ps_for PassesOwn.never rfl (pi_range1 rfl B.range (pa_cons (pe_op op_add (pe_callB call_lenD (by rfl) B.len PySem.boot_len (pa_cons (pv 3) pa_nil)) pe_int) pa_nil)) (pg_name (i := 7) sc_law_orders_right.nd rfl (Or.inl rfl))
          (pss_one (ps_if (pt_cmpR op_ne (pe_g T_count_leaving hG hr (by decide) (by rfl) (pa_cons (pv 1) (pa_cons (pv 7) pa_nil))) (pe_bm PySem.F.plainAttrs_list PySem.F.slot_list_count PySem.F.type_list_count mt_lcount (pv 6) (pa_cons (pv 7) pa_nil)) (nomark _)) (pss_one (ps_ret pe_bl)) pss_nil)))
        (pss_cons (ps_set (i := 8) sc_law_orders_right.nd rfl (Or.inr rfl) (pe_g T_law_draw hG hr (by decide) (by rfl) (pa_cons (pv 0) (pa_cons (pe_callB call_len_seq (by rfl) B.len PySem.boot_len (pa_cons (pv 5) pa_nil)) pa_nil))))
        (pss_cons (ps_setLc (i := 9) (own := [("k", 13)]) (g := gName 13) (tt := _) rfl sc_law_orders_right.nd rfl rfl (sw_true rfl rfl rfl (by decide +kernel)) (pi_range1 rfl B.range (pa_cons (pe_callB call_len_seq (by rfl) B.len PySem.boot_len (pa_cons (pv 5) pa_nil)) pa_nil)) (blkOk_by (own := [("k", 13)]) (N := N_law_orders_right) (sc := defScope s_law_orders_right) (by decide +kernel)) (fun _ _ _ _ _ => (pg_name (i := 13) sc_law_orders_right.nd rfl (Or.inl rfl))) (fun _ _ _ _ _ => (pts_one (pt_cmpR op_eq (pe_ix (k_ix (K := K) rfl) (pv 6) (pv 13) (fun _ _ => rfl)) (pe_ix (k_ix (K := K) rfl) (pv 6) (pv 8) (fun _ _ => rfl)) (nomark _)))) (fun _ _ _ _ _ => (pe_ix (k_ix (K := K) rfl) (pv 5) (pv 13) (fun _ _ => rfl))))
        (pss_cons (ps_set (i := 10) sc_law_orders_right.nd rfl (Or.inl rfl) (pe_bm PySem.F.plainAttrs_list PySem.F.slot_list_index PySem.F.type_list_index (mt_indexD hu65) (pv 9) (pa_cons (pe_ix ix_list (pv 5) (pv 8) (fun _ _ => rfl)) pa_nil)))
        (pss_cons (ps_if (pt_cmpR (op_neD hu64) (pe_g T_nth_leaving hG hr (by decide) (by rfl) (pa_cons (pv 1) (pa_cons (pe_ix ix_list (pv 6) (pv 8) (fun _ _ => rfl)) (pa_cons (pv 10) pa_nil)))) (pe_ix ix_list (pv 5) (pv 8) (fun _ _ => rfl)) (nomark _)) (pss_one (ps_ret pe_bl)) pss_nil)
        (pss_one (ps_ret (pe_cmpR op_eq (pe_g T_leaving_rank hG hr (by decide) (by rfl) (pa_cons (pv 1) (pa_cons (pe_ix ix_list (pv 5) (pv 8) (fun _ _ => rfl)) pa_nil))) (pv 10) (nomark _))))))))))))), ?_⟩
    refine ⟨_, rfl, a, ns, rfl, .of ha, hh, fun H1 t p d r kvs s1 ht hp hd hv hk hrr nr => ?_⟩
    refine ⟨t, _, rfl, .of ht, rfl, _, _, rfl, _, _, rfl, _, _, rfl, rfl, ?_⟩
    refine ⟨_, rfl, r, runL ns, rfl, .of hrr, wR, lR5, fun H2 ev ps s2 nev hev hll hnn => ?_⟩
    have lps := hll.len
    have s02 := s1.trans s2
    have ha2 := s02 _ _ ha
    refine ⟨_, rfl, ev, rfl, ⟨_, .of hev⟩, fun D nD => lc_list (xs := ps.map V.ref) (LcP H2 D fun j => (((allR (runL ns)).take j).map (leftP ns)).map V.int) (.init nD rfl) (fun j H3 _ p => .of (p.2.1 _ _ hev)) (fun j x H3 hx p3 => ?_) (fun H3 p3 => ?_)⟩
    · obtain ⟨pO, rfl, hpO⟩ := get_refA hx
      obtain ⟨O, hO, hO2⟩ := hll.get hpO
      have mO := mem_get hO
      have hO3 := p3.2.1 _ _ hO2
      have ij := lt_get hO
      have lO := (pmO O mO).length_eq
      refine ⟨rfl, ?_⟩
      refine ⟨_, rfl, _, rfl, pO, rfl, ⟨_, .of hO3⟩, fun D2 nD2 => lc_list (xs := O.map V.int) (LcP H3 D2 fun k => ((O.take k).map fun k => -k).map V.int) (.init nD2 rfl) (fun k H' _ p => .of (p.2.1 _ _ hO3)) (fun k x H' hx p => ?_) (fun H4 p4 => ?_)⟩
      · obtain ⟨kk, rfl, hk⟩ := get_int hx
        refine ⟨rfl, ?_⟩
        refine ⟨_, rfl, kk, rfl, p.put (.refl _) ?_ (by rw [List.length_map, List.length_map, List.length_take]; omega)⟩
        rw [take_get hk, List.map_append, List.map_append]
        rfl
      have hD2 := p4.2.2
      have s4 := p4.2.1
      rw [List.length_map] at hD2
      have hD2 : H4 D2 = some (.lst (((O.take O.length).map fun k => -k).map V.int)) := hD2
      rw [List.take_length] at hD2
      refine ⟨a, D2, _, _, rfl, rfl, s4 _ _ (p3.2.1 _ _ ha2), hD2, by rw [List.length_map, List.length_map, List.length_map]; exact Nat.le_trans (hln O mO) (by decide), fun z nz => ?_⟩
      have s5 := same_new (o := .lst (ns.map V.int ++ (O.map fun k => -k).map V.int)) nz
      refine ⟨z, ns ++ O.map fun k => -k, rfl, .of (by rw [upd_same, List.map_append]), hcl O mO, fun H6 t6 p6 d6 r6 kvs6 s6 ht6 hp6 _ _ _ _ _ => ?_⟩
      refine ⟨t6, _, 0, _, rfl, rfl, .of ht6, at0, ?_⟩
      have elast : atI (presL (ns ++ O.map fun k => -k) (ns ++ O.map fun k => -k).length) (-1) = some (.int (leftP ns O)) := by
        rw [presL_last, List.take_length]
        rfl
      refine ⟨_, rfl, p6, _, -1, _, rfl, rfl, .of hp6, elast, ?_⟩
      refine p3.put ((s4.trans s5).trans s6) ?_ (by rw [List.length_map, List.length_map, List.length_take]; omega)
      rw [take_get hO, List.map_append, List.map_append]
      rfl
    have hD : H3 D = some (.lst (((allR (runL ns)).map (leftP ns)).map V.int)) := by
      have h := p3.2.2
      rw [List.length_map, lps] at h
      rw [h]
      show some (HO.lst ((((allR (runL ns)).take (allR (runL ns)).length).map _).map V.int)) = _
      rw [List.take_length]
    have s3 := p3.2.1
    have s03 := s02.trans s3
    refine ⟨_, rfl, a, ns, rfl, .of (s03 _ _ ha), hh, fun H4 s4 => ?_⟩
    have s34 := s3.trans s4
    have hev4 := s34 _ _ hev
    refine ⟨_, rfl, ev, _, rfl, .inl (.of hev4), rfl, false, nF (congrArg V.int (by rw [List.length_map, lps, lall])), ?_⟩
    refine ⟨_, rfl, ev, rfl, ⟨_, .of hev4⟩, fun D2 nD2 => lc_list (xs := ps.map V.ref) (LcP H4 D2 fun j => (((allR (runL ns)).take j).map (leftP ns)).map V.int) (.init nD2 rfl) (fun j H5 _ p => .of (p.2.1 _ _ hev4)) (fun j x H5 hx p5 => ?_) (fun H5 p5 => ?_)⟩
    · obtain ⟨pO, rfl, hpO⟩ := get_refA hx
      obtain ⟨O, hO, hO2⟩ := hll.get hpO
      have mO := mem_get hO
      have ij := lt_get hO
      have s45 := s34.trans p5.2.1
      refine ⟨rfl, ?_⟩
      refine ⟨_, rfl, _, rfl, a, pO, ns, O, rfl, s45 _ _ ha2, .of (s45 _ _ hO2), hh, pmO O mO, hln O mO, fun H6 s6 => p5.put s6 ?_ (by rw [List.length_map, List.length_map, List.length_take]; omega)⟩
      rw [take_get hO, List.map_append, List.map_append]
      rfl
    have hD2 : H5 D2 = some (.lst (((allR (runL ns)).map (leftP ns)).map V.int)) := by
      have h := p5.2.2
      rw [List.length_map, lps] at h
      rw [h]
      show some (HO.lst ((((allR (runL ns)).take (allR (runL ns)).length).map _).map V.int)) = _
      rw [List.take_length]
    have s45 := s4.trans p5.2.1
    have s35 := s3.trans s45
    have hD5 := s45 _ _ hD
    refine ⟨_, rfl, dI _, dI _, dp_ints (.of hD2), dp_ints (.of hD5), shaped_ints _, shaped_ints _, false, neqF rfl, iteF ?_⟩
    have hev5 := s35 _ _ hev
    have hd5 := s35 _ _ (s2 _ _ hd)
    have s05 := s02.trans s35
    have ha5 := s05 _ _ ha
    rw [st, upL_len] at hk
    refine ⟨_, rfl, d, kvs, rfl, hd5, _, _, rfl, rfl, _, rfl, by omega, by omega, ?_⟩
    rw [show ((kvs.length : Int) + 1).toNat = m + 1 by omega]
    refine for_range (lo := 0) (n := m + 1) (fun i σ H' => (∃ y, σ = [some (.ref b), some (.ref a), some (.ref p), some (.ref d), some (.ref r), some (.ref ev), some (.ref D), y, none, none, none, none, none, none]) ∧ Same H5 H') ⟨⟨_, rfl⟩, .refl _⟩ (fun i σ H6 hi h => ?_) (fun σ H6 h => ?_)
    · obtain ⟨⟨y, rfl⟩, sm⟩ := h
      have hv : (0 + (i : Int)) = 0 ∨ 0 < (0 + (i : Int)) ∧ (0 + (i : Int)) ∈ ns := by
        by_cases c : i = 0
        · exact .inl (by omega)
        · refine .inr ⟨by omega, ?_⟩
          have : (0 + (i : Int)) ∈ stL ns := by rw [st]; exact upL_in (by omega) (by omega)
          exact (List.mem_filter.mp this).1
      obtain ⟨ff, hf⟩ := fate_some hh hv
      refine ⟨_, rfl, _, rfl, a, ns, _, ff, rfl, .of (sm _ _ ha5), hh, hf, fun H7 s7 => ?_⟩
      have sm7 := sm.trans s7
      refine ⟨_, rfl, .inl ⟨rfl, _, .of (sm7 _ _ hD5)⟩, _, rfl, D, _, _, rfl, rfl, .of (sm7 _ _ hD5), rfl, false, nF (congrArg V.int ?_), iteF ⟨⟨_, rfl⟩, sm7⟩⟩
      rw [left_count hh (.refl _) lR5 hf]
    obtain ⟨⟨y, rfl⟩, sm⟩ := h
    have s06 := s05.trans sm
    have s26 := s35.trans sm
    have hev6 := sm _ _ hev5
    have nevb : ev ≠ b := fun z => by
      obtain ⟨x, y, hx, _⟩ := hb
      rw [z] at nev
      rw [s1 _ _ hx] at nev
      cases nev
    have nDb : D ≠ b := fun z => by
      obtain ⟨x, y, hx, _⟩ := hb
      rw [z] at nD
      rw [s02 _ _ hx] at nD
      cases nD
    have hb6 : Bag H6 b n := by
      obtain ⟨x, y, hx, e⟩ := hb
      exact ⟨x, y, s06 _ _ hx, e⟩
    refine ⟨_, rfl, _, rfl, ev, _, rfl, .inl (.of hev6), b, _, n, rfl, hb6, by omega, by rw [List.length_map]; omega, by rw [List.length_map]; omega, fun z H7 z0 z1 hb7 b7 => ?_⟩
    obtain ⟨j, rfl⟩ : ∃ m : Nat, z = (m : Int) := ⟨z.toNat, by omega⟩
    rw [List.length_map] at z1
    have hj : j < ps.length := by omega
    have hjF : j < (allR (runL ns)).length := by omega
    -- what stands behind the draw
    have hev7 := b7 _ _ nevb hev6
    have hD7 := b7 _ _ nDb (sm _ _ hD5)
    have ha7 := b7 _ _ nab (sm _ _ ha5)
    have hll7 : LLs H7 ps (allR (runL ns)) := by
      have go : ∀ {ps : List Addr} {F : List (List Int)}, LLs H2 ps F → (∀ p ∈ ps, H1 p = none) → LLs H7 ps F := fun h => by
        induction h with
        | nil => exact fun _ => .nil
        | cons e _ ih =>
          intro hn
          refine .cons (b7 _ _ (fun z => ?_) (s26 _ _ e)) (ih fun p hp => hn p (List.mem_cons_of_mem _ hp))
          obtain ⟨x, y, hx, _⟩ := hb
          have := hn _ List.mem_cons_self
          rw [z, s1 _ _ hx] at this
          cases this
      exact go hll hnn
    obtain ⟨O, gO⟩ : ∃ O, (allR (runL ns))[j]? = some O := ⟨_, List.getElem?_eq_getElem hjF⟩
    have mO := mem_get gO
    have gL : (((allR (runL ns)).map (leftP ns)).map V.int)[j]? = some (.int (leftP ns O)) := by
      rw [List.getElem?_map, List.getElem?_map, gO]
      rfl
    obtain ⟨pO, gP⟩ : ∃ p, ps[j]? = some p := ⟨_, List.getElem?_eq_getElem hj⟩
    have gPV : (ps.map V.ref)[j]? = some (.ref pO) := by rw [List.getElem?_map, gP]; rfl
    refine ⟨_, rfl, ev, _, rfl, .inl (.of hev7), _, rfl, by omega, by rw [List.length_map]; omega, ?_⟩
    rw [show (((ps.map V.ref).length : Nat) : Int).toNat = ps.length by rw [List.length_map]; rfl]
    refine fun D3 nD3 => lc_range (lo := 0) (n := ps.length) (LcP H7 D3 fun k => (selA (fun X => decide (leftP ns X = leftP ns O)) (ps.take k) ((allR (runL ns)).take k)).map V.ref) (.init nD3 rfl) (fun k H8 hk p8 => ?_) (fun H8 p8 => ?_)
    · obtain ⟨X, gX⟩ : ∃ X, (allR (runL ns))[k]? = some X := ⟨_, List.getElem?_eq_getElem (by omega)⟩
      obtain ⟨pX, gpX⟩ : ∃ p, ps[k]? = some p := ⟨_, List.getElem?_eq_getElem hk⟩
      have gLX : (((allR (runL ns)).map (leftP ns)).map V.int)[k]? = some (.int (leftP ns X)) := by
        rw [List.getElem?_map, List.getElem?_map, gX]
        rfl
      have gXV : (ps.map V.ref)[k]? = some (.ref pX) := by rw [List.getElem?_map, gpX]; rfl
      have hD8 := p8.2.1 _ _ hD7
      have lt : (ps.take k).length = ((allR (runL ns)).take k).length := by rw [List.length_take, List.length_take, lps]
      have sel := selA_app (g := fun X => decide (leftP ns X = leftP ns O)) (p := pX) (O := X) lt
      rw [← take_get gpX, ← take_get gX] at sel
      have lsel := selA_len (g := fun X => decide (leftP ns X = leftP ns O)) lt
      have lfl := List.length_filter_le (fun X => decide (leftP ns X = leftP ns O)) ((allR (runL ns)).take k)
      rw [List.length_take] at lfl
      refine ⟨rfl, ?_⟩
      refine ⟨_, rfl, _, rfl, D, _, _, _, rfl, rfl, .of hD8, atI_get gLX, _, rfl, _, rfl, D, _, _, _, rfl, rfl, .of hD8, atI_nat gL, rfl, ?_⟩
      by_cases c : leftP ns X = leftP ns O
      · refine ⟨true, dT (congrArg V.int c), ?_⟩
        refine ⟨_, rfl, _, rfl, ev, _, _, _, rfl, rfl, .of (p8.2.1 _ _ hev7), atI_get gXV, p8.put (.refl _) ?_ (by rw [List.length_map]; omega)⟩
        rw [sel, decide_eq_true c, if_pos rfl, List.map_append]
        rfl
      · refine ⟨false, dF (vne c), p8.skip (.refl _) ?_⟩
        rw [sel, decide_eq_false c, if_neg Bool.false_ne_true, List.append_nil]
    have hD8 : H8 D3 = some (.lst ((selA (fun X => decide (leftP ns X = leftP ns O)) ps (allR (runL ns))).map V.ref)) := by
      rw [p8.2.2]
      show some (HO.lst ((selA _ (ps.take ps.length) ((allR (runL ns)).take ps.length)).map V.ref)) = _
      rw [List.take_length, lps, List.take_length]
    have s8 := p8.2.1
    have hll8 := hll7.same s8
    have hsel := selA_lls (g := fun X => decide (leftP ns X = leftP ns O)) hll8
    obtain ⟨i, gi, ni⟩ := idx_any (x := O) (l := (allR (runL ns)).filter fun X => decide (leftP ns X = leftP ns O)) (List.mem_filter.mpr ⟨mO, decide_eq_true rfl⟩)
    have hO8 : H8 pO = some (.lst (O.map V.int)) := by
      obtain ⟨X, e1, e2⟩ := hll8.get gP
      rw [gO] at e1
      cases e1
      exact e2
    refine ⟨_, rfl, .inl ⟨rfl, _, .of hD8⟩, _, rfl, _, rfl, ev, _, _, _, rfl, rfl, .of (s8 _ _ hev7), atI_nat gPV, ?_⟩
    refine ⟨D3, _, dI O, _, i, dI O, rfl, rfl, .lst (.of hD8) hsel.dp, dp_ints (.of hO8), shapedL _, shaped_ints _, by rw [List.getElem?_map, gi]; rfl, (eqv_ints O O).trans (decide_eq_true rfl), fun m z' hm hz' => ?_, ?_⟩
    · rw [List.getElem?_map] at hz'
      cases e : ((allR (runL ns)).filter fun X => decide (leftP ns X = leftP ns O))[m]? with
      | none => rw [e] at hz'; cases hz'
      | some Y =>
        rw [e] at hz'
        cases hz'
        rw [eqv_ints]
        exact decide_eq_false fun c => ni m hm (by rw [e, c])
    -- nth_leaving
    obtain ⟨ff, hf⟩ := fate_left hh (pmO O mO)
    have ge := grp_eq hh (.refl _) lR5 hf
    rw [ge, List.getElem?_map] at gi
    have hic : i < cntL ns ff ∧ nthL (runL ns) i ff = O := by
      by_cases c : i < cntL ns ff
      · rw [List.getElem?_range c] at gi
        exact ⟨c, Option.some.inj gi⟩
      · rw [List.getElem?_eq_none (by rw [List.length_range]; omega)] at gi
        cases gi
    obtain ⟨hic, eO⟩ := hic
    obtain ⟨pN, S, pS, wS, rk⟩ := nthL_perm hh (.refl _) lR5 hf hic
    rw [eO] at pN pS rk
    refine ⟨_, rfl, _, rfl, _, rfl, D, _, _, _, rfl, rfl, .of (s8 _ _ hD7), atI_nat gL, _, rfl, a, ns, runL ns, _, ff, i, rfl, .of (s8 _ _ ha7), hh, hf, .refl _, wR, lR5, hic, fun H9 p9 s9 n9 hp9 => ?_⟩
    rw [eO] at hp9
    have s89 := s8.trans s9
    refine ⟨_, rfl, _, rfl, ev, _, _, _, rfl, rfl, .of (s89 _ _ hev7), atI_nat gPV, dI O, dI O, dp_ints (.of hp9), dp_ints (.of (s9 _ _ hO8)), shaped_ints _, shaped_ints _, false, neqF rfl, iteF ?_⟩
    refine ⟨_, rfl, _, rfl, _, rfl, ev, _, _, _, rfl, rfl, .of (s89 _ _ hev7), atI_nat gPV, a, pO, ns, O, S, rfl, .of (s89 _ _ ha7), .of (s9 _ _ hO8), hh, pmO O mO, by rw [pN.length_eq]; exact lR5, pS, wS wR, fun HA sA => ?_⟩
    refine ⟨_, rfl, rfl, ?_⟩
    show Q (V.bl (decide (V.int _ = V.int _))) HA
    rw [dT (congrArg V.int (by rw [rk]))]
    refine q _ ?_ ?_
    · exact (Bt.trans (.of s06) b7).trans (.of (s89.trans sA))
    · obtain ⟨x, y, hx, e⟩ := hb7
      exact ⟨x, y, (s89.trans sA) _ _ hx, e⟩
end
end L69
set_option Elab.async false
set_option linter.all false
set_option maxRecDepth 100000
namespace L69
open PySem PySem.Spec PyProof.Rows L2 Lp
section
variable {P : Program} {w : World} {K : PySem.W.Frag} {mg : Str → Option Value} {base : Heap}
theorem runP_run {ns : List Int} (hh : Hist ns) {k : Int} (hk : k ∈ runL ns) : (runP ns).2 k = (lk (runR ns).2 k).getD 0 := by
  obtain ⟨k1, k2, k3⟩ := runL_mem.mp hk
  rw [(runRP hh).2 k k1 k2]
  rfl
theorem ok_law_state {f : Addr} {fd : FuncData} (F : Fun K "_law_state" "_law_state" s_law_state f fd) (B : NoB mg) (T_law_play : Gc P w K mg base 1 "_law_play" (spPlay69 K)) : FnG P w K mg base CX0 2 f fd ["events"] (spStAfter K) := by
  refine okG F sc_law_state (fun vs H Q E h => ?_) (fun cdv A outer s H vs Q E hG hr h => ?_)
  · obtain ⟨a, ns, rfl, _⟩ := h
    rfl
  · obtain ⟨a, ns, rfl, hS, hh, q⟩ := h
    have hu := hu_of hr
    refine ⟨_, (pss_cons (ps_asg (pe_g T_law_play hG hr (by decide) (by rfl) (pa_cons (pv 0) pa_nil)) (pg_tup rfl (pgs_cons (pg_name (i := 1) sc_law_state.nd rfl (Or.inl rfl)) (pgs_cons (pg_name (i := 2) sc_law_state.nd rfl (Or.inr rfl)) (pgs_cons (pg_name (i := 3) sc_law_state.nd rfl (Or.inl rfl)) pgs_nil)))))
        (pss_one (ps_ret (pe_tup (pa_cons (pe_ix ix_list (pv 1) (pe_un un_neg pe_int) (fun _ _ => rfl)) (pa_cons (pe_lc (own := [("patch", 4)]) (g := gName 4) (tt := tYes) rfl sc_law_state.nd (pi_list (pe_callB cr_sortedI (by rfl) B.sorted (by decide +kernel) (pa_cons (pv 3) pa_nil))) (blkOk_by (own := [("patch", 4)]) (N := N_law_state) (sc := defScope s_law_state) (by decide +kernel)) (fun _ _ _ _ _ => (pg_name (i := 4) sc_law_state.nd rfl (Or.inl rfl))) (fun _ _ _ _ _ => pts_nil) (fun _ _ _ _ _ => (pe_tup (pa_cons (pv 4) (pa_cons (pe_dget hu (pv 2) (pv 4) (fun _ _ => rfl)) pa_nil))))) pa_nil)))))), ?_⟩
    refine ⟨_, rfl, a, ns, rfl, hS, hh, fun H1 t p d r kvs s1 ht hp hd hv hk hrr nr => ?_⟩
    refine ⟨t, _, rfl, .of ht, rfl, _, _, rfl, _, _, rfl, _, _, rfl, rfl, ?_⟩
    have hlast : atI (presL ns ns.length) (-1) = some (.int (runR ns).1) := by
      have e := presL_last ns ns.length
      rw [List.take_length, ← (runRP hh).1] at e
      exact e
    refine ⟨_, rfl, 1, rfl, p, _, -1, _, rfl, rfl, .of hp, hlast, ?_⟩
    refine ⟨_, rfl, r, runL ns, rfl, .of hrr, fun R so pm pw nso => ?_⟩
    have sso := same_new (o := .lst (R.map V.int)) nso
    have hr2 := upd_same (H := H1) (a := so) (o := .lst (R.map V.int))
    have hd2 := sso _ _ hd
    have sA := s1.trans sso
    generalize upd H1 so (.lst (R.map V.int)) = H2 at sA hr2 hd2 ⊢
    have Rlen : R.length ≤ 200 := by
      have e := pm.length_eq
      have := hh.len
      have := hl_len ns
      have e2 := congrArg List.length (runL_hl ns)
      rw [List.length_map] at e2
      omega
    refine ⟨so, rfl, ⟨_, .of hr2⟩, fun D nD => lc_list (xs := R.map V.int) (fun i H' => Same H2 H' ∧ ∃ ps : List (Addr × Int × Int), H' D = some (.lst (ps.map fun z => V.ref z.1)) ∧ ps.map (·.2) = (R.take i).map (fun y => (y, (lk (runR ns).2 y).getD 0)) ∧ ∀ z ∈ ps, z.1 ≠ D ∧ H' z.1 = some (.tup [.int z.2.1, .int z.2.2])) ⟨same_new nD, [], upd_same, rfl, fun z hz => nomatch hz⟩ (fun i H' _ p => .of (p.1 _ _ hr2)) (fun i y H' hy p => ?_) (fun H' p => ?_)⟩
    · obtain ⟨n, rfl, hn⟩ := get_int hy
      obtain ⟨sm, ps, hD, eps, hps⟩ := p
      have hi := lt_get hn
      have hm : n ∈ runL ns := pm.mem_iff.mp (mem_get hn)
      obtain ⟨m1, m2, _⟩ := runL_mem.mp hm
      have g := sv_get hv (sm _ _ hd2) m1 m2
      have l1 := congrArg List.length eps
      rw [List.length_map, List.length_map, List.length_take] at l1
      refine ⟨rfl, ?_⟩
      refine ⟨_, rfl, _, rfl, _, rfl, d, _, rfl, g, by show 2 ≤ sizeLine; decide, fun Tt nT => ?_⟩
      have e4 := same_new (o := .tup [.int n, .int ((runP ns).2 n)]) nT
      have nD0 : Tt ≠ D := fun z => by
        rw [z, hD] at nT
        cases nT
      refine ⟨ps.map fun z => V.ref z.1, e4 _ _ hD, by rw [List.length_map]; exact zl (by omega), Lp.Same.mut (sm.trans e4) nD, ps ++ [(Tt, n, (runP ns).2 n)], ?_, ?_, ?_⟩
      · rw [upd_same, List.map_append]
        rfl
      · rw [List.map_append, eps, take_get hn, List.map_append]
        show _ = _ ++ [(n, (lk (runR ns).2 n).getD 0)]
        rw [← runP_run hh hm]
        rfl
      · intro z hz
        rcases List.mem_append.mp hz with hz | hz
        · obtain ⟨q1, q2⟩ := hps z hz
          exact ⟨q1, by rw [upd_ne q1]; exact e4 _ _ q2⟩
        · rw [List.mem_singleton.mp hz]
          exact ⟨nD0, by rw [upd_ne nD0]; exact upd_same⟩
    · obtain ⟨sm, ps, hD, eps, hps⟩ := p
      rw [List.length_map, List.take_length] at eps
      refine ⟨by show 2 ≤ sizeLine; decide, fun t2 nt2 => ?_⟩
      have s6 := same_new (o := .tup [.int (runR ns).1, .ref D]) nt2
      have sB := sA.trans sm
      refine q _ t2 D ps (sB.trans s6) (sB.free nt2) (sA.free nD) ⟨upd_same, s6 _ _ hD, fun z hz => s6 _ _ (hps z hz).2⟩ ?_ ?_
      · rw [eps]
        have e2 : ((hl ns).map (·.1)).map (fun y => (y, (lk (runR ns).2 y).getD 0)) = hl ns := by
          rw [List.map_map]
          refine (List.map_congr_left fun z hz => ?_).trans (List.map_id _)
          show (z.1, (lk (runR ns).2 z.1).getD 0) = z
          rw [lk_mem (keysR_nd hh.nd) (List.mem_filter.mp hz).1]
          rfl
        have e3 := pm.map (fun y => (y, (lk (runR ns).2 y).getD 0))
        rw [← runL_hl, e2] at e3
        exact e3
      · rw [eps]
        exact List.pairwise_map.mpr pw
end
end L69
set_option Elab.async false
set_option linter.all false
set_option maxRecDepth 100000
namespace L69
open PySem PySem.Spec PyProof.Rows L2 Lp
section
variable {P : Program} {w : World} {K : PySem.W.Frag} {mg : Str → Option Value} {base : Heap}
def presN (ts : List (List Int)) (ns : List Int) (n : Nat) : List Int := (List.range n).map fun s : Nat => (runR (own ts s ns)).1
theorem presN_succ (ts : List (List Int)) (ns : List Int) (n : Nat) : presN ts ns (n + 1) = presN ts ns n ++ [(runR (own ts n ns)).1] := by
  unfold presN
  rw [List.range_succ, List.map_append]
  rfl
theorem ok_law_presents {f : Addr} {fd : FuncData} (F : Fun K "_law_presents" "_law_presents" s_law_presents f fd) (B : NoB mg) (T_law_play : Gc P w K mg base 1 "_law_play" (spPlay69 K)) : FnG P w K mg base CX0 2 f fd ["events", "touches"] (spPresB K) := by
  refine okG F sc_law_presents (fun vs H Q E h => ?_) (fun cdv A outer s H vs Q E hG hr h => ?_)
  · obtain ⟨a, t, ns, ts, rfl, _⟩ := h
    rfl
  · obtain ⟨a, t, ns, ts, rfl, hS, hh, ht, ok, q⟩ := h
    have hnl := hh.len
    refine ⟨_, (pss_cons (ps_set (i := 2) sc_law_presents.nd rfl (Or.inl rfl) (pe_lst pa_nil))
        (pss_cons (ps_for PassesOwn.never rfl (pi_range1 rfl B.range (pa_cons pe_int pa_nil)) (pg_name (i := 3) sc_law_presents.nd rfl (Or.inr rfl))
          (pss_cons (ps_setLc (i := 4) (own := [("event", 5)]) (g := gName 5) (tt := _) rfl sc_law_presents.nd rfl rfl (sw_true rfl rfl rfl (by decide +kernel)) (pi_list (pv 0)) (blkOk_by (own := [("event", 5)]) (N := N_law_presents) (sc := defScope s_law_presents) (by decide +kernel)) (fun _ _ _ _ _ => (pg_name (i := 5) sc_law_presents.nd rfl (Or.inl rfl))) (fun _ _ _ _ _ => (pts_one (pt_cmpR (k_in (K := K) rfl) (pv 3) (pe_ix (k_ix (K := K) rfl) (pv 1) (pe_op op_sub (pe_callB call_abs (by rfl) B.abs (by decide +kernel) (pa_cons (pv 5) pa_nil)) pe_int) (fun _ _ => rfl)) (by rfl)))) (fun _ _ _ _ _ => (pv 5)))
          (pss_one (ps_expr (pe_bm PySem.F.plainAttrs_list PySem.F.slot_list_append PySem.F.type_list_append mt_append (pv 2) (pa_cons (pe_ix ix_list (pe_ix ix_tup (pe_g T_law_play hG hr (by decide) (by rfl) (pa_cons (pv 4) pa_nil)) pe_int (fun _ _ => rfl)) (pe_un un_neg pe_int) (fun _ _ => rfl)) pa_nil))))))
        (pss_one (ps_ret (pv 2))))), ?_⟩
    refine ⟨by show 0 ≤ sizeLine; decide, fun fo nfo => ?_⟩
    have s1 := same_new (o := .lst []) nfo
    have hf1 := upd_same (H := H) (a := fo) (o := .lst [])
    generalize upd H fo (.lst []) = H1 at s1 hf1 ⊢
    refine ⟨10, rfl, by decide, by decide, for_range (lo := 0) (n := 10) (fun i σ H' => (∃ y3 y4, σ = [some (.ref a), some (.ref t), some (.ref fo), y3, y4, none]) ∧ Same H H' ∧ H' fo = some (.lst ((presN (tsL ts) ns i).map V.int))) ⟨⟨_, _, rfl⟩, s1, hf1⟩ (fun i σ H3 hi h => ?_) (fun σ H3 h => ?_)⟩
    · obtain ⟨⟨y3, y4, rfl⟩, sm, hf⟩ := h
      have ht3 := ht.same sm
      have e0 : (0 : Int) + (i : Int) = (i : Int) := by omega
      have ho := own_hist (ts := tsL ts) (s := (i : Int)) hh
      refine ⟨_, rfl, a, rfl, ⟨_, sm.seq hS⟩, fun D nD => lc_list (xs := ns.map V.int) (LcP H3 D fun j => ((ns.take j).filter fun e => tpI (tsL ts) i (if e < 0 then -e else e)).map V.int) (.init nD rfl) (fun j H4 _ p => (sm.trans p.2.1).seq hS) (fun j x H4 hx p => ?_) (fun H4 p => ?_)⟩
      · obtain ⟨e, rfl, he⟩ := get_int hx
        obtain ⟨b1, b2⟩ := ab_in hh ok (mem_get he)
        obtain ⟨z, hz, az, gz⟩ := ts_at b1 b2
        have htz := ht3.same p.2.1
        have fs := filt_succ (f := fun e => tpI (tsL ts) i (if e < 0 then -e else e)) he
        have fl := filt_len (ns := ns) (f := fun e => tpI (tsL ts) i (if e < 0 then -e else e)) j
        have li := lt_get he
        refine ⟨rfl, ?_⟩
        refine ⟨_, rfl, _, rfl, _, rfl, e, rfl, _, _, rfl, rfl, t, _, _, _, rfl, rfl, .of htz.h, az, z.1, _, rfl, .inl (.of (htz.q z hz)), rfl, flatI _, ?_⟩
        have et : tpI (tsL ts) i (if e < 0 then -e else e) = decide ((i : Int) ∈ z.2) := by
          unfold tpI
          rw [gz]
        rw [et] at fs
        by_cases hs : (i : Int) ∈ z.2
        · rw [decide_eq_true hs, if_pos rfl] at fs
          refine ⟨true, by rw [e0]; exact inT hs, _, rfl, p.put (.refl _) ?_ (by rw [List.length_map]; omega)⟩
          show ((ns.take (j + 1)).filter _).map V.int = _
          rw [fs, List.map_append]
          rfl
        · rw [decide_eq_false hs, if_neg (by decide), List.append_nil] at fs
          refine ⟨false, by rw [e0]; exact inF hs, p.skip (.refl _) ?_⟩
          show ((ns.take (j + 1)).filter _).map V.int = _
          rw [fs]
      have hD : H4 D = some (.lst ((own (tsL ts) i ns).map V.int)) := by
        have h := p.2.2
        rw [List.length_map] at h
        rw [h]
        show some (HO.lst (((ns.take ns.length).filter _).map V.int)) = _
        rw [List.take_length]
        rfl
      have s34 := p.2.1
      have hf4 := s34 _ _ hf
      refine ⟨_, rfl, .inl ⟨rfl, _, .of hf4⟩, _, rfl, D, own (tsL ts) i ns, rfl, .of hD, ho, fun H5 t5 p5 d5 r5 kvs5 s5 ht5 hp5 _ _ _ _ _ => ?_⟩
      have hlast : atI (presL (own (tsL ts) i ns) (own (tsL ts) i ns).length) (-1) = some (.int (runR (own (tsL ts) i ns)).1) := by
        rw [presL_last, List.take_length, (runRP ho).1]
      have hf5 := s5 _ _ hf4
      refine ⟨t5, _, 0, _, rfl, rfl, .of ht5, at0, ?_⟩
      refine ⟨_, rfl, p5, _, -1, _, rfl, rfl, .of hp5, hlast, fo, _, _, rfl, rfl, hf5, ?_, ⟨_, _, rfl⟩, Lp.Same.mut ((sm.trans s34).trans s5) nfo, ?_⟩
      · rw [List.length_map]
        unfold presN
        rw [List.length_map, List.length_range]
        exact zl (by omega)
      · rw [upd_same, presN_succ, List.map_append]
        rfl
    · obtain ⟨⟨y3, y4, rfl⟩, sm, hf⟩ := h
      exact ⟨_, rfl, q _ fo sm nfo hf⟩
end
end L69
set_option Elab.async false
set_option linter.all false
set_option maxRecDepth 100000
namespace L69
open PySem PySem.Spec PyProof.Rows L2 Lp
/-! ### orders that restore -/
theorem allG_in {R : List Int} : ∀ (n : Nat) (O : List Int), O.length = n → O.Nodup → (∀ x ∈ O, x ∈ R) → O ∈ allG R n
  | 0, O, h, _, _ => by
    rw [List.length_eq_zero_iff.mp h]
    exact List.mem_singleton.mpr rfl
  | n + 1, O, h, nd, sub => by
    have ne : O ≠ [] := fun z => by rw [z] at h; cases h
    obtain ⟨l, k, rfl⟩ : ∃ l k, O = l ++ [k] := ⟨O.dropLast, O.getLast ne, (List.dropLast_concat_getLast ne).symm⟩
    have hl : l.length = n := by rw [List.length_append] at h; exact Nat.succ.inj h
    obtain ⟨n1, _, n3⟩ := List.nodup_append.mp nd
    have ih := allG_in n l hl n1 fun x hx => sub x (List.mem_append_left _ hx)
    refine List.mem_flatMap.mpr ⟨l, ih, List.mem_map.mpr ⟨k, List.mem_filter.mpr ⟨sub k (List.mem_append_right _ (List.mem_singleton.mpr rfl)), ?_⟩, rfl⟩⟩
    exact decide_eq_true fun z => n3 k z k (List.mem_singleton.mpr rfl) rfl
theorem allR_in {R O : List Int} (nd : R.Nodup) (p : O.Perm R) : O ∈ allR R := allG_in _ O p.length_eq (p.nodup_iff.mpr nd) fun x hx => p.mem_iff.mp hx
theorem own_stops {ts : List (List Int)} {s : Int} {ns O : List Int} (pos : ∀ k ∈ O, 0 < k) : own ts s (ns ++ O.map fun k => -k) = own ts s ns ++ (O.filter fun k => tpI ts s k).map fun k => 0 - k := by
  unfold own
  rw [List.filter_append, List.filter_map]
  congr 1
  have e : (O.filter ((fun e => tpI ts s (if e < 0 then -e else e)) ∘ fun k => -k)) = O.filter fun k => tpI ts s k := List.filter_congr fun k hk => by
    have := pos k hk
    show tpI ts s (if -k < 0 then -(-k) else -k) = _
    rw [if_pos (by omega), Int.neg_neg]
  rw [e]
  exact List.map_congr_left fun k _ => (Int.zero_sub k).symm
theorem resB_iff {ts : List (List Int)} {ns O : List Int} (hh : Hist ns) (pm : O.Perm (runL ns)) : resB ts ns O = true ↔ Restores ts ns O := by
  have hm : ∀ k ∈ O, k ∈ ns ∧ 0 < k ∧ -k ∉ ns := fun k hk => runL_mem.mp (pm.mem_iff.mp hk)
  have hF : Hist (ns ++ O.map fun k => -k) := hist_stops hh (pm.nodup_iff.mpr (runL_nd hh.nd)) hm
  have e : ∀ s : Nat, (runR (own ts s (ns ++ O.map fun k => -k))).1 = (runP (own ts s ns ++ (O.filter fun k => tpI ts s k).map fun k => 0 - k)).1 := fun s => by
    rw [(runRP (own_hist hF)).1, own_stops fun k hk => (hm k hk).2.1]
  have z : ([0, 0, 0, 0, 0, 0, 0, 0, 0, 0] : List Int) = (List.range 10).map fun _ => 0 := rfl
  unfold resB
  rw [decide_eq_true_eq, z]
  unfold presB
  rw [List.map_inj_left]
  constructor
  · intro h s hs
    rw [← e]
    exact h s (List.mem_range.mpr hs)
  · intro h s hs
    rw [e]
    exact h s (List.mem_range.mp hs)
theorem res_lost {ts : List (List Int)} {ns O : List Int} (hh : Hist ns) (pm : O.Perm (runL ns)) (g : Restores ts ns O) : lostL ts ns 10 = [] := by
  unfold lostL
  rw [List.map_eq_nil_iff, List.filter_eq_nil_iff]
  intro s hs z
  obtain ⟨z1, z2⟩ := of_decide_eq_true z
  have gs := g s (List.mem_range.mp hs)
  have k0 : keysH ts s ns = [] := by unfold keysH; rw [z2]; rfl
  rw [restores_last hh pm, k0] at gs
  refine z1 ?_
  have e0 : (O.filter fun k => decide (k ∈ ([] : List Int))) = [] := List.filter_eq_nil_iff.mpr fun k _ c => nomatch (of_decide_eq_true c)
  rw [e0] at gs
  exact gs
theorem lost_no {ts : List (List Int)} {ns : List Int} {n : Nat} (h : lostL ts ns n = []) {s : Nat} (hs : s < n) : ¬((runR (own ts s ns)).1 ≠ 0 ∧ hl (own ts s ns) = []) := fun z => by
  have e := List.map_eq_nil_iff.mp h
  rw [List.filter_eq_nil_iff] at e
  exact e s (List.mem_range.mpr hs) (decide_eq_true z)
theorem OsE.res {ts : List (List Int)} {ns o : List Int} (hh : Hist ns) (h : OsE ts ns o []) (hl : lostL ts ns 10 = []) : o.Perm (runL ns) ∧ resB ts ns o = true := by
  have pm := h.os.pm
  rw [List.append_nil] at pm
  exact ⟨pm, (resB_iff hh pm).mpr fun s hs => (h.os.fin hh hs (lost_no hl hs)).2⟩
section
variable {P : Program} {w : World} {K : PySem.W.Frag} {mg : Str → Option Value} {base : Heap}
def RestR (ts : List (List Int)) (ns : List Int) (v : V) (H : Hp) : Prop := (v = .non ∧ ¬ (lostL ts ns 10 = [] ∧ ∃ o, OsE ts ns o [])) ∨ ∃ o order, v = .ref o ∧ H o = some (.lst (order.map V.int)) ∧ lostL ts ns 10 = [] ∧ OsE ts ns order []
def spRestT (K : PySem.W.Frag) : Sp := fun vs H Q _ => ∃ (a t : Addr) (ns : List Int) (ts : List (Addr × List Int)), vs = [.ref a, .ref t] ∧ SqL K H a (ns.map V.int) ∧ Hist ns ∧ Ts H t ts ∧ TsOk ts ns ∧
  ∀ H' v, Same H H' → RestR (tsL ts) ns v H' → Q v H'
theorem ok_restoring_order_T {f : Addr} {fd : FuncData} (F : Fun K "restoring_order" "restoring_order" s_restoring_order f fd) (T_obstacle : Gc P w K mg base 12 "obstacle" (spObs K)) (T_order_and_stuck : Gc P w K mg base 11 "_order_and_stuck" (spOS K)) :
    FnG P w K mg base CX0 13 f fd ["history", "touches"] (spRestT K) := by
  refine okG F sc_restoring_order (fun vs H Q E h => ?_) (fun cdv A outer s H vs Q E hG hr h => ?_)
  · obtain ⟨a, t, ns, ts, rfl, _⟩ := h
    rfl
  · obtain ⟨a, t, ns, ts, rfl, hS, hh, ht, ok, q⟩ := h
    refine ⟨_, (pss_cons (ps_if (pt_cmpR op_notN (pe_g T_obstacle hG hr (by decide) (by rfl) (pa_cons (pv 0) (pa_cons (pv 1) pa_nil))) pe_non (nomark _)) (pss_one (ps_ret pe_non)) pss_nil)
        (pss_cons (ps_asg (pe_g T_order_and_stuck hG hr (by decide) (by rfl) (pa_cons (pv 0) (pa_cons (pv 1) pa_nil))) (pg_tup rfl (pgs_cons (pg_name (i := 2) sc_restoring_order.nd rfl (Or.inl rfl)) (pgs_cons (pg_name (i := 3) sc_restoring_order.nd rfl (Or.inl rfl)) pgs_nil))))
        (pss_one (ps_ret (pv 2))))), ?_⟩
    refine ⟨_, rfl, _, rfl, a, t, ns, ts, rfl, hS, hh, ht, ok, fun H1 v s1 hv => ?_⟩
    by_cases h0 : v = .non
    · refine ⟨rfl, false, nF h0, ?_⟩
      obtain ⟨hc, o0, os0⟩ := hv.mp h0
      refine ⟨_, rfl, _, rfl, a, t, ns, ts, rfl, s1.seq hS, hh, ht.same s1, ok, fun H3 T o l order left s3 hT ho hl os => ?_⟩
      refine ⟨T, _, rfl, .of hT, rfl, _, _, rfl, _, _, rfl, rfl, ?_⟩
      have e := os0.uniq os
      subst e
      exact ⟨_, rfl, q _ _ (s1.trans s3) (.inr ⟨o, order, rfl, ho, hc, os⟩)⟩
    · exact ⟨rfl, true, nT h0, q _ _ s1 (.inl ⟨rfl, fun z => h0 (hv.mpr z)⟩)⟩
end
end L69
set_option Elab.async false
set_option linter.all false
set_option maxRecDepth 100000
namespace L69
open PySem PySem.Spec PyProof.Rows L2 Lp
section
variable {P : Program} {w : World} {K : PySem.W.Frag} {mg : Str → Option Value} {base : Heap}
theorem selA_nil {g : List Int → Bool} {ps : List Addr} {F : List (List Int)} (l : ps.length = F.length) (h : F.filter g = []) : selA g ps F = [] := by
  have := selA_len (g := g) l
  rw [h] at this
  exact List.length_eq_zero_iff.mp this
def spSetR (K : PySem.W.Frag) : Sp := fun vs H Q _ => ∃ (a t : Addr) (m : Nat) (ns : List Int) (ts : List (Addr × List Int)), vs = [.ref a, .ref t] ∧ H a = some (.lst (ns.map V.int)) ∧ Hist ns ∧ stL ns = upL m ∧ m ≤ 5 ∧ Ts H t ts ∧ TsOk ts ns ∧ ∀ H', Same H H' → Q (.bl true) H'
set_option maxHeartbeats 4000000 in
theorem ok_law_settings_right {f : Addr} {fd : FuncData} (F : Fun K "_law_settings_right" "_law_settings_right" s_law_settings_right f fd) (B : NoB mg) (T_law_play : Gc P w K mg base 1 "_law_play" (spPlay69 K)) (T_law_orders : Gc P w K mg base 1 "_law_orders" (spOrds K)) (T_law_presents : Gc P w K mg base 2 "_law_presents" (spPresB K)) (T_presents_by : Gc P w K mg base 10 "presents_by" (spPresB K)) (T_is_restoring : Gc P w K mg base 11 "is_restoring" (spResto K)) (T_restoring_order : Gc P w K mg base 13 "restoring_order" (spRestT K)) (T_obstacle : Gc P w K mg base 12 "obstacle" (spObsT K)) (T_is_obstacle : Gc P w K mg base 11 "is_obstacle" (spIsObsT K)) : FnG P w K mg base CX0 14 f fd ["events", "touches"] (spSetR K) := by
  refine okG F sc_law_settings_right (fun vs H Q E h => ?_) (fun cdv A outer s H vs Q E hG hr h => ?_)
  · obtain ⟨a, t, m, ns, ts, rfl, _⟩ := h
    rfl
  · obtain ⟨a, t, m, ns, ts, rfl, ha, hh, st, m5, ht, ok, q⟩ := h
    have hu64 := hr.units
    have hu65 := units65 hr
    have hnl := hh.len
    have wR := run_sorted st
    have lR5 : (runL ns).length ≤ 5 := Nat.le_trans (run_len st) m5
    have ndR := runL_nd hh.nd
    have lall := allR_len ndR lR5
    have f120 : facN (runL ns).length ≤ 120 := by
      have : ∀ k : Fin 6, facN k.val ≤ 120 := by decide +kernel
      exact this ⟨(runL ns).length, by omega⟩
    have pmO : ∀ O ∈ allR (runL ns), O.Perm (runL ns) := fun O hO => allR_perm ndR lR5 O hO
    have hcl : ∀ O ∈ allR (runL ns), Hist (ns ++ O.map fun k => -k) := fun O hO => hist_stops hh ((pmO O hO).nodup_iff.mpr ndR) fun k hk => runL_mem.mp ((pmO O hO).mem_iff.mp hk)
    have hln : ∀ O ∈ allR (runL ns), ns.length + O.length ≤ 200 := fun O hO => by
      have := (hcl O hO).len
      rw [List.length_append, List.length_map] at this
      exact this
    refine ⟨_, (pss_cons (ps_asg (pe_g T_law_play hG hr (by decide) (by rfl) (pa_cons (pv 0) pa_nil)) (pg_tup rfl (pgs_cons (pg_name (i := 2) sc_law_settings_right.nd rfl (Or.inl rfl)) (pgs_cons (pg_name (i := 3) sc_law_settings_right.nd rfl (Or.inl rfl)) (pgs_cons (pg_name (i := 4) sc_law_settings_right.nd rfl (Or.inl rfl)) pgs_nil)))))
        (pss_cons (ps_if (pt_cmpR (op_neD hu64) (pe_g T_presents_by hG hr (by decide) (by rfl) (pa_cons (pv 0) (pa_cons (pv 1) pa_nil))) (pe_g T_law_presents hG hr (by decide) (by rfl) (pa_cons (pv 0) (pa_cons (pv 1) pa_nil))) (nomark _)) (pss_one (ps_ret pe_bl)) pss_nil)
        (pss_cons (ps_set (i := 5) sc_law_settings_right.nd rfl (Or.inl rfl) (pe_lst pa_nil))
        (pss_cons (ps_for PassesOwn.never rfl (pi_list (pe_g T_law_orders hG hr (by decide) (by rfl) (pa_cons (pv 4) pa_nil))) (pg_name (i := 6) sc_law_settings_right.nd rfl (Or.inl rfl))
          (pss_cons (ps_set (i := 7) sc_law_settings_right.nd rfl (Or.inl rfl) (pe_op op_cat (pv 0) (pe_lc (own := [("patch", 11)]) (g := gName 11) (tt := tYes) rfl sc_law_settings_right.nd (pi_list (pv 6)) (blkOk_by (own := [("patch", 11)]) (N := N_law_settings_right) (sc := defScope s_law_settings_right) (by decide +kernel)) (fun _ _ _ _ _ => (pg_name (i := 11) sc_law_settings_right.nd rfl (Or.inl rfl))) (fun _ _ _ _ _ => pts_nil) (fun _ _ _ _ _ => (pe_un un_neg (pv 11))))))
          (pss_cons (ps_set (i := 8) sc_law_settings_right.nd rfl (Or.inl rfl) (pe_cmpR (op_eqD hu64) (pe_g T_law_presents hG hr (by decide) (by rfl) (pa_cons (pv 7) (pa_cons (pv 1) pa_nil))) (pe_op op_rep (pe_lst (pa_cons pe_int pa_nil)) pe_int) (nomark _)))
          (pss_cons (ps_if (pt_cmpR op_ne (pe_g T_is_restoring hG hr (by decide) (by rfl) (pa_cons (pv 0) (pa_cons (pv 1) (pa_cons (pv 6) pa_nil)))) (pv 8) (nomark _)) (pss_one (ps_ret pe_bl)) pss_nil)
          (pss_one (ps_if (pt_val (pv 8)) (pss_one (ps_expr (pe_bm PySem.F.plainAttrs_list PySem.F.slot_list_append PySem.F.type_list_append mt_append (pv 5) (pa_cons (pv 6) pa_nil)))) pss_nil))))))
        (pss_cons (ps_set (i := 9) sc_law_settings_right.nd rfl (Or.inl rfl) (pe_g T_restoring_order hG hr (by decide) (by rfl) (pa_cons (pv 0) (pa_cons (pv 1) pa_nil))))
        (pss_cons (ps_set (i := 10) sc_law_settings_right.nd rfl (Or.inl rfl) (pe_g T_obstacle hG hr (by decide) (by rfl) (pa_cons (pv 0) (pa_cons (pv 1) pa_nil))))
        (pss_cons (ps_if (pt_cmpR (op_neD hu64) (pv 5) (pe_lst pa_nil) (nomark _)) (pss_one (ps_ret (pe_and (pe_cmpR (op_inD hu65) (pv 9) (pv 5) (by rfl)) (pe_one (pe_cmpR op_isN (pv 10) pe_non (nomark _)))))) pss_nil)
        (pss_one (ps_ret (pe_and (pe_cmpR op_isN (pv 9) pe_non (nomark _)) (pe_and (pe_cmpR op_notN (pv 10) pe_non (nomark _)) (pe_one (pe_cmpR op_isBl (pe_g T_is_obstacle hG hr (by decide) (by rfl) (pa_cons (pv 0) (pa_cons (pv 1) (pa_cons (pv 10) pa_nil)))) pe_bl (nomark _)))))))))))))), ?_⟩
    refine ⟨_, rfl, a, ns, rfl, .of ha, hh, fun H1 t1 p d r kvs s1 ht1 hp hd hv hk hrr nr => ?_⟩
    refine ⟨t1, _, rfl, .of ht1, rfl, _, _, rfl, _, _, rfl, _, _, rfl, rfl, ?_⟩
    refine ⟨_, rfl, _, rfl, a, t, ns, ts, rfl, .of (s1 _ _ ha), hh, ht.same s1, ok, fun H2 r2 s2 nr2 hr2 => ?_⟩
    have s02 := s1.trans s2
    refine ⟨_, rfl, _, rfl, a, t, ns, ts, rfl, .of (s02 _ _ ha), hh, ht.same s02, ok, fun H3 r3 s3 nr3 hr3 => ?_⟩
    have s03 := s02.trans s3
    refine ⟨dI _, dI _, dp_ints (.of (s3 _ _ hr2)), dp_ints (.of hr3), shaped_ints _, shaped_ints _, false, neqF rfl, iteF ?_⟩
    refine ⟨by show 0 ≤ sizeLine; decide, fun go ngo => ?_⟩
    have sg := same_new (o := .lst []) ngo
    have hg4 := upd_same (H := H3) (a := go) (o := .lst [])
    have s04 := s03.trans sg
    have hr4 := (s2.trans (s3.trans sg)) _ _ hrr
    generalize upd H3 go (.lst []) = H4 at sg hg4 s04 hr4 ⊢
    refine ⟨_, rfl, r, runL ns, rfl, .of hr4, wR, lR5, fun H5 ev ps s5 nev hev hll hnn => ⟨ev, rfl, ⟨_, .of hev⟩, ?_⟩⟩
    have hg5 := s5 _ _ hg4
    have lps := hll.len
    have s05 := s04.trans s5
    have zg : H go = none := s03.free ngo
    have evg : ev ≠ go := fun z => by rw [z, hg4] at nev; cases nev
    have keepL : ∀ {H' : Hp}, Bt go H5 H' → LLs H' ps (allR (runL ns)) := fun b => by
      have go' : ∀ {ps : List Addr} {F : List (List Int)}, LLs H5 ps F → (∀ p ∈ ps, H4 p = none) → LLs _ ps F := fun h => by
        induction h with
        | nil => exact fun _ => .nil
        | cons e _ ih =>
          intro hn
          refine .cons (b _ _ (fun z => ?_) e) (ih fun p hp => hn p (List.mem_cons_of_mem _ hp))
          have := hn _ List.mem_cons_self
          rw [z, hg4] at this
          cases this
      exact go' hll hnn
    have sameB : ∀ {H' : Hp}, Bt go H5 H' → Same H H' := fun b x o e => b x o (ne_of_none e zg) (s05 _ _ e)
    refine for_list (xs := ps.map V.ref) (fun j σ H' => (∃ y6 y7 y8, σ = [some (.ref a), some (.ref t), some (.ref p), some (.ref d), some (.ref r), some (.ref go), y6, y7, y8, none, none, none]) ∧ Bt go H5 H' ∧ H' go = some (.lst ((selA (resB (tsL ts) ns) (ps.take j) ((allR (runL ns)).take j)).map V.ref))) ⟨⟨_, _, _, rfl⟩, .refl _ _, hg5⟩ (fun j σ H' _ h => .of (h.2.1 _ _ evg hev)) (fun j x σ H6 hx h => ?_) (fun σ H6 h => ?_)
    · obtain ⟨pO, rfl, hpO⟩ := get_refA hx
      obtain ⟨⟨y6, y7, y8, rfl⟩, b6, hg6⟩ := h
      obtain ⟨O, hO, hO6⟩ := (keepL b6).get hpO
      have mO := mem_get hO
      have ij := lt_get hO
      have s06 := sameB b6
      have pO1 := pmO O mO
      have hm : ∀ k ∈ O, k ∈ ns ∧ 0 < k ∧ -k ∉ ns := fun k hk => runL_mem.mp (pO1.mem_iff.mp hk)
      have okF : TsOk ts (ns ++ O.map fun k => -k) := ⟨ok.len, ok.set, fun e he h0 => by
        rcases List.mem_append.mp he with he | he
        · exact ok.cov e he h0
        · obtain ⟨k, hk, rfl⟩ := List.mem_map.mp he
          have := (hm k hk).2.1
          omega⟩
      refine ⟨_, rfl, _, rfl, _, rfl, ⟨_, .of hO6⟩, fun D nD => lc_list (xs := O.map V.int) (LcP H6 D fun k => ((O.take k).map fun k => -k).map V.int) (.init nD rfl) (fun k H' _ p => .of (p.2.1 _ _ hO6)) (fun k x H' hx p => ?_) (fun H7 p7 => ?_)⟩
      · obtain ⟨kk, rfl, hk⟩ := get_int hx
        refine ⟨rfl, ?_⟩
        refine ⟨_, rfl, kk, rfl, p.put (.refl _) ?_ (by rw [List.length_map, List.length_map, List.length_take]; have := hln O mO; omega)⟩
        rw [take_get hk, List.map_append, List.map_append]
        rfl
      have hD := p7.2.2
      have s7 := p7.2.1
      rw [List.length_map] at hD
      have hD : H7 D = some (.lst (((O.take O.length).map fun k => -k).map V.int)) := hD
      rw [List.take_length] at hD
      refine ⟨a, D, _, _, rfl, rfl, s7 _ _ (s06 _ _ ha), hD, by rw [List.length_map, List.length_map, List.length_map]; exact Nat.le_trans (hln O mO) (by decide), fun z nz => ?_⟩
      have s8 := same_new (o := .lst (ns.map V.int ++ (O.map fun k => -k).map V.int)) nz
      have hz : (upd H7 z (.lst (ns.map V.int ++ (O.map fun k => -k).map V.int))) z = some (.lst ((ns ++ O.map fun k => -k).map V.int)) := by rw [upd_same, List.map_append]
      have s78 := s7.trans s8
      generalize upd H7 z (.lst (ns.map V.int ++ (O.map fun k => -k).map V.int)) = H8 at s78 hz ⊢
      have s08 := s06.trans s78
      refine ⟨_, rfl, _, rfl, z, t, _, ts, rfl, .of hz, hcl O mO, ht.same s08, okF, fun H9 r9 s9 _ hr9 => ?_⟩
      refine ⟨by show 1 ≤ sizeLine; decide, fun q2 nq2 => ?_⟩
      have u2 := same_new (o := .lst [.int 0]) nq2
      refine ⟨q2, 10, _, rfl, rfl, upd_same, by decide, by decide, by decide, fun q3 nq3 => ?_⟩
      have u3 := same_new (o := .lst (List.replicate (10 : Int).toNat [V.int 0]).flatten) nq3
      have h3 : (upd (upd H9 q2 (.lst [.int 0])) q3 (.lst (List.replicate (10 : Int).toNat [V.int 0]).flatten)) q3 = some (.lst (([0, 0, 0, 0, 0, 0, 0, 0, 0, 0] : List Int).map V.int)) := upd_same
      refine ⟨dI _, dI [0, 0, 0, 0, 0, 0, 0, 0, 0, 0], dp_ints (.of (u3 _ _ (u2 _ _ hr9))), dp_ints (.of h3), shaped_ints _, shaped_ints _, ?_⟩
      rw [eqv_ints]
      have s6b := (s78.trans s9).trans (u2.trans u3)
      generalize upd (upd H9 q2 (.lst [.int 0])) q3 (.lst (List.replicate (10 : Int).toNat [V.int 0]).flatten) = HA at s6b ⊢
      have s0A := s06.trans s6b
      refine ⟨_, rfl, _, rfl, _, rfl, a, t, pO, ns, O, ts, rfl, s0A _ _ ha, hh, ht.same s0A, ok, s6b _ _ hO6, pO1, fun HB sB => ?_⟩
      refine ⟨_, rfl, rfl, false, nF rfl, iteF ?_⟩
      have s6B := s6b.trans sB
      have hgB := s6B _ _ hg6
      have lt : (ps.take j).length = ((allR (runL ns)).take j).length := by rw [List.length_take, List.length_take, lps]
      have sel := selA_app (g := resB (tsL ts) ns) (p := pO) (O := O) lt
      rw [← take_get hpO, ← take_get hO] at sel
      have lsel := selA_len (g := resB (tsL ts) ns) lt
      have lfl := List.length_filter_le (resB (tsL ts) ns) ((allR (runL ns)).take j)
      rw [List.length_take] at lfl
      have b6B : Bt go H5 HB := fun x o n e => s6B _ _ (b6 x o n e)
      cases c : resB (tsL ts) ns O with
      | true =>
        have c' : decide (presB (tsL ts) (ns ++ O.map fun k => -k) = [0, 0, 0, 0, 0, 0, 0, 0, 0, 0]) = true := c
        rw [c'] at *
        refine ⟨_, rfl, true, rfl, ?_⟩
        refine ⟨_, rfl, .inl ⟨rfl, _, .of hgB⟩, _, rfl, go, _, _, rfl, rfl, hgB, by rw [List.length_map]; exact zl (by omega), ⟨_, _, _, rfl⟩, fun x o n e => by rw [upd_ne n]; exact b6B x o n e, ?_⟩
        rw [upd_same, sel, c, if_pos rfl, List.map_append]
        rfl
      | false =>
        have c' : decide (presB (tsL ts) (ns ++ O.map fun k => -k) = [0, 0, 0, 0, 0, 0, 0, 0, 0, 0]) = false := c
        rw [c'] at *
        refine ⟨_, rfl, false, rfl, ⟨_, _, _, rfl⟩, b6B, ?_⟩
        rw [sel, c, if_neg Bool.false_ne_true, List.append_nil]
        exact hgB
    obtain ⟨⟨y6, y7, y8, rfl⟩, b6, hg6⟩ := h
    rw [List.length_map] at hg6
    have e1 : ps.take ps.length = ps := List.take_length
    have e2 : (allR (runL ns)).take ps.length = allR (runL ns) := by rw [lps, List.take_length]
    rw [e1, e2] at hg6
    have s06 := sameB b6
    have ll6 := selA_lls (g := resB (tsL ts) ns) (keepL b6)
    refine ⟨_, rfl, _, rfl, a, t, ns, ts, rfl, .of (s06 _ _ ha), hh, ht.same s06, ok, fun H7 fnd s7 hf => ?_⟩
    have s07 := s06.trans s7
    refine ⟨_, rfl, _, rfl, a, t, ns, ts, rfl, .of (s07 _ _ ha), hh, ht.same s07, ok, fun H8 wl s8 hw => ?_⟩
    have s08 := s07.trans s8
    have s68 := s7.trans s8
    refine ⟨_, rfl, by show 0 ≤ sizeLine; decide, fun e ne => ?_⟩
    have s9 := same_new (o := .lst []) ne
    have dG : Dp K (upd H8 e (.lst [])) (.ref go) (dL ((allR (runL ns)).filter (resB (tsL ts) ns))) := .lst (.of (s9 _ _ (s68 _ _ hg6))) (ll6.same (s68.trans s9)).dp
    have dZ : Dp K (upd H8 e (.lst [])) (.ref e) (dI []) := dp_ints (ns := []) (.of upd_same)
    have s89 := s9
    have he9 := upd_same (H := H8) (a := e) (o := .lst [])
    generalize upd H8 e (.lst []) = H9 at s89 dG dZ he9 ⊢
    have s09 := s08.trans s89
    by_cases c : (allR (runL ns)).filter (resB (tsL ts) ns) = []
    · refine ⟨_, dI [], dG, dZ, shapedL _, shaped_ints _, false, by rw [c]; rfl, iteF ?_⟩
      have no : ∀ o, OsE (tsL ts) ns o [] → lostL (tsL ts) ns 10 = [] → False := fun o os hl => by
        obtain ⟨pm, rb⟩ := os.res hh hl
        have : o ∈ (allR (runL ns)).filter (resB (tsL ts) ns) := List.mem_filter.mpr ⟨allR_in ndR pm, rb⟩
        rw [c] at this
        cases this
      rcases hf with ⟨rfl, _⟩ | ⟨o, order, rfl, ho, hl, os⟩
      · have hwn : wl ≠ .non := fun z => by
          rcases hw with ⟨_, hl, o, os⟩ | ⟨T, x, e, _⟩ | ⟨T, l, left, o, e, _⟩
          · exact no o os hl
          · rw [e] at z; cases z
          · rw [e] at z; cases z
        have hw9 : ObsR (tsL ts) ns wl H9 := by
          rcases hw with ⟨z, _⟩ | ⟨T, x, e, hT, hx⟩ | ⟨T, l, left, o, e, hT, hl, r⟩
          · exact absurd z hwn
          · exact .inr (.inl ⟨T, x, e, s89 _ _ hT, hx⟩)
          · exact .inr (.inr ⟨T, l, left, o, e, s89 _ _ hT, s89 _ _ hl, r⟩)
        refine ⟨_, rfl, rfl, true, dT rfl, ?_⟩
        refine ⟨_, rfl, rfl, true, nT hwn, ?_⟩
        refine ⟨_, rfl, _, rfl, _, rfl, a, t, wl, ns, ts, rfl, .of (s09 _ _ ha), hh, ht.same s09, ok, lR5, hw9, hwn, fun HA sA => ?_⟩
        exact ⟨true, true, rfl, rfl, q _ (s09.trans sA)⟩
      · exact (no order os hl).elim
    · obtain ⟨O, hO⟩ := List.exists_mem_of_ne_nil _ c
      obtain ⟨O1, O2⟩ := List.mem_filter.mp hO
      have g := (resB_iff hh (pmO O O1)).mp O2
      have hl0 := res_lost hh (pmO O O1) g
      obtain ⟨x0, xs0, ex⟩ : ∃ x xs, (allR (runL ns)).filter (resB (tsL ts) ns) = x :: xs := by
        cases e : (allR (runL ns)).filter (resB (tsL ts) ns) with
        | nil => exact absurd e c
        | cons x xs => exact ⟨x, xs, rfl⟩
      refine ⟨_, dI [], dG, dZ, shapedL _, shaped_ints _, true, by rw [ex]; rfl, iteT ?_⟩
      rcases hw with ⟨rfl, hl, o, os⟩ | ⟨T, x, rfl, hT, hx⟩ | ⟨T, l, left, o, rfl, hT, hl, ne, _, os⟩
      · rcases hf with ⟨rfl, z⟩ | ⟨o', order, rfl, ho, hl, os'⟩
        · exact absurd ⟨hl, o, os⟩ z
        · obtain ⟨pm, rb⟩ := os'.res hh hl
          have mo : order ∈ (allR (runL ns)).filter (resB (tsL ts) ns) := List.mem_filter.mpr ⟨allR_in ndR pm, rb⟩
          refine ⟨_, rfl, _, rfl, dI order, _, dp_ints (.of (s89 _ _ (s8 _ _ ho))), dG, shaped_ints _, shapedL _, ?_⟩
          have ea : ((((allR (runL ns)).filter (resB (tsL ts) ns)).map dI).any fun z => PyData.eqv z (dI order)) = true := List.any_eq_true.mpr ⟨dI order, List.mem_map.mpr ⟨order, mo, rfl⟩, by rw [eqv_ints]; exact decide_eq_true rfl⟩
          rw [ea]
          exact ⟨true, rfl, _, rfl, rfl, q _ s09⟩
      · rw [hl0] at hx
        cases hx
      · exact absurd (os_complete hh os (pmO O O1) g).1 ne
end
end L69
set_option Elab.async false
set_option linter.all false
set_option maxRecDepth 100000
namespace L69
open PySem PySem.Spec PyProof.Rows L2 Lp
theorem behL_00 {t : List Int} (h : Piece t) : behL 0 [] t = ((runR t).1, hl t) := by
  have := stt_append (a := []) (t := t) h h
  exact this.symm
theorem fits_00 {t : List Int} (hh : Hist t) : Fits 0 [] t := by
  refine ⟨fun k _ _ z => (by cases z), fun k _ h0 z => ?_, fun k hk => ?_⟩
  · rcases List.mem_cons.mp z with z | z
    · omega
    · cases z
  · obtain ⟨a, b, c⟩ := gn_mem.mp hk
    have := ord_mem hh.ord b (by omega)
    rw [Int.neg_neg] at this
    exact absurd this c
theorem st_00 : St 0 [] := ⟨by decide, (fun z h => by cases h), List.Pairwise.nil, by decide⟩
theorem stL_eq {S S' L : List (Int × Int)} (nd : (L.map (·.1)).Nodup) (p : S.Perm L) (w : S.Pairwise fun x y => x.1 ≤ y.1) (p' : S'.Perm L) (w' : S'.Pairwise fun x y => x.1 ≤ y.1) : S = S' :=
  pairs_uniq (p.trans p'.symm) ((p'.map (·.1)).nodup_iff.mpr nd) w w'
theorem hl_val {ns : List Int} (hh : Hist ns) {z : Int × Int} (h : z ∈ hl ns) : z.1 ∈ ns ∧ 0 < z.1 ∧ -z.1 ∉ ns ∧ z.2 = (runP ns).2 z.1 := by
  obtain ⟨a, b, c⟩ := hl_mem h
  refine ⟨a, b, c, ?_⟩
  have e := lk_mem (keysR_nd hh.nd) (List.mem_filter.mp h).1
  rw [(runRP hh).2 z.1 a b] at e
  exact (Option.some.inj e).symm
def ftD : Ft → PyData
  | .pres => .tuple [.str "present"]
  | .saved k => .tuple [.str "saved", .int k]
  | .lost i => .tuple [.str "lost", .int (i : Nat)]
theorem dp_ft {K : PySem.W.Frag} {H : Hp} {t : Addr} : ∀ {f : Ft}, H t = some (.tup (tupV f)) → Dp K H (.ref t) (ftD f)
  | .pres, h => .tup (.of h) (.cons (.str _) .nil)
  | .saved k, h => .tup (.of h) (.cons (.str _) (.cons (.int _) .nil))
  | .lost i, h => .tup (.of h) (.cons (.str _) (.cons (.int _) .nil))
theorem shaped_sv (k : Int) : SeqAt.shaped (ftD (.saved k)) = true := by
  simp [SeqAt.shaped, ftD, PyData.canLay0, PyData.canLayAll0, PyData.depth, PyData.depthAll]
  decide +kernel
theorem ne_ft (k : Int) : V.bl (!PyData.eqv (ftD (.saved k)) (ftD (.saved k))) = V.bl false := by
  show V.bl (!((("saved" : Str) == "saved") && ((k == k) && true))) = _
  rw [beq_self_eq_true, beq_self_eq_true]
  rfl
theorem ne_st {p p' : Int} {S S' : List (Int × Int)} (e : p = p') (f : S = S') : V.bl (!PyData.eqv (dSt p S) (dSt p' S')) = V.bl false := by
  subst e f
  rw [eqv_st]
  rfl
structure TxO (K : PySem.W.Frag) (CE : Addr) : Prop where
  nf : PySem.W.notFirst K CE (.ref CE) = true
  sf : PySem.W.selfFirst K CE = true
  ne : PySem.W.findIn K (.ref CE) "__ne__" = some (some (.builtin "object.__ne__"))
  ob : PySem.W.subIn K (.ref CE) (.type "object") = some true
theorem EffX.un {CE : Addr} {H : Hp} {x : Addr} {ns : List Int} (h : EffX CE H x ns) : ∃ dx a1 a3 a4 a5 ps G E, Eff CE H x dx a1 a3 a4 a5 ns ps G E := h
section
variable {P : Program} {w : World} {K : PySem.W.Frag} {mg : Str → Option Value} {base : Heap} {CE : Addr}
theorem mem_parted {ns : List Int} (hh : Hist ns) (c : Nat) {e : Int} (he : e ∈ ns.drop c) (h0 : e < 0) : -e ∈ ns.take c ↔ -e ∉ ns.drop c := by
  have nd := hh.nd
  rw [← List.take_append_drop c ns] at nd
  obtain ⟨_, _, n3⟩ := List.nodup_append.mp nd
  constructor
  · exact fun a b => n3 _ a _ b rfl
  · intro b
    obtain ⟨i, hi, ei⟩ := List.mem_iff_getElem.mp (List.mem_of_mem_drop he)
    have h := hh.ord i e (by rw [List.getElem?_eq_getElem hi, ei]) h0
    have h : -e ∈ ns := List.mem_of_mem_take h
    rw [← List.take_append_drop c ns] at h
    exact (List.mem_append.mp h).resolve_right b
theorem filt_map_succ {l : List Int} {f : Int → Bool} {j : Nat} {e : Int} (h : l[j]? = some e) : ((l.take (j + 1)).filter f).map (fun e => -e) = ((l.take j).filter f).map (fun e => -e) ++ if f e = true then [-e] else [] := by
  rw [take_get h, List.filter_append, List.map_append, List.filter_cons]
  split <;> rfl
def spEffR : Sp := fun vs H Q _ => ∃ (a : Addr) (c : Nat) (ns : List Int), vs = [.ref a, .int (c : Int)] ∧ H a = some (.lst (ns.map V.int)) ∧ Hist ns ∧ c ≤ ns.length ∧ ∀ H', Same H H' → Q (.bl true) H'
set_option maxHeartbeats 4000000 in
theorem ok_law_effects_right {f : Addr} {fd : FuncData} (F : Fun K "_law_effects_right" "_law_effects_right" s_law_effects_right f fd) (B : NoB mg) (TO : TxO K CE) (T : Txt K CE) (T_fi_Effect : ∀ f, PySem.W.findIn K (.ref CE) "__call__" = some (some (.ref f)) → PySem.W.fnIn K f = true)
    (T_state_after : Cal P w K mg base 8 "state_after" (spStAfter K)) (T_law_state : Gc P w K mg base 2 "_law_state" (spStAfter K))
    (T_mk_Effect : Mak P w K mg base 6 "Effect" CE (spInit CE)) (T_Effect_call : Met P w K mg base 5 CE "__call__" (spCallE CE)) (T_Effect_add : Met P w K mg base 8 CE "__add__" (spAdd CE)) (T_Effect_eq : Met P w K mg base 1 CE "__eq__" (spEqE CE)) (T_Effect_len : Met P w K mg base 1 CE "__len__" (spLenE CE)) (T_Effect_contains : Met P w K mg base 2 CE "__contains__" (spCon K CE)) (T_Effect_stopped : Prp P w K mg base 1 CE "stopped" (spStopped CE)) (T_Effect_ended : Prp P w K mg base 1 CE "ended" (spEnded CE)) :
    FnG P w K mg base CX0 9 f fd ["events", "cut"] spEffR := by
  have T_nf_Effect := TO.nf
  have T_sf_Effect := TO.sf
  have T_ne_Effect := TO.ne
  have T_ob_Effect := TO.ob
  have T_mk_Effect := mak_weaken T_mk_Effect init_n
  refine okG F sc_law_effects_right (fun vs H Q E h => ?_) (fun cdv A outer s H vs Q E hG hr h => ?_)
  · obtain ⟨a, c, ns, rfl, _⟩ := h
    rfl
  · obtain ⟨a, c, ns, rfl, ha, hh, hc, q⟩ := h
    have hu := hu_of hr
    have hu64 := hr.units
    have hnl := hh.len
    have hS : ∀ {H'}, Same H H' → SqL K H' a (ns.map V.int) := fun s => .of (s _ _ ha)
    have hp := hh.piece
    have ndl := hl_nd hh.nd
    have pd : Piece (ns.drop c) := Piece.right (a := ns.take c) (by rw [List.take_append_drop]; exact hp)
    have pt : Piece (ns.take c) := Piece.left (b := ns.drop c) (by rw [List.take_append_drop]; exact hp)
    have ht := hh.take c
    have ec : cutV (ns.map V.int) none (some (c : Int)) = (ns.take c).map V.int := by rw [cut_take _ _ (by rw [List.length_map]; exact hc), List.map_take]
    have ed := cut_dropN hc
    have hv : Hist (ns.take c ++ ns.drop c) := by rw [List.take_append_drop]; exact hh
    refine ⟨_, (pss_cons (ps_par (i := 2) (j := 3) (by rfl) sc_law_effects_right.nd rfl rfl (by decide) rfl rfl (pa_cons (pe_mk T_mk_Effect hr (by decide) (by rfl) (pa_cons (pe_slice sl_list (pv 0) po_none (po_some (pv 1))) pa_nil)) (pa_cons (pe_mk T_mk_Effect hr (by decide) (by rfl) (pa_cons (pe_slice sl_list (pv 0) (po_some (pv 1)) po_none) pa_nil)) pa_nil)) (by rfl))
        (pss_cons (ps_if (PW.pt (pw_or (pt_cmpR (op_neD hu64) (pe_c T_state_after hr (by decide) (by rfl) (pa_cons (pv 0) pa_nil)) (pe_g T_law_state hG hr (by decide) (by rfl) (pa_cons (pv 0) pa_nil)) (nomark _)) (pw_or1 (pt_cmpR (op_neD hu64) (pe_callE T_Effect_call T_fi_Effect hr (by decide) (pv 2) (pa_cons (pe_g T_law_state hG hr (by decide) (by rfl) (pa_cons (pe_lst pa_nil) pa_nil)) pa_nil)) (pe_g T_law_state hG hr (by decide) (by rfl) (pa_cons (pe_slice sl_list (pv 0) po_none (po_some (pv 1))) pa_nil)) (nomark _))))) (pss_one (ps_ret pe_bl)) pss_nil)
        (pss_cons (ps_if (pt_cmpR (op_neD hu64) (pe_callE T_Effect_call T_fi_Effect hr (by decide) (pv 3) (pa_cons (pe_g T_law_state hG hr (by decide) (by rfl) (pa_cons (pe_slice sl_list (pv 0) po_none (po_some (pv 1))) pa_nil)) pa_nil)) (pe_g T_law_state hG hr (by decide) (by rfl) (pa_cons (pv 0) pa_nil)) (nomark _)) (pss_one (ps_ret pe_bl)) pss_nil)
        (pss_cons (ps_if (PW.pt (pw_or (pt_cmpR (op_neO T_Effect_eq hr (by decide) T_nf_Effect T_ne_Effect T_ob_Effect) (pe_op (op_addO T_Effect_add hr (by decide) T_sf_Effect) (pv 2) (pv 3)) (pe_mk T_mk_Effect hr (by decide) (by rfl) (pa_cons (pv 0) pa_nil)) (nomark _)) (pw_or1 (pt_cmpR op_ne (pe_callB (call_lenO T_Effect_len hr (by decide)) (by rfl) B.len PySem.boot_len (pa_cons (pv 3) pa_nil)) (pe_op op_sub (pe_callB call_len_seq (by rfl) B.len PySem.boot_len (pa_cons (pv 0) pa_nil)) (pv 1)) (nomark _))))) (pss_one (ps_ret pe_bl)) pss_nil)
        (pss_cons (ps_setLc (i := 4) (own := [("event", 7)]) (g := gName 7) (tt := _) rfl sc_law_effects_right.nd rfl rfl (sw_true rfl rfl rfl (by decide +kernel)) (pi_list (pe_slice sl_list (pv 0) (po_some (pv 1)) po_none)) (blkOk_by (own := [("event", 7)]) (N := N_law_effects_right) (sc := defScope s_law_effects_right) (by decide +kernel)) (fun _ _ _ _ _ => (pg_name (i := 7) sc_law_effects_right.nd rfl (Or.inl rfl))) (fun _ _ _ _ _ => (pts_one (PW.pt (pw_and (pt_cmpR op_lt (pv 7) pe_int (nomark _)) (pw_and1 (pt_cmpR (k_in (K := K) rfl) (pe_un un_neg (pv 7)) (pe_slice (k_sl (K := K) rfl) (pv 0) po_none (po_some (pv 1))) (by rfl))))))) (fun _ _ _ _ _ => (pe_un un_neg (pv 7))))
        (pss_cons (ps_setLc (i := 5) (own := [("event", 7)]) (g := gName 7) (tt := _) rfl sc_law_effects_right.nd rfl rfl (sw_true rfl rfl rfl (by decide +kernel)) (pi_list (pe_slice sl_list (pv 0) (po_some (pv 1)) po_none)) (blkOk_by (own := [("event", 7)]) (N := N_law_effects_right) (sc := defScope s_law_effects_right) (by decide +kernel)) (fun _ _ _ _ _ => (pg_name (i := 7) sc_law_effects_right.nd rfl (Or.inl rfl))) (fun _ _ _ _ _ => (pts_one (PW.pt (pw_and (pt_cmpR op_lt (pv 7) pe_int (nomark _)) (pw_and1 (pt_cmpR (k_in (K := K) rfl) (pe_un un_neg (pv 7)) (pe_slice (k_sl (K := K) rfl) (pv 0) (po_some (pv 1)) po_none) (by rfl))))))) (fun _ _ _ _ _ => (pe_un un_neg (pv 7))))
        (pss_cons (ps_if (PW.pt (pw_or (pt_cmpR (op_neD hu64) (pe_pr T_Effect_stopped hr (by decide) (pv 3)) (pe_callB cr_sortedI (by rfl) B.sorted (by decide +kernel) (pa_cons (pv 4) pa_nil)) (nomark _)) (pw_or1 (pt_cmpR (op_neD hu64) (pe_pr T_Effect_ended hr (by decide) (pv 3)) (pe_callB cr_sortedI (by rfl) B.sorted (by decide +kernel) (pa_cons (pv 5) pa_nil)) (nomark _))))) (pss_one (ps_ret pe_bl)) pss_nil)
        (pss_cons (ps_for PassesOwn.never rfl (pi_range2 rfl B.range (pa_cons pe_int (pa_cons pe_int pa_nil))) (pg_name (i := 6) sc_law_effects_right.nd rfl (Or.inl rfl))
          (pss_one (ps_if (pt_cmpR op_ne (pe_cmp (pc_inO T_Effect_contains hr (by decide) (pv 6) (pv 3)) rfl) (pe_or (pe_cmpR op_in_seq (pv 6) (pe_slice sl_list (pv 0) (po_some (pv 1)) po_none) (by rfl)) (pe_one (pe_cmpR op_in_seq (pe_un un_neg (pv 6)) (pe_slice sl_list (pv 0) (po_some (pv 1)) po_none) (by rfl)))) (nomark _)) (pss_one (ps_ret pe_bl)) pss_nil)))
        (pss_one (ps_ret pe_bl)))))))))), ?_⟩
    -- one, two
    refine ⟨_, rfl, _, rfl, _, rfl, a, _, rfl, hS (.refl _), fun d0 nd0 => ?_⟩
    rw [ec]
    have sd0 := same_new (o := .lst ((ns.take c).map V.int)) nd0
    refine fun x dx nx ndx nex => ⟨x, dx, d0, ns.take c, rfl, up2 nx ndx upd_same, pt, upd_same, fun H1 bt1 hxN => ⟨rfl, ?_⟩⟩
    have s1 := sd0.trans (same2 nx ndx bt1)
    have ex1 := (hxN d0 _ (up2 nx ndx upd_same)).toX
    refine ⟨_, rfl, _, rfl, _, rfl, a, _, rfl, hS s1, fun d1 nd1 => ?_⟩
    rw [ed]
    have sd1 := same_new (o := .lst ((ns.drop c).map V.int)) nd1
    refine fun x2 dx2 nx2 ndx2 nex2 => ⟨x2, dx2, d1, ns.drop c, rfl, up2 nx2 ndx2 upd_same, pd, upd_same, fun H2 bt2 hxN2 => ⟨rfl, ⟨_, _, rfl, ?_⟩⟩⟩
    have s12 := sd1.trans (same2 nx2 ndx2 bt2)
    have ey2 := (hxN2 d1 _ (up2 nx2 ndx2 upd_same)).toX
    have ex2 := ex1.same s12
    have s02 := s1.trans s12
    -- state_after
    refine ⟨_, rfl, a, ns, rfl, hS s02, hh, fun H3 t3 l3 ps3 s3 _ _ so3 pm3 pw3 => ?_⟩
    have s03 := s02.trans s3
    refine ⟨_, rfl, a, ns, rfl, hS s03, hh, fun H4 t4 l4 ps4 s4 _ _ so4 pm4 pw4 => ?_⟩
    refine ⟨dSt _ _, dSt _ _, (so3.same s4).dp, so4.dp, shaped_dSt _ _, shaped_dSt _ _, false, ne_st rfl (stL_eq ndl pm3 pw3 pm4 pw4), ?_⟩
    have s24 := s3.trans s4
    have s04 := s02.trans s24
    -- one(_law_state([]))
    refine ⟨_, rfl, x, rfl, by show 0 ≤ sizeLine; decide, fun l0 nl0 => ?_⟩
    have s5 := same_new (o := .lst []) nl0
    refine ⟨l0, [], rfl, .of upd_same, by have := hh.take 0; exact this, fun H6 t6 l6 ps6 s6 _ _ so6 pm6 pw6 => ?_⟩
    have e6 : ps6 = [] := by
      have := pm6.length_eq
      rw [List.length_map] at this
      exact List.length_eq_zero_iff.mp this
    subst e6
    have s46 := s5.trans s6
    have s26 := s24.trans s46
    have s06 := s02.trans s26
    obtain ⟨dx', a1, a3, a4, a5, psx, G, Ex, he⟩ := ex2.same s26
    have so0 : StO H6 t6 l6 0 [] := so6
    refine ⟨dx', _, he.hx, x, dx', a1, a3, a4, a5, t6, l6, 0, ns.take c, G, Ex, psx, [], rfl, he, so0, st_00, fits_00 ht, fun H7 t7 l7 rs7 s7 _ _ so7 pm7 pw7 => ?_⟩
    have eb : behL 0 (([] : List (Addr × Int × Int)).map (·.2)) (ns.take c) = ((runR (ns.take c)).1, hl (ns.take c)) := behL_00 pt
    rw [eb] at so7 pm7
    have s07 := s06.trans s7
    refine ⟨_, rfl, _, rfl, _, rfl, a, _, rfl, hS s07, fun d8 nd8 => ?_⟩
    rw [ec]
    have s8 := same_new (o := .lst ((ns.take c).map V.int)) nd8
    refine ⟨d8, ns.take c, rfl, .of upd_same, ht, fun H9 t9 l9 ps9 s9 _ _ so9 pm9 pw9 => ?_⟩
    have s79 := s8.trans s9
    refine ⟨dSt _ _, dSt _ _, (so7.same s79).dp, so9.dp, shaped_dSt _ _, shaped_dSt _ _, false, ne_st rfl (stL_eq (hl_nd ht.nd) pm7 pw7 pm9 pw9), iteF ?_⟩
    have s09 := s07.trans s79
    have s29 := s26.trans (s7.trans s79)
    -- two(_law_state(events[:cut]))
    refine ⟨_, rfl, x2, rfl, _, rfl, _, rfl, _, rfl, a, _, rfl, hS s09, fun dA ndA => ?_⟩
    rw [ec]
    have sA := same_new (o := .lst ((ns.take c).map V.int)) ndA
    refine ⟨dA, ns.take c, rfl, .of upd_same, ht, fun HB tB lB psB sB _ _ soB pmB pwB => ?_⟩
    have s9B := sA.trans sB
    have s2B := s29.trans s9B
    have s0B := s09.trans s9B
    have stB := hist_st ht pmB pwB
    have ftB := hist_fits (us := ns.take c) (vs := ns.drop c) ht hv pmB
    obtain ⟨b0, b1, b3, b4, b5, psx2, G2, E2, he2⟩ := ey2.same s2B
    refine ⟨b0, _, he2.hx, x2, b0, b1, b3, b4, b5, tB, lB, (runR (ns.take c)).1, ns.drop c, G2, E2, psx2, psB, rfl, he2, soB, stB, ftB, fun HC tC lC rsC sC _ _ soC pmC pwC => ?_⟩
    have nd9 : ((psB.map (·.2)).map (·.1)).Nodup := (pmB.map (·.1)).nodup_iff.mpr (hl_nd ht.nd)
    obtain ⟨f1, f2⟩ := behL_perm pmB nd9 (runR (ns.take c)).1 (ns.drop c)
    have ea := stt_append (a := ns.take c) (t := ns.drop c) (by rw [List.take_append_drop]; exact hp) pd
    rw [List.take_append_drop] at ea
    rw [← ea] at f1 f2
    have s0C := s0B.trans sC
    refine ⟨_, rfl, a, ns, rfl, hS s0C, hh, fun HD tD lD psD sD _ _ soD pmD pwD => ?_⟩
    refine ⟨dSt _ _, dSt _ _, (soC.same sD).dp, soD.dp, shaped_dSt _ _, shaped_dSt _ _, false, ne_st f1 (stL_eq ndl (pmC.trans f2) pwC pmD pwD), iteF ?_⟩
    have s2D := s2B.trans (sC.trans sD)
    have s0D := s0C.trans sD
    -- one + two
    refine ⟨_, rfl, _, rfl, addE (ex2.same s2D) (ey2.same s2D) (by rw [List.take_append_drop]; exact hp) fun HE z sE ez => ?_⟩
    rw [List.take_append_drop] at ez
    have s0E := s0D.trans sE
    refine ⟨_, rfl, fun y dy ny ndy ney => ⟨y, dy, a, ns, rfl, up2 ny ndy (s0E _ _ ha), hp, upd_same, fun HF btF hyN => ⟨rfl, ?_⟩⟩⟩
    have sF := same2 ny ndy btF
    have ew := (hyN a _ (up2 ny ndy (s0E _ _ ha))).toX
    refine neE (ez.same sF) ew ⟨false, by rw [decide_eq_true (EqE.refl ns)]; rfl, ?_⟩
    have s2F := s2D.trans (sE.trans sF)
    have s0F := s0E.trans sF
    obtain ⟨dz, a1, a3, a4, a5, psz, G, Ez, he⟩ := ey2.same s2F
    have ldr : (ns.drop c).length = ns.length - c := List.length_drop ..
    refine ⟨_, rfl, x2, dz, _, rfl, he.hx, x2, dz, a1, a3, a4, a5, (runR (ns.drop c)).1, (ns.drop c).map V.int, rfl, he.hx, he.h1, _, rfl, by omega, by rw [List.length_map]; omega, ?_⟩
    refine ⟨_, rfl, a, _, rfl, .inl (hS s0F), _, rfl, _, _, rfl, rfl, rfl, false, nF (congrArg V.int (by rw [List.length_map, List.length_map]; omega)), iteF ?_⟩
    -- ahead
    refine ⟨_, rfl, _, rfl, _, rfl, a, _, rfl, hS s0F, fun dG ndG => ?_⟩
    rw [ed]
    have sG := same_new (o := .lst ((ns.drop c).map V.int)) ndG
    have hG1 := upd_same (H := HF) (a := dG) (o := .lst ((ns.drop c).map V.int))
    have he1 := he.same sG
    have s0G := s0F.trans sG
    generalize upd HF dG (.lst ((ns.drop c).map V.int)) = HG at hG1 he1 s0G ⊢
    refine ⟨dG, rfl, ⟨_, .of hG1⟩, fun D nD => lc_list (xs := (ns.drop c).map V.int) (LcP HG D fun j => ((((ns.drop c).take j).filter fun e => decide (e < 0 ∧ -e ∉ ns.drop c)).map fun e => -e).map V.int) (.init nD rfl) (fun j H' _ p => .of (p.2.1 _ _ hG1)) (fun j x' H' hx p => ?_) (fun HH p => ?_)⟩
    · obtain ⟨e, rfl, hj⟩ := get_int hx
      have lj := lt_get hj
      have fs := filt_map_succ (f := fun e => decide (e < 0 ∧ -e ∉ ns.drop c)) hj
      have fl := List.length_filter_le (fun e => decide (e < 0 ∧ -e ∉ ns.drop c)) ((ns.drop c).take j)
      rw [List.length_take] at fl
      refine ⟨rfl, ?_⟩
      by_cases h0 : e < 0
      · refine ⟨_, rfl, _, _, rfl, rfl, true, dT h0, ?_⟩
        refine ⟨_, rfl, e, rfl, _, rfl, _, rfl, _, rfl, a, _, rfl, hS (s0G.trans p.2.1), fun d2 nd2 => ?_⟩
        rw [ec]
        refine ⟨d2, _, rfl, .inl (.of upd_same), rfl, flatI _, ?_⟩
        by_cases h1 : -e ∈ ns.take c
        · refine ⟨true, inT h1, ?_⟩
          refine ⟨_, rfl, e, rfl, p.put (same_new nd2) ?_ (by rw [List.length_map, List.length_map]; omega)⟩
          rw [fs, decide_eq_true ⟨h0, (mem_parted hh c (mem_get hj) h0).mp h1⟩, if_pos rfl, List.map_append]
          rfl
        · refine ⟨false, inF h1, p.skip (same_new nd2) ?_⟩
          rw [fs, decide_eq_false fun z => h1 ((mem_parted hh c (mem_get hj) h0).mpr z.2), if_neg Bool.false_ne_true, List.append_nil]
      · refine ⟨_, rfl, _, _, rfl, rfl, false, dF h0, p.skip (.refl _) ?_⟩
        rw [fs, decide_eq_false fun z => h0 z.1, if_neg Bool.false_ne_true, List.append_nil]
    have hA : HH D = some (.lst ((gn (ns.drop c)).map V.int)) := by
      have h := p.2.2
      rw [List.length_map] at h
      rw [h]
      show some (HO.lst (((((ns.drop c).take (ns.drop c).length).filter _).map _).map V.int)) = _
      rw [List.take_length]
      rfl
    have sH := p.2.1
    have he2 := he1.same sH
    have s0H := s0G.trans sH
    -- inside
    refine ⟨_, rfl, _, rfl, _, rfl, a, _, rfl, hS s0H, fun dI' ndI => ?_⟩
    rw [ed]
    have sI := same_new (o := .lst ((ns.drop c).map V.int)) ndI
    have hI1 := upd_same (H := HH) (a := dI') (o := .lst ((ns.drop c).map V.int))
    have he3 := he2.same sI
    have hA2 := sI _ _ hA
    have s0I := s0H.trans sI
    generalize upd HH dI' (.lst ((ns.drop c).map V.int)) = HI at hI1 he3 hA2 s0I ⊢
    refine ⟨dI', rfl, ⟨_, .of hI1⟩, fun D2 nD2 => lc_list (xs := (ns.drop c).map V.int) (LcP HI D2 fun j => ((((ns.drop c).take j).filter fun e => decide (e < 0 ∧ -e ∈ ns.drop c)).map fun e => -e).map V.int) (.init nD2 rfl) (fun j H' _ p => .of (p.2.1 _ _ hI1)) (fun j x' H' hx p => ?_) (fun HJ p => ?_)⟩
    · obtain ⟨e, rfl, hj⟩ := get_int hx
      have lj := lt_get hj
      have fs := filt_map_succ (f := fun e => decide (e < 0 ∧ -e ∈ ns.drop c)) hj
      have fl := List.length_filter_le (fun e => decide (e < 0 ∧ -e ∈ ns.drop c)) ((ns.drop c).take j)
      rw [List.length_take] at fl
      refine ⟨rfl, ?_⟩
      by_cases h0 : e < 0
      · refine ⟨_, rfl, _, _, rfl, rfl, true, dT h0, ?_⟩
        refine ⟨_, rfl, e, rfl, _, rfl, _, rfl, _, rfl, a, _, rfl, hS (s0I.trans p.2.1), fun d2 nd2 => ?_⟩
        rw [ed]
        refine ⟨d2, _, rfl, .inl (.of upd_same), rfl, flatI _, ?_⟩
        by_cases h1 : -e ∈ ns.drop c
        · refine ⟨true, inT h1, ?_⟩
          refine ⟨_, rfl, e, rfl, p.put (same_new nd2) ?_ (by rw [List.length_map, List.length_map]; omega)⟩
          rw [fs, decide_eq_true ⟨h0, h1⟩, if_pos rfl, List.map_append]
          rfl
        · refine ⟨false, inF h1, p.skip (same_new nd2) ?_⟩
          rw [fs, decide_eq_false fun z => h1 z.2, if_neg Bool.false_ne_true, List.append_nil]
      · refine ⟨_, rfl, _, _, rfl, rfl, false, dF h0, p.skip (.refl _) ?_⟩
        rw [fs, decide_eq_false fun z => h0 z.1, if_neg Bool.false_ne_true, List.append_nil]
    have hB : HJ D2 = some (.lst ((en (ns.drop c)).map V.int)) := by
      have h := p.2.2
      rw [List.length_map] at h
      rw [h]
      show some (HO.lst (((((ns.drop c).take (ns.drop c).length).filter _).map _).map V.int)) = _
      rw [List.take_length]
      rfl
    have sJ := p.2.1
    have he4 := he3.same sJ
    have s0J := s0I.trans sJ
    -- two.stopped, two.ended
    have lG : (gn (ns.drop c)).length ≤ 200 := by have := gn_len (ns.drop c); omega
    have lE : (en (ns.drop c)).length ≤ 200 := by have := en_len (ns.drop c); omega
    refine ⟨_, rfl, x2, dz, _, rfl, he4.hx, x2, dz, a1, a3, a4, a5, (runR (ns.drop c)).1, _, rfl, he4.hx, he4.h4, fun lK nlK => ?_⟩
    have sK := same_new (o := .lst (G.map V.int)) nlK
    have hK := upd_same (H := HJ) (a := lK) (o := .lst (G.map V.int))
    refine ⟨_, rfl, D, gn (ns.drop c), rfl, .of (sK _ _ (sJ _ _ hA2)), fun G' lL pG wG nlL => ?_⟩
    have sL := same_new (o := .lst (G'.map V.int)) nlL
    have eG : G = G' := sorted_uniq (he4.pt.g1.trans pG.symm) he4.pt.g2 wG
    subst eG
    refine ⟨dI _, dI _, dp_ints (.of (sL _ _ hK)), dp_ints (.of upd_same), shaped_ints _, shaped_ints _, false, neqF rfl, ?_⟩
    have sJL := sK.trans sL
    generalize upd (upd HJ lK (.lst (G.map V.int))) lL (.lst (G.map V.int)) = HL at sJL ⊢
    have he5 := he4.same sJL
    refine ⟨_, rfl, x2, dz, _, rfl, he5.hx, x2, dz, a1, a3, a4, a5, (runR (ns.drop c)).1, _, rfl, he5.hx, he5.h5, fun lM nlM => ?_⟩
    have sM := same_new (o := .lst (Ez.map V.int)) nlM
    have hM := upd_same (H := HL) (a := lM) (o := .lst (Ez.map V.int))
    refine ⟨_, rfl, D2, en (ns.drop c), rfl, .of (sM _ _ (sJL _ _ hB)), fun E' lN pE wE nlN => ?_⟩
    have sN := same_new (o := .lst (E'.map V.int)) nlN
    have eE : Ez = E' := sorted_uniq (he5.pt.e1.trans pE.symm) he5.pt.e2 wE
    subst eE
    refine ⟨dI _, dI _, dp_ints (.of (sN _ _ hM)), dp_ints (.of upd_same), shaped_ints _, shaped_ints _, false, neqF rfl, iteF ?_⟩
    have sLN := sM.trans sN
    generalize upd (upd HL lM (.lst (Ez.map V.int))) lN (.lst (Ez.map V.int)) = HN at sLN ⊢
    have he6 := he5.same sLN
    have s0N := s0J.trans (sJL.trans sLN)
    -- the patches
    refine ⟨_, _, rfl, ⟨by decide, by decide, by decide, by decide⟩, for_range (lo := 1) (n := 6) (fun i σ H' => (∃ y, σ = [some (.ref a), some (.int c), some (.ref x), some (.ref x2), some (.ref D), some (.ref D2), y, none]) ∧ Same HN H') ⟨⟨_, rfl⟩, .refl _⟩ (fun i σ H' hi h => ?_) (fun σ H' h => ?_)⟩
    · obtain ⟨⟨y, rfl⟩, sm⟩ := h
      have he7 := he6.same sm
      have s0m := s0N.trans sm
      refine ⟨_, rfl, _, rfl, x2, dz, _, rfl, he7.hx, x2, dz, a1, a3, a4, a5, _, ns.drop c, .int (1 + (i : Int)), rfl, he7.hx, he7.h1, .inl ⟨1 + (i : Int), rfl, _, rfl, ?_⟩⟩
      have pos : 0 < 1 + (i : Int) := by omega
      refine ⟨_, rfl, _, rfl, _, rfl, _, rfl, a, _, rfl, hS s0m, fun d1' nd1' => ?_⟩
      rw [ed]
      have t1 := same_new (o := .lst ((ns.drop c).map V.int)) nd1'
      refine ⟨d1', _, rfl, .inl (.of upd_same), rfl, flatI _, ?_⟩
      by_cases c1 : 1 + (i : Int) ∈ ns.drop c
      · refine ⟨true, inT c1, iteT ?_⟩
        rw [decide_eq_true ⟨pos, .inl c1⟩]
        exact ⟨rfl, false, nF rfl, iteF ⟨⟨_, rfl⟩, sm.trans t1⟩⟩
      · refine ⟨false, inF c1, iteF ?_⟩
        refine ⟨_, rfl, _, rfl, _, rfl, _, rfl, _, rfl, a, _, rfl, hS (s0m.trans t1), fun d2' nd2' => ?_⟩
        rw [ed]
        have t2 := same_new (o := .lst ((ns.drop c).map V.int)) nd2'
        refine ⟨d2', _, rfl, .inl (.of upd_same), rfl, flatI _, ?_⟩
        by_cases c2 : -(1 + (i : Int)) ∈ ns.drop c
        · rw [inT c2, decide_eq_true ⟨pos, .inr c2⟩]
          exact ⟨rfl, false, nF rfl, iteF ⟨⟨_, rfl⟩, sm.trans (t1.trans t2)⟩⟩
        · rw [inF c2, decide_eq_false fun z => z.2.elim c1 c2]
          exact ⟨rfl, false, nF rfl, iteF ⟨⟨_, rfl⟩, sm.trans (t1.trans t2)⟩⟩
    · obtain ⟨⟨y, rfl⟩, sm⟩ := h
      exact q _ (s0N.trans sm)
end
end L69
set_option Elab.async false
set_option linter.all false
set_option maxRecDepth 100000
namespace L69
open PySem PySem.Spec PyProof.Rows L2 Lp
theorem stL_take {ns : List Int} {m : Nat} (st : stL ns = upL m) (k : Nat) : ∃ m', m' ≤ m ∧ stL (ns.take k) = upL m' := by
  have p : stL (ns.take k) <+: stL ns := (List.take_prefix k ns).filter _
  rw [st] at p
  have e := List.prefix_iff_eq_take.mp p
  have l := p.length_le
  rw [upL_len] at l
  refine ⟨(stL (ns.take k)).length, l, ?_⟩
  rw [e]
  generalize (stL (ns.take k)).length = j at l
  unfold upL
  rw [List.length_take, List.length_map, List.length_range, ← List.map_take, List.take_range, Nat.min_eq_left l]
theorem upL_le {m : Nat} {x : Int} (h : x ∈ upL m) : x ≤ m := by
  obtain ⟨i, hi, rfl⟩ := List.mem_map.mp h
  have := List.mem_range.mp hi
  omega
theorem Bag.ne {H : Hp} {b p : Addr} {n : Nat} (h : Bag H b n) (np : H p = none) : p ≠ b := fun z => by
  obtain ⟨x, y, hx, _⟩ := h
  rw [z, hx] at np
  cases np
theorem Bag.same {H H' : Hp} {b : Addr} {n : Nat} (h : Bag H b n) (s : Same H H') : Bag H' b n := by
  obtain ⟨x, y, hx, e⟩ := h
  exact ⟨x, y, s _ _ hx, e⟩
theorem setl1 (a : Int) (h0 : 0 ≤ a) (h9 : a ≤ 9) : SetL [a] := ⟨(fun z => nomatch z), List.pairwise_singleton _ _, fun x hx => by rw [List.mem_singleton.mp hx]; exact ⟨h0, h9⟩⟩
theorem setl2 (a b : Int) (h : SetL [a, b]) : SetL [a, b] := h
section
variable {P : Program} {w : World} {K : PySem.W.Frag} {mg : Str → Option Value} {base : Heap} {CE : Addr}
def spRightL : Sp := fun vs H Q _ => ∃ (b : Addr), vs = [.ref b] ∧ Bag H b 5000 ∧ ∀ H', Bt b H H' → Q (.bl true) H'
set_option maxHeartbeats 4000000 in
theorem ok_law_right {f : Addr} {fd : FuncData} (F : Fun K "_law_right" "_law_right" s_law_right f fd) (B : NoB mg) (T_law_draw : Gc P w K mg base 1 "_law_draw" (spDraw K)) (T_law_events : Gc P w K mg base 2 "_law_events" (spEvents K)) (T_law_orders_right : Gc P w K mg base 11 "_law_orders_right" (spOrdR K)) (T_law_effects_right : Gc P w K mg base 9 "_law_effects_right" spEffR) (T_law_settings_right : Gc P w K mg base 14 "_law_settings_right" (spSetR K)) : FnG P w K mg base CX0 15 f fd ["bag"] spRightL := by
  refine okG F sc_law_right (fun vs H Q E h => ?_) (fun cdv A outer s H vs Q E hG hr h => ?_)
  · obtain ⟨b, rfl, _⟩ := h
    rfl
  · obtain ⟨b, rfl, hb, q⟩ := h
    refine ⟨_, (pss_cons (ps_set (i := 1) sc_law_right.nd rfl (Or.inl rfl) (pe_g T_law_events hG hr (by decide) (by rfl) (pa_cons (pv 0) (pa_cons pe_int (pa_cons pe_bl pa_nil)))))
        (pss_cons (ps_set (i := 2) sc_law_right.nd rfl (Or.inl rfl) (pe_g T_law_draw hG hr (by decide) (by rfl) (pa_cons (pv 0) (pa_cons (pe_op op_add (pe_callB call_len_seq (by rfl) B.len PySem.boot_len (pa_cons (pv 1) pa_nil)) pe_int) pa_nil))))
        (pss_cons (ps_set (i := 3) sc_law_right.nd rfl (Or.inl rfl) (pe_slice sl_list (pv 1) po_none (po_some (pe_g T_law_draw hG hr (by decide) (by rfl) (pa_cons (pv 0) (pa_cons (pe_op op_add (pe_callB call_len_seq (by rfl) B.len PySem.boot_len (pa_cons (pv 1) pa_nil)) pe_int) pa_nil))))))
        (pss_cons (ps_if (PW.pt (pw_or (pt_not (pt_val (pe_g T_law_orders_right hG hr (by decide) (by rfl) (pa_cons (pv 0) (pa_cons (pv 3) pa_nil))))) (pw_or1 (pt_not (pt_val (pe_g T_law_effects_right hG hr (by decide) (by rfl) (pa_cons (pv 1) (pa_cons (pv 2) pa_nil)))))))) (pss_one (ps_ret pe_bl)) pss_nil)
        (pss_cons (ps_set (i := 4) sc_law_right.nd rfl (Or.inl rfl) (pe_lst pa_nil))
        (pss_cons (ps_for PassesOwn.never rfl (pi_range1 rfl B.range (pa_cons pe_int pa_nil)) (pg_name (i := 5) sc_law_right.nd rfl (Or.inl rfl))
          (pss_one (ps_expr (pe_bm PySem.F.plainAttrs_list PySem.F.slot_list_append PySem.F.type_list_append mt_append (pv 4) (pa_cons (pe_ix ix_list (pe_lst (pa_cons (pe_lst (pa_cons pe_int pa_nil)) (pa_cons (pe_lst (pa_cons pe_int pa_nil)) (pa_cons (pe_lst (pa_cons pe_int (pa_cons pe_int pa_nil))) (pa_cons (pe_lst (pa_cons pe_int (pa_cons pe_int pa_nil))) (pa_cons (pe_lst (pa_cons pe_int (pa_cons pe_int (pa_cons pe_int pa_nil)))) pa_nil)))))) (pe_g T_law_draw hG hr (by decide) (by rfl) (pa_cons (pv 0) (pa_cons pe_int pa_nil))) (fun _ _ => rfl)) pa_nil)))))
        (pss_one (ps_ret (pe_g T_law_settings_right hG hr (by decide) (by rfl) (pa_cons (pv 3) (pa_cons (pv 4) pa_nil))))))))))), ?_⟩
    refine ⟨_, rfl, b, 5000, rfl, hb, by decide, fun H1 fa ns m m5 hh st b1 hb1 nf hf => ?_⟩
    have nfb := hb.ne nf
    have hnl := hh.len
    refine ⟨_, rfl, _, rfl, fa, _, rfl, .inl (.of hf), _, _, rfl, rfl, b, _, _, rfl, hb1, by decide, by omega, by rw [List.length_map]; omega, fun z H2 z0 z1 hb2 b2 => ?_⟩
    obtain ⟨c, rfl⟩ : ∃ m : Nat, z = (m : Int) := ⟨z.toNat, by omega⟩
    rw [List.length_map] at z1
    have hc : c ≤ ns.length := by omega
    have hf2 := b2 _ _ nfb hf
    refine ⟨_, rfl, _, rfl, _, rfl, fa, _, rfl, .inl (.of hf2), _, _, rfl, rfl, b, _, _, rfl, hb2, by decide, by omega, by rw [List.length_map]; omega, fun z H3 z0' z1' hb3 b3 => ?_⟩
    obtain ⟨k, rfl⟩ : ∃ m : Nat, z = (m : Int) := ⟨z.toNat, by omega⟩
    rw [List.length_map] at z1'
    have hf3 := b3 _ _ nfb hf2
    refine ⟨_, rfl, fa, _, rfl, .of hf3, fun kp nkp => ?_⟩
    have ek : cutV (ns.map V.int) none (some (k : Int)) = (ns.take k).map V.int := by rw [cut_take _ _ (by rw [List.length_map]; omega), List.map_take]
    rw [ek]
    have sk := same_new (o := .lst ((ns.take k).map V.int)) nkp
    have nkb := hb3.ne nkp
    have hb4 := hb3.same sk
    have hf4 := sk _ _ hf3
    have hk4 := upd_same (H := H3) (a := kp) (o := .lst ((ns.take k).map V.int))
    have b4 : Bt b H (upd H3 kp (.lst ((ns.take k).map V.int))) := ((b1.trans b2).trans b3).trans (.of sk)
    generalize upd H3 kp (.lst ((ns.take k).map V.int)) = H4 at hb4 hf4 hk4 b4 ⊢
    obtain ⟨m', hm', st'⟩ := stL_take st k
    have hk := hh.take k
    refine ⟨_, rfl, _, rfl, b, kp, _, m', ns.take k, rfl, hb4, by decide, hk4, nkb, hk, st', Nat.le_trans hm' m5, fun H5 b5 hb5 => ⟨true, rfl, ?_⟩⟩
    have hf5 := b5 _ _ nfb hf4
    have hk5 := b5 _ _ nkb hk4
    refine ⟨_, rfl, _, rfl, fa, c, ns, rfl, hf5, hh, hc, fun H6 s6 => ⟨true, rfl, iteF ?_⟩⟩
    have hb6 := hb5.same s6
    have b6 := (b4.trans b5).trans (.of s6)
    have hk6 := s6 _ _ hk5
    refine ⟨by show 0 ≤ sizeLine; decide, fun t nt => ?_⟩
    have s7 := same_new (o := .lst []) nt
    have ntb := hb6.ne nt
    have hb7 := hb6.same s7
    have b7 := b6.trans (.of s7)
    have hk7 := s7 _ _ hk6
    have ht7 := upd_same (H := H6) (a := t) (o := .lst [])
    have zt : H t = none := free_of b6 ntb nt
    have nkt : kp ≠ t := ne_of_none hk6 nt
    generalize upd H6 t (.lst []) = H7 at hb7 b7 hk7 ht7 ⊢
    refine ⟨5, rfl, by decide, by decide, for_range (lo := 0) (n := 5) (fun i σ H' => (∃ y, σ = [some (.ref b), some (.ref fa), some (.int c), some (.ref kp), some (.ref t), y]) ∧ Bt b H H' ∧ H' kp = some (.lst ((ns.take k).map V.int)) ∧ Bag H' b (5000 + 30 + 1 + 1 + 1 + i) ∧ ∃ ts : List (Addr × List Int), ts.length = i ∧ Ts H' t ts ∧ ∀ z ∈ ts, SetL z.2 ∧ z.1 ≠ b ∧ z.1 ≠ t) ⟨⟨_, rfl⟩, b7, hk7, hb7, [], rfl, ⟨ht7, fun z hz => nomatch hz⟩, fun z hz => nomatch hz⟩ (fun i σ H' hi h => ?_) (fun σ H' h => ?_)⟩
    · obtain ⟨⟨y, rfl⟩, bm, hkm, hbm, ts, lts, hts, hse⟩ := h
      refine ⟨_, rfl, .inl ⟨rfl, _, .of hts.h⟩, ?_⟩
      refine ⟨by show 1 ≤ sizeLine; decide, fun p1 np1 => ⟨by show 1 ≤ sizeLine; decide, fun p2 np2 => ⟨by show 2 ≤ sizeLine; decide, fun p3 np3 => ⟨by show 2 ≤ sizeLine; decide, fun p4 np4 => ⟨by show 3 ≤ sizeLine; decide, fun p5 np5 => ⟨by show 5 ≤ sizeLine; decide, fun L nL => ?_⟩⟩⟩⟩⟩⟩
      have t1 := same_new (o := .lst [V.int 0]) np1
      have t2 := same_new (o := .lst [V.int 1]) np2
      have t3 := same_new (o := .lst [V.int 0, .int 1]) np3
      have t4 := same_new (o := .lst [V.int 1, .int 2]) np4
      have t5 := same_new (o := .lst [V.int 0, .int 1, .int 2]) np5
      have t6 := same_new (o := .lst [V.ref p1, .ref p2, .ref p3, .ref p4, .ref p5]) nL
      have h1 := t6 _ _ (t5 _ _ (t4 _ _ (t3 _ _ (t2 _ _ upd_same))))
      have h2 := t6 _ _ (t5 _ _ (t4 _ _ (t3 _ _ upd_same)))
      have h3 := t6 _ _ (t5 _ _ (t4 _ _ upd_same))
      have h4 := t6 _ _ (t5 _ _ upd_same)
      have h5 := t6 _ _ upd_same
      have hL := upd_same (H := upd (upd (upd (upd (upd H' p1 (.lst [V.int 0])) p2 (.lst [V.int 1])) p3 (.lst [V.int 0, .int 1])) p4 (.lst [V.int 1, .int 2])) p5 (.lst [V.int 0, .int 1, .int 2])) (a := L) (o := .lst [V.ref p1, .ref p2, .ref p3, .ref p4, .ref p5])
      have st6 := ((((t1.trans t2).trans t3).trans t4).trans t5).trans t6
      have z1 := np1
      have z2 := t1.free np2
      have z3 := (t1.trans t2).free np3
      have z4 := ((t1.trans t2).trans t3).free np4
      have z5 := (((t1.trans t2).trans t3).trans t4).free np5
      have zL := ((((t1.trans t2).trans t3).trans t4).trans t5).free nL
      generalize upd (upd (upd (upd (upd (upd H' p1 (.lst [V.int 0])) p2 (.lst [V.int 1])) p3 (.lst [V.int 0, .int 1])) p4 (.lst [V.int 1, .int 2])) p5 (.lst [V.int 0, .int 1, .int 2])) L (.lst [V.ref p1, .ref p2, .ref p3, .ref p4, .ref p5]) = G at h1 h2 h3 h4 h5 hL st6 ⊢
      refine ⟨_, rfl, b, 5, _, rfl, hbm.same st6, by omega, by decide, by decide, fun z G2 q0 q1 hb8 b8 => ?_⟩
      have nLb := hbm.ne zL
      have hL2 := b8 _ _ nLb hL
      obtain ⟨p, l, hat, hp, hl, hpz⟩ : ∃ (p : Addr) (l : List Int), atI [V.ref p1, .ref p2, .ref p3, .ref p4, .ref p5] z = some (.ref p) ∧ G p = some (.lst (l.map V.int)) ∧ SetL l ∧ H' p = none := by
        have cc : z = 0 ∨ z = 1 ∨ z = 2 ∨ z = 3 ∨ z = 4 := by omega
        rcases cc with rfl | rfl | rfl | rfl | rfl
        · exact ⟨p1, [0], rfl, h1, ⟨by decide, by decide, by decide⟩, z1⟩
        · exact ⟨p2, [1], rfl, h2, ⟨by decide, by decide, by decide⟩, z2⟩
        · exact ⟨p3, [0, 1], rfl, h3, ⟨by decide, by decide, by decide⟩, z3⟩
        · exact ⟨p4, [1, 2], rfl, h4, ⟨by decide, by decide, by decide⟩, z4⟩
        · exact ⟨p5, [0, 1, 2], rfl, h5, ⟨by decide, by decide, by decide⟩, z5⟩
      have npb := hbm.ne hpz
      have npt : p ≠ t := fun e => by rw [e, hts.h] at hpz; cases hpz
      have ht8 := b8 _ _ ntb (st6 _ _ hts.h)
      refine ⟨L, _, z, _, rfl, rfl, .of hL2, hat, t, _, _, rfl, rfl, ht8, by rw [List.length_map]; exact zl (by omega), ⟨_, rfl⟩, ?_, ?_, ?_, ts ++ [(p, l)], by rw [List.length_append, lts]; rfl, ⟨?_, fun y hy => ?_⟩, fun y hy => ?_⟩
      · exact ((bm.trans (.of st6)).trans b8).mut zt
      · rw [upd_ne nkt]
        exact b8 _ _ nkb (st6 _ _ hkm)
      · obtain ⟨x, y, hx, e⟩ := hb8
        exact ⟨x, y, by rw [upd_ne ntb.symm]; exact hx, e⟩
      · rw [upd_same, List.map_append]
        rfl
      · rcases List.mem_append.mp hy with hy | hy
        · obtain ⟨_, e1, e2⟩ := hse y hy
          rw [upd_ne e2]
          exact b8 _ _ e1 (st6 _ _ (hts.q y hy))
        · rw [List.mem_singleton.mp hy, upd_ne npt]
          exact b8 _ _ npb hp
      · rcases List.mem_append.mp hy with hy | hy
        · exact hse y hy
        · rw [List.mem_singleton.mp hy]
          exact ⟨hl, npb, npt⟩
    · obtain ⟨⟨y, rfl⟩, bm, hkm, hbm, ts, lts, hts, hse⟩ := h
      refine ⟨_, rfl, _, rfl, kp, t, m', ns.take k, ts, rfl, hkm, hk, st', Nat.le_trans hm' m5, hts, ⟨by omega, fun z hz => (hse z hz).1, fun e he h0 => ?_⟩, fun H9 s9 => q _ (bm.trans (.of s9))⟩
      have : e ∈ stL (ns.take k) := List.mem_filter.mpr ⟨he, decide_eq_true h0⟩
      rw [st'] at this
      have := upL_le this
      omega
end
end L69
set_option Elab.async false
set_option linter.all false
set_option maxRecDepth 100000
namespace L69
open PySem PySem.Spec PyProof.Rows L2 Lp
section
variable {P : Program} {w : World} {K : PySem.W.Frag} {mg : Str → Option Value} {base : Heap}
def cellsL (ns : List Int) (m : Nat) : List Int := ns.take m ++ if ns = [] then [0] else []
def spLaw (K : PySem.W.Frag) : Sp := fun vs H Q _ => ∃ (a : Addr) (ns : List Int), vs = [.ref a] ∧ SqL K H a (ns.map V.int) ∧ ns.length ≤ 63 ∧ ∀ H', Q (.bl true) H'
theorem ok_law {f : Addr} {fd : FuncData} (F : Fun K "law" "law" s_law f fd) (B : NoB mg) (T_law_bag : Gc P w K mg base 1 "_law_bag" spBag) (T_law_right : Gc P w K mg base 15 "_law_right" spRightL) : FnG P w K mg base CX0 16 f fd ["script"] (spLaw K) := by
  refine okG F sc_law (fun vs H Q E h => ?_) (fun cdv A outer s H vs Q E hG hr h => ?_)
  · obtain ⟨a, ns, rfl, _⟩ := h
    rfl
  · obtain ⟨a, ns, rfl, hS, hl, q⟩ := h
    have hu64 := hr.units
    refine ⟨_, (pss_cons (ps_set (i := 1) sc_law.nd rfl (Or.inl rfl) (pe_op op_cat (pe_slice sl_list (pv 0) po_none (po_some pe_int)) (pe_op op_rep (pe_lst (pa_cons pe_int pa_nil)) (pe_callTy call_int1 (by rfl) B.int (by decide +kernel) (pa_cons (pe_cmpR (op_eqD hu64) (pv 0) (pe_lst pa_nil) (nomark _)) pa_nil)))))
        (pss_cons (ps_for PassesOwn.never rfl (pi_range1 rfl B.range (pa_cons (pe_callB call_len_seq (by rfl) B.len PySem.boot_len (pa_cons (pv 1) pa_nil)) pa_nil)) (pg_name (i := 2) sc_law.nd rfl (Or.inl rfl))
          (pss_one (ps_if (pt_not (pt_val (pe_g T_law_right hG hr (by decide) (by rfl) (pa_cons (pe_g T_law_bag hG hr (by decide) (by rfl) (pa_cons (pe_ix ix_list (pv 1) (pv 2) (fun _ _ => rfl)) (pa_cons (pv 2) pa_nil))) pa_nil)))) (pss_one (ps_ret pe_bl)) pss_nil)))
        (pss_one (ps_ret pe_bl)))), ?_⟩
    refine ⟨_, rfl, 3, rfl, a, _, rfl, hS, fun p np => ?_⟩
    have ecut : cutV (ns.map V.int) none (some 3) = (ns.take 3).map V.int := by
      unfold cutV
      have e1 : HT.sIx (ns.map V.int).length (ns.map V.int).length (some 3) = min 3 (ns.map V.int).length := by
        show (if (3 : Int) < 0 then ((3 : Int) + (((ns.map V.int).length : Nat) : Int)).toNat else min (3 : Int).toNat (ns.map V.int).length) = _
        rw [if_neg (by decide)]
        rfl
      rw [HT.sIx_none, e1, List.drop_zero, Nat.sub_zero, List.length_map, ← List.map_take]
      by_cases c : 3 ≤ ns.length
      · rw [Nat.min_eq_left c]
      · rw [Nat.min_eq_right (by omega), List.take_of_length_le (Nat.le_refl _), List.take_of_length_le (by omega)]
    rw [ecut]
    have s1 := same_new (o := .lst ((ns.take 3).map V.int)) np
    refine ⟨by show 1 ≤ sizeLine; decide, fun z nz => ?_⟩
    have s2 := s1.trans (same_new (o := .lst [V.int 0]) nz)
    refine ⟨_, rfl, Nat.zero_le _, fun e ne => ?_⟩
    have s3 := s2.trans (same_new (o := .lst []) ne)
    refine ⟨dI ns, dI [], dp_ints (s3.seq hS), dp_ints (ns := []) (.of upd_same), shaped_ints _, shaped_ints _, .inr ⟨_, rfl, ?_⟩⟩
    have e1 : (if PyData.eqv (dI ns) (dI []) = true then (1 : Int) else 0) = if ns = [] then 1 else 0 := by
      rw [eqv_ints]
      by_cases c : ns = []
      · rw [if_pos c, decide_eq_true c, if_pos rfl]
      · rw [if_neg c, decide_eq_false c, if_neg Bool.false_ne_true]
    rw [e1]
    have hz3 : (upd (upd (upd H p (.lst ((ns.take 3).map V.int))) z (.lst [V.int 0])) e (.lst [])) z = some (.lst [V.int 0]) := same_new ne _ _ upd_same
    refine ⟨z, _, [V.int 0], rfl, rfl, hz3, by split <;> decide, by split <;> decide, by split <;> decide, fun r nr => ?_⟩
    have hp4 : (upd (upd (upd (upd H p (.lst ((ns.take 3).map V.int))) z (.lst [V.int 0])) e (.lst [])) r (.lst (List.replicate (if ns = [] then (1 : Int) else 0).toNat [V.int 0]).flatten)) p = some (.lst ((ns.take 3).map V.int)) :=
      same_new nr _ _ (same_new ne _ _ (same_new nz _ _ upd_same))
    refine ⟨p, r, _, _, rfl, rfl, hp4, upd_same, ?_, fun t nt => ?_⟩
    · rw [List.length_map, List.length_take]
      split <;> exact zs (by simp; omega)
    have ht : (upd (upd (upd (upd (upd H p (.lst ((ns.take 3).map V.int))) z (.lst [V.int 0])) e (.lst [])) r (.lst (List.replicate (if ns = [] then (1 : Int) else 0).toNat [V.int 0]).flatten)) t (.lst ((ns.take 3).map V.int ++ (List.replicate (if ns = [] then (1 : Int) else 0).toNat [V.int 0]).flatten))) t = some (.lst ((cellsL ns 3).map V.int)) := by
      rw [upd_same]
      unfold cellsL
      by_cases c : ns = []
      · rw [if_pos c, if_pos c, List.map_append]
        rfl
      · rw [if_neg c, if_neg c, List.append_nil]
        show some (HO.lst (_ ++ [])) = _
        rw [List.append_nil]
    generalize upd (upd (upd (upd (upd H p (.lst ((ns.take 3).map V.int))) z (.lst [V.int 0])) e (.lst [])) r (.lst (List.replicate (if ns = [] then (1 : Int) else 0).toNat [V.int 0]).flatten)) t (.lst ((ns.take 3).map V.int ++ (List.replicate (if ns = [] then (1 : Int) else 0).toNat [V.int 0]).flatten)) = H1 at ht ⊢
    have cl : (cellsL ns 3).length ≤ 64 := by
      unfold cellsL
      rw [List.length_append, List.length_take]
      split <;> simp <;> omega
    generalize cellsL ns 3 = cs at ht cl
    refine ⟨_, rfl, t, _, rfl, .inl (.of ht), ?_⟩
    rw [List.length_map]
    refine ⟨_, rfl, by omega, by omega, ?_⟩
    refine for_range (lo := 0) (n := cs.length) (fun i σ H' => (∃ y2, σ = [some (.ref a), some (.ref t), y2]) ∧ Same H1 H') ⟨⟨_, rfl⟩, .refl _⟩ (fun i σ H' hi h => ?_) (fun σ H' h => q _)
    obtain ⟨⟨y2, rfl⟩, sm⟩ := h
    have ez : (0 : Int) + (i : Int) = ((i : Nat) : Int) := Int.zero_add _
    have hat : (cs.map V.int)[i]? = some (.int cs[i]) := by
      rw [List.getElem?_map, List.getElem?_eq_getElem hi]
      rfl
    refine ⟨_, rfl, _, rfl, t, _, _, _, rfl, rfl, .of (sm _ _ ht), (by rw [ez]; exact atI_nat hat), _, rfl, cs[i], i, (by rw [ez]; rfl), by omega, fun H2 b s2 nb hb => ?_⟩
    refine ⟨b, rfl, hb, fun H3 b3 => ⟨true, rfl, iteF ⟨⟨_, rfl⟩, fun x o e => b3 x o (ne_of_none e (sm.free nb)) (s2 _ _ (sm _ _ e))⟩⟩⟩
end
end L69
set_option Elab.async false
set_option linter.all false
set_option maxRecDepth 100000
namespace L69
open PySem PySem.Spec PyProof.Rows L2 Lp
set_option maxHeartbeats 0 in
theorem all_mk {l : PySem.W.OpenLaw} {w : World} {K : PySem.W.Frag} {h : Heap} {mg : Str → Option Value} {fa : Addr} (X : K.In h) (G : h.Ns mainGlobals mg) (hfa : mg "law" = some (.ref fa))
    {CE : Addr} (aCCE : PySem.W.nsIn K mainGlobals "Effect" = some (some (.ref CE))) (pgCE : PySem.W.plainGet K CE Str.empty = true) (hdCE : PySem.W.hasDictIn K CE = true) (poCE : PySem.W.plainOver K CE = true) (saCE : PySem.W.findIn K (.ref CE) "__setattr__" = some (some (.builtin "object.__setattr__"))) (mkCE : PySem.W.makesIn K CE = true) (kcCE : PySem.W.keepIn K (.ref CE) = true)
    (nCE0 : PySem.W.findIn K (.ref CE) "_piece" = some none)
    (nCE1 : PySem.W.findIn K (.ref CE) "_present" = some none)
    (nCE2 : PySem.W.findIn K (.ref CE) "_saved" = some none)
    (nCE3 : PySem.W.findIn K (.ref CE) "_stopped" = some none)
    (nCE4 : PySem.W.findIn K (.ref CE) "_ended" = some none)
    {f0 : Addr} {oc0 kV0 dc0 pm0 cd0 ct0 : Value} {od0 an0 : Option Addr} {sl0 : Array (Option Value)}
    (a0 : PySem.W.nsIn K mainGlobals "is_integer" = some (some (.ref f0))) (l0 : K.lookup f0 = some ⟨oc0, od0, .func (PySem.W.fnOf "is_integer" "is_integer" (defArgs s_is_integer) (defBody s_is_integer) (defScope s_is_integer) .none kV0 dc0 pm0 an0 cd0 ct0), sl0⟩) (c0 : PySem.W.codeIn K cd0 "is_integer" = true) (k0 : PySem.W.keepIn K (.ref f0) = true)
    {f1 : Addr} {oc1 kV1 dc1 pm1 cd1 ct1 : Value} {od1 an1 : Option Addr} {sl1 : Array (Option Value)}
    (a1 : PySem.W.nsIn K mainGlobals "is_integer_within" = some (some (.ref f1))) (l1 : K.lookup f1 = some ⟨oc1, od1, .func (PySem.W.fnOf "is_integer_within" "is_integer_within" (defArgs s_is_integer_within) (defBody s_is_integer_within) (defScope s_is_integer_within) .none kV1 dc1 pm1 an1 cd1 ct1), sl1⟩) (c1 : PySem.W.codeIn K cd1 "is_integer_within" = true) (k1 : PySem.W.keepIn K (.ref f1) = true)
    {f2 : Addr} {oc2 kV2 dc2 pm2 cd2 ct2 : Value} {od2 an2 : Option Addr} {sl2 : Array (Option Value)}
    (a2 : PySem.W.nsIn K mainGlobals "are_integers" = some (some (.ref f2))) (l2 : K.lookup f2 = some ⟨oc2, od2, .func (PySem.W.fnOf "are_integers" "are_integers" (defArgs s_are_integers) (defBody s_are_integers) (defScope s_are_integers) .none kV2 dc2 pm2 an2 cd2 ct2), sl2⟩) (c2 : PySem.W.codeIn K cd2 "are_integers" = true) (k2 : PySem.W.keepIn K (.ref f2) = true)
    {f3 : Addr} {oc3 kV3 dc3 pm3 cd3 ct3 : Value} {od3 an3 : Option Addr} {sl3 : Array (Option Value)}
    (a3 : PySem.W.nsIn K mainGlobals "check_number" = some (some (.ref f3))) (l3 : K.lookup f3 = some ⟨oc3, od3, .func (PySem.W.fnOf "check_number" "check_number" (defArgs s_check_number) (defBody s_check_number) (defScope s_check_number) .none kV3 dc3 pm3 an3 cd3 ct3), sl3⟩) (c3 : PySem.W.codeIn K cd3 "check_number" = true) (k3 : PySem.W.keepIn K (.ref f3) = true)
    {f4 : Addr} {oc4 kV4 dc4 pm4 cd4 ct4 : Value} {od4 an4 : Option Addr} {sl4 : Array (Option Value)}
    (a4 : PySem.W.nsIn K mainGlobals "check_index" = some (some (.ref f4))) (l4 : K.lookup f4 = some ⟨oc4, od4, .func (PySem.W.fnOf "check_index" "check_index" (defArgs s_check_index) (defBody s_check_index) (defScope s_check_index) .none kV4 dc4 pm4 an4 cd4 ct4), sl4⟩) (c4 : PySem.W.codeIn K cd4 "check_index" = true) (k4 : PySem.W.keepIn K (.ref f4) = true)
    {f5 : Addr} {oc5 kV5 dc5 pm5 cd5 ct5 : Value} {od5 an5 : Option Addr} {sl5 : Array (Option Value)}
    (a5 : PySem.W.nsIn K mainGlobals "are_events" = some (some (.ref f5))) (l5 : K.lookup f5 = some ⟨oc5, od5, .func (PySem.W.fnOf "are_events" "are_events" (defArgs s_are_events) (defBody s_are_events) (defScope s_are_events) .none kV5 dc5 pm5 an5 cd5 ct5), sl5⟩) (c5 : PySem.W.codeIn K cd5 "are_events" = true) (k5 : PySem.W.keepIn K (.ref f5) = true)
    {f6 : Addr} {oc6 kV6 dc6 pm6 cd6 ct6 : Value} {od6 an6 : Option Addr} {sl6 : Array (Option Value)}
    (a6 : PySem.W.nsIn K mainGlobals "is_history" = some (some (.ref f6))) (l6 : K.lookup f6 = some ⟨oc6, od6, .func (PySem.W.fnOf "is_history" "is_history" (defArgs s_is_history) (defBody s_is_history) (defScope s_is_history) .none kV6 dc6 pm6 an6 cd6 ct6), sl6⟩) (c6 : PySem.W.codeIn K cd6 "is_history" = true) (k6 : PySem.W.keepIn K (.ref f6) = true)
    {f7 : Addr} {oc7 kV7 dc7 pm7 cd7 ct7 : Value} {od7 an7 : Option Addr} {sl7 : Array (Option Value)}
    (a7 : PySem.W.nsIn K mainGlobals "check_history" = some (some (.ref f7))) (l7 : K.lookup f7 = some ⟨oc7, od7, .func (PySem.W.fnOf "check_history" "check_history" (defArgs s_check_history) (defBody s_check_history) (defScope s_check_history) .none kV7 dc7 pm7 an7 cd7 ct7), sl7⟩) (c7 : PySem.W.codeIn K cd7 "check_history" = true) (k7 : PySem.W.keepIn K (.ref f7) = true)
    {f8 : Addr} {oc8 kV8 dc8 pm8 cd8 ct8 : Value} {od8 an8 : Option Addr} {sl8 : Array (Option Value)}
    (a8 : PySem.W.nsIn K mainGlobals "starts_of" = some (some (.ref f8))) (l8 : K.lookup f8 = some ⟨oc8, od8, .func (PySem.W.fnOf "starts_of" "starts_of" (defArgs s_starts_of) (defBody s_starts_of) (defScope s_starts_of) .none kV8 dc8 pm8 an8 cd8 ct8), sl8⟩) (c8 : PySem.W.codeIn K cd8 "starts_of" = true) (k8 : PySem.W.keepIn K (.ref f8) = true)
    {f9 : Addr} {oc9 kV9 dc9 pm9 cd9 ct9 : Value} {od9 an9 : Option Addr} {sl9 : Array (Option Value)}
    (a9 : PySem.W.nsIn K mainGlobals "is_started" = some (some (.ref f9))) (l9 : K.lookup f9 = some ⟨oc9, od9, .func (PySem.W.fnOf "is_started" "is_started" (defArgs s_is_started) (defBody s_is_started) (defScope s_is_started) .none kV9 dc9 pm9 an9 cd9 ct9), sl9⟩) (c9 : PySem.W.codeIn K cd9 "is_started" = true) (k9 : PySem.W.keepIn K (.ref f9) = true)
    {f10 : Addr} {oc10 kV10 dc10 pm10 cd10 ct10 : Value} {od10 an10 : Option Addr} {sl10 : Array (Option Value)}
    (a10 : PySem.W.nsIn K mainGlobals "running_after" = some (some (.ref f10))) (l10 : K.lookup f10 = some ⟨oc10, od10, .func (PySem.W.fnOf "running_after" "running_after" (defArgs s_running_after) (defBody s_running_after) (defScope s_running_after) .none kV10 dc10 pm10 an10 cd10 ct10), sl10⟩) (c10 : PySem.W.codeIn K cd10 "running_after" = true) (k10 : PySem.W.keepIn K (.ref f10) = true)
    {f11 : Addr} {oc11 kV11 dc11 pm11 cd11 ct11 : Value} {od11 an11 : Option Addr} {sl11 : Array (Option Value)}
    (a11 : PySem.W.nsIn K mainGlobals "replay" = some (some (.ref f11))) (l11 : K.lookup f11 = some ⟨oc11, od11, .func (PySem.W.fnOf "replay" "replay" (defArgs s_replay) (defBody s_replay) (defScope s_replay) .none kV11 dc11 pm11 an11 cd11 ct11), sl11⟩) (c11 : PySem.W.codeIn K cd11 "replay" = true) (k11 : PySem.W.keepIn K (.ref f11) = true)
    {f12 : Addr} {oc12 kV12 dc12 pm12 cd12 ct12 : Value} {od12 an12 : Option Addr} {sl12 : Array (Option Value)}
    (a12 : PySem.W.nsIn K mainGlobals "is_value_of" = some (some (.ref f12))) (l12 : K.lookup f12 = some ⟨oc12, od12, .func (PySem.W.fnOf "is_value_of" "is_value_of" (defArgs s_is_value_of) (defBody s_is_value_of) (defScope s_is_value_of) .none kV12 dc12 pm12 an12 cd12 ct12), sl12⟩) (c12 : PySem.W.codeIn K cd12 "is_value_of" = true) (k12 : PySem.W.keepIn K (.ref f12) = true)
    {f13 : Addr} {oc13 kV13 dc13 pm13 cd13 ct13 : Value} {od13 an13 : Option Addr} {sl13 : Array (Option Value)}
    (a13 : PySem.W.nsIn K mainGlobals "present_after" = some (some (.ref f13))) (l13 : K.lookup f13 = some ⟨oc13, od13, .func (PySem.W.fnOf "present_after" "present_after" (defArgs s_present_after) (defBody s_present_after) (defScope s_present_after) .none kV13 dc13 pm13 an13 cd13 ct13), sl13⟩) (c13 : PySem.W.codeIn K cd13 "present_after" = true) (k13 : PySem.W.keepIn K (.ref f13) = true)
    {f14 : Addr} {oc14 kV14 dc14 pm14 cd14 ct14 : Value} {od14 an14 : Option Addr} {sl14 : Array (Option Value)}
    (a14 : PySem.W.nsIn K mainGlobals "fate_of" = some (some (.ref f14))) (l14 : K.lookup f14 = some ⟨oc14, od14, .func (PySem.W.fnOf "fate_of" "fate_of" (defArgs s_fate_of) (defBody s_fate_of) (defScope s_fate_of) .none kV14 dc14 pm14 an14 cd14 ct14), sl14⟩) (c14 : PySem.W.codeIn K cd14 "fate_of" = true) (k14 : PySem.W.keepIn K (.ref f14) = true)
    {f15 : Addr} {oc15 kV15 dc15 pm15 cd15 ct15 : Value} {od15 an15 : Option Addr} {sl15 : Array (Option Value)}
    (a15 : PySem.W.nsIn K mainGlobals "is_order" = some (some (.ref f15))) (l15 : K.lookup f15 = some ⟨oc15, od15, .func (PySem.W.fnOf "is_order" "is_order" (defArgs s_is_order) (defBody s_is_order) (defScope s_is_order) .none kV15 dc15 pm15 an15 cd15 ct15), sl15⟩) (c15 : PySem.W.codeIn K cd15 "is_order" = true) (k15 : PySem.W.keepIn K (.ref f15) = true)
    {f16 : Addr} {oc16 kV16 dc16 pm16 cd16 ct16 : Value} {od16 an16 : Option Addr} {sl16 : Array (Option Value)}
    (a16 : PySem.W.nsIn K mainGlobals "check_order" = some (some (.ref f16))) (l16 : K.lookup f16 = some ⟨oc16, od16, .func (PySem.W.fnOf "check_order" "check_order" (defArgs s_check_order) (defBody s_check_order) (defScope s_check_order) .none kV16 dc16 pm16 an16 cd16 ct16), sl16⟩) (c16 : PySem.W.codeIn K cd16 "check_order" = true) (k16 : PySem.W.keepIn K (.ref f16) = true)
    {f17 : Addr} {oc17 kV17 dc17 pm17 cd17 ct17 : Value} {od17 an17 : Option Addr} {sl17 : Array (Option Value)}
    (a17 : PySem.W.nsIn K mainGlobals "count_orders" = some (some (.ref f17))) (l17 : K.lookup f17 = some ⟨oc17, od17, .func (PySem.W.fnOf "count_orders" "count_orders" (defArgs s_count_orders) (defBody s_count_orders) (defScope s_count_orders) .none kV17 dc17 pm17 an17 cd17 ct17), sl17⟩) (c17 : PySem.W.codeIn K cd17 "count_orders" = true) (k17 : PySem.W.keepIn K (.ref f17) = true)
    {f18 : Addr} {oc18 kV18 dc18 pm18 cd18 ct18 : Value} {od18 an18 : Option Addr} {sl18 : Array (Option Value)}
    (a18 : PySem.W.nsIn K mainGlobals "left_by" = some (some (.ref f18))) (l18 : K.lookup f18 = some ⟨oc18, od18, .func (PySem.W.fnOf "left_by" "left_by" (defArgs s_left_by) (defBody s_left_by) (defScope s_left_by) .none kV18 dc18 pm18 an18 cd18 ct18), sl18⟩) (c18 : PySem.W.codeIn K cd18 "left_by" = true) (k18 : PySem.W.keepIn K (.ref f18) = true)
    {f19 : Addr} {oc19 kV19 dc19 pm19 cd19 ct19 : Value} {od19 an19 : Option Addr} {sl19 : Array (Option Value)}
    (a19 : PySem.W.nsIn K mainGlobals "count_leaving" = some (some (.ref f19))) (l19 : K.lookup f19 = some ⟨oc19, od19, .func (PySem.W.fnOf "count_leaving" "count_leaving" (defArgs s_count_leaving) (defBody s_count_leaving) (defScope s_count_leaving) .none kV19 dc19 pm19 an19 cd19 ct19), sl19⟩) (c19 : PySem.W.codeIn K cd19 "count_leaving" = true) (k19 : PySem.W.keepIn K (.ref f19) = true)
    {f20 : Addr} {oc20 kV20 dc20 pm20 cd20 ct20 : Value} {od20 an20 : Option Addr} {sl20 : Array (Option Value)}
    (a20 : PySem.W.nsIn K mainGlobals "_nth_permutation" = some (some (.ref f20))) (l20 : K.lookup f20 = some ⟨oc20, od20, .func (PySem.W.fnOf "_nth_permutation" "_nth_permutation" (defArgs s_nth_permutation) (defBody s_nth_permutation) (defScope s_nth_permutation) .none kV20 dc20 pm20 an20 cd20 ct20), sl20⟩) (c20 : PySem.W.codeIn K cd20 "_nth_permutation" = true) (k20 : PySem.W.keepIn K (.ref f20) = true)
    {f21 : Addr} {oc21 kV21 dc21 pm21 cd21 ct21 : Value} {od21 an21 : Option Addr} {sl21 : Array (Option Value)}
    (a21 : PySem.W.nsIn K mainGlobals "nth_leaving" = some (some (.ref f21))) (l21 : K.lookup f21 = some ⟨oc21, od21, .func (PySem.W.fnOf "nth_leaving" "nth_leaving" (defArgs s_nth_leaving) (defBody s_nth_leaving) (defScope s_nth_leaving) .none kV21 dc21 pm21 an21 cd21 ct21), sl21⟩) (c21 : PySem.W.codeIn K cd21 "nth_leaving" = true) (k21 : PySem.W.keepIn K (.ref f21) = true)
    {f22 : Addr} {oc22 kV22 dc22 pm22 cd22 ct22 : Value} {od22 an22 : Option Addr} {sl22 : Array (Option Value)}
    (a22 : PySem.W.nsIn K mainGlobals "_permutation_rank" = some (some (.ref f22))) (l22 : K.lookup f22 = some ⟨oc22, od22, .func (PySem.W.fnOf "_permutation_rank" "_permutation_rank" (defArgs s_permutation_rank) (defBody s_permutation_rank) (defScope s_permutation_rank) .none kV22 dc22 pm22 an22 cd22 ct22), sl22⟩) (c22 : PySem.W.codeIn K cd22 "_permutation_rank" = true) (k22 : PySem.W.keepIn K (.ref f22) = true)
    {f23 : Addr} {oc23 kV23 dc23 pm23 cd23 ct23 : Value} {od23 an23 : Option Addr} {sl23 : Array (Option Value)}
    (a23 : PySem.W.nsIn K mainGlobals "leaving_rank" = some (some (.ref f23))) (l23 : K.lookup f23 = some ⟨oc23, od23, .func (PySem.W.fnOf "leaving_rank" "leaving_rank" (defArgs s_leaving_rank) (defBody s_leaving_rank) (defScope s_leaving_rank) .none kV23 dc23 pm23 an23 cd23 ct23), sl23⟩) (c23 : PySem.W.codeIn K cd23 "leaving_rank" = true) (k23 : PySem.W.keepIn K (.ref f23) = true)
    {f24 : Addr} {oc24 kV24 dc24 pm24 cd24 ct24 : Value} {od24 an24 : Option Addr} {sl24 : Array (Option Value)}
    (a24 : PySem.W.nsIn K mainGlobals "is_piece" = some (some (.ref f24))) (l24 : K.lookup f24 = some ⟨oc24, od24, .func (PySem.W.fnOf "is_piece" "is_piece" (defArgs s_is_piece) (defBody s_is_piece) (defScope s_is_piece) .none kV24 dc24 pm24 an24 cd24 ct24), sl24⟩) (c24 : PySem.W.codeIn K cd24 "is_piece" = true) (k24 : PySem.W.keepIn K (.ref f24) = true)
    {f25 : Addr} {oc25 kV25 dc25 pm25 cd25 ct25 : Value} {od25 an25 : Option Addr} {sl25 : Array (Option Value)}
    (a25 : PySem.W.nsIn K mainGlobals "_is_saving" = some (some (.ref f25))) (l25 : K.lookup f25 = some ⟨oc25, od25, .func (PySem.W.fnOf "_is_saving" "_is_saving" (defArgs s_is_saving) (defBody s_is_saving) (defScope s_is_saving) .none kV25 dc25 pm25 an25 cd25 ct25), sl25⟩) (c25 : PySem.W.codeIn K cd25 "_is_saving" = true) (k25 : PySem.W.keepIn K (.ref f25) = true)
    {f26 : Addr} {oc26 kV26 dc26 pm26 cd26 ct26 : Value} {od26 an26 : Option Addr} {sl26 : Array (Option Value)}
    (a26 : PySem.W.nsIn K mainGlobals "is_state" = some (some (.ref f26))) (l26 : K.lookup f26 = some ⟨oc26, od26, .func (PySem.W.fnOf "is_state" "is_state" (defArgs s_is_state) (defBody s_is_state) (defScope s_is_state) .none kV26 dc26 pm26 an26 cd26 ct26), sl26⟩) (c26 : PySem.W.codeIn K cd26 "is_state" = true) (k26 : PySem.W.keepIn K (.ref f26) = true)
    {f27 : Addr} {oc27 kV27 dc27 pm27 cd27 ct27 : Value} {od27 an27 : Option Addr} {sl27 : Array (Option Value)}
    (a27 : PySem.W.nsIn K mainGlobals "state_after" = some (some (.ref f27))) (l27 : K.lookup f27 = some ⟨oc27, od27, .func (PySem.W.fnOf "state_after" "state_after" (defArgs s_state_after) (defBody s_state_after) (defScope s_state_after) .none kV27 dc27 pm27 an27 cd27 ct27), sl27⟩) (c27 : PySem.W.codeIn K cd27 "state_after" = true) (k27 : PySem.W.keepIn K (.ref f27) = true)
    {f28 : Addr} {oc28 kV28 dc28 pm28 cd28 ct28 : Value} {od28 an28 : Option Addr} {sl28 : Array (Option Value)}
    (a28 : PySem.W.nsIn K mainGlobals "_references_behind" = some (some (.ref f28))) (l28 : K.lookup f28 = some ⟨oc28, od28, .func (PySem.W.fnOf "_references_behind" "_references_behind" (defArgs s_references_behind) (defBody s_references_behind) (defScope s_references_behind) .none kV28 dc28 pm28 an28 cd28 ct28), sl28⟩) (c28 : PySem.W.codeIn K cd28 "_references_behind" = true) (k28 : PySem.W.keepIn K (.ref f28) = true)
    {f29 : Addr} {oc29 kV29 dc29 pm29 cd29 ct29 : Value} {od29 an29 : Option Addr} {sl29 : Array (Option Value)}
    (a29 : PySem.W.findIn K (.ref CE) "__init__" = some (some (.ref f29))) (i29 : PySem.W.isFn K (.ref f29) = true) (l29 : K.lookup f29 = some ⟨oc29, od29, .func (PySem.W.fnOf "__init__" "Effect.__init__" (defArgs s_Effect_init) (defBody s_Effect_init) (defScope s_Effect_init) .none kV29 dc29 pm29 an29 cd29 ct29), sl29⟩) (c29 : PySem.W.codeIn K cd29 "Effect.__init__" = true) (k29 : PySem.W.keepIn K (.ref f29) = true)
    {f30 : Addr} {oc30 kV30 dc30 pm30 cd30 ct30 : Value} {od30 an30 : Option Addr} {sl30 : Array (Option Value)}
    {p30 : Addr} {rest30 : List Value} (a30 : PySem.W.findIn K (.ref CE) "stopped" = some (some (.ref p30))) (pg30 : PySem.W.specialIn K (.ref p30) "__get__" = some (some (.builtin "property.__get__"))) (pt30 : PySem.W.takesIn K (.ref p30) = some true) (pr30 : PySem.W.recIn K p30 "property" = some (.ref f30 :: rest30)) (l30 : K.lookup f30 = some ⟨oc30, od30, .func (PySem.W.fnOf "stopped" "Effect.stopped" (defArgs s_Effect_stopped) (defBody s_Effect_stopped) (defScope s_Effect_stopped) .none kV30 dc30 pm30 an30 cd30 ct30), sl30⟩) (c30 : PySem.W.codeIn K cd30 "Effect.stopped" = true) (k30 : PySem.W.keepIn K (.ref f30) = true)
    {f31 : Addr} {oc31 kV31 dc31 pm31 cd31 ct31 : Value} {od31 an31 : Option Addr} {sl31 : Array (Option Value)}
    {p31 : Addr} {rest31 : List Value} (a31 : PySem.W.findIn K (.ref CE) "ended" = some (some (.ref p31))) (pg31 : PySem.W.specialIn K (.ref p31) "__get__" = some (some (.builtin "property.__get__"))) (pt31 : PySem.W.takesIn K (.ref p31) = some true) (pr31 : PySem.W.recIn K p31 "property" = some (.ref f31 :: rest31)) (l31 : K.lookup f31 = some ⟨oc31, od31, .func (PySem.W.fnOf "ended" "Effect.ended" (defArgs s_Effect_ended) (defBody s_Effect_ended) (defScope s_Effect_ended) .none kV31 dc31 pm31 an31 cd31 ct31), sl31⟩) (c31 : PySem.W.codeIn K cd31 "Effect.ended" = true) (k31 : PySem.W.keepIn K (.ref f31) = true)
    {f32 : Addr} {oc32 kV32 dc32 pm32 cd32 ct32 : Value} {od32 an32 : Option Addr} {sl32 : Array (Option Value)}
    (a32 : PySem.W.findIn K (.ref CE) "_fits" = some (some (.ref f32))) (i32 : PySem.W.isFn K (.ref f32) = true) (l32 : K.lookup f32 = some ⟨oc32, od32, .func (PySem.W.fnOf "_fits" "Effect._fits" (defArgs s_Effect_fits) (defBody s_Effect_fits) (defScope s_Effect_fits) .none kV32 dc32 pm32 an32 cd32 ct32), sl32⟩) (c32 : PySem.W.codeIn K cd32 "Effect._fits" = true) (k32 : PySem.W.keepIn K (.ref f32) = true)
    {f33 : Addr} {oc33 kV33 dc33 pm33 cd33 ct33 : Value} {od33 an33 : Option Addr} {sl33 : Array (Option Value)}
    (a33 : PySem.W.findIn K (.ref CE) "__call__" = some (some (.ref f33))) (i33 : PySem.W.isFn K (.ref f33) = true) (l33 : K.lookup f33 = some ⟨oc33, od33, .func (PySem.W.fnOf "__call__" "Effect.__call__" (defArgs s_Effect_call) (defBody s_Effect_call) (defScope s_Effect_call) .none kV33 dc33 pm33 an33 cd33 ct33), sl33⟩) (c33 : PySem.W.codeIn K cd33 "Effect.__call__" = true) (k33 : PySem.W.keepIn K (.ref f33) = true)
    {f34 : Addr} {oc34 kV34 dc34 pm34 cd34 ct34 : Value} {od34 an34 : Option Addr} {sl34 : Array (Option Value)}
    (a34 : PySem.W.findIn K (.ref CE) "__add__" = some (some (.ref f34))) (i34 : PySem.W.isFn K (.ref f34) = true) (l34 : K.lookup f34 = some ⟨oc34, od34, .func (PySem.W.fnOf "__add__" "Effect.__add__" (defArgs s_Effect_add) (defBody s_Effect_add) (defScope s_Effect_add) .none kV34 dc34 pm34 an34 cd34 ct34), sl34⟩) (c34 : PySem.W.codeIn K cd34 "Effect.__add__" = true) (k34 : PySem.W.keepIn K (.ref f34) = true)
    {f35 : Addr} {oc35 kV35 dc35 pm35 cd35 ct35 : Value} {od35 an35 : Option Addr} {sl35 : Array (Option Value)}
    (a35 : PySem.W.findIn K (.ref CE) "__eq__" = some (some (.ref f35))) (i35 : PySem.W.isFn K (.ref f35) = true) (l35 : K.lookup f35 = some ⟨oc35, od35, .func (PySem.W.fnOf "__eq__" "Effect.__eq__" (defArgs s_Effect_eq) (defBody s_Effect_eq) (defScope s_Effect_eq) .none kV35 dc35 pm35 an35 cd35 ct35), sl35⟩) (c35 : PySem.W.codeIn K cd35 "Effect.__eq__" = true) (k35 : PySem.W.keepIn K (.ref f35) = true)
    {f36 : Addr} {oc36 kV36 dc36 pm36 cd36 ct36 : Value} {od36 an36 : Option Addr} {sl36 : Array (Option Value)}
    (a36 : PySem.W.findIn K (.ref CE) "__len__" = some (some (.ref f36))) (i36 : PySem.W.isFn K (.ref f36) = true) (l36 : K.lookup f36 = some ⟨oc36, od36, .func (PySem.W.fnOf "__len__" "Effect.__len__" (defArgs s_Effect_len) (defBody s_Effect_len) (defScope s_Effect_len) .none kV36 dc36 pm36 an36 cd36 ct36), sl36⟩) (c36 : PySem.W.codeIn K cd36 "Effect.__len__" = true) (k36 : PySem.W.keepIn K (.ref f36) = true)
    {f37 : Addr} {oc37 kV37 dc37 pm37 cd37 ct37 : Value} {od37 an37 : Option Addr} {sl37 : Array (Option Value)}
    (a37 : PySem.W.findIn K (.ref CE) "__contains__" = some (some (.ref f37))) (i37 : PySem.W.isFn K (.ref f37) = true) (l37 : K.lookup f37 = some ⟨oc37, od37, .func (PySem.W.fnOf "__contains__" "Effect.__contains__" (defArgs s_Effect_contains) (defBody s_Effect_contains) (defScope s_Effect_contains) .none kV37 dc37 pm37 an37 cd37 ct37), sl37⟩) (c37 : PySem.W.codeIn K cd37 "Effect.__contains__" = true) (k37 : PySem.W.keepIn K (.ref f37) = true)
    {f38 : Addr} {oc38 kV38 dc38 pm38 cd38 ct38 : Value} {od38 an38 : Option Addr} {sl38 : Array (Option Value)}
    (a38 : PySem.W.nsIn K mainGlobals "_are_settings" = some (some (.ref f38))) (l38 : K.lookup f38 = some ⟨oc38, od38, .func (PySem.W.fnOf "_are_settings" "_are_settings" (defArgs s_are_settings) (defBody s_are_settings) (defScope s_are_settings) .none kV38 dc38 pm38 an38 cd38 ct38), sl38⟩) (c38 : PySem.W.codeIn K cd38 "_are_settings" = true) (k38 : PySem.W.keepIn K (.ref f38) = true)
    {f39 : Addr} {oc39 kV39 dc39 pm39 cd39 ct39 : Value} {od39 an39 : Option Addr} {sl39 : Array (Option Value)}
    (a39 : PySem.W.nsIn K mainGlobals "_check_touches" = some (some (.ref f39))) (l39 : K.lookup f39 = some ⟨oc39, od39, .func (PySem.W.fnOf "_check_touches" "_check_touches" (defArgs s_check_touches) (defBody s_check_touches) (defScope s_check_touches) .none kV39 dc39 pm39 an39 cd39 ct39), sl39⟩) (c39 : PySem.W.codeIn K cd39 "_check_touches" = true) (k39 : PySem.W.keepIn K (.ref f39) = true)
    {f40 : Addr} {oc40 kV40 dc40 pm40 cd40 ct40 : Value} {od40 an40 : Option Addr} {sl40 : Array (Option Value)}
    (a40 : PySem.W.nsIn K mainGlobals "_states_by" = some (some (.ref f40))) (l40 : K.lookup f40 = some ⟨oc40, od40, .func (PySem.W.fnOf "_states_by" "_states_by" (defArgs s_states_by) (defBody s_states_by) (defScope s_states_by) .none kV40 dc40 pm40 an40 cd40 ct40), sl40⟩) (c40 : PySem.W.codeIn K cd40 "_states_by" = true) (k40 : PySem.W.keepIn K (.ref f40) = true)
    {f41 : Addr} {oc41 kV41 dc41 pm41 cd41 ct41 : Value} {od41 an41 : Option Addr} {sl41 : Array (Option Value)}
    (a41 : PySem.W.nsIn K mainGlobals "presents_by" = some (some (.ref f41))) (l41 : K.lookup f41 = some ⟨oc41, od41, .func (PySem.W.fnOf "presents_by" "presents_by" (defArgs s_presents_by) (defBody s_presents_by) (defScope s_presents_by) .none kV41 dc41 pm41 an41 cd41 ct41), sl41⟩) (c41 : PySem.W.codeIn K cd41 "presents_by" = true) (k41 : PySem.W.keepIn K (.ref f41) = true)
    {f42 : Addr} {oc42 kV42 dc42 pm42 cd42 ct42 : Value} {od42 an42 : Option Addr} {sl42 : Array (Option Value)}
    (a42 : PySem.W.nsIn K mainGlobals "_savings_by" = some (some (.ref f42))) (l42 : K.lookup f42 = some ⟨oc42, od42, .func (PySem.W.fnOf "_savings_by" "_savings_by" (defArgs s_savings_by) (defBody s_savings_by) (defScope s_savings_by) .none kV42 dc42 pm42 an42 cd42 ct42), sl42⟩) (c42 : PySem.W.codeIn K cd42 "_savings_by" = true) (k42 : PySem.W.keepIn K (.ref f42) = true)
    {f43 : Addr} {oc43 kV43 dc43 pm43 cd43 ct43 : Value} {od43 an43 : Option Addr} {sl43 : Array (Option Value)}
    (a43 : PySem.W.nsIn K mainGlobals "_lost_settings" = some (some (.ref f43))) (l43 : K.lookup f43 = some ⟨oc43, od43, .func (PySem.W.fnOf "_lost_settings" "_lost_settings" (defArgs s_lost_settings) (defBody s_lost_settings) (defScope s_lost_settings) .none kV43 dc43 pm43 an43 cd43 ct43), sl43⟩) (c43 : PySem.W.codeIn K cd43 "_lost_settings" = true) (k43 : PySem.W.keepIn K (.ref f43) = true)
    {f44 : Addr} {oc44 kV44 dc44 pm44 cd44 ct44 : Value} {od44 an44 : Option Addr} {sl44 : Array (Option Value)}
    (a44 : PySem.W.nsIn K mainGlobals "_spoils" = some (some (.ref f44))) (l44 : K.lookup f44 = some ⟨oc44, od44, .func (PySem.W.fnOf "_spoils" "_spoils" (defArgs s_spoils) (defBody s_spoils) (defScope s_spoils) .none kV44 dc44 pm44 an44 cd44 ct44), sl44⟩) (c44 : PySem.W.codeIn K cd44 "_spoils" = true) (k44 : PySem.W.keepIn K (.ref f44) = true)
    {f45 : Addr} {oc45 kV45 dc45 pm45 cd45 ct45 : Value} {od45 an45 : Option Addr} {sl45 : Array (Option Value)}
    (a45 : PySem.W.nsIn K mainGlobals "_order_and_stuck" = some (some (.ref f45))) (l45 : K.lookup f45 = some ⟨oc45, od45, .func (PySem.W.fnOf "_order_and_stuck" "_order_and_stuck" (defArgs s_order_and_stuck) (defBody s_order_and_stuck) (defScope s_order_and_stuck) .none kV45 dc45 pm45 an45 cd45 ct45), sl45⟩) (c45 : PySem.W.codeIn K cd45 "_order_and_stuck" = true) (k45 : PySem.W.keepIn K (.ref f45) = true)
    {f46 : Addr} {oc46 kV46 dc46 pm46 cd46 ct46 : Value} {od46 an46 : Option Addr} {sl46 : Array (Option Value)}
    (a46 : PySem.W.nsIn K mainGlobals "obstacle" = some (some (.ref f46))) (l46 : K.lookup f46 = some ⟨oc46, od46, .func (PySem.W.fnOf "obstacle" "obstacle" (defArgs s_obstacle) (defBody s_obstacle) (defScope s_obstacle) .none kV46 dc46 pm46 an46 cd46 ct46), sl46⟩) (c46 : PySem.W.codeIn K cd46 "obstacle" = true) (k46 : PySem.W.keepIn K (.ref f46) = true)
    {f47 : Addr} {oc47 kV47 dc47 pm47 cd47 ct47 : Value} {od47 an47 : Option Addr} {sl47 : Array (Option Value)}
    (a47 : PySem.W.nsIn K mainGlobals "restoring_order" = some (some (.ref f47))) (l47 : K.lookup f47 = some ⟨oc47, od47, .func (PySem.W.fnOf "restoring_order" "restoring_order" (defArgs s_restoring_order) (defBody s_restoring_order) (defScope s_restoring_order) .none kV47 dc47 pm47 an47 cd47 ct47), sl47⟩) (c47 : PySem.W.codeIn K cd47 "restoring_order" = true) (k47 : PySem.W.keepIn K (.ref f47) = true)
    {f48 : Addr} {oc48 kV48 dc48 pm48 cd48 ct48 : Value} {od48 an48 : Option Addr} {sl48 : Array (Option Value)}
    (a48 : PySem.W.nsIn K mainGlobals "is_restoring" = some (some (.ref f48))) (l48 : K.lookup f48 = some ⟨oc48, od48, .func (PySem.W.fnOf "is_restoring" "is_restoring" (defArgs s_is_restoring) (defBody s_is_restoring) (defScope s_is_restoring) .none kV48 dc48 pm48 an48 cd48 ct48), sl48⟩) (c48 : PySem.W.codeIn K cd48 "is_restoring" = true) (k48 : PySem.W.keepIn K (.ref f48) = true)
    {f49 : Addr} {oc49 kV49 dc49 pm49 cd49 ct49 : Value} {od49 an49 : Option Addr} {sl49 : Array (Option Value)}
    (a49 : PySem.W.nsIn K mainGlobals "_is_stuck" = some (some (.ref f49))) (l49 : K.lookup f49 = some ⟨oc49, od49, .func (PySem.W.fnOf "_is_stuck" "_is_stuck" (defArgs s_is_stuck) (defBody s_is_stuck) (defScope s_is_stuck) .none kV49 dc49 pm49 an49 cd49 ct49), sl49⟩) (c49 : PySem.W.codeIn K cd49 "_is_stuck" = true) (k49 : PySem.W.keepIn K (.ref f49) = true)
    {f50 : Addr} {oc50 kV50 dc50 pm50 cd50 ct50 : Value} {od50 an50 : Option Addr} {sl50 : Array (Option Value)}
    (a50 : PySem.W.nsIn K mainGlobals "is_obstacle" = some (some (.ref f50))) (l50 : K.lookup f50 = some ⟨oc50, od50, .func (PySem.W.fnOf "is_obstacle" "is_obstacle" (defArgs s_is_obstacle) (defBody s_is_obstacle) (defScope s_is_obstacle) .none kV50 dc50 pm50 an50 cd50 ct50), sl50⟩) (c50 : PySem.W.codeIn K cd50 "is_obstacle" = true) (k50 : PySem.W.keepIn K (.ref f50) = true)
    {f51 : Addr} {oc51 kV51 dc51 pm51 cd51 ct51 : Value} {od51 an51 : Option Addr} {sl51 : Array (Option Value)}
    (a51 : PySem.W.nsIn K mainGlobals "_law_bag" = some (some (.ref f51))) (l51 : K.lookup f51 = some ⟨oc51, od51, .func (PySem.W.fnOf "_law_bag" "_law_bag" (defArgs s_law_bag) (defBody s_law_bag) (defScope s_law_bag) .none kV51 dc51 pm51 an51 cd51 ct51), sl51⟩) (c51 : PySem.W.codeIn K cd51 "_law_bag" = true) (k51 : PySem.W.keepIn K (.ref f51) = true)
    {f52 : Addr} {oc52 kV52 dc52 pm52 cd52 ct52 : Value} {od52 an52 : Option Addr} {sl52 : Array (Option Value)}
    (a52 : PySem.W.nsIn K mainGlobals "_law_draw" = some (some (.ref f52))) (l52 : K.lookup f52 = some ⟨oc52, od52, .func (PySem.W.fnOf "_law_draw" "_law_draw" (defArgs s_law_draw) (defBody s_law_draw) (defScope s_law_draw) .none kV52 dc52 pm52 an52 cd52 ct52), sl52⟩) (c52 : PySem.W.codeIn K cd52 "_law_draw" = true) (k52 : PySem.W.keepIn K (.ref f52) = true)
    {f53 : Addr} {oc53 kV53 dc53 pm53 cd53 ct53 : Value} {od53 an53 : Option Addr} {sl53 : Array (Option Value)}
    (a53 : PySem.W.nsIn K mainGlobals "_law_events" = some (some (.ref f53))) (l53 : K.lookup f53 = some ⟨oc53, od53, .func (PySem.W.fnOf "_law_events" "_law_events" (defArgs s_law_events) (defBody s_law_events) (defScope s_law_events) .none kV53 dc53 pm53 an53 cd53 ct53), sl53⟩) (c53 : PySem.W.codeIn K cd53 "_law_events" = true) (k53 : PySem.W.keepIn K (.ref f53) = true)
    {f54 : Addr} {oc54 kV54 dc54 pm54 cd54 ct54 : Value} {od54 an54 : Option Addr} {sl54 : Array (Option Value)}
    (a54 : PySem.W.nsIn K mainGlobals "_law_play" = some (some (.ref f54))) (l54 : K.lookup f54 = some ⟨oc54, od54, .func (PySem.W.fnOf "_law_play" "_law_play" (defArgs s_law_play) (defBody s_law_play) (defScope s_law_play) .none kV54 dc54 pm54 an54 cd54 ct54), sl54⟩) (c54 : PySem.W.codeIn K cd54 "_law_play" = true) (k54 : PySem.W.keepIn K (.ref f54) = true)
    {f55 : Addr} {oc55 kV55 dc55 pm55 cd55 ct55 : Value} {od55 an55 : Option Addr} {sl55 : Array (Option Value)}
    (a55 : PySem.W.nsIn K mainGlobals "_law_orders" = some (some (.ref f55))) (l55 : K.lookup f55 = some ⟨oc55, od55, .func (PySem.W.fnOf "_law_orders" "_law_orders" (defArgs s_law_orders) (defBody s_law_orders) (defScope s_law_orders) .none kV55 dc55 pm55 an55 cd55 ct55), sl55⟩) (c55 : PySem.W.codeIn K cd55 "_law_orders" = true) (k55 : PySem.W.keepIn K (.ref f55) = true)
    {f56 : Addr} {oc56 kV56 dc56 pm56 cd56 ct56 : Value} {od56 an56 : Option Addr} {sl56 : Array (Option Value)}
    (a56 : PySem.W.nsIn K mainGlobals "_law_orders_right" = some (some (.ref f56))) (l56 : K.lookup f56 = some ⟨oc56, od56, .func (PySem.W.fnOf "_law_orders_right" "_law_orders_right" (defArgs s_law_orders_right) (defBody s_law_orders_right) (defScope s_law_orders_right) .none kV56 dc56 pm56 an56 cd56 ct56), sl56⟩) (c56 : PySem.W.codeIn K cd56 "_law_orders_right" = true) (k56 : PySem.W.keepIn K (.ref f56) = true)
    {f57 : Addr} {oc57 kV57 dc57 pm57 cd57 ct57 : Value} {od57 an57 : Option Addr} {sl57 : Array (Option Value)}
    (a57 : PySem.W.nsIn K mainGlobals "_law_state" = some (some (.ref f57))) (l57 : K.lookup f57 = some ⟨oc57, od57, .func (PySem.W.fnOf "_law_state" "_law_state" (defArgs s_law_state) (defBody s_law_state) (defScope s_law_state) .none kV57 dc57 pm57 an57 cd57 ct57), sl57⟩) (c57 : PySem.W.codeIn K cd57 "_law_state" = true) (k57 : PySem.W.keepIn K (.ref f57) = true)
    {f58 : Addr} {oc58 kV58 dc58 pm58 cd58 ct58 : Value} {od58 an58 : Option Addr} {sl58 : Array (Option Value)}
    (a58 : PySem.W.nsIn K mainGlobals "_law_effects_right" = some (some (.ref f58))) (l58 : K.lookup f58 = some ⟨oc58, od58, .func (PySem.W.fnOf "_law_effects_right" "_law_effects_right" (defArgs s_law_effects_right) (defBody s_law_effects_right) (defScope s_law_effects_right) .none kV58 dc58 pm58 an58 cd58 ct58), sl58⟩) (c58 : PySem.W.codeIn K cd58 "_law_effects_right" = true) (k58 : PySem.W.keepIn K (.ref f58) = true)
    {f59 : Addr} {oc59 kV59 dc59 pm59 cd59 ct59 : Value} {od59 an59 : Option Addr} {sl59 : Array (Option Value)}
    (a59 : PySem.W.nsIn K mainGlobals "_law_presents" = some (some (.ref f59))) (l59 : K.lookup f59 = some ⟨oc59, od59, .func (PySem.W.fnOf "_law_presents" "_law_presents" (defArgs s_law_presents) (defBody s_law_presents) (defScope s_law_presents) .none kV59 dc59 pm59 an59 cd59 ct59), sl59⟩) (c59 : PySem.W.codeIn K cd59 "_law_presents" = true) (k59 : PySem.W.keepIn K (.ref f59) = true)
    {f60 : Addr} {oc60 kV60 dc60 pm60 cd60 ct60 : Value} {od60 an60 : Option Addr} {sl60 : Array (Option Value)}
    (a60 : PySem.W.nsIn K mainGlobals "_law_settings_right" = some (some (.ref f60))) (l60 : K.lookup f60 = some ⟨oc60, od60, .func (PySem.W.fnOf "_law_settings_right" "_law_settings_right" (defArgs s_law_settings_right) (defBody s_law_settings_right) (defScope s_law_settings_right) .none kV60 dc60 pm60 an60 cd60 ct60), sl60⟩) (c60 : PySem.W.codeIn K cd60 "_law_settings_right" = true) (k60 : PySem.W.keepIn K (.ref f60) = true)
    {f61 : Addr} {oc61 kV61 dc61 pm61 cd61 ct61 : Value} {od61 an61 : Option Addr} {sl61 : Array (Option Value)}
    (a61 : PySem.W.nsIn K mainGlobals "_law_right" = some (some (.ref f61))) (l61 : K.lookup f61 = some ⟨oc61, od61, .func (PySem.W.fnOf "_law_right" "_law_right" (defArgs s_law_right) (defBody s_law_right) (defScope s_law_right) .none kV61 dc61 pm61 an61 cd61 ct61), sl61⟩) (c61 : PySem.W.codeIn K cd61 "_law_right" = true) (k61 : PySem.W.keepIn K (.ref f61) = true)
    {f62 : Addr} {oc62 kV62 dc62 pm62 cd62 ct62 : Value} {od62 an62 : Option Addr} {sl62 : Array (Option Value)}
    (a62 : PySem.W.nsIn K mainGlobals "law" = some (some (.ref f62))) (l62 : K.lookup f62 = some ⟨oc62, od62, .func (PySem.W.fnOf "law" "law" (defArgs s_law) (defBody s_law) (defScope s_law) .none kV62 dc62 pm62 an62 cd62 ct62), sl62⟩) (c62 : PySem.W.codeIn K cd62 "law" = true) (k62 : PySem.W.keepIn K (.ref f62) = true)
    {t_LAST_PATCH : Tok} (g_LAST_PATCH : PySem.W.nsIn K mainGlobals "LAST_PATCH" = some (some (.int 100 t_LAST_PATCH)))
    {t_MOST_EVENTS : Tok} (g_MOST_EVENTS : PySem.W.nsIn K mainGlobals "MOST_EVENTS" = some (some (.int 200 t_MOST_EVENTS)))
    {t_MANY_SETTINGS : Tok} (g_MANY_SETTINGS : PySem.W.nsIn K mainGlobals "MANY_SETTINGS" = some (some (.int 10 t_MANY_SETTINGS)))
    (z_len : PySem.W.nsIn K mainGlobals "len" = some none)
    (z_list : PySem.W.nsIn K mainGlobals "list" = some none)
    (z_int : PySem.W.nsIn K mainGlobals "int" = some none)
    (z_bool : PySem.W.nsIn K mainGlobals "bool" = some none)
    (z_str : PySem.W.nsIn K mainGlobals "str" = some none)
    (z_tuple : PySem.W.nsIn K mainGlobals "tuple" = some none)
    (z_max : PySem.W.nsIn K mainGlobals "max" = some none)
    (z_min : PySem.W.nsIn K mainGlobals "min" = some none)
    (z_range : PySem.W.nsIn K mainGlobals "range" = some none)
    (z_repr : PySem.W.nsIn K mainGlobals "repr" = some none)
    (z_isinstance : PySem.W.nsIn K mainGlobals "isinstance" = some none)
    (z_type : PySem.W.nsIn K mainGlobals "type" = some none)
    (z_all : PySem.W.nsIn K mainGlobals "all" = some none)
    (z_set : PySem.W.nsIn K mainGlobals "set" = some none)
    (z_zip : PySem.W.nsIn K mainGlobals "zip" = some none)
    (z_enumerate : PySem.W.nsIn K mainGlobals "enumerate" = some none)
    (z_sorted : PySem.W.nsIn K mainGlobals "sorted" = some none)
    (z_abs : PySem.W.nsIn K mainGlobals "abs" = some none)
    (z_any : PySem.W.nsIn K mainGlobals "any" = some none)
    (z_dict : PySem.W.nsIn K mainGlobals "dict" = some none)
    (z_divmod : PySem.W.nsIn K mainGlobals "divmod" = some none)
    (hfac : PySem.W.nsIn K mainGlobals "factorial" = some (some (.builtin "math.factorial")))
    (fnC : PySem.W.fnIn K f33 = true)
    (ha0 : PySem.W.findIn K (.ref CE) "__class__" = some (some (.builtin "object.__class__")))
    (hN : PySem.W.specialIn K (.builtin "object.__class__") "__get__" = some (some (.builtin "getset_descriptor.__get__")))
    (hTk : PySem.W.takesIn K (.builtin "object.__class__") = some true)
    (hmo : PySem.W.mroIn K CE (.type "object") = some true)
    (hnf : PySem.W.notFirst K CE (.ref CE) = true)
    (hsf : PySem.W.selfFirst K CE = true)
    (hne : PySem.W.findIn K (.ref CE) "__ne__" = some (some (.builtin "object.__ne__")))
    (hob : PySem.W.subIn K (.ref CE) (.type "object") = some true) :
    ∃ fd : FuncData, (∀ (s : Shared) (v : Value), BindsTo s fd ⟨[v], []⟩ [("script", v)]) ∧ ∀ base : Heap, K.In base → base.Ns mainGlobals mg → FnG l.prog w K mg base CX0 16 fa fd ["script"] (spLaw K) := by
  have e := hfa.symm.trans (PySem.W.mg_of X G a62)
  cases e
  have B : NoB mg := ⟨PySem.W.mg_none_of X G z_len, PySem.W.mg_none_of X G z_list, PySem.W.mg_none_of X G z_int, PySem.W.mg_none_of X G z_bool, PySem.W.mg_none_of X G z_str, PySem.W.mg_none_of X G z_tuple, PySem.W.mg_none_of X G z_max, PySem.W.mg_none_of X G z_min, PySem.W.mg_none_of X G z_range, PySem.W.mg_none_of X G z_repr, PySem.W.mg_none_of X G z_isinstance, PySem.W.mg_none_of X G z_type, PySem.W.mg_none_of X G z_all, PySem.W.mg_none_of X G z_set, PySem.W.mg_none_of X G z_zip, PySem.W.mg_none_of X G z_enumerate, PySem.W.mg_none_of X G z_sorted, PySem.W.mg_none_of X G z_abs⟩
  have clCE : Cls K CE := ⟨pgCE, hdCE, poCE, saCE⟩
  have T : Txt K CE := ⟨clCE, nCE0, nCE1, nCE2, nCE3, nCE4⟩
  have F0 := fun_mk (st := s_is_integer) l0 c0 k0
  have b0 := F0.binds (ps := ["value"]) fun _ _ _ _ _ _ us hl => match us, hl with | [_], _ => rfl
  have F1 := fun_mk (st := s_is_integer_within) l1 c1 k1
  have b1 := F1.binds (ps := ["value", "least", "greatest"]) fun _ _ _ _ _ _ us hl => match us, hl with | [_, _, _], _ => rfl
  have F2 := fun_mk (st := s_are_integers) l2 c2 k2
  have b2 := F2.binds (ps := ["value", "least", "greatest", "most"]) fun _ _ _ _ _ _ us hl => match us, hl with | [_, _, _, _], _ => rfl
  have F3 := fun_mk (st := s_check_number) l3 c3 k3
  have b3 := F3.binds (ps := ["value", "least", "greatest"]) fun _ _ _ _ _ _ us hl => match us, hl with | [_, _, _], _ => rfl
  have F4 := fun_mk (st := s_check_index) l4 c4 k4
  have b4 := F4.binds (ps := ["index", "count"]) fun _ _ _ _ _ _ us hl => match us, hl with | [_, _], _ => rfl
  have F5 := fun_mk (st := s_are_events) l5 c5 k5
  have b5 := F5.binds (ps := ["value"]) fun _ _ _ _ _ _ us hl => match us, hl with | [_], _ => rfl
  have F6 := fun_mk (st := s_is_history) l6 c6 k6
  have b6 := F6.binds (ps := ["value"]) fun _ _ _ _ _ _ us hl => match us, hl with | [_], _ => rfl
  have F7 := fun_mk (st := s_check_history) l7 c7 k7
  have b7 := F7.binds (ps := ["history"]) fun _ _ _ _ _ _ us hl => match us, hl with | [_], _ => rfl
  have F8 := fun_mk (st := s_starts_of) l8 c8 k8
  have b8 := F8.binds (ps := ["history"]) fun _ _ _ _ _ _ us hl => match us, hl with | [_], _ => rfl
  have F9 := fun_mk (st := s_is_started) l9 c9 k9
  have b9 := F9.binds (ps := ["history", "value"]) fun _ _ _ _ _ _ us hl => match us, hl with | [_, _], _ => rfl
  have F10 := fun_mk (st := s_running_after) l10 c10 k10
  have b10 := F10.binds (ps := ["history"]) fun _ _ _ _ _ _ us hl => match us, hl with | [_], _ => rfl
  have F11 := fun_mk (st := s_replay) l11 c11 k11
  have b11 := F11.binds (ps := ["history"]) fun _ _ _ _ _ _ us hl => match us, hl with | [_], _ => rfl
  have F12 := fun_mk (st := s_is_value_of) l12 c12 k12
  have b12 := F12.binds (ps := ["history", "value"]) fun _ _ _ _ _ _ us hl => match us, hl with | [_, _], _ => rfl
  have F13 := fun_mk (st := s_present_after) l13 c13 k13
  have b13 := F13.binds (ps := ["history"]) fun _ _ _ _ _ _ us hl => match us, hl with | [_], _ => rfl
  have F14 := fun_mk (st := s_fate_of) l14 c14 k14
  have b14 := F14.binds (ps := ["history", "value"]) fun _ _ _ _ _ _ us hl => match us, hl with | [_, _], _ => rfl
  have F15 := fun_mk (st := s_is_order) l15 c15 k15
  have b15 := F15.binds (ps := ["history", "value"]) fun _ _ _ _ _ _ us hl => match us, hl with | [_, _], _ => rfl
  have F16 := fun_mk (st := s_check_order) l16 c16 k16
  have b16 := F16.binds (ps := ["history", "order"]) fun _ _ _ _ _ _ us hl => match us, hl with | [_, _], _ => rfl
  have F17 := fun_mk (st := s_count_orders) l17 c17 k17
  have b17 := F17.binds (ps := ["history"]) fun _ _ _ _ _ _ us hl => match us, hl with | [_], _ => rfl
  have F18 := fun_mk (st := s_left_by) l18 c18 k18
  have b18 := F18.binds (ps := ["history", "order"]) fun _ _ _ _ _ _ us hl => match us, hl with | [_, _], _ => rfl
  have F19 := fun_mk (st := s_count_leaving) l19 c19 k19
  have b19 := F19.binds (ps := ["history", "value"]) fun _ _ _ _ _ _ us hl => match us, hl with | [_, _], _ => rfl
  have F20 := fun_mk (st := s_nth_permutation) l20 c20 k20
  have b20 := F20.binds (ps := ["patches", "index"]) fun _ _ _ _ _ _ us hl => match us, hl with | [_, _], _ => rfl
  have F21 := fun_mk (st := s_nth_leaving) l21 c21 k21
  have b21 := F21.binds (ps := ["history", "value", "index"]) fun _ _ _ _ _ _ us hl => match us, hl with | [_, _, _], _ => rfl
  have F22 := fun_mk (st := s_permutation_rank) l22 c22 k22
  have b22 := F22.binds (ps := ["permutation"]) fun _ _ _ _ _ _ us hl => match us, hl with | [_], _ => rfl
  have F23 := fun_mk (st := s_leaving_rank) l23 c23 k23
  have b23 := F23.binds (ps := ["history", "order"]) fun _ _ _ _ _ _ us hl => match us, hl with | [_, _], _ => rfl
  have F24 := fun_mk (st := s_is_piece) l24 c24 k24
  have b24 := F24.binds (ps := ["value"]) fun _ _ _ _ _ _ us hl => match us, hl with | [_], _ => rfl
  have F25 := fun_mk (st := s_is_saving) l25 c25 k25
  have b25 := F25.binds (ps := ["value"]) fun _ _ _ _ _ _ us hl => match us, hl with | [_], _ => rfl
  have F26 := fun_mk (st := s_is_state) l26 c26 k26
  have b26 := F26.binds (ps := ["value"]) fun _ _ _ _ _ _ us hl => match us, hl with | [_], _ => rfl
  have F27 := fun_mk (st := s_state_after) l27 c27 k27
  have b27 := F27.binds (ps := ["history"]) fun _ _ _ _ _ _ us hl => match us, hl with | [_], _ => rfl
  have F28 := fun_mk (st := s_references_behind) l28 c28 k28
  have b28 := F28.binds (ps := ["piece"]) fun _ _ _ _ _ _ us hl => match us, hl with | [_], _ => rfl
  have F29 := fun_mk (st := s_Effect_init) l29 c29 k29
  have b29 := F29.binds (ps := ["self", "piece"]) fun _ _ _ _ _ _ us hl => match us, hl with | [_, _], _ => rfl
  have F30 := fun_mk (st := s_Effect_stopped) l30 c30 k30
  have b30 := F30.binds (ps := ["self"]) fun _ _ _ _ _ _ us hl => match us, hl with | [_], _ => rfl
  have F31 := fun_mk (st := s_Effect_ended) l31 c31 k31
  have b31 := F31.binds (ps := ["self"]) fun _ _ _ _ _ _ us hl => match us, hl with | [_], _ => rfl
  have F32 := fun_mk (st := s_Effect_fits) l32 c32 k32
  have b32 := F32.binds (ps := ["self", "present", "saved"]) fun _ _ _ _ _ _ us hl => match us, hl with | [_, _, _], _ => rfl
  have F33 := fun_mk (st := s_Effect_call) l33 c33 k33
  have b33 := F33.binds (ps := ["self", "state"]) fun _ _ _ _ _ _ us hl => match us, hl with | [_, _], _ => rfl
  have F34 := fun_mk (st := s_Effect_add) l34 c34 k34
  have b34 := F34.binds (ps := ["self", "other"]) fun _ _ _ _ _ _ us hl => match us, hl with | [_, _], _ => rfl
  have F35 := fun_mk (st := s_Effect_eq) l35 c35 k35
  have b35 := F35.binds (ps := ["self", "other"]) fun _ _ _ _ _ _ us hl => match us, hl with | [_, _], _ => rfl
  have F36 := fun_mk (st := s_Effect_len) l36 c36 k36
  have b36 := F36.binds (ps := ["self"]) fun _ _ _ _ _ _ us hl => match us, hl with | [_], _ => rfl
  have F37 := fun_mk (st := s_Effect_contains) l37 c37 k37
  have b37 := F37.binds (ps := ["self", "patch"]) fun _ _ _ _ _ _ us hl => match us, hl with | [_, _], _ => rfl
  have F38 := fun_mk (st := s_are_settings) l38 c38 k38
  have b38 := F38.binds (ps := ["value"]) fun _ _ _ _ _ _ us hl => match us, hl with | [_], _ => rfl
  have F39 := fun_mk (st := s_check_touches) l39 c39 k39
  have b39 := F39.binds (ps := ["history", "touches"]) fun _ _ _ _ _ _ us hl => match us, hl with | [_, _], _ => rfl
  have F40 := fun_mk (st := s_states_by) l40 c40 k40
  have b40 := F40.binds (ps := ["history", "touches"]) fun _ _ _ _ _ _ us hl => match us, hl with | [_, _], _ => rfl
  have F41 := fun_mk (st := s_presents_by) l41 c41 k41
  have b41 := F41.binds (ps := ["history", "touches"]) fun _ _ _ _ _ _ us hl => match us, hl with | [_, _], _ => rfl
  have F42 := fun_mk (st := s_savings_by) l42 c42 k42
  have b42 := F42.binds (ps := ["history", "touches"]) fun _ _ _ _ _ _ us hl => match us, hl with | [_, _], _ => rfl
  have F43 := fun_mk (st := s_lost_settings) l43 c43 k43
  have b43 := F43.binds (ps := ["history", "touches"]) fun _ _ _ _ _ _ us hl => match us, hl with | [_, _], _ => rfl
  have F44 := fun_mk (st := s_spoils) l44 c44 k44
  have b44 := F44.binds (ps := ["savings", "patches", "patch"]) fun _ _ _ _ _ _ us hl => match us, hl with | [_, _, _], _ => rfl
  have F45 := fun_mk (st := s_order_and_stuck) l45 c45 k45
  have b45 := F45.binds (ps := ["history", "touches"]) fun _ _ _ _ _ _ us hl => match us, hl with | [_, _], _ => rfl
  have F46 := fun_mk (st := s_obstacle) l46 c46 k46
  have b46 := F46.binds (ps := ["history", "touches"]) fun _ _ _ _ _ _ us hl => match us, hl with | [_, _], _ => rfl
  have F47 := fun_mk (st := s_restoring_order) l47 c47 k47
  have b47 := F47.binds (ps := ["history", "touches"]) fun _ _ _ _ _ _ us hl => match us, hl with | [_, _], _ => rfl
  have F48 := fun_mk (st := s_is_restoring) l48 c48 k48
  have b48 := F48.binds (ps := ["history", "touches", "order"]) fun _ _ _ _ _ _ us hl => match us, hl with | [_, _, _], _ => rfl
  have F49 := fun_mk (st := s_is_stuck) l49 c49 k49
  have b49 := F49.binds (ps := ["savings", "value"]) fun _ _ _ _ _ _ us hl => match us, hl with | [_, _], _ => rfl
  have F50 := fun_mk (st := s_is_obstacle) l50 c50 k50
  have b50 := F50.binds (ps := ["history", "touches", "value"]) fun _ _ _ _ _ _ us hl => match us, hl with | [_, _, _], _ => rfl
  have F51 := fun_mk (st := s_law_bag) l51 c51 k51
  have b51 := F51.binds (ps := ["cell", "k"]) fun _ _ _ _ _ _ us hl => match us, hl with | [_, _], _ => rfl
  have F52 := fun_mk (st := s_law_draw) l52 c52 k52
  have b52 := F52.binds (ps := ["bag", "many"]) fun _ _ _ _ _ _ us hl => match us, hl with | [_, _], _ => rfl
  have F53 := fun_mk (st := s_law_events) l53 c53 k53
  have b53 := F53.binds (ps := ["bag", "most", "to_end"]) fun _ _ _ _ _ _ us hl => match us, hl with | [_, _, _], _ => rfl
  have F54 := fun_mk (st := s_law_play) l54 c54 k54
  have b54 := F54.binds (ps := ["events"]) fun _ _ _ _ _ _ us hl => match us, hl with | [_], _ => rfl
  have F55 := fun_mk (st := s_law_orders) l55 c55 k55
  have b55 := F55.binds (ps := ["items"]) fun _ _ _ _ _ _ us hl => match us, hl with | [_], _ => rfl
  have F56 := fun_mk (st := s_law_orders_right) l56 c56 k56
  have b56 := F56.binds (ps := ["bag", "events"]) fun _ _ _ _ _ _ us hl => match us, hl with | [_, _], _ => rfl
  have F57 := fun_mk (st := s_law_state) l57 c57 k57
  have b57 := F57.binds (ps := ["events"]) fun _ _ _ _ _ _ us hl => match us, hl with | [_], _ => rfl
  have F58 := fun_mk (st := s_law_effects_right) l58 c58 k58
  have b58 := F58.binds (ps := ["events", "cut"]) fun _ _ _ _ _ _ us hl => match us, hl with | [_, _], _ => rfl
  have F59 := fun_mk (st := s_law_presents) l59 c59 k59
  have b59 := F59.binds (ps := ["events", "touches"]) fun _ _ _ _ _ _ us hl => match us, hl with | [_, _], _ => rfl
  have F60 := fun_mk (st := s_law_settings_right) l60 c60 k60
  have b60 := F60.binds (ps := ["events", "touches"]) fun _ _ _ _ _ _ us hl => match us, hl with | [_, _], _ => rfl
  have F61 := fun_mk (st := s_law_right) l61 c61 k61
  have b61 := F61.binds (ps := ["bag"]) fun _ _ _ _ _ _ us hl => match us, hl with | [_], _ => rfl
  have F62 := fun_mk (st := s_law) l62 c62 k62
  refine ⟨PySem.W.fnOf "law" "law" (defArgs s_law) (defBody s_law) (defScope s_law) .none kV62 dc62 pm62 an62 cd62 ct62, fun s v => .of_eq rfl, fun base _ _ => ?_⟩
  have T_is_integer : Cal l.prog w K mg base 1 "is_integer" _ := ⟨f0, _, ["value"], ok_is_integer F0 B, PySem.W.mg_of X G a0, F0.kp, b0⟩
  have TI : TxI K mg CE := ⟨PySem.W.mg_of X G aCCE, ha0, hN, hTk, hmo, kit_self K CE⟩
  have TO : TxO K CE := ⟨hnf, hsf, hne, hob⟩
  have T_is_integer_V : Cal l.prog w K mg base 1 "is_integer" (spIsIntV K) := ⟨f0, _, ["value"], ok_is_integer_V F0 B, PySem.W.mg_of X G a0, F0.kp, b0⟩
  have T_is_integer_within : Cal l.prog w K mg base 2 "is_integer_within" _ := ⟨f1, _, ["value", "least", "greatest"], ok_is_integer_within F1 T_is_integer, PySem.W.mg_of X G a1, F1.kp, b1⟩
  have T_are_integers : Cal l.prog w K mg base 3 "are_integers" _ := ⟨f2, _, ["value", "least", "greatest", "most"], ok_are_integers F2 B T_is_integer_within, PySem.W.mg_of X G a2, F2.kp, b2⟩
  have T_check_number : Gc l.prog w K mg base 3 "check_number" _ := ⟨f3, _, ["value", "least", "greatest"], ok_check_number F3 T_is_integer_within, PySem.W.mg_of X G a3, F3.kp, b3⟩
  have T_check_index : Gc l.prog w K mg base 4 "check_index" _ := ⟨f4, _, ["index", "count"], ok_check_index F4 T_check_number, PySem.W.mg_of X G a4, F4.kp, b4⟩
  have T_are_events : Cal l.prog w K mg base 4 "are_events" _ := ⟨f5, _, ["value"], ok_are_events F5 B (PySem.W.mg_of X G g_LAST_PATCH) (PySem.W.mg_of X G g_MOST_EVENTS) T_are_integers, PySem.W.mg_of X G a5, F5.kp, b5⟩
  have T_is_history : Cal l.prog w K mg base 5 "is_history" _ := ⟨f6, _, ["value"], ok_is_history F6 B T_are_events, PySem.W.mg_of X G a6, F6.kp, b6⟩
  have T_check_history : Cal l.prog w K mg base 6 "check_history" _ := ⟨f7, _, ["history"], ok_check_history F7 T_is_history, PySem.W.mg_of X G a7, F7.kp, b7⟩
  have T_starts_of : Cal l.prog w K mg base 1 "starts_of" _ := ⟨f8, _, ["history"], ok_starts_of F8, PySem.W.mg_of X G a8, F8.kp, b8⟩
  have T_is_started : Cal l.prog w K mg base 2 "is_started" _ := ⟨f9, _, ["history", "value"], ok_is_started F9 T_is_integer, PySem.W.mg_of X G a9, F9.kp, b9⟩
  have T_running_after : Cal l.prog w K mg base 7 "running_after" _ := ⟨f10, _, ["history"], ok_running_after F10 B T_check_history T_starts_of, PySem.W.mg_of X G a10, F10.kp, b10⟩
  have T_replay : Cal l.prog w K mg base 1 "replay" _ := ⟨f11, _, ["history"], ok_replay F11, PySem.W.mg_of X G a11, F11.kp, b11⟩
  have T_replayP : Cal l.prog w K mg base 1 "replay" (spReplay K) := ⟨f11, _, ["history"], FnOk.weaken (ok_replay F11) replay_p, PySem.W.mg_of X G a11, F11.kp, b11⟩
  have T_is_value_of : Cal l.prog w K mg base 3 "is_value_of" _ := ⟨f12, _, ["history", "value"], ok_is_value_of F12 T_is_started T_is_integer, PySem.W.mg_of X G a12, F12.kp, b12⟩
  have T_present_after : Cal l.prog w K mg base 7 "present_after" _ := ⟨f13, _, ["history"], ok_present_after F13 T_check_history T_replayP, PySem.W.mg_of X G a13, F13.kp, b13⟩
  have T_fate_of : Cal l.prog w K mg base 7 "fate_of" _ := ⟨f14, _, ["history", "value"], ok_fate_of F14 B T_check_history T_is_value_of T_replayP, PySem.W.mg_of X G a14, F14.kp, b14⟩
  have T_is_order : Gc l.prog w K mg base 8 "is_order" _ := ⟨f15, _, ["history", "value"], ok_is_order F15 B (PySem.W.mg_of X G g_LAST_PATCH) T_running_after T_are_integers, PySem.W.mg_of X G a15, F15.kp, b15⟩
  have T_check_order : Gc l.prog w K mg base 9 "check_order" _ := ⟨f16, _, ["history", "order"], ok_check_order F16 T_is_order, PySem.W.mg_of X G a16, F16.kp, b16⟩
  have T_count_orders : Gc l.prog w K mg base 8 "count_orders" _ := ⟨f17, _, ["history"], ok_count_orders F17 B (PySem.W.mg_of X G hfac) T_running_after, PySem.W.mg_of X G a17, F17.kp, b17⟩
  have T_left_by : Gc l.prog w K mg base 10 "left_by" _ := ⟨f18, _, ["history", "order"], ok_left_by F18 T_check_order T_present_after, PySem.W.mg_of X G a18, F18.kp, b18⟩
  have T_count_leaving : Gc l.prog w K mg base 8 "count_leaving" _ := ⟨f19, _, ["history", "value"], ok_count_leaving F19 B (PySem.W.mg_of X G hfac) T_fate_of T_running_after, PySem.W.mg_of X G a19, F19.kp, b19⟩
  have T_nth_permutation : Gc l.prog w K mg base 1 "_nth_permutation" _ := ⟨f20, _, ["patches", "index"], ok_nth_permutation F20 B (PySem.W.mg_none_of X G z_divmod) (PySem.W.mg_of X G hfac), PySem.W.mg_of X G a20, F20.kp, b20⟩
  have T_nth_leaving : Gc l.prog w K mg base 9 "nth_leaving" _ := ⟨f21, _, ["history", "value", "index"], ok_nth_leaving F21 B T_check_index T_count_leaving T_fate_of T_running_after T_nth_permutation, PySem.W.mg_of X G a21, F21.kp, b21⟩
  have T_permutation_rank : Gc l.prog w K mg base 1 "_permutation_rank" _ := ⟨f22, _, ["permutation"], ok_permutation_rank F22 B, PySem.W.mg_of X G a22, F22.kp, b22⟩
  have T_leaving_rank : Gc l.prog w K mg base 10 "leaving_rank" _ := ⟨f23, _, ["history", "order"], ok_leaving_rank F23 T_check_order T_permutation_rank, PySem.W.mg_of X G a23, F23.kp, b23⟩
  have T_is_piece : Cal l.prog w K mg base 5 "is_piece" _ := ⟨f24, _, ["value"], ok_is_piece F24 B T_are_events, PySem.W.mg_of X G a24, F24.kp, b24⟩
  have T_is_saving : Cal l.prog w K mg base 3 "_is_saving" _ := ⟨f25, _, ["value"], ok_is_saving F25 B (PySem.W.mg_of X G g_LAST_PATCH) T_is_integer_within, PySem.W.mg_of X G a25, F25.kp, b25⟩
  have T_is_state : Cal l.prog w K mg base 4 "is_state" _ := ⟨f26, _, ["value"], ok_is_state F26 B (PySem.W.mg_of X G g_LAST_PATCH) T_is_integer_within T_is_saving, PySem.W.mg_of X G a26, F26.kp, b26⟩
  have T_state_after : Cal l.prog w K mg base 8 "state_after" _ := ⟨f27, _, ["history"], ok_state_after F27 T_running_after T_replay, PySem.W.mg_of X G a27, F27.kp, b27⟩
  have T_references_behind : Cal l.prog w K mg base 1 "_references_behind" _ := ⟨f28, _, ["piece"], ok_references_behind F28, PySem.W.mg_of X G a28, F28.kp, b28⟩
  have T_mk_Effect : Mak l.prog w K mg base 6 "Effect" CE _ := ⟨f29, _, ["self", "piece"], ⟨mkCE, a29, i29, kcCE⟩, ok_Effect_init F29 B T T_is_piece T_references_behind, PySem.W.mg_of X G aCCE, b29⟩
  have T_Effect_stopped : Prp l.prog w K mg base 1 CE "stopped" _ := ⟨p30, f30, _, ["self"], clCE, ⟨a30, pg30, pt30, _, pr30⟩, ok_Effect_stopped F30 B T, b30⟩
  have T_Effect_ended : Prp l.prog w K mg base 1 CE "ended" _ := ⟨p31, f31, _, ["self"], clCE, ⟨a31, pg31, pt31, _, pr31⟩, ok_Effect_ended F31 B T, b31⟩
  have T_Effect_fits : Met l.prog w K mg base 2 CE "_fits" _ := ⟨f32, _, ["self", "present", "saved"], clCE, ⟨a32, i32, k32⟩, ok_Effect_fits F32 B (PySem.W.mg_none_of X G z_any) T T_starts_of, b32⟩
  have T_Effect_call : Met l.prog w K mg base 5 CE "__call__" _ := ⟨f33, _, ["self", "state"], clCE, ⟨a33, i33, k33⟩, ok_Effect_call F33 T (PySem.W.mg_none_of X G z_dict) B T_is_state T_Effect_fits, b33⟩
  have T_fi_Effect : ∀ f, PySem.W.findIn K (.ref CE) "__call__" = some (some (.ref f)) → PySem.W.fnIn K f = true := fun f e => by
    have e2 := a33.symm.trans e
    cases e2
    exact fnC
  have T_Effect_add : Met l.prog w K mg base 8 CE "__add__" _ := ⟨f34, _, ["self", "other"], clCE, ⟨a34, i34, k34⟩, ok_Effect_add F34 B T TI T_is_piece T_mk_Effect, b34⟩
  have T_Effect_eq : Met l.prog w K mg base 1 CE "__eq__" _ := ⟨f35, _, ["self", "other"], clCE, ⟨a35, i35, k35⟩, ok_Effect_eq F35 B T TI, b35⟩
  have T_Effect_len : Met l.prog w K mg base 1 CE "__len__" _ := ⟨f36, _, ["self"], clCE, ⟨a36, i36, k36⟩, ok_Effect_len F36 B T, b36⟩
  have T_Effect_contains : Met l.prog w K mg base 2 CE "__contains__" _ := ⟨f37, _, ["self", "patch"], clCE, ⟨a37, i37, k37⟩, ok_Effect_contains F37 B T T_is_integer_V, b37⟩
  have T_are_settings : Gc l.prog w K mg base 4 "_are_settings" _ := ⟨f38, _, ["value"], ok_are_settings F38 B (PySem.W.mg_of X G g_MANY_SETTINGS) T_are_integers, PySem.W.mg_of X G a38, F38.kp, b38⟩
  have T_check_touches : Gc l.prog w K mg base 7 "_check_touches" _ := ⟨f39, _, ["history", "touches"], ok_check_touches F39 B (PySem.W.mg_of X G g_LAST_PATCH) T_check_history T_starts_of T_are_settings, PySem.W.mg_of X G a39, F39.kp, b39⟩
  have T_states_by : Gc l.prog w K mg base 9 "_states_by" _ := ⟨f40, _, ["history", "touches"], ok_states_by F40 B (PySem.W.mg_of X G g_MANY_SETTINGS) T_check_touches T_state_after, PySem.W.mg_of X G a40, F40.kp, b40⟩
  have T_presents_by : Gc l.prog w K mg base 10 "presents_by" _ := ⟨f41, _, ["history", "touches"], ok_presents_by F41 T_states_by, PySem.W.mg_of X G a41, F41.kp, b41⟩
  have T_savings_by : Gc l.prog w K mg base 10 "_savings_by" _ := ⟨f42, _, ["history", "touches"], ok_savings_by F42 (PySem.W.mg_none_of X G z_dict) T_states_by, PySem.W.mg_of X G a42, F42.kp, b42⟩
  have T_lost_settings : Gc l.prog w K mg base 10 "_lost_settings" _ := ⟨f43, _, ["history", "touches"], ok_lost_settings F43 B T_states_by, PySem.W.mg_of X G a43, F43.kp, b43⟩
  have T_spoils : Gc l.prog w K mg base 1 "_spoils" _ := ⟨f44, _, ["savings", "patches", "patch"], ok_spoils F44 B (PySem.W.mg_none_of X G z_any), PySem.W.mg_of X G a44, F44.kp, b44⟩
  have T_order_and_stuck : Gc l.prog w K mg base 11 "_order_and_stuck" _ := ⟨f45, _, ["history", "touches"], ok_order_and_stuck F45 T_running_after T_savings_by T_spoils, PySem.W.mg_of X G a45, F45.kp, b45⟩
  have T_obstacle : Gc l.prog w K mg base 12 "obstacle" _ := ⟨f46, _, ["history", "touches"], ok_obstacle F46 T_lost_settings T_order_and_stuck, PySem.W.mg_of X G a46, F46.kp, b46⟩
  have T_obstacle_T : Gc l.prog w K mg base 12 "obstacle" (spObsT K) := ⟨f46, _, ["history", "touches"], ok_obstacle_T F46 T_lost_settings T_order_and_stuck, PySem.W.mg_of X G a46, F46.kp, b46⟩
  have T_restoring_order : Gc l.prog w K mg base 13 "restoring_order" _ := ⟨f47, _, ["history", "touches"], ok_restoring_order_T F47 T_obstacle T_order_and_stuck, PySem.W.mg_of X G a47, F47.kp, b47⟩
  have T_is_restoring : Gc l.prog w K mg base 11 "is_restoring" _ := ⟨f48, _, ["history", "touches", "order"], ok_is_restoring F48 B (PySem.W.mg_of X G g_MANY_SETTINGS) T_check_touches T_check_order T_presents_by, PySem.W.mg_of X G a48, F48.kp, b48⟩
  have T_is_stuck : Gc l.prog w K mg base 4 "_is_stuck" _ := ⟨f49, _, ["savings", "value"], ok_is_stuck F49 B (PySem.W.mg_of X G g_LAST_PATCH) T_are_integers T_spoils, PySem.W.mg_of X G a49, F49.kp, b49⟩
  have T_is_obstacle : Gc l.prog w K mg base 11 "is_obstacle" _ := ⟨f50, _, ["history", "touches", "value"], ok_is_obstacle_T F50 B (PySem.W.mg_of X G g_MANY_SETTINGS) T_lost_settings T_savings_by T_is_integer_within T_is_stuck, PySem.W.mg_of X G a50, F50.kp, b50⟩
  have T_law_bag : Gc l.prog w K mg base 1 "_law_bag" _ := ⟨f51, _, ["cell", "k"], .of (ok_law_bag F51), PySem.W.mg_of X G a51, F51.kp, b51⟩
  have T_law_draw : Gc l.prog w K mg base 1 "_law_draw" _ := ⟨f52, _, ["bag", "many"], .of (ok_law_draw F52), PySem.W.mg_of X G a52, F52.kp, b52⟩
  have T_law_events : Gc l.prog w K mg base 2 "_law_events" _ := ⟨f53, _, ["bag", "most", "to_end"], ok_law_events F53 B T_law_draw, PySem.W.mg_of X G a53, F53.kp, b53⟩
  have T_law_play : Gc l.prog w K mg base 1 "_law_play" _ := ⟨f54, _, ["events"], ok_law_play F54, PySem.W.mg_of X G a54, F54.kp, b54⟩
  have T_law_orders : Gc l.prog w K mg base 1 "_law_orders" _ := ⟨f55, _, ["items"], ok_law_orders F55 B, PySem.W.mg_of X G a55, F55.kp, b55⟩
  have T_law_orders_right : Gc l.prog w K mg base 11 "_law_orders_right" _ := ⟨f56, _, ["bag", "events"], ok_law_orders_right F56 B T_law_draw T_law_play T_law_orders T_left_by T_count_orders T_count_leaving T_nth_leaving T_leaving_rank, PySem.W.mg_of X G a56, F56.kp, b56⟩
  have T_law_state : Gc l.prog w K mg base 2 "_law_state" _ := ⟨f57, _, ["events"], ok_law_state F57 B T_law_play, PySem.W.mg_of X G a57, F57.kp, b57⟩
  have T_law_effects_right : Gc l.prog w K mg base 9 "_law_effects_right" _ := ⟨f58, _, ["events", "cut"], ok_law_effects_right F58 B TO T T_fi_Effect T_state_after T_law_state T_mk_Effect T_Effect_call T_Effect_add T_Effect_eq T_Effect_len T_Effect_contains T_Effect_stopped T_Effect_ended, PySem.W.mg_of X G a58, F58.kp, b58⟩
  have T_law_presents : Gc l.prog w K mg base 2 "_law_presents" _ := ⟨f59, _, ["events", "touches"], ok_law_presents F59 B T_law_play, PySem.W.mg_of X G a59, F59.kp, b59⟩
  have T_law_settings_right : Gc l.prog w K mg base 14 "_law_settings_right" _ := ⟨f60, _, ["events", "touches"], ok_law_settings_right F60 B T_law_play T_law_orders T_law_presents T_presents_by T_is_restoring T_restoring_order T_obstacle_T T_is_obstacle, PySem.W.mg_of X G a60, F60.kp, b60⟩
  have T_law_right : Gc l.prog w K mg base 15 "_law_right" _ := ⟨f61, _, ["bag"], ok_law_right F61 B T_law_draw T_law_events T_law_orders_right T_law_effects_right T_law_settings_right, PySem.W.mg_of X G a61, F61.kp, b61⟩
  exact ok_law F62 B T_law_bag T_law_right
end L69
open PySem PySem.W PyProof.Rows
set_option maxHeartbeats 0 in
theorem PySem.Challenge.cw_latepatches_k69_whole_orders_effects_and_holds : PySem.Challenge.rw_latepatches_k69_whole_orders_effects_and.Holds := by
  w_on; o_law; k_head; (case hw => w_witness2)
  k_fill
  refine Lp.walk_ofG (l := PySem.Challenge.rw_latepatches_k69_whole_orders_effects_and) (n := 63) (k := 16) (x := "script") (CX := fun _ => L2.CX0) (sp := fun w => L69.spLaw _) rfl (by decide) rfl ⟨rfl, by decide, by decide⟩ (fun w h Y => PySem.W.kIn_of Y) ?F (fun _ _ a ns hl _ hS => ⟨a, ns, rfl, hS, hl, fun _ => rfl⟩) (fun _ _ _ _ _ h => h)
  case F =>
    intro w mg fa h KX G hmg
    refine' L69.all_mk KX G hmg ?aCCE ?pgCE ?hdCE ?poCE ?saCE ?mkCE ?kcCE ?nCE0 ?nCE1 ?nCE2 ?nCE3 ?nCE4 ?a0 ?l0 ?c0 ?k0 ?a1 ?l1 ?c1 ?k1 ?a2 ?l2 ?c2 ?k2 ?a3 ?l3 ?c3 ?k3 ?a4 ?l4 ?c4 ?k4 ?a5 ?l5 ?c5 ?k5 ?a6 ?l6 ?c6 ?k6 ?a7 ?l7 ?c7 ?k7 ?a8 ?l8 ?c8 ?k8 ?a9 ?l9 ?c9 ?k9 ?a10 ?l10 ?c10 ?k10 ?a11 ?l11 ?c11 ?k11 ?a12 ?l12 ?c12 ?k12 ?a13 ?l13 ?c13 ?k13 ?a14 ?l14 ?c14 ?k14 ?a15 ?l15 ?c15 ?k15 ?a16 ?l16 ?c16 ?k16 ?a17 ?l17 ?c17 ?k17 ?a18 ?l18 ?c18 ?k18 ?a19 ?l19 ?c19 ?k19 ?a20 ?l20 ?c20 ?k20 ?a21 ?l21 ?c21 ?k21 ?a22 ?l22 ?c22 ?k22 ?a23 ?l23 ?c23 ?k23 ?a24 ?l24 ?c24 ?k24 ?a25 ?l25 ?c25 ?k25 ?a26 ?l26 ?c26 ?k26 ?a27 ?l27 ?c27 ?k27 ?a28 ?l28 ?c28 ?k28 ?a29 ?i29 ?l29 ?c29 ?k29 ?a30 ?pg30 ?pt30 ?pr30 ?l30 ?c30 ?k30 ?a31 ?pg31 ?pt31 ?pr31 ?l31 ?c31 ?k31 ?a32 ?i32 ?l32 ?c32 ?k32 ?a33 ?i33 ?l33 ?c33 ?k33 ?a34 ?i34 ?l34 ?c34 ?k34 ?a35 ?i35 ?l35 ?c35 ?k35 ?a36 ?i36 ?l36 ?c36 ?k36 ?a37 ?i37 ?l37 ?c37 ?k37 ?a38 ?l38 ?c38 ?k38 ?a39 ?l39 ?c39 ?k39 ?a40 ?l40 ?c40 ?k40 ?a41 ?l41 ?c41 ?k41 ?a42 ?l42 ?c42 ?k42 ?a43 ?l43 ?c43 ?k43 ?a44 ?l44 ?c44 ?k44 ?a45 ?l45 ?c45 ?k45 ?a46 ?l46 ?c46 ?k46 ?a47 ?l47 ?c47 ?k47 ?a48 ?l48 ?c48 ?k48 ?a49 ?l49 ?c49 ?k49 ?a50 ?l50 ?c50 ?k50 ?a51 ?l51 ?c51 ?k51 ?a52 ?l52 ?c52 ?k52 ?a53 ?l53 ?c53 ?k53 ?a54 ?l54 ?c54 ?k54 ?a55 ?l55 ?c55 ?k55 ?a56 ?l56 ?c56 ?k56 ?a57 ?l57 ?c57 ?k57 ?a58 ?l58 ?c58 ?k58 ?a59 ?l59 ?c59 ?k59 ?a60 ?l60 ?c60 ?k60 ?a61 ?l61 ?c61 ?k61 ?a62 ?l62 ?c62 ?k62 ?g_LAST_PATCH ?g_MOST_EVENTS ?g_MANY_SETTINGS ?z_len ?z_list ?z_int ?z_bool ?z_str ?z_tuple ?z_max ?z_min ?z_range ?z_repr ?z_isinstance ?z_type ?z_all ?z_set ?z_zip ?z_enumerate ?z_sorted ?z_abs ?z_any ?z_dict ?z_divmod ?hfac ?fnC ?ha0 ?hN ?hTk ?hmo ?hnf ?hsf ?hne ?hob
    (case aCCE => k_is); (case pgCE => k_is); (case hdCE => k_is); (case poCE => k_is); (case saCE => k_is); (case mkCE => k_is); (case kcCE => k_is); (case nCE0 => k_is); (case nCE1 => k_is); (case nCE2 => k_is); (case nCE3 => k_is); (case nCE4 => k_is); (case a0 => k_is); (case l0 => k_is); (case c0 => k_is); (case k0 => k_is); (case a1 => k_is); (case l1 => k_is); (case c1 => k_is); (case k1 => k_is); (case a2 => k_is); (case l2 => k_is); (case c2 => k_is); (case k2 => k_is); (case a3 => k_is); (case l3 => k_is); (case c3 => k_is); (case k3 => k_is); (case a4 => k_is); (case l4 => k_is); (case c4 => k_is); (case k4 => k_is); (case a5 => k_is); (case l5 => k_is); (case c5 => k_is); (case k5 => k_is); (case a6 => k_is); (case l6 => k_is); (case c6 => k_is); (case k6 => k_is); (case a7 => k_is); (case l7 => k_is); (case c7 => k_is); (case k7 => k_is); (case a8 => k_is); (case l8 => k_is); (case c8 => k_is); (case k8 => k_is); (case a9 => k_is); (case l9 => k_is); (case c9 => k_is); (case k9 => k_is); (case a10 => k_is); (case l10 => k_is); (case c10 => k_is); (case k10 => k_is); (case a11 => k_is); (case l11 => k_is); (case c11 => k_is); (case k11 => k_is); (case a12 => k_is); (case l12 => k_is); (case c12 => k_is); (case k12 => k_is); (case a13 => k_is); (case l13 => k_is); (case c13 => k_is); (case k13 => k_is); (case a14 => k_is); (case l14 => k_is); (case c14 => k_is); (case k14 => k_is); (case a15 => k_is); (case l15 => k_is); (case c15 => k_is); (case k15 => k_is); (case a16 => k_is); (case l16 => k_is); (case c16 => k_is); (case k16 => k_is); (case a17 => k_is); (case l17 => k_is); (case c17 => k_is); (case k17 => k_is); (case a18 => k_is); (case l18 => k_is); (case c18 => k_is); (case k18 => k_is); (case a19 => k_is); (case l19 => k_is); (case c19 => k_is); (case k19 => k_is); (case a20 => k_is); (case l20 => k_is); (case c20 => k_is); (case k20 => k_is); (case a21 => k_is); (case l21 => k_is); (case c21 => k_is); (case k21 => k_is); (case a22 => k_is); (case l22 => k_is); (case c22 => k_is); (case k22 => k_is); (case a23 => k_is); (case l23 => k_is); (case c23 => k_is); (case k23 => k_is); (case a24 => k_is); (case l24 => k_is); (case c24 => k_is); (case k24 => k_is); (case a25 => k_is); (case l25 => k_is); (case c25 => k_is); (case k25 => k_is); (case a26 => k_is); (case l26 => k_is); (case c26 => k_is); (case k26 => k_is); (case a27 => k_is); (case l27 => k_is); (case c27 => k_is); (case k27 => k_is); (case a28 => k_is); (case l28 => k_is); (case c28 => k_is); (case k28 => k_is); (case a29 => k_is); (case i29 => k_is); (case l29 => k_is); (case c29 => k_is); (case k29 => k_is); (case a30 => k_is); (case pg30 => k_is); (case pt30 => k_is); (case pr30 => k_is); (case l30 => k_is); (case c30 => k_is); (case k30 => k_is); (case a31 => k_is); (case pg31 => k_is); (case pt31 => k_is); (case pr31 => k_is); (case l31 => k_is); (case c31 => k_is); (case k31 => k_is); (case a32 => k_is); (case i32 => k_is); (case l32 => k_is); (case c32 => k_is); (case k32 => k_is); (case a33 => k_is); (case i33 => k_is); (case l33 => k_is); (case c33 => k_is); (case k33 => k_is); (case a34 => k_is); (case i34 => k_is); (case l34 => k_is); (case c34 => k_is); (case k34 => k_is); (case a35 => k_is); (case i35 => k_is); (case l35 => k_is); (case c35 => k_is); (case k35 => k_is); (case a36 => k_is); (case i36 => k_is); (case l36 => k_is); (case c36 => k_is); (case k36 => k_is); (case a37 => k_is); (case i37 => k_is); (case l37 => k_is); (case c37 => k_is); (case k37 => k_is); (case a38 => k_is); (case l38 => k_is); (case c38 => k_is); (case k38 => k_is); (case a39 => k_is); (case l39 => k_is); (case c39 => k_is); (case k39 => k_is); (case a40 => k_is); (case l40 => k_is); (case c40 => k_is); (case k40 => k_is); (case a41 => k_is); (case l41 => k_is); (case c41 => k_is); (case k41 => k_is); (case a42 => k_is); (case l42 => k_is); (case c42 => k_is); (case k42 => k_is); (case a43 => k_is); (case l43 => k_is); (case c43 => k_is); (case k43 => k_is); (case a44 => k_is); (case l44 => k_is); (case c44 => k_is); (case k44 => k_is); (case a45 => k_is); (case l45 => k_is); (case c45 => k_is); (case k45 => k_is); (case a46 => k_is); (case l46 => k_is); (case c46 => k_is); (case k46 => k_is); (case a47 => k_is); (case l47 => k_is); (case c47 => k_is); (case k47 => k_is); (case a48 => k_is); (case l48 => k_is); (case c48 => k_is); (case k48 => k_is); (case a49 => k_is); (case l49 => k_is); (case c49 => k_is); (case k49 => k_is); (case a50 => k_is); (case l50 => k_is); (case c50 => k_is); (case k50 => k_is); (case a51 => k_is); (case l51 => k_is); (case c51 => k_is); (case k51 => k_is); (case a52 => k_is); (case l52 => k_is); (case c52 => k_is); (case k52 => k_is); (case a53 => k_is); (case l53 => k_is); (case c53 => k_is); (case k53 => k_is); (case a54 => k_is); (case l54 => k_is); (case c54 => k_is); (case k54 => k_is); (case a55 => k_is); (case l55 => k_is); (case c55 => k_is); (case k55 => k_is); (case a56 => k_is); (case l56 => k_is); (case c56 => k_is); (case k56 => k_is); (case a57 => k_is); (case l57 => k_is); (case c57 => k_is); (case k57 => k_is); (case a58 => k_is); (case l58 => k_is); (case c58 => k_is); (case k58 => k_is); (case a59 => k_is); (case l59 => k_is); (case c59 => k_is); (case k59 => k_is); (case a60 => k_is); (case l60 => k_is); (case c60 => k_is); (case k60 => k_is); (case a61 => k_is); (case l61 => k_is); (case c61 => k_is); (case k61 => k_is); (case a62 => k_is); (case l62 => k_is); (case c62 => k_is); (case k62 => k_is); (case g_LAST_PATCH => k_is); (case g_MOST_EVENTS => k_is); (case g_MANY_SETTINGS => k_is); (case z_len => k_is); (case z_list => k_is); (case z_int => k_is); (case z_bool => k_is); (case z_str => k_is); (case z_tuple => k_is); (case z_max => k_is); (case z_min => k_is); (case z_range => k_is); (case z_repr => k_is); (case z_isinstance => k_is); (case z_type => k_is); (case z_all => k_is); (case z_set => k_is); (case z_zip => k_is); (case z_enumerate => k_is); (case z_sorted => k_is); (case z_abs => k_is); (case z_any => k_is); (case z_dict => k_is); (case z_divmod => k_is); (case hfac => k_is); (case fnC => k_is); (case ha0 => k_is); (case hN => k_is); (case hTk => k_is); (case hmo => k_is); (case hnf => k_is); (case hsf => k_is); (case hne => k_is); (case hob => k_is)
