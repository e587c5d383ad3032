import PyProof.Rows.All
import Wide.All
import OpenK.AllK
import Wide.FinOn
import HandS.ForMost
import HandS.IsInst
import HandS.More
import HandS.Strs
import HandS.Wide
import HandS.SortInts
import HandS.Style
import HandS.Conv
import PyProof.TypeEq
import PyProof.ReprRoads
import HandS.ForExc
import HandS.Evl
import HandS.Zip
import HandS.SetFor
import HandS.Walk
import PyProof.Rows.CountFlat
import HandS.DictComp
import PyProof.Rows.SeqMore
import HandS.Text
import HandS.WideBits
import HandS.Gcd
import HandS.Defaults
import PyProof.Rows.RegReprOcc
import PyProof.StrOps2
import HandS.NamedTupSort
import KE.LtSeq
import KE.KMathG
import PyProof.Walk
import PyProof.WalkLemmas
import PyProof.Pure
import PyProof.TableTree
import PyProof.FactsTree
import HandS.Rev
import HandS.FStr
import KE.KxField
import PyProof.FString3
import PyProof.Rows.StrIntSpec
import PyProof.StrLawsChain
import PyProof.StrLawsTight
import PyProof.Rows.StrItems
import HandS.Property
import HandS.ExcOwn
import HandS.TryMany
import HandS.WordsExc
import HandS.MakeKwOnly
import HandS.GenList
import HandS.ExcIs
import HandS.ExcValue
import HandS.HotCalls
import OpenK.KMeth
import KE.KCallOwn
import HandS.DictTup
import KE.KDictList
import PyProof.InstNe
import HandS.Small
import PySem.Challenge.RW_latepatches_k45_equal_effects
set_option Elab.async false
set_option linter.all false
set_option maxRecDepth 100000
namespace Lp
open PySem PySem.Spec PyProof.Rows L2

/-! ### operators that the layer lacks -/
def CPowW (i j : Int) : Prop := 0 ≤ j ∧ (Builtin.Int.intBits i : Int) * j ≤ 2 ^ 27
section
variable {X : Cx}
theorem op_powW : OpR X (binaryOp .Pow) (rI CPowW fun i j => .int (i ^ j.toNat)) := opI fun _ _ _ _ _ _ _ hc q => pow_int hc.1 hc.2 q
end
theorem powW_ok {i : Int} {n : Nat} {j : Int} (h : i.natAbs < 2 ^ n) (hj : 0 ≤ j) (hn : (n : Int) * j ≤ 100000000) : CPowW i j := by
  refine ⟨hj, ?_⟩
  have b := PyProof.Rows.intBits_le h
  have e : (2 : Int) ^ 27 = 134217728 := by decide
  rw [e]
  have h1 : (Builtin.Int.intBits i : Int) ≤ (n : Int) := by omega
  have h2 := Int.mul_le_mul_of_nonneg_right h1 hj
  omega

/-! ### repr -/
def rRepr (K : PySem.W.Frag) : List V → Hp → VK → Prop := fun xs H Q => ∃ (a : Addr) (d : PyData), xs = [.ref a] ∧ Dp K H (.ref a) d ∧ d.showable = true ∧ d.hasDict = false ∧ d.depth ≤ 60 ∧ d.shown.length ≤ sizeLine ∧ Q (.str d.shown) H
theorem call_repr {X : Cx} (hg : X.A.guards = some []) (hu : X.A.units + 64 < cLine) : CallR X (.builtin "repr") (rRepr X.K) := by
  intro pins s σ H xs us Q I r h
  obtain ⟨a, d, rfl, hd, h1, h2, h3, h4, q⟩ := h
  obtain ⟨u, rfl, rx⟩ := vals1 r
  obtain ⟨as, hr⟩ := Dp.reads I d _ u hd rx
  cases (show u = Value.ref a from rx)
  exact PySem.repr_of_reads' hr h1 (PyData.noDict_hsm h2) hg (by omega) (fun _ _ e => e) (fun h' t tk hk => ⟨.str d.shown, H, I.kept hk, ⟨t, rfl⟩, q⟩) h4
end Lp
set_option Elab.async false
set_option linter.all false
set_option maxRecDepth 100000
namespace Lp
open PySem PySem.Spec PyProof.Rows L2

/-! ### defs that are called where no repr is under way (guards = some []) -/
structure FnG (P : Program) (w : World) (K : PySem.W.Frag) (mg : Str → Option Value) (base : Heap) (CX : CXT) (k : Nat) (f : Addr) (fd : FuncData) (ps : List Str) (sp : Sp) : Prop where
  len : ∀ vs H Q E, sp vs H Q E → vs.length = ps.length
  runG : ∀ (A : Around) (out : List Env) (s : Shared) (H : Hp) (ar : Args) (us : List Value) (vs : List V) (Q : VK) (E : XK), A.guards = some [] → Room k A → Env0 P w K mg base A out s H →
    BindsTo s fd ar (ps.zip us) → Vals vs us → sp vs H Q E → codeAny (model P w) A (.call (.ref f) ar) (CR CX out P w H s Q E) s
section
variable {P : Program} {w : World} {K : PySem.W.Frag} {mg : Str → Option Value} {base : Heap}
theorem FnG.of {CX : CXT} {k : Nat} {f : Addr} {fd : FuncData} {ps : List Str} {sp : Sp} (F : FnOk P w K mg base CX k f fd ps sp) : FnG P w K mg base CX k f fd ps sp :=
  ⟨F.len, fun A out s H ar us vs Q E _ hr => F.run A out s H ar us vs Q E hr⟩
theorem fnG_of {CX : CXT} {k : Nat} {f : Addr} {name qual : Str} {params : Arguments} {body : List Stmt} {scope : Scope} {dV kV doc pm cdv ct oc : Value} {an od : Option Addr}
    {osl : Array (Option Value)} {N ps : List Str} {sp : Sp} (lk : K.lookup f = some ⟨oc, od, .func (PySem.W.fnOf name qual params body scope dV kV doc pm an cdv ct), osl⟩) (hcd : PySem.W.codeIn K cdv qual = true) (S : FnScope N ps scope)
    (ln : ∀ vs H Q E, sp vs H Q E → vs.length = ps.length)
    (hb : ∀ (A : Around) (out : List Env) (s : Shared) (H : Hp) (vs : List V) (Q : VK) (E : XK), A.guards = some [] → Room k (A.deeper (envOfC qual scope s.heap.objs.size f cdv)) → sp vs H Q E →
      ∃ t, PSs (cxOf CX P w K mg base N qual scope f cdv A out s H E) body t ∧ t { nx := fun _ H' => Q .non H', rt := Q } (start N vs) H) :
    FnG P w K mg base CX (k + 1) f (PySem.W.fnOf name qual params body scope dV kV doc pm an cdv ct) ps sp := by
  refine ⟨ln, fun A out s H ar us vs Q E hG room en bd rv hs => ?_⟩
  have KX : K.In s.heap := en.mod.kin.keeps fun b o e => (en.bs b o e).1
  have nl : s.heap.NoLimit := en.mod.nolimit.keeps fun b o e => (en.bs b o e).1
  have kd : ∀ y ∈ ps.zip us, scope.names.lookup y.1 = some .local ∨ (scope.names.lookup y.1 = some .cell ∧ ((cellsFrom (s.heap.objs.size + 1) scope.names []).lookup y.1).isSome = true) := by
    rintro ⟨n, v⟩ hy
    have hm := (List.of_mem_zip hy).1
    exact (S.par n hm).elim (fun q => .inl q) fun q => .inr ⟨q, PySem.W.cellsFrom_some _ _ _ (.inl q)⟩
  refine codeAny_call_function room.depth (KX _ _ lk) rfl S.co S.gen rfl (PySem.W.codeRec_of KX hcd) (bd _ _ _ _ ?_)
  refine wpAny_newFunctionEnv_cells S.kind kd fun e1 he s1 x => ?_
  subst he
  refine ⟨nl.keeps x.toInCall.keep, codeAny_func ?_⟩
  obtain ⟨t, ht, hq⟩ := hb A out s H vs Q E hG (room.deeper _) hs
  have J0 : Inv (cxOf CX P w K mg base N qual scope f cdv A out s H E) [] (start N vs) H s1 := inv_start S room.hd en (ln _ _ _ _ hs) rv x
  refine wpAny_mono (ht.run [] s1 (start N vs) H _ J0 hq) (fun fl s' h3 => ?_) fun _ _ h3 => h3
  cases fl with
  | ret u => exact let ⟨v, _, H', J, r2, q⟩ := h3; ⟨v, H', J.os, J.bare, J.base, J.hok, r2, q⟩
  | next => exact let ⟨_, H', J, q⟩ := h3; ⟨.non, H', J.os, J.bare, J.base, J.hok, rfl, q⟩
  | brk => exact (let ⟨_, _, _, q⟩ := h3; q : False).elim
  | cont => exact (let ⟨_, _, _, q⟩ := h3; q : False).elim
theorem okG {x qual : Str} {st : Stmt} {f : Addr} {fd : FuncData} {N ps : List Str} {k : Nat} {sp : Sp} (F : Fun K x qual st f fd) (S : FnScope N ps (defScope st)) (ln : ∀ vs H Q E, sp vs H Q E → vs.length = ps.length)
    (hb : ∀ (cdv : Value) (A : Around) (out : List Env) (s : Shared) (H : Hp) (vs : List V) (Q : VK) (E : XK), A.guards = some [] → Room k (A.deeper (envOfC qual (defScope st) s.heap.objs.size f cdv)) → sp vs H Q E →
      ∃ t, PSs (cxOf CX0 P w K mg base N qual (defScope st) f cdv A out s H E).nox (defBody st) t ∧ t { nx := fun _ H' => Q .non H', rt := Q } (start N vs) H) : FnG P w K mg base CX0 (k + 1) f fd ps sp := by
  obtain ⟨oc, od, kV, doc, pm, an, cdv, ct, osl, rfl, lk, hcd⟩ := F.ex
  refine fnG_of lk hcd S ln fun A out s H vs Q E hG room h => ?_
  obtain ⟨t, ht, q⟩ := hb cdv A out s H vs Q E hG room h
  exact ⟨t, ht.nox, q⟩
end
section
variable {X : Cx} {CX : CXT} {k : Nat} {f : Addr} {fd : FuncData} {ps : List Str} {sp : Sp} {dvs : List V} {ds : List Value} {E : XK} {x : Str} {p pos : Pos} {e : Expr} {es : List Expr} {t : TA}
theorem pe_callG (F : FnG X.prog X.w X.K X.mg X.base CX k f fd ps sp) (hG : X.A.guards = some []) (hr : Room k X.A) (hg : Gl X x) (hm : X.mg x = some (.ref f)) (hk : PySem.W.keepIn X.K (.ref f) = true) (hb : Binds X.K fd ps ds) (hd : Vals dvs ds) (hx : Passes CX X E)
    (ha : PA X (e :: es) t) (hdb : (x == ("__debug__" : Str)) = false := by decide) (he : starEach (e :: es) X.env = (false, eval e X.env) :: starEach es X.env := by rfl) (hpl : (backTo pos (starEach es X.env)).any (·.1) = false := by rfl) :
    PE X (.Call (.Name x p) (e :: es) [] pos) (tCall sp dvs E t) := by
  refine ⟨fun pins s σ H Q I h => wpAny_Call_Name_kw (ld_glob I hg hm ?_ hdb)⟩
  refine PySem.W.callWith_K (h₀ := X.base) I.ok.mod.kin hk (thn (ha.run pos pins s σ H _ I h) fun us s1 ⟨vs, H1, I1, r, q⟩ => ⟨I1.kIn, ?_⟩) he hpl
  have rr : Vals (vs ++ dvs) (us ++ ds) := r.append hd
  have hl : (us ++ ds).length = ps.length := rr.length.symm.trans (F.len _ _ _ _ q)
  refine wpAny_call (codeAny_mono (F.runG X.A X.stack s1 H1 ⟨us, []⟩ (us ++ ds) (vs ++ dvs) Q E hG hr I1.env0 (hb s1 us I1.kIn hl) rr q) fun r s' hq => ?_)
  cases r with
  | error e => exact hx pins σ H1 s1 e s' I1 hq
  | ok fl =>
    cases fl with
    | ret u => exact I1.after hq
    | next => exact False.elim hq
    | brk => exact False.elim hq
    | cont => exact False.elim hq
end

/-! ### the end of a law's row, for such a law -/
theorem law_callG {P : Program} {w : World} {K : PySem.W.Frag} {mg mb : Str → Option Value} {CX : CXT} {k : Nat} {fa a : Addr} {fd : FuncData} {x : Str} {sp : Sp} {s₁ : Shared} {vs : List Value} {ns : List Int}
    (KX : K.In s₁.heap) (hns : s₁.heap.Ns mainGlobals mg) (hb : s₁.heap.Ns builtinsNs mb) (hbb : ∀ x : Str, x ≠ "__name__" → mb x = bootBuiltins x) (hlim : s₁.heap.NoLimit) (hg : s₁.gens = #[])
    (ha : s₁.heap.get? a = some { cls := .type "list", data := .seq vs.toArray }) (hi : IntsAre vs ns) (hl : ns.length ≤ sizeLine) (hr : Room k callerA)
    (F : ∀ base : Heap, K.In base → base.Ns mainGlobals mg → FnG P w K mg base CX k fa fd [x] sp) (hbind : ∀ (s : Shared) (u : Value), BindsTo s fd ⟨[u], []⟩ [(x, u)])
    (hsp : ∀ H : Hp, Only H → SqL K H a (ns.map V.int) → sp [.ref a] H (fun v _ => v = .bl true) fun _ _ _ => False)
    (hCX : ∀ H e s', CX [] H s₁ (fun _ _ _ => False) e s' → False) :
    codeAny (model P w) callerA (.call (.ref fa) ⟨[.ref a], []⟩) (fun r s' => r = .ok (.ret (.bool true)) ∧ OldK s₁.heap s'.heap ∧ s'.os = s₁.os ∧ AllBare s'.gens) s₁ := by
  have rv := vals_ints hi
  have szV := hi.length
  have main : ∀ H : Hp, Only H → SqL K H a (ns.map V.int) → HOk P w H s₁.heap → (∀ b, H b ≠ none → b = a) → (H a ≠ none → K.lookup a = none) →
      codeAny (model P w) callerA (.call (.ref fa) ⟨[.ref a], []⟩) (fun r s' => r = .ok (.ret (.bool true)) ∧ OldK s₁.heap s'.heap ∧ s'.os = s₁.os ∧ AllBare s'.gens) s₁ := by
    intro H hO hS ok hA hK
    have free : ∀ {b : Addr}, b ≠ a → H b = none := fun {b} hb => by
      cases q : H b with
      | none => rfl
      | some u => exact absurd (hA b (by rw [q]; simp)) hb
    have nsK : ∀ {b : Addr} {m : Str → Option Value}, s₁.heap.Ns b m → (hidT s₁.heap H).Ns b m := by
      rintro b m ⟨o, es, ep, e, d, r⟩
      refine ⟨o, es, ep, hidT_get e (free fun z => ?_), d, r⟩
      subst z
      rw [ha] at e
      cases e
      exact nomatch (show Data.seq vs.toArray _ = Data.dict es ep from d)
    have hKb : K.In (hidT s₁.heap H) := by
      intro b o e
      refine hidT_get (KX b o e) ?_
      cases q : H b with
      | none => rfl
      | some u =>
        have z := hA b (by rw [q]; simp)
        subst z
        rw [hK (by rw [q]; simp)] at e
        cases e
    have hM : Mod K mg (hidT s₁.heap H) := ⟨hKb, nsK hns, ⟨mb, nsK hb, hbb⟩, let ⟨mc, h1, h2⟩ := hlim; ⟨mc, nsK h1, h2⟩⟩
    have e0 : Env0 P w K mg (hidT s₁.heap H) callerA [] s₁ H := ⟨rfl, hM, fun b o e => of_hidT e, Nat.le_of_eq (hidT_size _ _), trivial, fun b hb => absurd (show b ∈ ([] : List Addr) from hb) (by simp), ok, .of_eq hg⟩
    refine codeAny_mono ((F _ hKb (nsK hns)).runG callerA [] s₁ H ⟨[.ref a], []⟩ [.ref a] [.ref a] _ _ rfl hr e0 (hbind s₁ (.ref a)) (.cons rfl .nil) (hsp H hO hS)) fun r s' h => ?_
    cases r with
    | error e => exact (hCX H e s' h).elim
    | ok fl =>
      cases fl with
      | next => exact False.elim h
      | brk => exact False.elim h
      | cont => exact False.elim h
      | ret u =>
        obtain ⟨v, H', os, bare, un, hok', r', q⟩ := h
        cases (show v = .bl true from q)
        cases (show u = Value.bool true from r')
        refine ⟨rfl, OldK.of_keep fun b o e => ?_, os, bare⟩
        rcases hO b with z | ⟨ob, xs, z⟩
        · exact un.keep b o e z (fun z => absurd (show b ∈ ([] : List Addr) from z) (by simp)) (by simp)
        · obtain ⟨e1, _⟩ := ok b _ z
          obtain ⟨e2, _⟩ := hok' b _ (un.frzs b ob _ z)
          rw [e] at e1; cases e1
          exact e2
  cases hk : K.lookup a with
  | some o =>
    have e := KX a o hk
    rw [ha] at e
    cases e
    exact main (fun _ => none) (fun _ => .inl rfl) (.inr ⟨_, vs.toArray, _, hk, rfl, rfl, rfl, by rw [List.size_toArray, szV]; exact hl, by simpa using rv⟩) (fun b u z => nomatch z) (fun b z => absurd rfl z) fun z => absurd rfl z
  | none =>
    refine main (fun b => if b = a then some (.frz { cls := .type "list", data := .seq vs.toArray } (.lst (ns.map V.int))) else none) (fun b => ?_) (.inl (.inr ⟨{ cls := .type "list", data := .seq vs.toArray }, if_pos rfl⟩)) (fun b u z => ?_) (fun b z => ?_) fun _ => hk
    · by_cases h : b = a
      · exact .inr ⟨_, _, if_pos h⟩
      · exact .inl (if_neg h)
    · by_cases h : b = a
      · cases (if_pos h).symm.trans z
        subst h
        exact ⟨ha, by rw [List.length_map]; exact hl, vs, _, rv, ha⟩
      · cases (if_neg h).symm.trans z
    · by_cases h : b = a
      · exact h
      · exact absurd (if_neg h) z
theorem walk_ofG {l : PySem.W.OpenLaw} {n k : Nat} {q : Program} {loose : List Str} {XP : (Str → Option Value) → Heap → Prop} {YP : World → Heap → Prop} {d : DefRec} {K : Params → PySem.W.Frag} {CX : World → CXT} {sp : World → Sp} {x : Str}
    (hn : l.most = some n) (hn2 : n ≤ sizeLine) (hdf : d.params.defaults = []) (hr : Room k callerA)
    (hY : ∀ (w : World) (h : Heap), YP w h → (K w.params).In h)
    (F : ∀ (w : World) (mg : Str → Option Value) (fa : Addr) (h : Heap), (K w.params).In h → h.Ns mainGlobals mg → mg d.name = some (.ref fa) →
      ∃ fd : FuncData, (∀ (s : Shared) (u : Value), BindsTo s fd ⟨[u], []⟩ [(x, u)]) ∧
        ∀ base : Heap, (K w.params).In base → base.Ns mainGlobals mg → FnG l.prog w (K w.params) mg base (CX w) k fa fd [x] (sp w))
    (hsp : ∀ (w : World) (H : Hp) (a : Addr) (ns : List Int), ns.length ≤ n → Only H → SqL (K w.params) H a (ns.map V.int) → sp w [.ref a] H (fun v _ => v = .bl true) fun _ _ _ => False)
    (hCX : ∀ (w : World) (H : Hp) (s : Shared) (e : Value) (s' : Shared), CX w [] H s (fun _ _ _ => False) e s' → False) :
    PySem.W.WalkO q loose XP YP l.row.toRowW d [] (fun f vs => PySem.call f vs) := by
  refine Att.attach_call hn hdf fun w _ s₁ mg _ fa _ _ _ _ a vs ns G Y _ _ _ hmg hobj hints hlen hg => ?_
  obtain ⟨fd, hb, hF⟩ := F w mg fa _ (hY w _ Y) G.T.g hmg
  exact law_callG (hY w _ Y) G.T.g G.T.b G.T.builtins G.T.nolimit hg hobj hints (Nat.le_trans hlen hn2) hr hF hb (fun H hO hS => hsp w H a ns hlen hO hS) fun H e s' => hCX w H s₁ e s'
end Lp
set_option Elab.async false
set_option linter.all false
set_option maxRecDepth 100000
namespace Lp
open PySem PySem.Spec PyProof.Rows L2

/-- the names of the built-ins that the text leaves alone -/
structure NoB (mg : Str → Option Value) : Prop where
  len : mg "len" = none
  list : mg "list" = none
  int : mg "int" = none
  bool : mg "bool" = none
  str : mg "str" = none
  tuple : mg "tuple" = none
  max : mg "max" = none
  min : mg "min" = none
  range : mg "range" = none
  repr : mg "repr" = none
  isinstance : mg "isinstance" = none
  type : mg "type" = none
  all : mg "all" = none
  set : mg "set" = none
  zip : mg "zip" = none
  enumerate : mg "enumerate" = none
  sorted : mg "sorted" = none
  abs : mg "abs" = none

/-- a def that may be called by its name -/
structure Gc (P : Program) (w : World) (K : PySem.W.Frag) (mg : Str → Option Value) (base : Heap) (k : Nat) (x : Str) (sp : Sp) : Prop where
  ex : ∃ (f : Addr) (fd : FuncData) (ps : List Str), FnG P w K mg base CX0 k f fd ps sp ∧ mg x = some (.ref f) ∧ PySem.W.keepIn K (.ref f) = true ∧ Binds K fd ps []
theorem FnG.mono {P : Program} {w : World} {K : PySem.W.Frag} {mg : Str → Option Value} {base : Heap} {CX : CXT} {j k : Nat} {f : Addr} {fd : FuncData} {ps : List Str} {sp : Sp} (F : FnG P w K mg base CX j f fd ps sp) (h : j ≤ k) : FnG P w K mg base CX k f fd ps sp :=
  ⟨F.len, fun A out s H ar us vs Q E hG hr => F.runG A out s H ar us vs Q E hG (hr.mono h)⟩
section
variable {X : Cx} {k j : Nat} {x : Str} {sp : Sp} {p pos : Pos} {e : Expr} {es : List Expr} {t : TA}
theorem pe_g (c : Gc X.prog X.w X.K X.mg X.base k x sp) (hG : X.A.guards = some []) (hr : Room j X.A) (hk : k ≤ j) (hg : Gl X x) (ha : PA X (e :: es) t)
    (hdb : (x == ("__debug__" : Str)) = false := by decide) (he : starEach (e :: es) X.env = (false, eval e X.env) :: starEach es X.env := by rfl) (hpl : (backTo pos (starEach es X.env)).any (·.1) = false := by rfl) :
    PE X (.Call (.Name x p) (e :: es) [] pos) (tCall sp [] E0 t) := by
  obtain ⟨f, fd, ps, F, hm, kp, b⟩ := c.ex
  exact pe_callG F hG (hr.mono hk) hg hm kp b .nil pass0 ha hdb he hpl
end

/-! ### == and != of types -/
def rEqTy : R2 := fun x y H Q => ∃ a b, x = .ty a ∧ y = .ty b ∧ (∀ s' : Shared, s'.TypeIs (.type a) "type") ∧ (∀ s' : Shared, s'.TypeIs (.type b) "type") ∧ Q (.bl (decide (a = b))) H
def rNeTy : R2 := fun x y H Q => ∃ a b, x = .ty a ∧ y = .ty b ∧ (∀ s' : Shared, s'.TypeIs (.type a) "type") ∧ (∀ s' : Shared, s'.TypeIs (.type b) "type") ∧ Q (.bl (!decide (a = b))) H
section
variable {X : Cx}
theorem op_eqTy : OpR X (compareOp .Eq) rEqTy := by
  intro pins s σ H x y v u Q I rx ry h
  obtain ⟨a, b, rfl, rfl, ha, hb, q⟩ := h
  cases (show v = Value.type a from rx)
  cases (show u = Value.type b from ry)
  by_cases e : a = b
  · subst e
    exact PySem.TypeEq.eq_type_same ha ⟨.bl true, H, I, rfl, by simpa using q⟩
  · exact PySem.TypeEq.eq_type_other ha hb (by rw [ty_beq]; exact decide_eq_false e) ⟨.bl false, H, I, rfl, by simpa [e] using q⟩
end

open PySem.TypeEq
theorem slot_type_ne : Slot "type" (cmpInfo .NotEq).2.1 "object.__ne__" :=
  .of (owner := "object") (n := "__ne__") (by rw [typeLookup_type, builtinLookup_eq_fast]; kernel_rfl) (by decide +kernel) (by decide +kernel) (by decide +kernel)
    (by first | exact .inl (by decide +kernel) | exact .inr (by decide +kernel)) (by rw [isSubtype_type]; kernel_rfl)
section
variable {prog : Program} {w : World} {A : Around} {E : Value → Shared → Prop} {s : Shared} {Q : Value → Shared → Prop}
theorem ne_type_same {X : String} (hX : ∀ s' : Shared, s'.TypeIs (.type X) "type") (h : Q (.bool false) s) : wpAny (model prog w) A (compareOp .NotEq (.type X) (.type X)) Q E s := by
  show wpAny _ A (richCompare .NotEq _ _) Q E s
  refine PySem.wpAny_richCompare_same (T := "type") (hX s) (hX s) slot_type_ne (wpAny_call_entry slot_type_ne (hX s) F.entry_object_ne ?_ (F.args_object_ne_2 _ _))
  unfold Builtin.«object.__ne__»
  refine wpAny_bind (m := slotArgs "__ne__" 1 _) (wpAny_of_eq (a := ((Value.type X : Value), [Value.type X])) (by first | rfl | (simp only [slotArgs]; rfl)) ?_)
  refine wpAny_bind (wpAny_cRoomFor_or (.inl rfl) ?_)
  refine wpAny_bind (m := callSpecialIfBound? (.type X) (Str.ofString "__eq__") [.type X]) (wpAny_callSpecialIfBound?_slot (hX s) slot_type_eq
    (call_gives slot_type_eq (hX s) F.entry_object_eq (F.args_object_eq_2 _ _) (object_eq_same rfl (by simp)) ?_))
  show wpAny (model prog w) A.in1 (truthy (.bool true) >>= fun b => ret (Value.bool !b)) _ E s
  exact wpAny_bind (wpAny_of_eq (a := true) (by first | rfl | simp [truthy]) (wpAny_pure ⟨_, rfl, (by intro e; cases e), h⟩))
end

/-- a != b of the same built-in type -/
def rNeTyS : R2 := fun x y H Q => ∃ a, x = .ty a ∧ y = .ty a ∧ (∀ s' : Shared, s'.TypeIs (.type a) "type") ∧ Q (.bl false) H
theorem op_neTy {X : Cx} : OpR X (compareOp .NotEq) rNeTyS := by
  intro pins s σ H x y v u Q I rx ry h
  obtain ⟨a, rfl, rfl, ha, q⟩ := h
  cases (show v = Value.type a from rx)
  cases (show u = Value.type a from ry)
  exact ne_type_same ha ⟨.bl false, H, I, rfl, q⟩
/-! ### heaps -/
theorem same_new {H : Hp} {p : Addr} {o : HO} (h : H p = none) : Same H (upd H p o) := fun b x e => by
  rw [upd_ne (ne_of_none e h)]
  exact e
/-- all but what stands at a is as it was -/
def But (a : Addr) (H H' : Hp) : Prop := ∀ b, b ≠ a → ∀ o, H b = some o → H' b = some o
end Lp
set_option Elab.async false
set_option linter.all false
set_option maxRecDepth 100000
namespace Lp
open PySem PySem.Spec PyProof.Rows L2

/-! ### comprehensions that only add -/
def LcP (H1 : Hp) (D : Addr) (acc : Nat → List V) (i : Nat) (H : Hp) : Prop := H1 D = none ∧ Same H1 H ∧ H D = some (.lst (acc i))
section
variable {H1 H H4 : Hp} {D : Addr} {acc : Nat → List V} {i : Nat} {y : V}
theorem LcP.init (h : H1 D = none) (e : acc 0 = []) : LcP H1 D acc 0 (upd H1 D (.lst [])) := ⟨h, same_new h, by rw [upd_same, e]⟩
theorem LcP.put (p : LcP H1 D acc i H) (s : Same H H4) (e : acc (i + 1) = acc i ++ [y]) (hz : (acc i).length < 100000) :
    ∃ l, H4 D = some (.lst l) ∧ l.length < sizeLine ∧ LcP H1 D acc (i + 1) (upd H4 D (.lst (l ++ [y]))) := by
  obtain ⟨p1, p2, p3⟩ := p
  refine ⟨acc i, s _ _ p3, Nat.lt_of_lt_of_le hz (by decide), p1, fun b o h => ?_, by rw [upd_same, e]⟩
  rw [upd_ne (ne_of_none h p1)]
  exact s _ _ (p2 _ _ h)
theorem LcP.skip (p : LcP H1 D acc i H) (s : Same H H4) (e : acc (i + 1) = acc i) : LcP H1 D acc (i + 1) H4 := ⟨p.1, p.2.1.trans s, by rw [e]; exact s _ _ p.2.2⟩
end
theorem get_int {ns : List Int} {i : Nat} {x : V} (h : (ns.map V.int)[i]? = some x) : ∃ n, x = .int n ∧ ns[i]? = some n := by
  rw [List.getElem?_map] at h
  cases e : ns[i]? with
  | none => rw [e] at h; cases h
  | some n => rw [e] at h; cases h; exact ⟨n, rfl, rfl⟩
theorem mem_get {α : Type} {l : List α} {i : Nat} {x : α} (h : l[i]? = some x) : x ∈ l := List.mem_of_getElem? h
theorem lt_get {α : Type} {l : List α} {i : Nat} {x : α} (h : l[i]? = some x) : i < l.length := (List.getElem?_eq_some_iff.mp h).1
theorem take_get {α : Type} {l : List α} {i : Nat} {x : α} (h : l[i]? = some x) : l.take (i + 1) = l.take i ++ [x] := by
  rw [List.take_add_one, h]
  rfl
theorem zs {n : Nat} (h : n ≤ 100000) : n ≤ sizeLine := Nat.le_trans h (by decide)
theorem zl {n : Nat} (h : n < 100000) : n < sizeLine := Nat.lt_of_lt_of_le h (by decide)
theorem at0 {x : V} {r : List V} : atI (x :: r) 0 = some x := atI_nat (j := 0) rfl
theorem at1 {x y : V} {r : List V} : atI (x :: y :: r) 1 = some y := atI_nat (j := 1) rfl
theorem at2 {x y z : V} {r : List V} : atI (x :: y :: z :: r) 2 = some z := atI_nat (j := 2) rfl
theorem at_last {xs : List V} {y : V} : atI (xs ++ [y]) (-1) = some y := atI_last _ _
theorem dT {p : Prop} [Decidable p] (h : p) : V.bl (decide p) = V.bl true := congrArg V.bl (decide_eq_true h)
theorem dF {p : Prop} [Decidable p] (h : ¬ p) : V.bl (decide p) = V.bl false := congrArg V.bl (decide_eq_false h)
theorem nT {p : Prop} [Decidable p] (h : ¬ p) : V.bl (!decide p) = V.bl true := by rw [decide_eq_false h]; rfl
theorem nF {p : Prop} [Decidable p] (h : p) : V.bl (!decide p) = V.bl false := by rw [decide_eq_true h]; rfl
theorem vne {i j : Int} (h : i ≠ j) : ¬ V.int i = V.int j := fun e => h (V.int.inj e)

/-! ### a word behind a test, a value -/
def tMid (t : TT) : TT := fun σ H Q => ∃ M : Bool → Hp → Prop, t σ H M ∧ ∀ b H', M b H' → Q b H'
theorem pt_mid {X : Cx} {e : Expr} {t : TT} (h : PT X e t) : PT X e (tMid t) := ⟨fun pins s σ H _ I ⟨M, hm, hq⟩ => thn (h.run pins s σ H M I hm) fun b _ ⟨H', I', m⟩ => ⟨H', I', hq b H' m⟩⟩
def tMidE (t : TE) : TE := fun σ H Q => ∃ M : VK, t σ H M ∧ ∀ v H', M v H' → Q v H'
theorem pe_mid {X : Cx} {e : Expr} {t : TE} (h : PE X e t) : PE X e (tMidE t) := ⟨fun pins s σ H _ I ⟨M, hm, hq⟩ => thn (h.run pins s σ H M I hm) fun _ _ ⟨v, H', I', r, m⟩ => ⟨v, H', I', r, hq v H' m⟩⟩
/-! ### all but what stands at a is as it was -/
def Bt (a : Addr) (H H' : Hp) : Prop := ∀ b o, b ≠ a → H b = some o → H' b = some o
section
variable {a b p : Addr} {H H1 H2 H' : Hp} {o : HO}
theorem Bt.refl (a : Addr) (H : Hp) : Bt a H H := fun _ _ _ e => e
theorem Bt.trans (x : Bt a H H1) (y : Bt a H1 H2) : Bt a H H2 := fun b o n e => y b o n (x b o n e)
theorem Bt.of (x : Same H H') : Bt a H H' := fun b o _ e => x b o e
theorem Bt.at_ (a : Addr) (H : Hp) (o : HO) : Bt a H (upd H a o) := fun b u n e => by rw [upd_ne n]; exact e
theorem Bt.new (h : H p = none) : Bt a H (upd H p o) := .of (same_new h)
theorem Bt.mut (x : Bt a H H') (h : H p = none) : Bt a H (upd H' p o) := fun b u n e => by rw [upd_ne (ne_of_none e h)]; exact x b u n e
theorem Bt.add (x : Bt a H H') (h : H' p = none) : Bt a H (upd H' p o) := x.trans (.new h)
theorem Same.mut (x : Same H H') (h : H p = none) : Same H (upd H' p o) := fun b u e => by rw [upd_ne (ne_of_none e h)]; exact x b u e
theorem Same.add (x : Same H H') (h : H' p = none) : Same H (upd H' p o) := x.trans (same_new h)
theorem Bt.seq {K : PySem.W.Frag} {xs : List V} (x : Bt a H H') (n : b ≠ a) (h : SqL K H b xs) : SqL K H' b xs := by
  rcases h with (h | ⟨o, h⟩) | h
  · exact .inl (.inl (x _ _ n h))
  · exact .inl (.inr ⟨o, x _ _ n h⟩)
  · exact .inr h
end

/-! ### rules that name the written part outright: for the inside of comprehensions -/
section
variable {X : Cx} {K : PySem.W.Frag} {o e : Expr} {es : List Expr} {to : TE} {t : TA} {name : Str} {apos cpos : Pos} {T id : String} {r : V → List V → Hp → VK → Prop}
theorem k_bm (hK : X.K = K) (pa : PlainAttrs T) (slot : Slot T name id) (hty : typeOf (.builtin id) = pure (.type "method_descriptor")) (hm : MtR X id r) (ho : PE X o to) (ha : PA X (e :: es) t)
    (hbase : attributeBase o name X.env (eval o X.env) = eval o X.env := by rfl)
    (hfew : ((backTo cpos (starEach (e :: es) X.env)).all (fun x => !x.1) && (backToKw cpos (keywordEach [] X.env)).all (fun x => x.1.isSome)
      && decide ((e :: es).length + ([] : List Keyword).length + (if ([] : List Keyword).isEmpty then 0 else 1) < 30)) = true := by rfl)
    (hline : (apos.endLine == cpos.line) = true := by rfl) (hs : starEach (e :: es) X.env = (false, eval e X.env) :: starEach es X.env := by rfl) (hplain : (backTo cpos (starEach es X.env)).any (·.1) = false := by rfl) :
    PE X (.Call (.Attribute o name apos) (e :: es) [] cpos) (tBM K T r to t) := by
  subst hK
  exact pe_bm pa slot hty hm ho ha hbase hfew hline hs hplain
def rLenK (K : PySem.W.Frag) : List V → Hp → VK → Prop := fun xs H Q => ∃ p ys, xs = [.ref p] ∧ (SqL K H p ys ∨ SqT K H p ys) ∧ Q (.int ys.length) H
theorem k_len (hK : X.K = K) : CallR X (.builtin "len") (rLenK K) := by
  subst hK
  exact call_len_seq
theorem k_ix (hK : X.K = K) : IxR X (rIxL K) := by
  subst hK
  exact ix_list
theorem k_ixT (hK : X.K = K) : IxR X (rIxT K) := by
  subst hK
  exact ix_tup
theorem k_in (hK : X.K = K) : OpR X (compareOp .In) (rIn K false) := by
  subst hK
  exact op_in_seq
theorem k_notin (hK : X.K = K) : OpR X (compareOp .NotIn) (rIn K true) := by
  subst hK
  exact op_notIn_seq
theorem k_isi (hK : X.K = K) : CallR X (.builtin "isinstance") (rIsi K) := by
  subst hK
  exact call_isi
end
end Lp
set_option Elab.async false
set_option linter.all false
set_option maxRecDepth 100000
namespace Lp
open PySem PySem.Spec PyProof.Rows L2
/-! ### lists of ints as data -/
abbrev dI (ns : List Int) : PyData := .list (ns.map PyData.int)
theorem lay_ints : ∀ ns : List Int, PyData.canLayAll0 (ns.map PyData.int) = true
  | [] => rfl
  | _ :: r => by
    show (PyData.canLay0 (.int _) && PyData.canLayAll0 (r.map PyData.int)) = true
    rw [lay_ints r]
    rfl
theorem depth_ints : ∀ ns : List Int, PyData.depthAll (ns.map PyData.int) = 0
  | [] => rfl
  | _ :: r => by
    show max (PyData.depth (.int _)) (PyData.depthAll (r.map PyData.int)) = 0
    rw [depth_ints r]
    rfl
theorem shaped_ints (ns : List Int) : SeqAt.shaped (dI ns) = true := by
  show (PyData.canLayAll0 (ns.map PyData.int) && decide (PyData.depthAll (ns.map PyData.int) + 1 ≤ 64)) = true
  rw [lay_ints, depth_ints]
  rfl
theorem noDict_ints : ∀ ns : List Int, PyData.hasDictAll (ns.map PyData.int) = false
  | [] => rfl
  | _ :: r => by
    show (PyData.hasDict (.int _) || PyData.hasDictAll (r.map PyData.int)) = false
    rw [noDict_ints r]
    rfl
theorem show_ints : ∀ ns : List Int, (∀ n ∈ ns, n.natAbs.log2 < 1920) → PyData.showableAll (ns.map PyData.int) = true
  | [], _ => rfl
  | n :: r, h => by
    show (decide (n.natAbs.log2 < 1920) && PyData.showableAll (r.map PyData.int)) = true
    rw [show_ints r (fun m hm => h m (List.mem_cons_of_mem _ hm)), decide_eq_true (h n List.mem_cons_self)]
    rfl
theorem dpAll_ints {K : PySem.W.Frag} {H : Hp} : ∀ ns : List Int, DpAll K H (ns.map V.int) (ns.map PyData.int)
  | [] => .nil
  | n :: r => .cons (.int n) (dpAll_ints r)
theorem dp_ints {K : PySem.W.Frag} {H : Hp} {a : Addr} {ns : List Int} (h : SqL K H a (ns.map V.int)) : Dp K H (.ref a) (dI ns) := .lst h (dpAll_ints ns)
theorem eqvAll_ints : ∀ xs ys : List Int, PyData.eqvAll (xs.map PyData.int) (ys.map PyData.int) = decide (xs = ys)
  | [], [] => rfl
  | [], _ :: _ => rfl
  | _ :: _, [] => rfl
  | x :: r, y :: s => by
    show (PyData.eqv (.int x) (.int y) && PyData.eqvAll (r.map PyData.int) (s.map PyData.int)) = decide (x :: r = y :: s)
    rw [eqvAll_ints r s]
    show ((x == y) && decide (r = s)) = decide (x :: r = y :: s)
    by_cases e : x = y <;> by_cases e' : r = s <;> simp [e, e']
theorem eqv_ints (xs ys : List Int) : PyData.eqv (dI xs) (dI ys) = decide (xs = ys) := by
  show PyData.eqvAll (xs.map PyData.int) (ys.map PyData.int) = _
  exact eqvAll_ints xs ys
/-- [] == [], by the reading of == -/
theorem textFrom_le : ∀ (ts : List Str) (k : Nat) (acc : Str) (m : Nat), (∀ t ∈ ts, t.length ≤ m) → (textFrom k acc ts).length ≤ acc.length + ts.length * (m + 2)
  | [], k, acc, m, _ => by
    show acc.length ≤ _
    simp
  | t :: r, k, acc, m, h => by
    have ih := fun k' acc' => textFrom_le r k' acc' m (fun x hx => h x (List.mem_cons_of_mem _ hx))
    have ht := h t List.mem_cons_self
    have z := ih (k + 1) (acc ++ (if k > 0 then ", " else "" : String) ++ t)
    have e : (acc ++ (if k > 0 then ", " else "" : String) ++ t).length ≤ acc.length + 2 + t.length := by
      rw [Str.length_append, Str.length_append]
      by_cases hk : k > 0
      · rw [if_pos hk]
        exact Nat.le_refl _
      · rw [if_neg hk]
        show acc.length + 0 + t.length ≤ _
        omega
    show (textFrom (k + 1) (acc ++ (if k > 0 then ", " else "" : String) ++ t) r).length ≤ acc.length + (r.length + 1) * (m + 2)
    rw [Nat.succ_mul]
    omega
theorem num_len : ∀ n : Int, -100 ≤ n → n ≤ 100 → (Str.ofString (toString n)).length ≤ 4 := by
  intro n h0 h1
  have key : ∀ i : Fin 201, (Str.ofString (toString ((i.val : Int) - 100))).length ≤ 4 := by decide +kernel
  have e := key ⟨(n + 100).toNat, by omega⟩
  have e2 : (((n + 100).toNat : Nat) : Int) - 100 = n := by omega
  rw [e2] at e
  exact e
theorem shownAll_mem : ∀ (ns : List Int) (t : Str), t ∈ PyData.shownAll (ns.map PyData.int) → ∃ n ∈ ns, t = Str.ofString (toString n)
  | [], t, h => by
    have h' : t ∈ ([] : List Str) := h
    cases h'
  | n :: r, t, h => by
    have h' : t ∈ Str.ofString (toString n) :: PyData.shownAll (r.map PyData.int) := h
    rcases List.mem_cons.mp h' with e | e
    · exact ⟨n, List.mem_cons_self, e⟩
    · obtain ⟨m, hm, e⟩ := shownAll_mem r t e
      exact ⟨m, List.mem_cons_of_mem _ hm, e⟩
theorem shownAll_len : ∀ ns : List Int, (PyData.shownAll (ns.map PyData.int)).length = ns.length
  | [] => rfl
  | n :: r => congrArg (· + 1) (shownAll_len r)
theorem shown_ints {ns : List Int} (hb : ∀ n ∈ ns, -100 ≤ n ∧ n ≤ 100) (hl : ns.length ≤ 1000) : (dI ns).shown.length ≤ sizeLine := by
  show (textFrom 0 "[" (PyData.shownAll (ns.map PyData.int)) ++ ("]" : Str)).length ≤ sizeLine
  rw [Str.length_append]
  have z := textFrom_le (PyData.shownAll (ns.map PyData.int)) 0 "[" 4 (fun t ht => by
    obtain ⟨n, hn, e⟩ := shownAll_mem ns t ht
    rw [e]
    exact num_len n (hb n hn).1 (hb n hn).2)
  rw [shownAll_len] at z
  have e1 : ("[" : Str).length = 1 := rfl
  have e2 : ("]" : Str).length = 1 := rfl
  rw [e1] at z
  rw [e2]
  exact zs (by omega)
theorem log2_small {n : Int} (h0 : -100 ≤ n) (h1 : n ≤ 100) : n.natAbs.log2 < 1920 := by
  have h : n.natAbs < 2 ^ 7 := by omega
  exact Nat.lt_trans (PySem.Flt.log2_lt_of (by decide : 0 < 7) h) (by decide)
theorem rrepr_ints {K : PySem.W.Frag} {H : Hp} {a : Addr} {ns : List Int} {Q : VK} (hS : SqL K H a (ns.map V.int)) (hb : ∀ n ∈ ns, -100 ≤ n ∧ n ≤ 100) (hl : ns.length ≤ 1000) (q : Q (.str (dI ns).shown) H) : rRepr K [.ref a] H Q :=
  ⟨a, dI ns, rfl, dp_ints hS, show_ints ns (fun n hn => log2_small (hb n hn).1 (hb n hn).2), noDict_ints ns, by
    show PyData.depthAll (ns.map PyData.int) + 1 ≤ 60
    rw [depth_ints]
    decide, shown_ints hb hl, q⟩

/-! ### places -/
theorem erase_map {α β : Type} (f : α → β) : ∀ (l : List α) (j : Nat), (l.map f).eraseIdx j = (l.eraseIdx j).map f
  | [], _ => by simp
  | x :: r, 0 => rfl
  | x :: r, j + 1 => congrArg (f x :: ·) (erase_map f r j)
theorem get_at {al : List Int} {j : Nat} (h : j < al.length) : (al.map V.int)[j]? = some (.int al[j]) := by
  rw [List.getElem?_map, List.getElem?_eq_getElem h]
  rfl
theorem ix_at {j n : Nat} (h : j < n) : seqIndex? (j : Int) n = some j := (ixN_seq (Evl.ixN_nat h)).1
theorem nat_of {r : Int} (h : 0 ≤ r) : ∃ j : Nat, r = (j : Int) := ⟨r.toNat, by omega⟩
theorem nm {k : Nat} (h : k ≤ 100000) : -(2 ^ 63) ≤ (k : Int) ∧ (k : Int) < 2 ^ 63 := by omega
theorem free_of {a p : Addr} {H H' : Hp} (b : Bt a H H') (n : p ≠ a) (h : H' p = none) : H p = none := by
  cases e : H p with
  | none => rfl
  | some o =>
    rw [b _ _ n e] at h
    cases h
theorem erase_perm : ∀ (l : List Int) (j : Nat) (h : j < l.length), (l[j] :: l.eraseIdx j).Perm l
  | x :: r, 0, _ => .refl _
  | x :: r, j + 1, h => by
    have h' : j < r.length := Nat.lt_of_succ_lt_succ h
    exact (List.Perm.swap x (r[j]'h') (r.eraseIdx j)).trans ((erase_perm r j h').cons x)
end Lp
set_option Elab.async false
set_option linter.all false
set_option maxRecDepth 100000
namespace Lp
open PySem PySem.Spec PyProof.Rows L2
theorem lc_enum {K : PySem.W.Frag} {a : Addr} {xs : List V} {g : TG} {tt : TT} {te : TE} {vs : List Nat} {σ : L2.St} {H1 : Hp} {D : Addr} {Qd : Hp → Prop} (Pv : Nat → Hp → Prop) (h0 : Pv 0 (upd H1 D (.lst []))) (hl : ∀ i H, i ≤ xs.length → Pv i H → SqL K H a xs)
    (hs : ∀ (i : Nat) (x : V) (T : Addr) (H : Hp), xs[i]? = some x → H T = none → Pv i H → g (.ref T) (wipe σ vs) (upd H T (.tup [.int (i : Nat), x])) fun σ2 H2 => wipe σ2 vs = wipe σ vs ∧ tt σ2 H2 fun b H3 =>
      if b = true then te σ2 H3 fun y H4 => ∃ acc, H4 D = some (.lst acc) ∧ acc.length < sizeLine ∧ Pv (i + 1) (upd H4 D (.lst (acc ++ [y]))) else Pv (i + 1) H3) (hd : ∀ H, Pv xs.length H → Qd H) :
    ∃ W : Nat → Nat → Hp → Prop, (∃ m, W 0 m (upd H1 D (.lst []))) ∧ ∀ i m H, W i m H →
      ((Ite K a).stop i H ∧ Qd H) ∨ ((Ite K a).go i H ∧ ∃ Nx : Hp → Prop, (∀ H', Nx H' → ∃ m', m' < m ∧ W (i + 1) m' H') ∧ ∀ x H', (Ite K a).yld i H x H' → g x (wipe σ vs) H' fun σ2 H2 => wipe σ2 vs = wipe σ vs ∧ tt σ2 H2 fun b H3 =>
        if b = true then te σ2 H3 fun y H4 => ∃ acc, H4 D = some (.lst acc) ∧ acc.length < sizeLine ∧ Nx (upd H4 D (.lst (acc ++ [y]))) else Nx H3) := by
  refine ⟨fun i m H => m = xs.length - i ∧ i ≤ xs.length ∧ Pv i H, ⟨xs.length, by simp, Nat.zero_le _, h0⟩, ?_⟩
  rintro i m H ⟨rfl, hi, pv⟩
  have sq := hl i H hi pv
  rcases Nat.lt_or_ge i xs.length with hlt | hge
  · refine .inr ⟨⟨xs, xs[i], sq, List.getElem?_eq_getElem hlt⟩, Pv (i + 1), fun H' p' => ⟨xs.length - (i + 1), by omega, rfl, hlt, p'⟩, fun x H' y => ?_⟩
    obtain ⟨T, z, rfl, nT, rfl, ez⟩ := y
    exact hs i z T H (ez xs sq) nT pv
  · have e : i = xs.length := by omega
    subst e
    exact .inl ⟨⟨xs, sq, Nat.le_refl _⟩, hd H pv⟩
theorem cut_take (xs : List V) (k : Nat) (h : k ≤ xs.length) : cutV xs none (some (k : Int)) = xs.take k := by
  unfold cutV
  rw [HT.sIx_none, HT.sIx_nat, List.drop_zero, Nat.sub_zero, Nat.min_eq_left h]
theorem decV (i j : Int) : decide (V.int i = V.int j) = decide (i = j) := decide_eq_decide.mpr ⟨fun z => V.int.inj z, fun z => congrArg V.int z⟩
theorem k_sl {X : Cx} {K : PySem.W.Frag} (hK : X.K = K) : SlR X (rSlL K) := by
  subst hK
  exact sl_list
theorem k_tup {X : Cx} {K : PySem.W.Frag} {es : List Expr} {k : Nat} {pos : Pos} {t : TGs} {n : Nat} (hK : X.K = K) (hc : X.calm = true) (h : PGs X es t)
    (hn : (assignEach es X.env).length = n := by rfl) (hst : (assignEach es X.env).findIdx? (·.1) = none := by rfl) : PG X (.Tuple es k pos) (gTup K n t) := by
  subst hK
  exact pg_tup hc h hn hst
theorem seqN {K : PySem.W.Frag} {xs : List V} {H H1 H' : Hp} {a b : Addr} (h : SqL K H b xs) (n : H a = none) (s : Same H H1) (x : Bt a H1 H') : SqL K H' b xs := by
  rcases h with (h | ⟨o, h⟩) | h
  · exact .inl (.inl (x _ _ (ne_of_none h n) (s _ _ h)))
  · exact .inl (.inr ⟨o, x _ _ (ne_of_none h n) (s _ _ h)⟩)
  · exact .inr h
theorem rI1 {ns : List Int} (hb : ∀ n ∈ ns, -100 ≤ n ∧ n ≤ 100) : (dI ns).showable = true := show_ints ns (fun n hn => log2_small (hb n hn).1 (hb n hn).2)
theorem rI2 (ns : List Int) : (dI ns).depth ≤ 60 := by
  show PyData.depthAll (ns.map PyData.int) + 1 ≤ 60
  rw [depth_ints]
  decide
end Lp
set_option Elab.async false
set_option linter.all false
set_option maxRecDepth 100000
namespace Lp
open PySem PySem.Spec PyProof.Rows L2
theorem lc_zipL {K : PySem.W.Frag} {a b : Addr} {xs ys : List V} {g : TG} {tt : TT} {te : TE} {vs : List Nat} {σ : L2.St} {H1 : Hp} {D : Addr} {Qd : Hp → Prop} (le : xs.length = ys.length) (Pv : Nat → Hp → Prop) (h0 : Pv 0 (upd H1 D (.lst []))) (hl : ∀ i H, i ≤ xs.length → Pv i H → SqL K H a xs ∧ SqL K H b ys)
    (hs : ∀ (i : Nat) (x y : V) (T : Addr) (H : Hp), xs[i]? = some x → ys[i]? = some y → H T = none → Pv i H → g (.ref T) (wipe σ vs) (upd H T (.tup [x, y])) fun σ2 H2 => wipe σ2 vs = wipe σ vs ∧ tt σ2 H2 fun b H3 =>
      if b = true then te σ2 H3 fun y H4 => ∃ acc, H4 D = some (.lst acc) ∧ acc.length < sizeLine ∧ Pv (i + 1) (upd H4 D (.lst (acc ++ [y]))) else Pv (i + 1) H3) (hd : ∀ H, Pv xs.length H → Qd H) :
    ∃ W : Nat → Nat → Hp → Prop, (∃ m, W 0 m (upd H1 D (.lst []))) ∧ ∀ i m H, W i m H →
      ((Itz K a b).stop i H ∧ Qd H) ∨ ((Itz K a b).go i H ∧ ∃ Nx : Hp → Prop, (∀ H', Nx H' → ∃ m', m' < m ∧ W (i + 1) m' H') ∧ ∀ x H', (Itz K a b).yld i H x H' → g x (wipe σ vs) H' fun σ2 H2 => wipe σ2 vs = wipe σ vs ∧ tt σ2 H2 fun b H3 =>
        if b = true then te σ2 H3 fun y H4 => ∃ acc, H4 D = some (.lst acc) ∧ acc.length < sizeLine ∧ Nx (upd H4 D (.lst (acc ++ [y]))) else Nx H3) := by
  refine ⟨fun i m H => m = xs.length - i ∧ i ≤ xs.length ∧ Pv i H, ⟨xs.length, by simp, Nat.zero_le _, h0⟩, ?_⟩
  rintro i m H ⟨rfl, hi, pv⟩
  obtain ⟨sa, sb⟩ := hl i H hi pv
  rcases Nat.lt_or_ge i xs.length with hlt | hge
  · refine .inr ⟨⟨xs, ys, xs[i], ys[i]'(by omega), sa, sb, List.getElem?_eq_getElem hlt, List.getElem?_eq_getElem (by omega)⟩, Pv (i + 1), fun H' p' => ⟨xs.length - (i + 1), by omega, rfl, hlt, p'⟩, fun x H' y => ?_⟩
    obtain ⟨T, z1, z2, rfl, nT, rfl, e1, e2⟩ := y
    exact hs i z1 z2 T H (e1 xs sa) (e2 ys sb) nT pv
  · have e : i = xs.length := by omega
    subst e
    exact .inl ⟨⟨xs, ys, sa, sb, .inl (Nat.le_refl _)⟩, hd H pv⟩
theorem lc_zipT {K : PySem.W.Frag} {a b : Addr} {xs ys : List V} {g : TG} {tt : TT} {te : TE} {vs : List Nat} {σ : L2.St} {H1 : Hp} {D : Addr} {Qd : Hp → Prop} (le : xs.length = ys.length) (Pv : Nat → Hp → Prop) (h0 : Pv 0 (upd H1 D (.lst []))) (hl : ∀ i H, i ≤ xs.length → Pv i H → SqT K H a xs ∧ SqT K H b ys)
    (hs : ∀ (i : Nat) (x y : V) (T : Addr) (H : Hp), xs[i]? = some x → ys[i]? = some y → H T = none → Pv i H → g (.ref T) (wipe σ vs) (upd H T (.tup [x, y])) fun σ2 H2 => wipe σ2 vs = wipe σ vs ∧ tt σ2 H2 fun b H3 =>
      if b = true then te σ2 H3 fun y H4 => ∃ acc, H4 D = some (.lst acc) ∧ acc.length < sizeLine ∧ Pv (i + 1) (upd H4 D (.lst (acc ++ [y]))) else Pv (i + 1) H3) (hd : ∀ H, Pv xs.length H → Qd H) :
    ∃ W : Nat → Nat → Hp → Prop, (∃ m, W 0 m (upd H1 D (.lst []))) ∧ ∀ i m H, W i m H →
      ((RZ.ItzT K a b).stop i H ∧ Qd H) ∨ ((RZ.ItzT K a b).go i H ∧ ∃ Nx : Hp → Prop, (∀ H', Nx H' → ∃ m', m' < m ∧ W (i + 1) m' H') ∧ ∀ x H', (RZ.ItzT K a b).yld i H x H' → g x (wipe σ vs) H' fun σ2 H2 => wipe σ2 vs = wipe σ vs ∧ tt σ2 H2 fun b H3 =>
        if b = true then te σ2 H3 fun y H4 => ∃ acc, H4 D = some (.lst acc) ∧ acc.length < sizeLine ∧ Nx (upd H4 D (.lst (acc ++ [y]))) else Nx H3) := by
  refine ⟨fun i m H => m = xs.length - i ∧ i ≤ xs.length ∧ Pv i H, ⟨xs.length, by simp, Nat.zero_le _, h0⟩, ?_⟩
  rintro i m H ⟨rfl, hi, pv⟩
  obtain ⟨sa, sb⟩ := hl i H hi pv
  rcases Nat.lt_or_ge i xs.length with hlt | hge
  · refine .inr ⟨⟨xs, ys, xs[i], ys[i]'(by omega), sa, sb, List.getElem?_eq_getElem hlt, List.getElem?_eq_getElem (by omega)⟩, Pv (i + 1), fun H' p' => ⟨xs.length - (i + 1), by omega, rfl, hlt, p'⟩, fun x H' y => ?_⟩
    obtain ⟨T, z1, z2, rfl, nT, rfl, e1, e2⟩ := y
    exact hs i z1 z2 T H (e1 xs sa) (e2 ys sb) nT pv
  · have e : i = xs.length := by omega
    subst e
    exact .inl ⟨⟨xs, ys, sa, sb, .inl (Nat.le_refl _)⟩, hd H pv⟩
theorem tyx_l {K : PySem.W.Frag} {H : Hp} {a : Addr} {xs : List V} (h : SqL K H a xs) : TyX K H (.ref a) (.type "list") := by
  rcases h with (h | ⟨o, h⟩) | ⟨o, its, n, h, c, _⟩
  · exact .base (.lst h)
  · exact .base (.frz h)
  · exact .kList h c
theorem tyx_t {K : PySem.W.Frag} {H : Hp} {a : Addr} {xs : List V} (h : SqT K H a xs) : TyX K H (.ref a) (.type "tuple") := by
  rcases h with (h | ⟨o, h⟩) | ⟨o, its, n, h, c, _⟩
  · exact .base (.tup h)
  · exact .fTuple h
  · exact .kTuple h c
theorem seqT {K : PySem.W.Frag} {H H' : Hp} {a : Addr} {xs : List V} (e : Same H H') (h : SqT K H a xs) : SqT K H' a xs := by
  rcases h with (h | ⟨o, h⟩) | h
  · exact .inl (.inl (e _ _ h))
  · exact .inl (.inr ⟨o, e _ _ h⟩)
  · exact .inr h
mutual
theorem dp_same {K : PySem.W.Frag} {H H' : Hp} (s : Same H H') : ∀ {v : V} {d : PyData}, Dp K H v d → Dp K H' v d
  | _, _, .non => .non
  | _, _, .bl b => .bl b
  | _, _, .int i => .int i
  | _, _, .str x => .str x
  | _, _, .lst h1 h2 => .lst (s.seq h1) (dpAll_same s h2)
  | _, _, .tup h1 h2 => .tup (seqT s h1) (dpAll_same s h2)
theorem dpAll_same {K : PySem.W.Frag} {H H' : Hp} (s : Same H H') : ∀ {vs : List V} {ds : List PyData}, DpAll K H vs ds → DpAll K H' vs ds
  | _, _, .nil => .nil
  | _, _, .cons h1 h2 => .cons (dp_same s h1) (dpAll_same s h2)
end
theorem dpAll_len {K : PySem.W.Frag} {H : Hp} : ∀ {vs : List V} {ds : List PyData}, DpAll K H vs ds → vs.length = ds.length
  | _, _, .nil => rfl
  | _, _, .cons _ h => congrArg (· + 1) (dpAll_len h)
theorem dpAll_get {K : PySem.W.Frag} {H : Hp} : ∀ {vs : List V} {ds : List PyData} {i : Nat} {v : V}, DpAll K H vs ds → vs[i]? = some v → ∃ d, ds[i]? = some d ∧ Dp K H v d
  | _, _, 0, _, .cons h _, e => by cases e; exact ⟨_, rfl, h⟩
  | _, _, i + 1, _, .cons _ h, e => dpAll_get (i := i) h e
theorem depth_get : ∀ {ds : List PyData} {i : Nat} {d : PyData}, ds[i]? = some d → d.depth ≤ PyData.depthAll ds
  | x :: r, 0, d, e => by cases e; exact Nat.le_max_left _ _
  | x :: r, i + 1, d, e => Nat.le_trans (depth_get (ds := r) (i := i) e) (Nat.le_max_right _ _)
theorem kitA {K : PySem.W.Frag} {t c1 c2 : Value} {b : Bool} (h1 : PySem.W.kitOne K t c1 = some false) (h2 : PySem.W.kitOne K t c2 = some b) : PySem.W.kitAny K t [c1, c2] = some b := by
  unfold PySem.W.kitAny
  rw [h1]
  show PySem.W.kitAny K t [c2] = _
  unfold PySem.W.kitAny
  rw [h2]
  cases b <;> rfl
theorem kitT {K : PySem.W.Frag} {t c1 : Value} {cs : List Value} (h1 : PySem.W.kitOne K t c1 = some true) : PySem.W.kitAny K t (c1 :: cs) = some true := by
  unfold PySem.W.kitAny
  rw [h1]
/-! ### list(range(a, b, c)) -/
def tList3 (ta : TA) : TE := fun σ H Q => ta σ H fun vs H1 => ∃ (i j c : Int) (n : Nat), vs = [.int i, .int j, .int c] ∧ RgC i j c n ∧ n ≤ 100000 ∧ ∀ q, H1 q = none → Q (.ref q) (upd H1 q (.lst ((List.range n).map fun k : Nat => V.int (i + (k : Int) * c))))
theorem vals_rg3 {a c : Int} {n : Nat} {acc : Array Value} (h : ItemsOf (fun i v => ∃ t, v = .int (a + i * c) t) acc n) : Vals ((List.range n).map fun k : Nat => V.int (a + (k : Int) * c)) acc.toList := by
  have e : acc.toList.length = n := by rw [Array.length_toList]; exact h.1
  rw [← e]
  refine vals_of_get acc.toList _ fun j u hj => ?_
  obtain ⟨t, rfl⟩ := h.2 j u (by rw [← hj, Array.getElem?_toList])
  exact ⟨t, rfl⟩
theorem pe_list3 {X : Cx} {a b c : Expr} {ta : TA} {p p2 pos pos2 : Pos} (hc : X.calm = true) (hg : Gl X "list") (hm : X.mg "list" = none) (hg2 : Gl X "range") (hm2 : X.mg "range" = none) (ha : PA X [a, b, c] ta)
    (hs : starEach [a, b, c] X.env = (false, eval a X.env) :: starEach [b, c] X.env := by rfl) (hpl : (backTo pos2 (starEach [b, c] X.env)).any (·.1) = false := by rfl)
    (na : starEach [.Call (.Name "range" p2) [a, b, c] [] pos2] X.env = (false, eval (.Call (.Name "range" p2) [a, b, c] [] pos2) X.env) :: starEach [] X.env := by rfl) :
    PE X (.Call (.Name "list" p) [.Call (.Name "range" p2) [a, b, c] [] pos2] [] pos) (tList3 ta) := by
  refine ⟨fun pins s σ H Q I h => ?_⟩
  refine Call_ (ld_blt I hg hm boot_list (PyProof.Rows.callWith_type1 (args_cons (?_) na) na))
  refine Call_ (ld_blt I hg2 hm2 boot_range (PyProof.Rows.callWith_type1 (thn (ha.run pos2 pins s σ H _ I h) fun us s1 ⟨vs, H1, I1, r1, q1⟩ => ?_) hs hpl))
  obtain ⟨i, j, k, n, e, ⟨c0, c1, c2, c3⟩, hn, q⟩ := q1
  subst e
  cases r1 with
  | cons r rr =>
    cases rr with
    | cons r' rr =>
      cases rr with
      | cons r'' rr =>
        cases rr
        obtain ⟨t, rfl⟩ := r
        obtain ⟨t', rfl⟩ := r'
        obtain ⟨t'', rfl⟩ := r''
        refine call_range_3 c0 ?_ (.inl (PyProof.noPylong_small c1))
        refine args_nil ?_
        have I2 : Inv X pins σ H1 { s1 with heap := s1.heap.push { cls := .type "range", data := .fields #[.int i t, .int j t', .int k t''] } } := I1.kept (t' := s1.toks) fun b o e => Heap.get?_push_of_some _ e
        refine call_list_range (n := n) (I2.ok.hd hc) (IsRange.new ..) c2 c3 (by omega) fun h' tk acc c' hk e' hi => ?_
        refine ⟨.ref _, upd H1 _ (.lst ((List.range n).map fun m : Nat => V.int (i + (m : Int) * k))), I2.laid hk (Nat.le_refl _) (show ObjOk X.prog X.w _ _ _ (.lst _) from ⟨?_, acc.toList, c', vals_rg3 hi, ?_⟩), rfl, q _ (I2.hok.fresh (Nat.le_refl _))⟩
        · rw [List.length_map, List.length_range]
          exact zs hn
        · rw [Array.toArray_toList]; exact e'
end Lp
set_option Elab.async false
set_option linter.all false
set_option maxRecDepth 100000
namespace Lp
open PySem PySem.Spec PyProof.Rows L2
/-! ### xs.count(text) -/
theorem strCount {k : Str} : ∀ {us : List Value} {ys : List Str}, StrsAre us ys → us.countP (isStrOf k) = ys.countP (fun y => y == k)
  | _, _, .nil => rfl
  | _, _, .cons n t h => by
    have ih := strCount (k := k) h
    rw [List.countP_cons, List.countP_cons, ih] <;> rfl
def rCntS (K : PySem.W.Frag) : V → List V → Hp → VK → Prop := fun x xs H Q => ∃ (p : Addr) (ys : List Str) (k : Str), x = .ref p ∧ xs = [.str k] ∧ SqL K H p (ys.map V.str) ∧ Q (.int (ys.countP (fun y => y == k) : Nat)) H
theorem mt_lcountS {X : Cx} : MtR X "list.count" (rCntS X.K) := by
  intro pins s σ H x xs v us Q I rx rxs h
  obtain ⟨p, ys, k, rfl, rfl, hs, q⟩ := h
  cases rx
  obtain ⟨u, rfl, ru⟩ := rxs.one
  obtain ⟨t, rfl⟩ := ru
  obtain ⟨its, rv, ⟨⟨cls, dd, data, sl⟩, n, ho, hc, hdn, hd⟩, hlen⟩ := I.list hs
  simp only at hc hd
  subst hc hd
  have hi := Vals.strs rv
  refine call_meets PySem.F.slot_list_count ⟨_, ho, rfl⟩ PySem.F.entry_list_count (PySem.F.args_list_count_2 _ _)
    (SeqAt.list_countAt p its.toArray n dd sl (.str k t) (isStrOf k)) ⟨ho, fun y hy => (eq_isStrOf k t hi y (by simpa using hy)).at _ _, ?_⟩
  have ec : its.toArray.toList.countP (isStrOf k) = ys.countP (fun y => y == k) := strCount hi
  refine ⟨.int (ys.countP (fun y => y == k) : Nat), H, I.tok _, ⟨s.toks, ?_⟩, q⟩
  show Value.int ((its.toArray.toList.countP (isStrOf k) : Nat) : Int) s.toks = Value.int ((ys.countP (fun y => y == k) : Nat) : Int) s.toks
  rw [ec]
end Lp
set_option Elab.async false
set_option linter.all false
set_option maxRecDepth 100000
namespace Lp
open PySem PySem.Spec PyProof.Rows L2
/-! ### dict comprehensions over enumerate -/
theorem dc_enum {K : PySem.W.Frag} {a : Addr} {xs : List V} {g : TG} {tt : TT} {tk tv : TE} {vs : List Nat} {σ : L2.St} {H1 : Hp} {D : Addr} {Qd : Hp → Prop} (Pv : Nat → Hp → Prop) (h0 : Pv 0 (upd H1 D (.dK []))) (hl : ∀ i H, i ≤ xs.length → Pv i H → SqL K H a xs)
    (hs : ∀ (i : Nat) (x : V) (T : Addr) (H : Hp), xs[i]? = some x → H T = none → Pv i H → g (.ref T) (wipe σ vs) (upd H T (.tup [.int (i : Nat), x])) fun σ2 H2 => wipe σ2 vs = wipe σ vs ∧ tt σ2 H2 fun b H3 =>
      if b = true then tk σ2 H3 fun y H4 => tv σ2 H4 fun z H5 => ∃ kvs k, y = kV k ∧ H5 D = some (.dK kvs) ∧ kvs.length < sizeLine ∧ Pv (i + 1) (upd H5 D (.dK (putK kvs k z))) else Pv (i + 1) H3) (hd : ∀ H, Pv xs.length H → Qd H) :
    ∃ W : Nat → Nat → Hp → Prop, (∃ m, W 0 m (upd H1 D (.dK []))) ∧ ∀ i m H, W i m H →
      ((Ite K a).stop i H ∧ Qd H) ∨ ((Ite K a).go i H ∧ ∃ Nx : Hp → Prop, (∀ H', Nx H' → ∃ m', m' < m ∧ W (i + 1) m' H') ∧ ∀ x H', (Ite K a).yld i H x H' → g x (wipe σ vs) H' fun σ2 H2 => wipe σ2 vs = wipe σ vs ∧ tt σ2 H2 fun b H3 =>
        if b = true then tk σ2 H3 fun y H4 => tv σ2 H4 fun z H5 => ∃ kvs k, y = kV k ∧ H5 D = some (.dK kvs) ∧ kvs.length < sizeLine ∧ Nx (upd H5 D (.dK (putK kvs k z))) else Nx H3) := by
  refine ⟨fun i m H => m = xs.length - i ∧ i ≤ xs.length ∧ Pv i H, ⟨xs.length, by simp, Nat.zero_le _, h0⟩, ?_⟩
  rintro i m H ⟨rfl, hi, pv⟩
  have sq := hl i H hi pv
  rcases Nat.lt_or_ge i xs.length with hlt | hge
  · refine .inr ⟨⟨xs, xs[i], sq, List.getElem?_eq_getElem hlt⟩, Pv (i + 1), fun H' p' => ⟨xs.length - (i + 1), by omega, rfl, hlt, p'⟩, fun x H' y => ?_⟩
    obtain ⟨T, z, rfl, nT, rfl, e1⟩ := y
    exact hs i z T H (e1 xs sq) nT pv
  · have e : i = xs.length := by omega
    subst e
    exact .inl ⟨⟨xs, sq, Nat.le_refl _⟩, hd H pv⟩
end Lp
set_option Elab.async false
set_option linter.all false
set_option maxRecDepth 100000
namespace Lp
open PySem PySem.Spec PyProof.Rows L2
/-! ### list + list, the script's own list too -/
def rCatS (K : PySem.W.Frag) : R2 := fun x y H Q => ∃ l b xs zs, x = .ref l ∧ y = .ref b ∧ SqL K H l xs ∧ SqL K H b zs ∧ xs.length + zs.length ≤ sizeLine ∧ ∀ p, H p = none → Q (.ref p) (upd H p (.lst (xs ++ zs)))
theorem op_catS {X : Cx} : OpR X (binaryOp .Add) (rCatS X.K) := by
  intro pins s σ H x y v u Q I rx ry h
  obtain ⟨l, b, xs, zs, rfl, rfl, hl, hb, hz, q⟩ := h
  cases rx
  cases ry
  obtain ⟨its, r, ⟨⟨cls, dd, data, sl⟩, n, ho, hc, hdn, hd⟩, h1⟩ := I.list hl
  obtain ⟨its2, r2, ⟨⟨cls2, dd2, data2, sl2⟩, n2, ho2, hc2, hdn2, hd2⟩, h2⟩ := I.list hb
  simp only at hc hd hc2 hd2
  subst hc hd hc2 hd2
  have e1 := r.length
  have e2 := r2.length
  refine concat_meets ⟨_, ho, rfl⟩ ⟨_, ho2, rfl⟩ noFill_list_add seq_list_add PySem.F.slot_list_add PySem.F.entry_list_add (PySem.F.args_list_add_2 _ _) (list_addW l b its.toArray its2.toArray n n2 dd dd2 sl sl2 (by rw [List.size_toArray, List.size_toArray]; omega)) ⟨ho, ho2, ?_⟩
  have ea : its.toArray ++ its2.toArray = (its ++ its2).toArray := by simp
  rw [ea]
  exact ⟨.ref _, _, I.lnew (t' := s.toks) (r.append r2) (by rw [List.length_append]; omega), rfl, q _ I.fresh⟩
end Lp
set_option Elab.async false
set_option linter.all false
set_option maxRecDepth 100000
namespace Lp
open PySem PySem.Spec PyProof.Rows L2

/-! ### calls by keywords, of defs that are called where no repr is under way -/
structure Gk (P : Program) (w : World) (K : PySem.W.Frag) (mg : Str → Option Value) (base : Heap) (k : Nat) (x : Str) (n : Nat) (ks : List Str) (gV : List V → List V → List V) (sp : Sp) : Prop where
  ex : ∃ (f : Addr) (fd : FuncData) (ps : List Str) (g : List Value → List Value → List Value), FnG P w K mg base CX0 k f fd ps sp ∧ mg x = some (.ref f) ∧ PySem.W.keepIn K (.ref f) = true ∧ KBn K fd ps n ks g gV
theorem kb_of {K : PySem.W.Frag} {x qual : Str} {st : Stmt} {f : Addr} {fd : FuncData} {ps : List Str} (F : Fun K x qual st f fd) (n : Nat) (ks : List Str) (g : {α : Type} → List α → List α → List α)
    (hrel : ∀ {vs : List V} {us : List Value} {zs : List V} {ws : List Value}, Vals vs us → Vals zs ws → Vals (g vs zs) (g us ws))
    (h : ∀ (kV doc pm : Value) (an : Option Addr) (cdv ct : Value) (us ws : List Value), us.length = n → ws.length = ks.length → bindArgs (PySem.W.fnOf x qual (defArgs st) (defBody st) (defScope st) .none kV doc pm an cdv ct) ⟨us, ks.zip ws⟩ = pure (ps.zip (g us ws))) :
    KBn K fd ps n ks g g := by
  obtain ⟨oc, od, kV, doc, pm, an, cdv, ct, osl, rfl, lk, hcd⟩ := F.ex
  exact ⟨fun s us ws _ l1 l2 => .of_eq (h kV doc pm an cdv ct us ws l1 l2), hrel⟩
theorem kb_gApp0 {vs : List V} {us : List Value} {zs : List V} {ws : List Value} (a : Vals vs us) (b : Vals zs ws) : Vals (vs ++ zs) (us ++ ws) := a.append b
def gApp {α : Type} (us ws : List α) : List α := us ++ ws
def gRev {α : Type} (us ws : List α) : List α := us ++ ws.reverse
theorem kb_gApp {vs : List V} {us : List Value} {zs : List V} {ws : List Value} (a : Vals vs us) (b : Vals zs ws) : Vals (gApp vs zs) (gApp us ws) := a.append b
theorem vals_rev2 : ∀ {zs : List V} {ws : List Value}, Vals zs ws → Vals zs.reverse ws.reverse
  | _, _, .nil => .nil
  | _, _, .cons h t => by
    rw [List.reverse_cons, List.reverse_cons]
    exact (vals_rev2 t).append (.cons h .nil)
theorem kb_gRev {vs : List V} {us : List Value} {zs : List V} {ws : List Value} (a : Vals vs us) (b : Vals zs ws) : Vals (gRev vs zs) (gRev us ws) := a.append (vals_rev2 b)
def tCallG (n m : Nat) (sp : Sp) (gV : List V → List V → List V) (t tk : TA) : TE := fun σ H Q => t σ H fun vs H1 => tk σ H1 fun zs H2 => vs.length = n ∧ zs.length = m ∧ sp (gV vs zs) H2 Q E0
section
variable {X : Cx} {CX : CXT} {k n : Nat} {f : Addr} {fd : FuncData} {ps ks : List Str} {sp : Sp} {E : XK} {x : Str} {p pos : Pos} {e : Expr} {es : List Expr} {kws : List Keyword} {t tk : TA} {g : List Value → List Value → List Value} {gV : List V → List V → List V}
theorem run_fnG {pins : List (Addr × Obj)} {σ : L2.St} {H : Hp} {s : Shared} {Q : VK} {us ws : List Value} {vs zs : List V} (F : FnG X.prog X.w X.K X.mg X.base CX k f fd ps sp) (hG : X.A.guards = some []) (hr : Room k X.A) (hb : KBn X.K fd ps n ks g gV) (hx : Passes CX X E)
    (I : Inv X pins σ H s) (r : Vals vs us) (rz : Vals zs ws) (l1 : vs.length = n) (l2 : zs.length = ks.length) (h : sp (gV vs zs) H Q E) : wpAny (model X.prog X.w) X.A (call (.ref f) us (ks.zip ws)) (EP X pins σ Q) X.xe s := by
  have r2 := hb.rel r rz
  refine wpAny_call (codeAny_mono (F.runG X.A X.stack s H ⟨us, ks.zip ws⟩ (g us ws) (gV vs zs) Q E hG hr I.env0 (hb.to s us ws I.kIn (r.length.symm.trans l1) (rz.length.symm.trans l2)) r2 h) fun r s' hq => ?_)
  cases r with
  | error e => exact hx pins σ H s e s' I hq
  | ok fl =>
    cases fl with
    | ret u => exact I.after hq
    | next => exact False.elim hq
    | brk => exact False.elim hq
    | cont => exact False.elim hq
/-- f(k = v, ..) -/
theorem pe_gK0 {j : Nat} (c : Gk X.prog X.w X.K X.mg X.base k x 0 ks gV sp) (hG : X.A.guards = some []) (hr : Room j X.A) (hk : k ≤ j) (hg : Gl X x) (hkw : PK X kws tk)
    (hall : (backToKw pos (keywordEach kws X.env)).all (·.1.isSome) = true := by rfl) (hks : (backToKw pos (keywordEach kws X.env)).filterMap (·.1) = ks := by rfl) (hdb : (x == ("__debug__" : Str)) = false := by decide)
    (hpl : ((backTo pos (starEach [] X.env)).any (·.1) || (backToKw pos (keywordEach kws X.env)).any (·.1.isNone)) = false := by rfl) :
    PE X (.Call (.Name x p) [] kws pos) (tCallG 0 ks.length sp gV tNil tk) := by
  obtain ⟨f, fd, ps, g, F, hm, kp, hb⟩ := c.ex
  refine ⟨fun pins s σ H Q I h => ?_⟩
  refine wpAny_Call_Name_kw (ld_glob I hg hm ?_ hdb)
  refine PySem.W.callWith_KW0 (h₀ := X.base) I.ok.mod.kin kp hall ?_ hpl
  refine thn (hkw.run pos pins s σ H _ I h) fun ws s2 ⟨zs, H2, I2, rz, l1, l2, q2⟩ => ⟨I2.kIn, ?_⟩
  rw [hks]
  exact run_fnG (us := []) (vs := []) F hG (hr.mono hk) hb pass0 I2 .nil rz rfl l2 q2
/-- f(e, .., k = v, ..) -/
theorem pe_gK {j : Nat} (c : Gk X.prog X.w X.K X.mg X.base k x n ks gV sp) (hG : X.A.guards = some []) (hr : Room j X.A) (hk : k ≤ j) (hg : Gl X x) (ha : PA X (e :: es) t) (hkw : PK X kws tk)
    (hall : (backToKw pos (keywordEach kws X.env)).all (·.1.isSome) = true := by rfl) (hks : (backToKw pos (keywordEach kws X.env)).filterMap (·.1) = ks := by rfl) (hdb : (x == ("__debug__" : Str)) = false := by decide)
    (he : starEach (e :: es) X.env = (false, eval e X.env) :: starEach es X.env := by rfl) (hpl : ((backTo pos (starEach (e :: es) X.env)).any (·.1) || (backToKw pos (keywordEach kws X.env)).any (·.1.isNone)) = false := by rfl) :
    PE X (.Call (.Name x p) (e :: es) kws pos) (tCallG n ks.length sp gV t tk) := by
  obtain ⟨f, fd, ps, g, F, hm, kp, hb⟩ := c.ex
  refine ⟨fun pins s σ H Q I h => ?_⟩
  refine wpAny_Call_Name_kw (ld_glob I hg hm ?_ hdb)
  refine PySem.W.callWith_KW (h₀ := X.base) I.ok.mod.kin kp hall (thn (ha.run pos pins s σ H _ I h) fun us s1 ⟨vs, H1, I1, r, q⟩ => ?_) hpl he
  refine thn (hkw.run pos pins s1 σ H1 _ I1 q) fun ws s2 ⟨zs, H2, I2, rz, l1, l2, q2⟩ => ⟨I2.kIn, ?_⟩
  rw [hks]
  exact run_fnG F hG (hr.mono hk) hb pass0 I2 r rz l1 l2 q2
end

/-! ### i *= j of great ints -/
def ipC (C : Int → Int → Prop) (f : Int → Int → Int) : TIp := fun x y H Q => ∃ i j, x = .int i ∧ y = .int j ∧ C i j ∧ Q (.int (f i j)) H
section
variable {X : Cx}
theorem ip_mulW : PIp X .Mult (ipC CMulW fun i j => i * j) := by
  intro pins s σ H x y v u Q I r1 r2 h
  obtain ⟨i, j, e1, e2, hc, q⟩ := h
  subst e1; subst e2
  obtain ⟨t, rfl⟩ := r1
  obtain ⟨t', rfl⟩ := r2
  exact imul_int ⟨.int _, H, I.tok _, ⟨_, rfl⟩, q⟩ hc.ok
/-! ### text * int -/
theorem foldl_repN (l : List Nat) : ∀ (n : Nat) (acc : List Nat), List.foldl (fun x1 x2 => x1 ++ x2) acc.toArray (List.replicate n l.toArray) = (acc ++ (List.replicate n l).flatten).toArray
  | 0, acc => by simp
  | n + 1, acc => by
    rw [List.replicate_succ, List.foldl_cons, List.append_toArray, foldl_repN l n (acc ++ l), List.replicate_succ, List.flatten_cons, List.append_assoc]
theorem op_repS : OpR X (binaryOp .Mult) (fun x y H Q => ∃ (z : Str) (n : Nat), x = .str z ∧ y = .int (n : Int) ∧ 2 ≤ n ∧ z.length ≠ 0 ∧ z.length * n ≤ 100000 ∧ Q (.str ⟨(List.replicate n z.cps.toList).flatten.toArray⟩) H) := by
  intro pins s σ H x y v u Q I r1 r2 h
  obtain ⟨z, n, e1, e2, h1, h3, h4, q⟩ := h
  subst e1; subst e2
  obtain ⟨t, rfl⟩ := r1
  obtain ⟨t', rfl⟩ := r2
  have hn : ¬ (n : Int) < 1 := by omega
  have hz1 : 1 ≤ z.length := Nat.pos_of_ne_zero h3
  have hn2 : n ≤ 100000 := Nat.le_trans (Nat.le_mul_of_pos_left n hz1) h4
  have hb : ((n : Int) == 1 || z.length == 0) = false := by
    have a : ((n : Int) == 1) = false := beq_eq_false_iff_ne.mpr (by omega)
    have b : (z.length == 0) = false := beq_eq_false_iff_ne.mpr h3
    rw [a, b]
    rfl
  have hsz : z.length * n ≤ sizeLine := zs h4
  have f0 : List.foldl (fun x1 x2 => x1 ++ x2) #[] (List.replicate n z.cps) = (List.replicate n z.cps.toList).flatten.toArray := by
    have := foldl_repN z.cps.toList n []
    rw [List.nil_append, Array.toArray_toList] at this
    exact this
  have hl : (⟨(List.replicate n z.cps.toList).flatten.toArray⟩ : Str).length = n * z.length := by
    show ((List.replicate n z.cps.toList).flatten.toArray).size = n * z.length
    rw [List.size_toArray, List.length_flatten, List.map_replicate, List.sum_replicate_nat, Array.length_toList]
    rfl
  refine PySem.P.mul_str ?_ (fun _ _ => ?_) (fun _ _ => ?_) ?_
  · have a : ¬ (n : Int) < -(2 ^ 63 : Int) := by omega
    have b : ¬ (n : Int) ≥ 2 ^ 63 := by omega
    rw [decide_eq_false a, decide_eq_false b]
    rfl
  · have h5 : (z.length : Int) * (n : Int) ≤ 100000 := by
      have := Int.ofNat_le.mpr h4
      rwa [Int.natCast_mul] at this
    have := (Int.le_ediv_iff_mul_le (show (0 : Int) < n by omega)).mpr (show (z.length : Int) * (n : Int) ≤ 2 ^ 63 - 1 by omega)
    omega
  · have e : (n : Int).toNat = n := rfl
    rw [e]
    unfold Builtin.Str.tooLong
    exact decide_eq_false (by omega)
  · rw [if_neg hn, hb, if_neg Bool.false_ne_true]
    have e : (n : Int).toNat = n := rfl
    rw [e, f0]
    exact ⟨by rw [hl]; rw [Nat.mul_comm]; exact hsz, .str _, H, I.tok _, ⟨_, rfl⟩, q⟩
end
/-! ### math.factorial, math.comb -/
def facN : Nat → Nat
  | 0 => 1
  | n + 1 => facN n * (n + 1)
theorem fac_eq : ∀ n : Nat, Builtin.Math.factorialNat n = facN n
  | 0 => rfl
  | n + 1 => by
    have e : Builtin.Math.factorialNat (n + 1) = Builtin.Math.factorialNat n * (n + 1) := by
      unfold Builtin.Math.factorialNat
      rw [List.range_succ, List.foldl_append]
      rfl
    rw [e, fac_eq n]
    rfl
theorem fac_lt : ∀ n : Nat, n ≤ 1000 → facN n < 2 ^ (10 * n + 1)
  | 0, _ => by decide
  | n + 1, h => by
    have z := fac_lt n (by omega)
    have e : 10 * (n + 1) + 1 = (10 * n + 1) + 10 := by omega
    show facN n * (n + 1) < _
    rw [e, Nat.pow_add]
    exact Nat.mul_lt_mul_of_lt_of_le z (by have : (2 : Nat) ^ 10 = 1024 := by decide
                                           omega) (by decide)
def rFac : List V → Hp → VK → Prop := fun vs H Q => ∃ n : Nat, vs = [.int (n : Int)] ∧ n ≤ 1000 ∧ Q (.int ((facN n : Nat) : Int)) H
theorem cr_fac {X : Cx} : CallR X (.builtin "math.factorial") rFac := by
  intro pins s σ H vs us Q I r h
  obtain ⟨n, rfl, hn, q⟩ := h
  obtain ⟨u, rfl, t, rfl⟩ := vals1 r
  have hl := fac_lt n hn
  have e : Builtin.Math.factorialNat (n : Int).toNat = facN n := fac_eq n
  refine PySem.W.mg_factorial (by show ¬ (n : Int) > 2 ^ 63 - 1; omega) (by omega) (by show ¬ (n : Int) > 20000; omega) ?_ ?_
  · rw [e]
    show (facN n).log2 < bitsLine
    have b := PySem.Flt.log2_lt_of (by omega : 0 < 10 * n + 1) hl
    have e2 : bitsLine = 134217728 := by decide
    rw [e2]
    omega
  · rw [e]
    exact ⟨.int _, H, I.tok _, ⟨_, rfl⟩, q⟩
/-! ### lists of great ints as text -/
theorem shown_big {ns : List Int} (hb : ∀ n ∈ ns, n.natAbs.log2 < 1920) (hl : ns.length ≤ 40) : (dI ns).shown.length ≤ sizeLine := by
  show (textFrom 0 "[" (PyData.shownAll (ns.map PyData.int)) ++ ("]" : Str)).length ≤ sizeLine
  rw [Str.length_append]
  have z := textFrom_le (PyData.shownAll (ns.map PyData.int)) 0 "[" 1921 (fun t ht => by
    obtain ⟨n, hn, e⟩ := shownAll_mem ns t ht
    rw [e]
    exact PyProof.Rows.int_text_len_1921 (hb n hn))
  rw [shownAll_len] at z
  have e1 : ("[" : Str).length = 1 := rfl
  have e2 : ("]" : Str).length = 1 := rfl
  rw [e1] at z
  rw [e2]
  exact zs (by omega)
theorem rrepr_big {K : PySem.W.Frag} {H : Hp} {a : Addr} {ns : List Int} {Q : VK} (hS : SqL K H a (ns.map V.int)) (hb : ∀ n ∈ ns, n.natAbs.log2 < 1920) (hl : ns.length ≤ 40) (q : Q (.str (dI ns).shown) H) : rRepr K [.ref a] H Q :=
  ⟨a, dI ns, rfl, dp_ints hS, show_ints ns hb, noDict_ints ns, rI2 ns, shown_big hb hl, q⟩
theorem log_nat {n k : Nat} (h : n < 2 ^ k) (h0 : 0 < k) (hk : k ≤ 1920) : ((n : Nat) : Int).natAbs.log2 < 1920 := Nat.lt_of_lt_of_le (PySem.Flt.log2_lt_of h0 (show ((n : Nat) : Int).natAbs < 2 ^ k from h)) hk
end Lp
set_option Elab.async false
set_option linter.all false
set_option maxRecDepth 100000
namespace Lp
open PySem PySem.Spec PyProof.Rows L2
theorem filtG {α : Type} {l : List α} {f : α → Bool} {i : Nat} {e : α} (he : l[i]? = some e) : (l.take (i + 1)).filter f = (l.take i).filter f ++ (if f e = true then [e] else []) := by
  rw [take_get he, List.filter_append]
  congr 1
  simp only [List.filter_cons, List.filter_nil]
theorem filtG_len {α : Type} {l : List α} {f : α → Bool} (i : Nat) : ((l.take i).filter f).length ≤ l.length := Nat.le_trans (List.length_filter_le _ _) (by rw [List.length_take]; exact Nat.min_le_right _ _)
theorem inVI (x : Int) : ∀ ns : List Int, inV (.int x) (ns.map V.int) = decide (x ∈ ns)
  | [] => rfl
  | n :: r => by
    show (eqV (.int n) (.int x) || inV (.int x) (r.map V.int)) = _
    rw [inVI x r]
    show ((n == x) || decide (x ∈ r)) = _
    by_cases e : n = x
    · subst e
      simp
    · have e' : ¬ x = n := fun z => e z.symm
      simp [e, e']
theorem flatI (ns : List Int) : (ns.map V.int).all flatV = true := by
  rw [List.all_eq_true]
  intro v hv
  obtain ⟨n, _, rfl⟩ := List.mem_map.mp hv
  rfl
theorem notInT {x : Int} {ns : List Int} (h : x ∉ ns) : V.bl (if true = true then !inV (.int x) (ns.map V.int) else inV (.int x) (ns.map V.int)) = V.bl true := by
  rw [if_pos rfl, inVI, decide_eq_false h]
  rfl
theorem notInF {x : Int} {ns : List Int} (h : x ∈ ns) : V.bl (if true = true then !inV (.int x) (ns.map V.int) else inV (.int x) (ns.map V.int)) = V.bl false := by
  rw [if_pos rfl, inVI, decide_eq_true h]
  rfl

/-! ### rows of ints in the heap -/
def RowsR (H : Hp) (rs : List V) (rows : List (List Int)) : Prop := rs.length = rows.length ∧ ∀ (i : Nat) (row : List Int), rows[i]? = some row → ∃ a, rs[i]? = some (.ref a) ∧ H a = some (.lst (row.map V.int))
theorem RowsR.same {H H' : Hp} {rs : List V} {rows : List (List Int)} (h : RowsR H rs rows) (s : Same H H') : RowsR H' rs rows := ⟨h.1, fun i row e => by
  obtain ⟨a, b, c⟩ := h.2 i row e
  exact ⟨a, b, s _ _ c⟩⟩
theorem RowsR.upd {H : Hp} {rs : List V} {rows : List (List Int)} {q : Addr} {o : HO} (h : RowsR H rs rows) (n : V.ref q ∉ rs) : RowsR (upd H q o) rs rows := ⟨h.1, fun i row e => by
  obtain ⟨a, b, c⟩ := h.2 i row e
  have ne : a ≠ q := fun z => n (by rw [← z]; exact List.mem_of_getElem? b)
  refine ⟨a, b, ?_⟩
  rw [upd_ne ne]
  exact c⟩
theorem RowsR.nil (H : Hp) : RowsR H [] [] := ⟨rfl, fun i row e => by simp at e⟩
theorem RowsR.app {H : Hp} {rs ss : List V} {rows sows : List (List Int)} (h : RowsR H rs rows) (g : RowsR H ss sows) : RowsR H (rs ++ ss) (rows ++ sows) := by
  refine ⟨by rw [List.length_append, List.length_append, h.1, g.1], fun i row e => ?_⟩
  by_cases hi : i < rows.length
  · rw [List.getElem?_append_left hi] at e
    rw [List.getElem?_append_left (by rw [h.1]; exact hi)]
    exact h.2 i row e
  · rw [List.getElem?_append_right (by omega)] at e
    rw [List.getElem?_append_right (by rw [h.1]; omega), h.1]
    exact g.2 _ row e
theorem RowsR.one {H : Hp} {a : Addr} {row : List Int} (h : H a = some (.lst (row.map V.int))) : RowsR H [.ref a] [row] := ⟨rfl, fun i r e => by
  cases i with
  | zero => cases e; exact ⟨a, rfl, h⟩
  | succ i => simp at e⟩
theorem RowsR.dp {K : PySem.W.Frag} {H : Hp} : ∀ {rs : List V} {rows : List (List Int)}, RowsR H rs rows → DpAll K H rs (rows.map dI)
  | [], [], _ => .nil
  | [], _ :: _, h => absurd h.1 (by simp)
  | _ :: _, [], h => absurd h.1 (by simp)
  | v :: rs, r :: rows, h => by
    obtain ⟨a, b, c⟩ := h.2 0 r rfl
    have e : v = .ref a := Option.some.inj b
    subst e
    exact .cons (dp_ints (.of c)) (RowsR.dp ⟨Nat.succ.inj h.1, fun i row e => h.2 (i + 1) row e⟩)
theorem flatMap_take_len {α β : Type} {f : α → List β} (l : List α) (j : Nat) : ((l.take j).flatMap f).length ≤ (l.flatMap f).length := by
  have e : l.flatMap f = (l.take j).flatMap f ++ (l.drop j).flatMap f := by rw [← List.flatMap_append, List.take_append_drop]
  rw [e, List.length_append]
  omega
theorem flatMap_take_succ {α β : Type} {f : α → List β} {l : List α} {j : Nat} {x : α} (h : l[j]? = some x) : (l.take (j + 1)).flatMap f = (l.take j).flatMap f ++ f x := by
  rw [take_get h, List.flatMap_append]
  simp
end Lp
set_option Elab.async false
set_option linter.all false
set_option maxRecDepth 100000
namespace Lp
open PySem PySem.Spec PyProof.Rows L2
theorem rgc_two (n : Nat) (h : n ≤ 1000) : RgC 1 (2 * (n : Int)) 2 n := by
  have hs : Builtin.Range.rangeSize 1 (2 * (n : Int)) 2 = (n : Int) := by
    unfold Builtin.Range.rangeSize
    rw [if_pos (by decide)]
    by_cases h0 : n = 0
    · subst h0
      rw [if_neg (by omega)]
      rfl
    · rw [if_pos (by omega)]
      omega
  refine ⟨by decide, by decide, ?_, hs⟩
  unfold Builtin.Range.small
  rw [hs]
  have f : ∀ z : Int, -1000000 ≤ z → z ≤ 1000000 → Builtin.Range.rangeFitsLong z = true := fun z a b => by
    unfold Builtin.Range.rangeFitsLong
    rw [decide_eq_true (show -2 ^ 63 ≤ z by omega), decide_eq_true (show z < 2 ^ 63 by omega)]
    rfl
  rw [f 1 (by decide) (by decide), f (2 * (n : Int)) (by omega) (by omega), f 2 (by decide) (by decide), f (n : Int) (by omega) (by omega), if_pos (by decide), f (2 * (n : Int) + (2 - 1)) (by omega) (by omega), Bool.or_true]
  rfl
/-! ### lists of objects in the heap -/
def ObjR {α : Type} (o : α → HO) (H : Hp) (rs : List V) (l : List α) : Prop := rs.length = l.length ∧ ∀ (i : Nat) (x : α), l[i]? = some x → ∃ a, rs[i]? = some (.ref a) ∧ H a = some (o x)
section
variable {α : Type} {o : α → HO} {H H' : Hp} {rs ss : List V} {l m : List α}
theorem ObjR.same (h : ObjR o H rs l) (s : Same H H') : ObjR o H' rs l := ⟨h.1, fun i x e => by
  obtain ⟨a, b, c⟩ := h.2 i x e
  exact ⟨a, b, s _ _ c⟩⟩
theorem ObjR.upd {q : Addr} {u : HO} (h : ObjR o H rs l) (n : V.ref q ∉ rs) : ObjR o (upd H q u) rs l := ⟨h.1, fun i x e => by
  obtain ⟨a, b, c⟩ := h.2 i x e
  have ne : a ≠ q := fun z => n (by rw [← z]; exact List.mem_of_getElem? b)
  refine ⟨a, b, ?_⟩
  rw [upd_ne ne]
  exact c⟩
theorem ObjR.nil : ObjR o H [] [] := ⟨rfl, fun i x e => by simp at e⟩
theorem ObjR.app (h : ObjR o H rs l) (g : ObjR o H ss m) : ObjR o H (rs ++ ss) (l ++ m) := by
  refine ⟨by rw [List.length_append, List.length_append, h.1, g.1], fun i x e => ?_⟩
  by_cases hi : i < l.length
  · rw [List.getElem?_append_left hi] at e
    rw [List.getElem?_append_left (by rw [h.1]; exact hi)]
    exact h.2 i x e
  · rw [List.getElem?_append_right (by omega)] at e
    rw [List.getElem?_append_right (by rw [h.1]; omega), h.1]
    exact g.2 _ x e
theorem ObjR.one {a : Addr} {x : α} (h : H a = some (o x)) : ObjR o H [.ref a] [x] := ⟨rfl, fun i r e => by
  cases i with
  | zero => cases e; exact ⟨a, rfl, h⟩
  | succ i => simp at e⟩
end
theorem rep_one (b : Bool) (v : V) : (List.replicate (if b = true then (1 : Int) else 0).toNat [v]).flatten = if b = true then [v] else [] := by cases b <;> rfl
theorem rep_sz (b : Bool) (v : V) : [v].length * (if b = true then (1 : Int) else 0).toNat ≤ sizeLine := by
  cases b
  · exact Nat.zero_le _
  · exact Lp.zs (show 1 * 1 ≤ 100000 by decide)
theorem ifs_len (b : Bool) (v : V) : (if b = true then [v] else []).length ≤ 1 := by
  cases b
  · exact Nat.zero_le _
  · exact Nat.le_refl _
theorem ints_get {ns : List Int} {i : Nat} {n : Int} (h : ns[i]? = some n) : (ns.map V.int)[i]? = some (.int n) := by rw [List.getElem?_map, h]; rfl
end Lp
set_option Elab.async false
set_option linter.all false
set_option maxRecDepth 100000
namespace Lp
open PySem PySem.Spec PyProof.Rows L2
/-! ### lists of ints, by < -/
theorem firstLt_map (e r : Nat → Bool) (fin : Bool) (f : Nat → Nat) : ∀ l : List Nat, SeqAt.firstLt e r fin (l.map f) = SeqAt.firstLt (fun j => e (f j)) (fun j => r (f j)) fin l
  | [] => rfl
  | j :: t => by
    show (if e (f j) = true then SeqAt.firstLt e r fin (t.map f) else r (f j)) = (if e (f j) = true then SeqAt.firstLt (fun j => e (f j)) (fun j => r (f j)) fin t else r (f j))
    rw [firstLt_map e r fin f t]
theorem first_lex : ∀ ns ms : List Int, SeqAt.firstLt (fun j => ns.getD j 0 == ms.getD j 0) (fun j => decide (ns.getD j 0 < ms.getD j 0)) (decide (ns.length < ms.length)) (List.range (min ns.length ms.length)) = HT.lexLt ns ms
  | [], [] => rfl
  | [], _ :: _ => rfl
  | _ :: _, [] => rfl
  | n :: ns, m :: ms => by
    have e : min (n :: ns).length (m :: ms).length = min ns.length ms.length + 1 := by
      simp only [List.length_cons]
      omega
    have e2 : decide ((n :: ns).length < (m :: ms).length) = decide (ns.length < ms.length) := decide_eq_decide.mpr (by simp only [List.length_cons]; omega)
    rw [e, e2, List.range_succ_eq_map]
    show (if (n == m) = true then SeqAt.firstLt _ _ _ ((List.range (min ns.length ms.length)).map Nat.succ) else decide (n < m)) = if n = m then HT.lexLt ns ms else decide (n < m)
    rw [firstLt_map]
    by_cases h : n = m
    · rw [if_pos (beq_iff_eq.mpr h), if_pos h]
      exact first_lex ns ms
    · rw [if_neg (fun z => h (beq_iff_eq.mp z)), if_neg h]
def IsLs (h : Heap) (v : Value) (ns : List Int) : Prop := ∃ (a : Addr) (items : List Value), v = .ref a ∧ h.IsList a items.toArray ∧ IntsAre items ns
theorem IsLs.keeps {h h' : Heap} {v : Value} {ns : List Int} (x : IsLs h v ns) (k : ∀ b o, v = .ref b → h.get? b = some o → h'.get? b = some o) : IsLs h' v ns := by
  obtain ⟨a, its, rfl, ⟨o, ho, hc, n, hd⟩, hi⟩ := x
  exact ⟨a, its, rfl, ⟨o, k a o rfl ho, hc, n, hd⟩, hi⟩
theorem ints_at : ∀ {us : List Value} {ns : List Int}, IntsAre us ns → ∀ j (h : j < us.length), ∃ t, us[j] = .int (ns.getD j 0) t
  | _, _, .cons n t r, 0, _ => ⟨t, rfl⟩
  | _, _, .cons n t r, j + 1, h => by
    obtain ⟨u, e⟩ := ints_at r j (Nat.lt_of_succ_lt_succ h)
    exact ⟨u, e⟩
section
variable {prog : Program} {w : World} {A : Around} {E : Value → Shared → Prop} {s : Shared}
theorem rcLt_int (A : Around) (s : Shared) (a : Int) (t : Tok) (b : Int) (u : Tok) : SeqAt.RcLt A s (.int a t) (.int b u) (decide (a < b)) := fun prog w E Q h => by
  have z : wpAny (model prog w) A (compareOp .Lt (.int a t) (.int b u)) Q E s := lt_int h
  exact z
theorem lt_ls {v u : Value} {ns ms : List Int} {Q : Bool → Shared → Prop} (hu : A.units < cLine) (hv : IsLs s.heap v ns) (hw : IsLs s.heap u ms) (h : Q (HT.lexLt ns ms) s) : wpAny (model prog w) A (keyLt' oneType' v u) Q E s := by
  obtain ⟨a, its, rfl, la, ia⟩ := hv
  obtain ⟨b, its2, rfl, lb, ib⟩ := hw
  have l1 := ia.length
  have l2 := ib.length
  rw [keyLt'_oneType, oneLt'_eq]
  simp only [if_true]
  refine wpAny_bind (wpAny_cRoomFor hu ?_)
  refine wpAny_bind (wpAny_callSpecialIfBound?_slot la.typeIs PySem.F.slot_list_lt (SeqAt.call_list_lt (e := fun j => ns.getD j 0 == ms.getD j 0) (r := fun j => decide (ns.getD j 0 < ms.getD j 0)) la lb (fun j h1 h2 => ?_) (fun j h1 h2 _ => ?_) ?_))
  · obtain ⟨t, e⟩ := ints_at ia j (by simpa using h1)
    obtain ⟨t', e'⟩ := ints_at ib j (by simpa using h2)
    rw [List.getElem_toArray, List.getElem_toArray, e, e']
    exact SeqAt.EqAt.int_int _ t _ t'
  · obtain ⟨t, e⟩ := ints_at ia j (by simpa using h1)
    obtain ⟨t', e'⟩ := ints_at ib j (by simpa using h2)
    rw [List.getElem_toArray, List.getElem_toArray, e, e']
    exact rcLt_int _ _ _ t _ t'
  · rw [List.size_toArray, List.size_toArray, l1, l2, first_lex]
    exact wpAny_truthy_bool h
theorem ls_cmp {vs : List Value} {k : Value → List Int} (hu : A.units < cLine) (hv : ∀ v ∈ vs, IsLs s.heap v (k v)) : SrtO.Cmp prog w A s oneType' (fun p => p.1 ∈ vs) (SrtO.lt2 fun v u => HT.lexLt (k v) (k u)) := by
  intro p q hp hq
  exact lt_ls (Q := fun r s' => s' = s ∧ r = HT.lexLt (k p.1) (k q.1)) (E := fun _ _ => False) hu (hv p.1 hp) (hv q.1 hq) ⟨rfl, rfl⟩
theorem ls_sortable {a : Addr} {vs : List Value} {k : Value → List Int} (h2 : 2 ≤ vs.length) (hu : A.units < cLine) (hv : ∀ v ∈ vs, IsLs s.heap v (k v)) (ha : ∀ v ∈ vs, v ≠ .ref a) :
    SrtO.SortableO prog w A s a vs fun v u => HT.lexLt (k v) (k u) := by
  intro h' keep
  have hv' : ∀ v ∈ vs, IsLs h' v (k v) := fun v hm => (hv v hm).keeps fun b o e g => keep b o (fun z => ha v hm (by rw [e, z])) g
  refine ⟨oneType', fun Q E hq => ?_, ls_cmp (s := { s with heap := h' }) hu hv'⟩
  refine PySem.W.kas_kind (s := { s with heap := h' }) (T := .type "list") h2 (fun v hm => ?_) (by rfl) (by simp) hq
  obtain ⟨a, its, rfl, ⟨o, ho, hc, n, hd⟩, hi⟩ := hv' v hm
  rw [← hc]
  exact (PySem.W.Looks.ld ho).andThen .now
end
/-- sorted(xs), xs a list of lists of ints of any length (k says which) -/
def rSortedLL (K : PySem.W.Frag) : List V → Hp → VK → Prop := fun vs H Q => ∃ (a : Addr) (xs : List V) (k : V → List Int), vs = [V.ref a] ∧ SqL K H a xs ∧ (∀ x ∈ xs, ∃ t, x = V.ref t ∧ SqL K H t ((k x).map V.int)) ∧
  ∀ ys p, ys.Perm xs → ys.Pairwise (fun x y => HT.lexLt (k y) (k x) = false) → H p = none → Q (.ref p) (upd H p (.lst ys))
theorem cr_sortedLL {X : Cx} (hu : X.A.units + 64 < cLine) : CallR X (.builtin "sorted") (rSortedLL X.K) := by
  intro pins s σ H vs us Q I r h
  obtain ⟨a, xs, k, rfl, hs, hx, q⟩ := h
  obtain ⟨its, rv, hl, hz⟩ := I.list hs
  obtain ⟨u, rfl, ru⟩ := vals1 r
  obtain rfl : u = Value.ref a := ru
  obtain ⟨e1, e2⟩ := refs_back rv fun x m => by
    obtain ⟨t, e, _⟩ := hx x m
    exact ⟨t, e⟩
  have hv : ∀ v ∈ its, IsLs s.heap v (k (backV v)) := fun v hv => by
    obtain ⟨t, rfl⟩ := e2 v hv
    have hm : V.ref t ∈ xs := by rw [e1]; exact List.mem_map.mpr ⟨_, hv, rfl⟩
    obtain ⟨t', e, ht⟩ := hx _ hm
    cases e
    obtain ⟨its2, r2, l2, _⟩ := I.list ht
    exact ⟨t, its2, rfl, l2.isList, r2.ints⟩
  refine SrtO.sorted_ord (NtL.swo_lexL fun u => k (backV u)) hl.isList (by rw [← rv.length]; exact hz) (fun h2 h₁ a' g keep => ls_sortable h2 (by show X.A.units + 1 + 1 < cLine; omega) (fun v hm => (hv v hm).keeps fun b o _ g => (keep b o g).2) fun v hm z => ?_) fun out h1 h2 => ?_
  · obtain ⟨b, its3, e, ⟨o, ho, _⟩, _⟩ := hv v hm
    rw [z] at e
    cases e
    exact (keep _ o ho).1 rfl
  · have h3 : ∀ u ∈ out, ∃ a, u = Value.ref a := fun u hu => e2 u (h2.perm.mem_iff.mp hu)
    obtain ⟨ep, he'⟩ := PyProof.Rows.sortedAll_at s.heap its out.toArray
    have hp : (out.map backV).Perm xs := by
      rw [e1]
      exact h2.perm.map backV
    have hlen : (out.map backV).length ≤ sizeLine := by
      rw [hp.length_eq]
      exact hz
    exact ⟨.ref _, upd H (s.heap.objs.size + 1) (.lst (out.map backV)), I.laid (t' := s.toks) (fun _ _ => PyProof.Rows.sortedAll_old) (Nat.le_succ _) ⟨hlen, out, ep, vals_back h3, he'⟩, rfl, q _ _ hp (List.pairwise_map.mpr (h1.imp fun {x y} z => z)) (I.hok.fresh (Nat.le_succ _))⟩
end Lp
set_option Elab.async false
set_option linter.all false
set_option maxRecDepth 100000
namespace Lp
open PySem PySem.Spec PyProof.Rows L2
theorem all_bounds (n : Nat) : PySem.sliceBounds none none none n = (0, (n : Int), 1) := by
  simp [PySem.sliceBounds]
section
variable {prog : Program} {w : World} {A : Around} {E : Value → Shared → Prop} {s : Shared}
/-- xs[:] = ys -/
theorem whole_set {p q z : Addr} {old new : Array Value} {n1 n2 : Nat} {R : Unit → Shared → Prop} (hp : s.heap.get? p = some { cls := .type "list", data := .seq old n1 }) (hq : s.heap.get? q = some { cls := .type "list", data := .seq new n2 })
    (npq : p ≠ q) (hz : s.heap.IsSliceOf z .none .none .none) (fit : old.size + new.size ≤ sizeLine) (h : R () { s with heap := s.heap.update p (Obj.mapSeq fun xs => xs.extract 0 0 ++ new ++ xs.extract old.size xs.size) }) :
    wpAny (model prog w) A (setItem (.ref p) (.ref z) (.ref q)) R E s := by
  have tp : s.heap.IsList p old := PySem.IsL.isList hp
  have tq : s.heap.IsList q new := PySem.IsL.isList hq
  obtain ⟨oz, goz, coz, doz⟩ := id hz
  have tz : s.TypeIs (.ref z) "slice" := ⟨oz, goz, coz⟩
  have noZero : ¬ ((rawPart none == rawInt 0) = true) := Bool.false_ne_true
  have two : Builtin.List.listSameRef (.ref p) (.ref q) = false := by unfold Builtin.List.listSameRef; exact beq_eq_false_iff_ne.mpr npq
  have upper : (max (0 : Int) (old.size : Int)).toNat = old.size := by omega
  have fit' : ((fun xs : Array Value => xs.extract 0 0 ++ new ++ xs.extract old.size xs.size) old).size ≤ sizeLine + 1 := by simp only [Array.size_append, Array.size_extract]; omega
  unfold setItem; try with_reducible refine wpAny_holding ?_
  first | refine wpAny_bind (wpAny_pure ?_) | skip
  refine wpAny_bind (wpAny_sequenceKey tp.typeIs (by decide) (wpAny_bind (wpAny_callSpecial?_slot (name := Str.ofString "__setitem__") tp.typeIs slot_list_setitem (wpAny_call_entry slot_list_setitem tp.typeIs entry_list_setitem ?_ (args_list_setitem _ _ _)))))
  show wpAny _ _ (Builtin.List.listSubscript? (.ref z) >>= _) _ _ s
  refine wpAny_bind ?_
  unfold Builtin.List.listSubscript?
  refine wpAny_bind (wpAny_specialOf tz slice_no_index ?_)
  simp only [Option.isNone_none, if_true]
  refine wpAny_pure (?_ : wpAny _ _ (typeOf (.ref z) >>= _) _ _ s)
  refine wpAny_bind (wpAny_typeOf tz ?_)
  first | rw [if_neg (by decide)] | refine PySem.W.KFB.if_not (by decide) ?_
  rw [listSliceParts_eq]
  refine wpAny_bind (wpAny_bind (wpAny_field goz doz (x := .none) rfl (wpAny_bind (wpAny_listPart .none (?_ : wpAny _ _ _ _ _ _)))))
  rw [if_neg noZero]
  refine wpAny_bind (wpAny_field goz doz (x := .none) rfl (wpAny_bind (wpAny_listPart .none (wpAny_bind (wpAny_field goz doz (x := .none) rfl (wpAny_bind (wpAny_listPart .none (wpAny_pure ?_))))))))
  first | simp only [two, Bool.false_eq_true, if_false] | refine PySem.W.KFB.if_not two ?_ | (dsimp only; rw [if_neg (by rw [two]; exact Bool.false_ne_true)])
  refine wpAny_bind (m := Builtin.List.listAllItems (.ref q) "must assign iterable to extended slice") ?_
  unfold Builtin.List.listAllItems; refine wpAny_bind (wpAny_typeOf tq.typeIs ?_)
  first | refine PySem.W.KFB.if_so (by decide) ?_ | rw [if_pos (by decide)] | simp only [beq_self_eq_true, Bool.true_or, if_true]
  unfold Builtin.List.listItems; refine wpAny_bind (wpAny_seqItems hq rfl (wpAny_pure (wpAny_bind (wpAny_bind (wpAny_seqItems hp rfl (wpAny_pure ?_))))))
  refine wpAny_bind (wpAny_of_eq ((sliceIndices_raw none none none old.size (by simp)).trans (congrArg (pure : Int × Int × Int → Sem (Int × Int × Int)) (all_bounds old.size))) ?_)
  show wpAny _ _ (if ((1 : Int) == 1) = true then _ else _) _ _ s
  rw [if_pos (by decide)]; refine wpAny_bind (wpAny_rule ?_)
  first | simp only [notLongL fit, Bool.false_eq_true, if_false] | refine PySem.W.KFB.if_not (notLongL fit) ?_
  first | refine wpAny_bind (wpAny_pure ?_) | skip
  show wpAny _ _ (updateSeq p (fun xs => xs.extract 0 ((0 : Int)).toNat ++ new ++ xs.extract (max (0 : Int) (old.size : Int)).toNat xs.size) >>= _) _ _ s
  rw [upper]; refine wpAny_bind (wpAny_updateSeq (hz := Nat.le_trans (Nat.le_add_right _ _) fit) (_hz' := fit') hp rfl (wpAny_bind (wpAny_letGo ?_)))
  first | exact wpAny_bind (wpAny_pure (wpAny_pure ⟨.none, rfl, wpAny_pure h⟩)) | exact wpAny_pure ⟨.none, rfl, wpAny_pure h⟩
end
/-- the slice object of [:] -/
def SlO (a : Addr) : HO := .ext fun h => h.IsSliceOf a .none .none .none
section
variable {X : Cx} {pos : Pos}
def tSlAll : TE := fun _ H Q => ∀ p, H p = none → Q (.ref p) (upd H p (SlO p))
theorem pe_slAll : PE X (.Slice none none none pos) tSlAll := by
  refine ⟨fun pins s σ H Q I h => ?_⟩
  refine wpAny_Slice ?_
  rw [evalPart_none]
  refine wpAny_pure (wpAny_pure (wpAny_pure ?_))
  refine ⟨.ref s.heap.objs.size, upd H s.heap.objs.size (SlO s.heap.objs.size), I.laid (t' := s.toks) (fun b ob q => Heap.get?_push_of_some _ q) (Nat.le_refl _) ⟨Heap.IsSliceOf.new .., ⟨_, Heap.get?_push_size s.heap rfl⟩, fun h1 h2 x k => ?_⟩, rfl, h _ (I.hok.fresh (Nat.le_refl _))⟩
  obtain ⟨o, e, c, d⟩ := x
  exact ⟨o, k o e, c, d⟩
def sAll : TSet := fun x y z H Q => ∃ (l b sl : Addr) (xs ys : List V), x = .ref l ∧ y = .ref sl ∧ z = .ref b ∧ H sl = some (SlO sl) ∧ H l = some (.lst xs) ∧ H b = some (.lst ys) ∧ l ≠ b ∧ xs.length + ys.length ≤ sizeLine ∧ Q (upd H l (.lst ys))
theorem set_all : PSet X sAll := by
  intro pins s σ H o i v ov iv u Q I r1 r2 r3 h
  obtain ⟨l, b, sl, xs, ys, rfl, rfl, rfl, hsl, hl, hb, ne, hz, q⟩ := h
  cases r1
  cases r2
  cases r3
  obtain ⟨z, its, n, r, el, e⟩ := I.lstM hl
  obtain ⟨z2, its2, n2, r', el2, e2⟩ := I.lstM hb
  have os : ObjOk X.prog X.w H s.heap sl (SlO sl) := I.hok sl _ hsl
  refine whole_set e e2 ne os.1 (by rw [List.size_toArray, List.size_toArray]; omega) ⟨_, I.lset (its' := its2) (t' := s.toks) hl e ?_ r' (by omega), q⟩
  apply Array.toList_inj.mp
  simp
/-- xs[..] = as a target, a slice without a step -/
theorem pg_slAll {o i : Expr} {to ti : TE} {t : TSet} (ho : PE X o to) (hi : PE X i ti) (hs : PSet X t)
    (ha : ∀ v, assign (.Subscript o i pos) X.env v = (holding [v] (eval o X.env) >>= fun ov => holding [v, ov] (eval i X.env) >>= fun iv => standAt pos >>= fun _ => holding [v, ov, iv] (setItem ov iv v) >>= fun _ => release [iv, v, ov] []) := by intro _; rfl) : PG X (.Subscript o i pos) (gSub to ti t) := by
  refine ⟨fun pins s σ H v u Q I r h => ?_⟩
  rw [ha u]
  refine wpAny_bind (wpAny_holding (thn (ho.run pins s σ H _ I h) fun ov sA ⟨x, HA, IA, rA, qA⟩ => wpAny_bind (wpAny_holding (thn (hi.run pins sA σ HA _ IA qA) fun iv sB ⟨y, HB, IB, rB, qB⟩ =>
    wpAny_bind (wpAny_standAt (wpAny_bind (wpAny_holding (thn (hs pins sB σ HB x y v ov iv u _ IB rA rB r qB) fun _ sC ⟨HC, IC, qC⟩ => wpAny_release ⟨σ, HC, IC, qC⟩))))))))
end
end Lp
set_option Elab.async false
set_option linter.all false
set_option maxRecDepth 100000
namespace Lp
open PySem PySem.Calls
theorem comb_entry : entryFor table "math.comb" = some Builtin.«math.comb» := entryFor_of_tree (by kernel_rfl)
theorem comb_kind : builtinKind "math.comb" = none := by kernel_rfl
theorem comb_plain : plainId "math.comb" = true := by decide +kernel
theorem comb_args (a b : Value) : argsOk "math.comb" ⟨[a, b], []⟩ := by unfold argsOk; kernel_rfl
theorem comb_run (a : Int) (t : Tok) (b : Int) (u : Tok) (h0 : ¬ a < 0) (h1 : ¬ b < 0) (h2 : ¬ b > a) (h3 : ¬ min b (a - b) > Builtin.Math.maxSsize) (h4 : ¬ min b (a - b) > Builtin.Math.manyFactors) (h5 : ¬ min b (a - b) > 9000)
    (hs : (Builtin.Math.fallingProduct a (min b (a - b)).toNat / Builtin.Math.fallingProduct (min b (a - b)) (min b (a - b)).toNat).natAbs.log2 < bitsLine) :
    Gives (Builtin.«math.comb» ⟨[.int a t, .int b u], []⟩) (.int (Builtin.Math.fallingProduct a (min b (a - b)).toNat / Builtin.Math.fallingProduct (min b (a - b)) (min b (a - b)).toNat)) :=
  .of_wp fun M A E s Q h => by obtain ⟨hp, g, d, tk, os⟩ := s; wp_walk; (try (refine wpAny_ite_false (decide_eq_false (Nat.not_le.mpr hs)) ?_; wp_walk)); exact ⟨_, rfl, h⟩
end Lp
namespace Lp
open PySem PySem.Spec PySem.Calls PyProof.Rows L2
/-! ### binomial coefficients -/
theorem facN_pos' : ∀ n, 0 < facN n
  | 0 => by decide
  | n + 1 => Nat.mul_pos (facN_pos' n) (Nat.succ_pos n)
def chN (n k : Nat) : Nat := facN n / (facN k * facN (n - k))
def chP : Nat → Nat → Nat
  | _, 0 => 1
  | 0, _ + 1 => 0
  | n + 1, k + 1 => chP n k + chP n (k + 1)
theorem chP_zero (n : Nat) : chP n 0 = 1 := by cases n <;> rfl
theorem chP_gt : ∀ n k, n < k → chP n k = 0
  | 0, k + 1, _ => rfl
  | n + 1, k + 1, h => by
    show chP n k + chP n (k + 1) = 0
    rw [chP_gt n k (by omega), chP_gt n (k + 1) (by omega)]
theorem chP_self : ∀ n, chP n n = 1
  | 0 => rfl
  | n + 1 => by
    show chP n n + chP n (n + 1) = 1
    rw [chP_self n, chP_gt n (n + 1) (by omega)]
theorem chP_fac : ∀ n k, k ≤ n → chP n k * (facN k * facN (n - k)) = facN n
  | n, 0, _ => by
    rw [chP_zero, Nat.sub_zero]
    show 1 * (1 * facN n) = facN n
    rw [Nat.one_mul, Nat.one_mul]
  | n + 1, k + 1, h => by
    show (chP n k + chP n (k + 1)) * (facN k * (k + 1) * facN (n + 1 - (k + 1))) = facN n * (n + 1)
    have e : n + 1 - (k + 1) = n - k := by omega
    rw [e]
    have a := chP_fac n k (by omega)
    rcases Nat.lt_or_ge k n with hk | hk
    · have b := chP_fac n (k + 1) (by omega)
      have b2 : facN (n - k) = facN (n - (k + 1)) * (n - k) := by
        have e2 : n - k = (n - (k + 1)) + 1 := by omega
        rw [e2]
        rfl
      have x1 : chP n k * (facN k * (k + 1) * facN (n - k)) = facN n * (k + 1) := by
        rw [← a]
        simp only [Nat.mul_assoc, Nat.mul_comm, Nat.mul_left_comm]
      have x2 : chP n (k + 1) * (facN k * (k + 1) * facN (n - k)) = facN n * (n - k) := by
        rw [← b, b2]
        show _ = chP n (k + 1) * (facN k * (k + 1) * facN (n - (k + 1))) * (n - k)
        simp only [Nat.mul_assoc, Nat.mul_comm, Nat.mul_left_comm]
      rw [Nat.add_mul, x1, x2, ← Nat.mul_add]
      congr 1
      omega
    · have ek : k = n := by omega
      subst ek
      have x : chP k k * (facN k * (k + 1) * facN (k - k)) = chP k k * (facN k * facN (k - k)) * (k + 1) := by
        simp only [Nat.mul_assoc, Nat.mul_comm, Nat.mul_left_comm]
      rw [chP_gt k (k + 1) (by omega), Nat.add_zero, x, a]
theorem ch_eq {n k : Nat} (h : k ≤ n) : chN n k = chP n k := by
  unfold chN
  rw [← chP_fac n k h]
  exact Nat.mul_div_cancel _ (Nat.mul_pos (facN_pos' k) (facN_pos' _))
theorem ch_sym {n k : Nat} (h : k ≤ n) : chN n (n - k) = chN n k := by
  unfold chN
  have e : n - (n - k) = k := by omega
  rw [e, Nat.mul_comm]
theorem ch_le (n k : Nat) : chN n k ≤ facN n := Nat.div_le_self _ _
theorem fall_fac (n : Nat) : ∀ k, k ≤ n → Builtin.Math.fallingProduct (n : Int) k * ((facN (n - k) : Nat) : Int) = ((facN n : Nat) : Int)
  | 0, _ => by
    show 1 * _ = _
    rw [Int.one_mul, Nat.sub_zero]
  | k + 1, h => by
    have e : Builtin.Math.fallingProduct (n : Int) (k + 1) = Builtin.Math.fallingProduct (n : Int) k * ((n : Int) - (k : Int)) := by
      unfold Builtin.Math.fallingProduct
      rw [List.range_succ, List.foldl_append]
      rfl
    have ih := fall_fac n k (by omega)
    have e2 : facN (n - k) = facN (n - (k + 1)) * (n - k) := by
      have e3 : n - k = (n - (k + 1)) + 1 := by omega
      rw [e3]
      rfl
    rw [← ih, e, e2, Int.natCast_mul, Int.mul_assoc]
    congr 1
    rw [Int.mul_comm]
    congr 1
    omega
theorem comb_val {n k : Nat} (h : k ≤ n) : Builtin.Math.fallingProduct (n : Int) k / Builtin.Math.fallingProduct (k : Int) k = ((chN n k : Nat) : Int) := by
  have a := fall_fac n k h
  have b := fall_fac k k (Nat.le_refl k)
  have c := chP_fac n k h
  rw [Nat.sub_self] at b
  have b' : Builtin.Math.fallingProduct (k : Int) k = ((facN k : Nat) : Int) := by
    rw [← b]
    exact (Int.mul_one _).symm
  have fp : ((facN (n - k) : Nat) : Int) ≠ 0 := by
    have := facN_pos' (n - k)
    omega
  have a' : Builtin.Math.fallingProduct (n : Int) k = ((chP n k * facN k : Nat) : Int) := by
    refine Int.eq_of_mul_eq_mul_right fp ?_
    rw [a, ← c, ← Int.natCast_mul, Nat.mul_assoc]
  rw [a', b', ← Int.natCast_ediv, Nat.mul_div_cancel _ (facN_pos' k), ch_eq h]
def rComb : List V → Hp → VK → Prop := fun vs H Q => ∃ n k : Nat, vs = [.int (n : Int), .int (k : Int)] ∧ k ≤ n ∧ n ≤ 1000 ∧ Q (.int ((chN n k : Nat) : Int)) H
theorem cr_comb {X : Cx} : CallR X (.builtin "math.comb") rComb := by
  intro pins s σ H vs us Q I r h
  obtain ⟨n, k, rfl, hk, hn, q⟩ := h
  obtain ⟨t, u, rfl⟩ := Vals.int2 r
  obtain ⟨m, em, hm, ech⟩ : ∃ m : Nat, min (k : Int) ((n : Int) - (k : Int)) = (m : Int) ∧ m ≤ n ∧ chN n m = chN n k := by
    rcases Nat.le_total k (n - k) with c | c
    · exact ⟨k, by omega, hk, rfl⟩
    · exact ⟨n - k, by omega, by omega, ch_sym hk⟩
  have v : Builtin.Math.fallingProduct (n : Int) (min (k : Int) ((n : Int) - (k : Int))).toNat / Builtin.Math.fallingProduct (min (k : Int) ((n : Int) - (k : Int))) (min (k : Int) ((n : Int) - (k : Int))).toNat = ((chN n k : Nat) : Int) := by
    rw [em, Int.toNat_natCast, comb_val hm, ech]
  have fl := fac_lt n hn
  refine call_function_meets comb_kind comb_plain comb_entry (comb_args _ _) (comb_run (n : Int) t (k : Int) u (by omega) (by omega) (by omega) (by rw [em]; show ¬ (m : Int) > 2 ^ 63 - 1; omega) (by rw [em]; show ¬ (m : Int) > 20000; omega) (by omega) ?_).meets ?_
  · rw [v]
    show (chN n k).log2 < bitsLine
    have b := PySem.Flt.log2_lt_of (by omega : 0 < 10 * n + 1) (Nat.lt_of_le_of_lt (ch_le n k) fl)
    have e2 : bitsLine = 134217728 := by decide
    rw [e2]
    omega
  · rw [v]
    exact ⟨.int _, H, I.tok _, ⟨_, rfl⟩, q⟩
end Lp
set_option Elab.async false
set_option linter.all false
set_option maxRecDepth 100000
namespace Lp
open PySem PySem.Spec PyProof.Rows L2
/-! ### a text read from its end -/
theorem fm_all {α : Type} : ∀ m : List α, List.filterMap (fun k => m[k]?) (List.range m.length) = m
  | [] => rfl
  | a :: m => by
    rw [List.length_cons, List.range_succ_eq_map, List.filterMap_cons]
    show a :: List.filterMap (fun k => (a :: m)[k]?) (List.map Nat.succ (List.range m.length)) = a :: m
    rw [List.filterMap_map]
    exact congrArg (a :: ·) (fm_all m)
theorem fm_congr {α β : Type} {f g : α → Option β} : ∀ {l : List α}, (∀ x ∈ l, f x = g x) → l.filterMap f = l.filterMap g
  | [], _ => rfl
  | a :: l, h => by
    rw [List.filterMap_cons, List.filterMap_cons, h a (List.mem_cons_self ..), fm_congr fun x hx => h x (List.mem_cons_of_mem _ hx)]
theorem fm_rev {α : Type} (l : List α) : List.filterMap (fun k => l[l.length - 1 - k]?) (List.range l.length) = l.reverse := by
  refine Eq.trans (fm_congr (g := fun k => l.reverse[k]?) fun k hk => ?_) ((congrArg (fun n => List.filterMap (fun k => l.reverse[k]?) (List.range n)) (List.length_reverse (as := l)).symm).trans (fm_all l.reverse))
  rw [List.getElem?_reverse (List.mem_range.mp hk)]
theorem rev_idx (n : Nat) : Builtin.Str.strSliceIndices none none (-1) n = (List.range n).map fun k => n - 1 - k := by
  show sliceRange ((n : Int) - 1) (-1) (-1) = _
  have e : sliceRange ((n : Int) - 1) (-1) (-1) = List.map (fun k : Nat => ((n : Int) - 1 + (-1) * (k : Int)).toNat) (List.range (if (n : Int) - 1 > -1 then ((n : Int) - 1 - (-1) - (-1) - 1) / 1 else (0 : Int)).toNat) := rfl
  rw [e]
  have c : (if (n : Int) - 1 > -1 then ((n : Int) - 1 - (-1) - (-1) - 1) / 1 else (0 : Int)).toNat = n := by
    split <;> omega
  rw [c]
  exact List.map_congr_left fun k hk => by omega
def revS (x : Str) : Str := ⟨x.cps.toList.reverse.toArray⟩
theorem rev_made (x : Str) (t q : Tok) : sliceMade x t none none (some (-1, q)) = .str (revS x) := by
  show (if ((-1 : Int) == 1 && _) = true then _ else _) = _
  rw [if_neg (by simp)]
  show Made.str ⟨(List.filterMap (fun i => x.cps[i]?) (Builtin.Str.strSliceIndices none none (-1) x.length)).toArray⟩ = _
  rw [rev_idx, List.filterMap_map]
  have := fm_rev x.cps.toList
  simp only [Array.getElem?_toList, Array.length_toList] at this
  exact congrArg (fun l => Made.str ⟨List.toArray l⟩) this
section
variable {X : Cx}
def tRevS (te : TE) : TE := fun σ H Q => te σ H fun x H1 => ∃ z, x = .str z ∧ z.cps.size ≤ sizeLine ∧ Q (.str (revS z)) H1
theorem pe_revS {e : Expr} {te : TE} {k : Nat} {p1 p2 p3 pos : Pos} (he : PE X e te) : PE X (e.Subscript (Expr.Slice none none (some (Expr.UnaryOp UnaryOp.USub (Expr.Constant (Const.int 1) k p1) p2)) p3) pos) (tRevS te) := by
  refine ⟨fun pins s σ H Q I h => ?_⟩
  refine Subscript_ (thn (he.run pins s σ H _ I h) fun o s1 ⟨v, H1, I1, r1, q1⟩ => ?_)
  obtain ⟨z, rfl, hz, q⟩ := q1
  obtain ⟨t, rfl⟩ := r1
  refine wpAny_Slice ?_
  rw [evalPart_none]
  refine wpAny_pure (wpAny_pure ?_)
  refine thn ((po_some (pe_un un_neg pe_int)).run pins s1 σ H1 (fun o H2 => o = some (-1) ∧ H2 = H1) I1 ⟨1, rfl, _, rfl, rfl, rfl⟩) fun u s2 ⟨o, H2, I2, ip, eo, eh⟩ => ?_
  subst eo
  subst eh
  cases ip with
  | int i tk =>
    refine tail_any (typeIs_str _ _ _) F.slot_str_getitem.lookup ?_ rfl
    refine wpAny_getItem_str_slice (l := none) (u := none) (st := some (-1, tk)) (Heap.IsSliceOf.new ..) rfl ?_
    rw [rev_made]
    have I3 : Inv X pins σ H2 { s2 with heap := s2.heap.push { cls := .type "slice", data := .fields #[.none, .none, .int (-1) tk] } } := I2.kept (t' := s2.toks) fun b o e => Heap.get?_push_of_some _ e
    have hl : (revS z).length ≤ sizeLine := by
      show (z.cps.toList.reverse.toArray).size ≤ sizeLine
      rw [List.size_toArray, List.length_reverse, Array.length_toList]
      exact hz
    exact ⟨hl, .str (revS z), H2, I3.tok _, ⟨_, rfl⟩, q⟩
/-! ### list and tuple of a text -/
def chL (z : Str) : List V := z.cps.toList.map fun c => V.str ⟨#[c]⟩
theorem vals_ch {z : Str} {acc : Array Value} (h : ItemsOf (SignAt z) acc z.cps.size) : Vals (chL z) acc.toList := by
  have e : chL z = (List.range acc.toList.length).map fun j => V.str ⟨#[z.cps.toList.getD j 0]⟩ := by
    unfold chL
    rw [Array.length_toList, h.1]
    apply List.ext_getElem?
    intro i
    rw [List.getElem?_map, List.getElem?_map]
    by_cases c : i < z.cps.size
    · rw [List.getElem?_range (by omega), List.getElem?_eq_getElem (by rw [Array.length_toList]; exact c)]
      simp [c]
    · rw [List.getElem?_eq_none (by rw [Array.length_toList]; omega), List.getElem?_eq_none (by rw [List.length_range]; omega)]
      rfl
  rw [e]
  refine vals_of_get acc.toList _ fun j u hj => ?_
  obtain ⟨c, t, hc, rfl⟩ := h.2 j u (by rw [← hj, Array.getElem?_toList])
  refine ⟨t, ?_⟩
  have : z.cps.toList.getD j 0 = c := by
    rw [List.getD_eq_getElem?_getD, Array.getElem?_toList, hc]
    rfl
  rw [this]
def rLStr : List V → Hp → VK → Prop := fun xs H Q => ∃ z, xs = [.str z] ∧ z.cps.size ≤ sizeLine ∧ ∀ p, H p = none → Q (.ref p) (upd H p (.lst (chL z)))
theorem cr_listStr (hc : X.calm = true) : CallR X (.type "list") rLStr := by
  intro pins s σ H xs us Q I r h
  obtain ⟨z, rfl, hz, q⟩ := h
  cases r with
  | cons r rr =>
    cases rr
    obtain ⟨t, rfl⟩ := r
    refine call_list_str (I.ok.hd hc) z t (fun h' tk acc' c' hk e hi => ?_) hz
    refine ⟨.ref _, upd H _ (.lst (chL z)), I.laid hk (Nat.le_refl _) (show ObjOk X.prog X.w _ _ _ (.lst _) from ⟨?_, acc'.toList, c', vals_ch hi, ?_⟩), rfl, q _ (I.hok.fresh (Nat.le_refl _))⟩
    · unfold chL
      rw [List.length_map, Array.length_toList]
      exact hz
    · rw [Array.toArray_toList]; exact e
def rTStr : List V → Hp → VK → Prop := fun xs H Q => ∃ z, xs = [.str z] ∧ z.cps.size ≤ sizeLine ∧ ∀ p, H p = none → Q (.ref p) (upd H p (.tup (chL z)))
theorem cr_tupStr (hc : X.calm = true) : CallR X (.type "tuple") rTStr := by
  intro pins s σ H xs us Q I r h
  obtain ⟨z, rfl, hz, q⟩ := h
  cases r with
  | cons r rr =>
    cases rr
    obtain ⟨t, rfl⟩ := r
    refine call_tuple_str (I.ok.hd hc) z t (fun h' tk acc hk hi => ?_) hz
    have I2 : Inv X pins σ H { s with heap := h', toks := tk } := I.kept (t' := tk) hk
    refine ⟨.ref _, upd H _ (.tup (chL z)), I2.laid (fun b o e => Heap.get?_push_of_some _ e) (Nat.le_refl _) (show ObjOk X.prog X.w _ _ _ (.tup _) from ?_), rfl, q _ (I2.hok.fresh (Nat.le_refl _))⟩
    simp only [ObjOk]
    refine ⟨by unfold chL; rw [List.length_map, Array.length_toList]; exact hz, acc.toList, vals_ch hi, ?_⟩
    rw [Array.toArray_toList]
    exact ⟨_, Heap.get?_push_size _ rfl, rfl, _, rfl⟩
end
end Lp
set_option Elab.async false
set_option linter.all false
set_option maxRecDepth 100000
namespace Lp
open PySem PySem.Spec PyProof.Rows L2
section
variable {prog : Program} {w : World} {A : Around} {E : Value → Shared → Prop} {s : Shared}
theorem zipS_next_item {z TI TO i1 i2 l1 : Addr} {k1 k2 : Nat} {xs : Array Value} {ty : String} {t : Str} {tk : Tok} {x a b : Value} {c : Nat} {Q : Value → Shared → Prop}
    (nx : ∀ (s : Shared) (Q : Value → Shared → Prop) (E : Value → Shared → Prop), s.heap.IsStrIter i2 ty t tk k2 → (∀ h', h'.IsStrIter i2 ty t tk (k2 + 1) → Heap.SameBut i2 s.heap h' → Q (.str ⟨#[c]⟩ s.toks) { heap := h', gens := s.gens, drawn := s.drawn, toks := s.toks + 1, os := s.os }) → wpAny (model prog w) A (Builtin.SmallTypes.nextOf (.ref i2)) Q E s)
    (TIz : TI ≠ z) (TOz : TO ≠ z) (i1z : i1 ≠ z) (i2z : i2 ≠ z) (TITO : TI ≠ TO) (TOi1 : TO ≠ i1) (TOi2 : TO ≠ i2) (i12 : i1 ≠ i2) (l1z : l1 ≠ z)
    (hz : IsZip s.heap z TI TO .none) (hTI : IsPair s.heap TI (.ref i1) (.ref i2)) (hTO : IsPair s.heap TO a b) (h1 : s.heap.IsListIter i1 l1 k1) (h2 : s.heap.IsStrIter i2 ty t tk k2) (hl : s.heap.IsList l1 xs) (hx : xs[k1]? = some x)
    (q : ∀ h' : Heap, IsZip h' z TI TO (rawInt ↑s.heap.objs.size) → IsPair h' TO x (.str ⟨#[c]⟩ s.toks) → h'.IsListIter i1 l1 (k1 + 1) → h'.IsStrIter i2 ty t tk (k2 + 1) → IsPair h' s.heap.objs.size x (.str ⟨#[c]⟩ s.toks) → h'.objs.size = s.heap.objs.size + 1 →
      (∀ (e : Addr) (o : Obj), e ≠ z → e ≠ TO → e ≠ i1 → e ≠ i2 → s.heap.get? e = some o → h'.get? e = some o) → Q (.ref s.heap.objs.size) { heap := h', gens := s.gens, drawn := s.drawn, toks := s.toks + 1, os := s.os }) :
    wpAny (model prog w) A (Builtin.«zip.__next__» { pos := [.ref z] }) (fun fin s' => ∃ v, fin = Fin.done (Flow.ret v) ∧ Q v s') E s := by
  unfold Builtin.«zip.__next__»
  refine wpAny_bind (m := slotArgs "__next__" 0 _) (wpAny_of_eq (a := ((Value.ref z : Value), ([] : List Value))) (by first | rfl | (simp only [slotArgs]; rfl)) ?_)
  refine wpAny_bind (wpAny_field hz rfl rfl ?_)
  refine wpAny_bind (wpAny_field hz rfl rfl ?_)
  refine wpAny_bind (wpAny_seqItems hTI rfl ?_)
  refine wpAny_bind (m := Builtin.SmallTypes.ownedTupleIsFree (.ref z)) ?_
  unfold Builtin.SmallTypes.ownedTupleIsFree
  refine wpAny_bind (wpAny_field hz rfl rfl (wpAny_pure ?_))
  show wpAny _ _ (rule _ >>= _) _ _ _
  refine wpAny_bind (wpAny_rule ?_)
  refine wpAny_bind (wpAny_field hz rfl rfl ?_)
  refine wpAny_bind (wpAny_setField_rec hz (by show 0 < 5; decide) fun g1 gz1 sb1 => ?_)
  refine wpAny_bind ?_
  rw [show (#[Value.ref i1, Value.ref i2] : Array Value).toList.zipIdx = [(Value.ref i1, 0), (Value.ref i2, 1)] from rfl, List.forIn_cons]
  refine wpAny_bind (wpAny_bind (wpAny_onRaise ?_))
  show wpAny _ _ (Builtin.SmallTypes.nextOf (.ref i1) >>= fun v => pure (some v)) _ _ _
  have x1 := sb1.extBut
  have hl1 : g1.IsList l1 xs := hl.extBut x1 l1z
  refine wpAny_bind (wpAny_nextOf_list_item (h1.extBut x1 i1z) hl1 hx fun g2 it2 sb2 => ?_)
  refine wpAny_pure ?_
  have TO2 : IsPair g2 TO a b := by
    show g2.get? TO = _
    rw [sb2.2 TO TOi1, sb1.2 TO TOz]
    exact hTO
  refine wpAny_bind (wpAny_seqItems TO2 rfl ?_)
  refine wpAny_bind (wpAny_updateSeq_pair TO2 fun g3 gt3 sb3 => ?_)
  refine wpAny_bind (wpAny_letGo ?_)
  refine wpAny_pure ?_
  show wpAny _ _ (forIn [((Value.ref i2 : Value), 1)] ((none : Option PySem.Fin), ()) _) _ _ _
  rw [List.forIn_cons]
  refine wpAny_bind (wpAny_bind (wpAny_onRaise ?_))
  show wpAny _ _ (Builtin.SmallTypes.nextOf (.ref i2) >>= fun v => pure (some v)) _ _ _
  have h23 : g3.IsStrIter i2 ty t tk k2 := ((h2.extBut x1 i2z).extBut sb2.extBut i12.symm).extBut sb3.extBut TOi2.symm
  refine wpAny_bind (nx _ _ _ h23 fun g4 it4 sb4 => ?_)
  refine wpAny_pure ?_
  have TO4 : IsPair g4 TO x b := by
    show g4.get? TO = _
    rw [sb4.2 TO TOi2]
    exact gt3
  refine wpAny_bind (wpAny_seqItems TO4 rfl ?_)
  refine wpAny_bind (wpAny_updateSeq_pair TO4 fun g5 gt5 sb5 => ?_)
  refine wpAny_bind (wpAny_letGo ?_)
  refine wpAny_pure ?_
  show wpAny _ _ (forIn [] ((none : Option PySem.Fin), ()) _) _ _ _
  rw [List.forIn_nil]
  refine wpAny_pure ?_
  refine wpAny_bind (wpAny_seqItems gt5 rfl ?_)
  refine wpAny_bind (wpAny_newTuple ?_ (by show 2 ≤ sizeLine; decide))
  refine wpAny_bind ?_
  unfold Builtin.SmallTypes.ownedTupleHandOut
  have gz5 : g5.get? z = some { cls := Value.type "zip", data := Data.fields #[Value.ellipsis, Value.bool false, Value.bool false, Value.ref TI, Value.ref TO] } := by
    rw [sb5.2 z TOz.symm, sb4.2 z i2z.symm, sb3.2 z TOz.symm, sb2.2 z i1z.symm]
    exact gz1
  show wpAny _ _ (setField (.ref z) 0 (rawInt ↑g5.objs.size) >>= fun _ => setField (.ref z) 1 (.bool false)) _ _ _
  have zlt : z < g5.objs.size := Heap.lt_size gz5
  refine wpAny_bind (wpAny_setField_rec (Heap.get?_push_of_some _ gz5) (by show 0 < 5; decide) fun g6 gz6 sb6 => ?_)
  refine wpAny_setField_rec gz6 (by show 1 < 5; decide) fun g7 gz7 sb7 => ?_
  refine wpAny_pure ⟨_, rfl, ?_⟩
  have sz : g5.objs.size = s.heap.objs.size := by rw [sb5.1, sb4.1, sb3.1, sb2.1, sb1.1]
  rw [← sz] at q
  have at7 : ∀ e : Addr, e ≠ z → g7.get? e = (g5.push { cls := Value.type "tuple", data := Data.seq (#[x, b].setIfInBounds 1 (.str ⟨#[c]⟩ s.toks)).toList.toArray }).get? e := fun e he => by
    rw [sb7.2 e he, sb6.2 e he]
  refine q g7 gz7 ?_ ?_ ?_ ?_ ?_ ?_
  · show g7.get? TO = _
    rw [at7 TO TOz]
    exact Heap.get?_push_of_some _ gt5
  · have y := ((it2.extBut sb3.extBut TOi1.symm).extBut sb4.extBut i12).extBut sb5.extBut TOi1.symm
    obtain ⟨o, h, c1, c2⟩ := y
    exact ⟨o, by rw [at7 i1 i1z]; exact Heap.get?_push_of_some _ h, c1, c2⟩
  · obtain ⟨o, h, c1, c2⟩ := it4.extBut sb5.extBut TOi2.symm
    exact ⟨o, by rw [at7 i2 i2z]; exact Heap.get?_push_of_some _ h, c1, c2⟩
  · show g7.get? g5.objs.size = _
    rw [at7 _ (Nat.ne_of_gt zlt)]
    exact Heap.get?_push_size _ rfl
  · rw [sb7.1, sb6.1]
    exact Heap.size_push ..
  · intro e o n1 n2 n3 n4 he
    rw [at7 e n1]
    refine Heap.get?_push_of_some _ ?_
    rw [sb5.2 e n2, sb4.2 e n4, sb3.2 e n2, sb2.2 e n3, sb1.2 e n1]
    exact he
theorem zipS_next_end {z TI TO i1 i2 l1 : Addr} {k1 : Nat} {xs : Array Value} {Q : PySem.Fin → Shared → Prop} (hh : A.handled = none)
    (i1z : i1 ≠ z) (l1z : l1 ≠ z)
    (hz : IsZip s.heap z TI TO .none) (hTI : IsPair s.heap TI (.ref i1) (.ref i2)) (h1 : s.heap.IsListIter i1 l1 k1) (hl : s.heap.IsList l1 xs) (hx : xs[k1]? = none)
    (q : ∀ (h' : Heap) (e : Addr), (∀ (c : Addr) (o : Obj), c ≠ z → c ≠ TO → c ≠ i1 → c ≠ i2 → s.heap.get? c = some o → h'.get? c = some o) → (∃ o, h'.get? e = some o ∧ o.cls = Value.type "StopIteration") → E (.ref e) { heap := h', gens := s.gens, drawn := s.drawn, toks := s.toks, os := s.os }) :
    wpAny (model prog w) A (Builtin.«zip.__next__» { pos := [.ref z] }) Q E s := by
  unfold Builtin.«zip.__next__»
  refine wpAny_bind (m := slotArgs "__next__" 0 _) (wpAny_of_eq (a := ((Value.ref z : Value), ([] : List Value))) (by first | rfl | (simp only [slotArgs]; rfl)) ?_)
  refine wpAny_bind (wpAny_field hz rfl rfl ?_)
  refine wpAny_bind (wpAny_field hz rfl rfl ?_)
  refine wpAny_bind (wpAny_seqItems hTI rfl ?_)
  refine wpAny_bind (m := Builtin.SmallTypes.ownedTupleIsFree (.ref z)) ?_
  unfold Builtin.SmallTypes.ownedTupleIsFree
  refine wpAny_bind (wpAny_field hz rfl rfl (wpAny_pure ?_))
  show wpAny _ _ (rule _ >>= _) _ _ _
  refine wpAny_bind (wpAny_rule ?_)
  refine wpAny_bind (wpAny_field hz rfl rfl ?_)
  refine wpAny_bind (wpAny_setField_rec hz (by show 0 < 5; decide) fun g1 gz1 sb1 => ?_)
  refine wpAny_bind ?_
  rw [show (#[Value.ref i1, Value.ref i2] : Array Value).toList.zipIdx = [(Value.ref i1, 0), (Value.ref i2, 1)] from rfl, List.forIn_cons]
  refine wpAny_bind (wpAny_bind (wpAny_onRaise ?_))
  show wpAny _ _ (Builtin.SmallTypes.nextOf (.ref i1) >>= fun v => pure (some v)) _ _ _
  have x1 := sb1.extBut
  have hl1 : g1.IsList l1 xs := hl.extBut x1 l1z
  refine wpAny_bind (wpAny_nextOf_list_end hh (h1.extBut x1 i1z) hl1 hx fun g2 e x2 so => ?_)
  refine wpAny_setField_rec (x2 z _ i1z.symm gz1) (by show 0 < 5; decide) fun g3 gz3 sb3 => ?_
  refine q g3 e (fun c o n1 n2 n3 n4 hc => ?_) ?_
  · rw [sb3.2 c n1]
    refine x2 c o n3 ?_
    rw [sb1.2 c n1]
    exact hc
  · obtain ⟨o, ho, hc⟩ := so
    by_cases ez : e = z
    · subst ez
      rw [x2 e _ i1z.symm gz1] at ho
      cases ho
      exact absurd (show Value.type "zip" = Value.type "StopIteration" from hc) (by decide)
    · exact ⟨o, by rw [sb3.2 e ez]; exact ho, hc⟩
/-- how an iterator of a text goes on -/
def NxS (prog : Program) (w : World) (ty : String) : Prop := ∀ (A : Around) (E : Value → Shared → Prop) (s : Shared) (it : Addr) (x : Str) (t : Tok) (i c : Nat) (Q : Value → Shared → Prop), s.heap.IsStrIter it ty x t i → x.cps[i]? = some c →
  (∀ h' : Heap, h'.IsStrIter it ty x t (i + 1) → Heap.SameBut it s.heap h' → Q (.str ⟨#[c]⟩ s.toks) { heap := h', gens := s.gens, drawn := s.drawn, toks := s.toks + 1, os := s.os }) → wpAny (model prog w) A (Builtin.SmallTypes.nextOf (.ref it)) Q E s
theorem nxs_ascii : NxS prog w "str_ascii_iterator" := fun _ _ _ _ _ _ _ _ _ h1 h2 h3 => wpAny_nextOf_ascii_item h1 h2 h3
theorem nxs_wide : NxS prog w "str_iterator" := fun _ _ _ _ _ _ _ _ _ h1 h2 h3 => wpAny_nextOf_wide_item h1 h2 h3
theorem pyNext_zipS_item {z TI TO i1 i2 l1 : Addr} {k1 : Nat} {xs : Array Value} {ty : String} {t : Str} {tk : Tok} {x a b : Value} {c : Nat} {Q : Option Value → Shared → Prop}
    (nx : NxS prog w ty) (D : ZipApart z TI TO i1 i2 l1 l1)
    (hz : IsZip s.heap z TI TO .none) (hTI : IsPair s.heap TI (.ref i1) (.ref i2)) (hTO : IsPair s.heap TO a b) (h1 : s.heap.IsListIter i1 l1 k1) (h2 : s.heap.IsStrIter i2 ty t tk k1) (hl : s.heap.IsList l1 xs) (hx : xs[k1]? = some x) (hc : t.cps[k1]? = some c)
    (q : ∀ h' : Heap, IsZip h' z TI TO (rawInt ↑s.heap.objs.size) → IsPair h' TO x (.str ⟨#[c]⟩ s.toks) → h'.IsListIter i1 l1 (k1 + 1) → h'.IsStrIter i2 ty t tk (k1 + 1) → IsPair h' s.heap.objs.size x (.str ⟨#[c]⟩ s.toks) → h'.objs.size = s.heap.objs.size + 1 →
      (∀ (e : Addr) (o : Obj), e ≠ z → e ≠ TO → e ≠ i1 → e ≠ i2 → s.heap.get? e = some o → h'.get? e = some o) → Q (some (.ref s.heap.objs.size)) { heap := h', gens := s.gens, drawn := s.drawn, toks := s.toks + 1, os := s.os }) :
    wpAny (model prog w) A (pyNext (.ref z)) Q E s := by
  have hT : s.TypeIs (.ref z) "zip" := ⟨_, hz, rfl⟩
  unfold pyNext
  exact wpAny_bind (wpAny_attempt (wpAny_callSpecial?_slot hT F.slot_zip_next (wpAny_call_entry F.slot_zip_next hT F.entry_zip_next
    (zipS_next_item (fun s Q E h k => nx _ E s i2 t tk k1 c Q h hc k) D.TIz D.TOz D.i1z D.i2z D.TITO D.TOi1 D.TOi2 D.i12 D.l1z hz hTI hTO h1 h2 hl hx fun h' a1 a2 a3 a4 a5 a6 a7 => wpAny_pure (q h' a1 a2 a3 a4 a5 a6 a7)) (F.args_zip_next_1 (.ref z)))))
theorem pyNext_zipS_end {z TI TO i1 i2 l1 : Addr} {k1 : Nat} {xs : Array Value} {Q : Option Value → Shared → Prop} (hh : A.handled = none) (D : ZipApart z TI TO i1 i2 l1 l1)
    (hz : IsZip s.heap z TI TO .none) (hTI : IsPair s.heap TI (.ref i1) (.ref i2)) (h1 : s.heap.IsListIter i1 l1 k1) (hl : s.heap.IsList l1 xs) (hx : xs[k1]? = none)
    (q : ∀ h' : Heap, (∀ (c : Addr) (o : Obj), c ≠ z → c ≠ TO → c ≠ i1 → c ≠ i2 → s.heap.get? c = some o → h'.get? c = some o) → Q none { heap := h', gens := s.gens, drawn := s.drawn, toks := s.toks, os := s.os }) :
    wpAny (model prog w) A (pyNext (.ref z)) Q E s := by
  have hT : s.TypeIs (.ref z) "zip" := ⟨_, hz, rfl⟩
  unfold pyNext
  exact wpAny_bind (wpAny_attempt (wpAny_callSpecial?_slot hT F.slot_zip_next (wpAny_call_entry F.slot_zip_next hT F.entry_zip_next
    (zipS_next_end hh D.i1z D.l1z hz hTI h1 hl hx fun h' e hk he => by
      obtain ⟨o, ho, hc⟩ := he
      exact wpAny_bind (wpAny_isInstance ⟨o, ho, hc⟩ isSubtype_stop (wpAny_pure (q h' hk)))) (F.args_zip_next_1 (.ref z)))))
def zsH1 (h : Heap) (l1 : Addr) : Heap := h.push { cls := .type "list_iterator", data := .fields #[.ref l1, .int 0 0] }
def zsH2 (h : Heap) (l1 : Addr) (x : Str) (t : Tok) : Heap := (zsH1 h l1).push { cls := .type "str_ascii_iterator", data := .fields #[.str x t, .int 0 0] }
def zsH3 (h : Heap) (l1 : Addr) (x : Str) (t : Tok) : Heap := (zsH2 h l1 x t).push { cls := .type "tuple", data := .seq #[.ref h.objs.size, .ref (zsH1 h l1).objs.size] }
def zsH4 (h : Heap) (l1 : Addr) (x : Str) (t : Tok) : Heap := (zsH3 h l1 x t).push { cls := .type "tuple", data := .seq #[.none, .none] }
def zsH5 (h : Heap) (l1 : Addr) (x : Str) (t : Tok) : Heap := (zsH4 h l1 x t).push { cls := .type "zip", data := .fields #[.none, .bool false, .bool false, .ref (zsH2 h l1 x t).objs.size, .ref (zsH3 h l1 x t).objs.size] }
end
theorem meets_zipS_new (l1 : Addr) (x : Str) (t : Tok) (xs : Array Value) (ha : (x.cps.all fun c => decide (c < 128)) = true) : Meets (Builtin.«zip.__new__» { pos := [.type "zip", .ref l1, .str x t] }) fun _ R s =>
    s.heap.IsList l1 xs ∧ R (Except.ok (Flow.ret (.ref (zsH4 s.heap l1 x t).objs.size))) { heap := zsH5 s.heap l1 x t, gens := s.gens, drawn := s.drawn, toks := s.toks, os := s.os } :=
  Meets.of_wp fun prog w A R s h => by
    obtain ⟨hp, g, d, tk, os⟩ := s
    obtain ⟨hl1, hR⟩ := h
    unfold Builtin.«zip.__new__»
    refine wpAny_bind ?_
    unfold Builtin.SmallTypes.newClass
    refine wpAny_bind (m := isType _) (wpAny_pure ?_)
    refine wpAny_ite_false rfl ?_
    refine wpAny_bind (wpAny_of_eq sub_zip (wpAny_ite_false rfl (wpAny_pure ?_)))
    refine wpAny_ite_false rfl ?_
    refine wpAny_bind (m := Builtin.SmallTypes.iterAll _) ?_
    unfold Builtin.SmallTypes.iterAll
    refine wpAny_bind ?_
    rw [List.forIn_cons]
    refine wpAny_bind (wpAny_bind (wpAny_holding (wpAny_pyIter_list hl1 (wpAny_pure ?_))))
    show wpAny _ _ (forIn [Value.str x t] _ _) _ _ _
    rw [List.forIn_cons]
    refine wpAny_bind (wpAny_bind (wpAny_holding (wpAny_pyIter_ascii ha (wpAny_pure ?_))))
    show wpAny _ _ (forIn [] _ _) _ _ _
    rw [List.forIn_nil]
    refine wpAny_pure (wpAny_pure ?_)
    refine wpAny_bind (wpAny_newTuple ?_ (by show 2 ≤ sizeLine; decide))
    refine wpAny_bind (wpAny_newTuple ?_ (by show 2 ≤ sizeLine; decide))
    refine wpAny_bind ?_
    unfold Builtin.SmallTypes.newRecord
    show wpAny _ _ (newObj _ _) _ _ _
    unfold newObj
    refine wpAny_bind (wpAny_alloc' ?_)
    refine wpAny_pure ?_
    exact wpAny_pure ⟨_, rfl, hR⟩
theorem call_zipS {prog : Program} {w : World} {A : Around} {E : Value → Shared → Prop} {s : Shared} {l1 : Addr} {xs : Array Value} {x : Str} {t : Tok} {Q : Value → Shared → Prop} (ha : (x.cps.all fun c => decide (c < 128)) = true) (hl1 : s.heap.IsList l1 xs)
    (h : ∀ h' : Heap, IsZip h' (s.heap.objs.size + 4) (s.heap.objs.size + 2) (s.heap.objs.size + 3) .none → IsPair h' (s.heap.objs.size + 2) (.ref s.heap.objs.size) (.ref (s.heap.objs.size + 1)) → IsPair h' (s.heap.objs.size + 3) .none .none → h'.IsListIter s.heap.objs.size l1 0 →
      h'.IsStrIter (s.heap.objs.size + 1) "str_ascii_iterator" x t 0 → h'.objs.size = s.heap.objs.size + 5 → (∀ (c : Addr) (o : Obj), s.heap.get? c = some o → h'.get? c = some o) → Q (.ref (s.heap.objs.size + 4)) { heap := h', gens := s.gens, drawn := s.drawn, toks := s.toks, os := s.os }) :
    wpAny (model prog w) A (call (.type "zip") [.ref l1, .str x t]) Q E s := by
  have z1 : (zsH1 s.heap l1).objs.size = s.heap.objs.size + 1 := Heap.size_push ..
  have z2 : (zsH2 s.heap l1 x t).objs.size = s.heap.objs.size + 2 := (Heap.size_push ..).trans (by rw [z1])
  have z3 : (zsH3 s.heap l1 x t).objs.size = s.heap.objs.size + 3 := (Heap.size_push ..).trans (by rw [z2])
  have z4 : (zsH4 s.heap l1 x t).objs.size = s.heap.objs.size + 4 := (Heap.size_push ..).trans (by rw [z3])
  have z5 : (zsH5 s.heap l1 x t).objs.size = s.heap.objs.size + 5 := (Heap.size_push ..).trans (by rw [z4])
  have g5 : (zsH5 s.heap l1 x t).get? (zsH4 s.heap l1 x t).objs.size = _ := Heap.get?_push_size _ rfl
  have g4 : (zsH5 s.heap l1 x t).get? (zsH3 s.heap l1 x t).objs.size = _ := Heap.get?_push_of_some _ (Heap.get?_push_size _ rfl)
  have g3 : (zsH5 s.heap l1 x t).get? (zsH2 s.heap l1 x t).objs.size = _ := Heap.get?_push_of_some _ (Heap.get?_push_of_some _ (Heap.get?_push_size _ rfl))
  have g2 : (zsH5 s.heap l1 x t).get? (zsH1 s.heap l1).objs.size = _ := Heap.get?_push_of_some _ (Heap.get?_push_of_some _ (Heap.get?_push_of_some _ (Heap.get?_push_size _ rfl)))
  have g1 : (zsH5 s.heap l1 x t).get? s.heap.objs.size = _ := Heap.get?_push_of_some _ (Heap.get?_push_of_some _ (Heap.get?_push_of_some _ (Heap.get?_push_of_some _ (Heap.get?_push_size _ rfl))))
  have gk : ∀ (c : Addr) (o : Obj), s.heap.get? c = some o → (zsH5 s.heap l1 x t).get? c = some o := fun c o e => Heap.get?_push_of_some _ (Heap.get?_push_of_some _ (Heap.get?_push_of_some _ (Heap.get?_push_of_some _ (Heap.get?_push_of_some _ e))))
  rw [z1] at g2 g3
  rw [z2] at g3 g5
  rw [z3] at g4 g5
  rw [z4] at g5
  refine callType_new F.called_zip (by decide) (F.typeCall_zip_2 (.ref l1) (.str x t)) (F.newCall_zip_2 (.ref l1) (.str x t)) (fun obj => F.args_object_init_3 obj (.ref l1) (.str x t)) F.entry_zip_new (meets_zipS_new l1 x t xs ha) ⟨hl1, ?_⟩
  show Shared.TypeIs _ (.ref (zsH4 s.heap l1 x t).objs.size) "zip" ∧ Q (.ref (zsH4 s.heap l1 x t).objs.size) _
  rw [z4]
  exact ⟨⟨_, g5, rfl⟩, h _ g5 g3 g4 ⟨_, g1, rfl, rfl⟩ ⟨_, g2, rfl, rfl⟩ z5 gk⟩
/-! ### for one, sign in zip(a list, a text) -/
def ItzS (K : PySem.W.Frag) (a : Addr) (z : Str) : It where
  go i H := ∃ xs x c, SqL K H a xs ∧ xs[i]? = some x ∧ z.cps[i]? = some c
  yld i H v H' := ∃ T x c, v = V.ref T ∧ H T = none ∧ H' = upd H T (.tup [x, .str ⟨#[c]⟩]) ∧ (∀ xs, SqL K H a xs → xs[i]? = some x) ∧ z.cps[i]? = some c
  stop i H := ∃ xs, SqL K H a xs ∧ xs.length ≤ i
theorem walk_zipS {K : PySem.W.Frag} {a : Addr} {xs : List V} {z : Str} (le : xs.length = z.cps.size) :
    Walk (ItzS K a z) xs.length (fun H => SqL K H a xs) (fun i H v H' => ∃ T x c, v = V.ref T ∧ H T = none ∧ H' = upd H T (.tup [x, .str ⟨#[c]⟩]) ∧ xs[i]? = some x ∧ z.cps[i]? = some c) where
  goes i H hi h := ⟨xs, _, _, h, List.getElem?_eq_getElem hi, Array.getElem?_eq_getElem (by omega)⟩
  stops H h := ⟨xs, h, Nat.le_refl _⟩
  yields i H v H' hi h y := by
    obtain ⟨T, x, c, e1, e2, e3, e4, e5⟩ := y
    exact ⟨T, x, c, e1, e2, e3, e4 xs h, e5⟩
theorem turn_zipS {P : Program} {w : World} {K : PySem.W.Frag} {elts : List Expr} {kk : Nat} {tpos : Pos} {a z TI TO i1 i2 : Addr} {x : Str} {t : Tok} (D : ZipApart z TI TO i1 i2 a a) :
    Turn P w K (Expr.Tuple elts kk tpos) (ItzS K a x) [z, TI, TO, i1, i2] z fun i h => IsZip h z TI TO .none ∧ IsPair h TI (.ref i1) (.ref i2) ∧ (∃ x y, IsPair h TO x y) ∧ h.IsListIter i1 a i ∧ h.IsStrIter i2 "str_ascii_iterator" x t i where
  mem := by simp
  obj i h st c hc := by
    obtain ⟨hz, hTI, ⟨u, v, hTO⟩, ⟨o1, e1, _, d1⟩, ⟨o2, e2, _, d2⟩⟩ := st
    simp only [List.mem_cons, List.not_mem_nil, or_false] at hc
    rcases hc with rfl | rfl | rfl | rfl | rfl
    · exact ⟨_, hz, fun v q => nomatch q⟩
    · exact ⟨_, hTI, fun v q => nomatch q⟩
    · exact ⟨_, hTO, fun v q => nomatch q⟩
    · exact ⟨_, e1, fun v q => by rw [d1] at q; cases q⟩
    · exact ⟨_, e2, fun v q => by rw [d2] at q; cases q⟩
  keep i h h' st k := by
    obtain ⟨hz, hTI, ⟨u, v, hTO⟩, ⟨o1, e1, c1, d1⟩, ⟨o2, e2, c2, d2⟩⟩ := st
    exact ⟨k z (by simp) _ hz, k TI (by simp) _ hTI, ⟨u, v, k TO (by simp) _ hTO⟩, ⟨o1, k i1 (by simp) _ e1, c1, d1⟩, ⟨o2, k i2 (by simp) _ e2, c2, d2⟩⟩
  item X hP hw hK hc i pins s σ H E I hf st hg := by
    subst hP
    subst hw
    subst hK
    obtain ⟨hz, hTI, ⟨x0, y0, hTO⟩, h1, h2⟩ := st
    obtain ⟨xs, v, c, hq, hx, hcx⟩ := hg
    obtain ⟨its, rv, p, _⟩ := I.list hq
    obtain ⟨u, hu, ru⟩ := rv.get hx
    have hzl := Heap.lt_size hz
    refine pyNext_zipS_item nxs_ascii D hz hTI hTO h1 h2 p.isList (by rw [List.getElem?_toArray]; exact hu) hcx fun h' z' TO' h1' h2' hT hsz hk => ?_
    refine ⟨.ref s.heap.objs.size, rfl, wpAny_letOwnedTupleGo_zip z' fun h'' z'' sb => ?_⟩
    have hT2 : h''.get? s.heap.objs.size = _ := (sb.2 s.heap.objs.size (Nat.ne_of_gt hzl)).trans hT
    have new : ObjOk X.prog X.w (upd H s.heap.objs.size (.tup [v, .str ⟨#[c]⟩])) h'' s.heap.objs.size (.tup [v, .str ⟨#[c]⟩]) := ⟨by show 2 ≤ sizeLine; decide, [u, .str ⟨#[c]⟩ s.toks], .cons ru (.cons ⟨_, rfl⟩ .nil), ⟨_, hT2, rfl, 0, rfl⟩⟩
    have I1 := I.turnedNew (h' := h'') (t' := s.toks + 1) (ch := [z, TI, TO, i1, i2]) (T := s.heap.objs.size) (ob := .tup [v, .str ⟨#[c]⟩]) (fun e o hb q => by
      simp only [List.mem_cons, List.not_mem_nil, or_false, not_or] at hb
      rw [sb.2 e hb.1]
      exact hk e o hb.1 hb.2.2.1 hb.2.2.2.1 hb.2.2.2.2 q) hf (Nat.le_refl _) new
    have fr : H s.heap.objs.size = none := I.hok.fresh (Nat.le_refl _)
    have lt : ∀ b : Addr, b ∈ [z, TI, TO, i1, i2] → b ≠ s.heap.objs.size := fun b hb => by
      simp only [List.mem_cons, List.not_mem_nil, or_false] at hb
      obtain ⟨o1, e1, _⟩ := h1
      obtain ⟨o2, e2, _⟩ := h2
      rcases hb with rfl | rfl | rfl | rfl | rfl
      · exact Nat.ne_of_lt hzl
      · exact Nat.ne_of_lt (Heap.lt_size hTI)
      · exact Nat.ne_of_lt (Heap.lt_size hTO)
      · exact Nat.ne_of_lt (Heap.lt_size e1)
      · exact Nat.ne_of_lt (Heap.lt_size e2)
    refine ⟨.ref _, _, I1, rfl, ⟨_, v, c, rfl, fr, rfl, fun xs2 q2 => by rw [I.list_inj q2 hq]; exact hx, hcx⟩, ⟨z'', (sb.2 TI D.TIz).trans (hk TI _ D.TIz D.TITO D.TIi1 D.TIi2 hTI), ⟨_, _, (sb.2 TO D.TOz).trans TO'⟩, h1'.extBut sb.extBut D.i1z, h2'.extBut sb.extBut D.i2z⟩, fun b hb => ?_⟩
    rw [upd_ne (lt b hb)]
    exact (hf b hb).1
  done X hP hw hK hc i pins s σ H E I hf st hg := by
    subst hP
    subst hw
    subst hK
    obtain ⟨hz, hTI, _, h1, h2⟩ := st
    obtain ⟨xs, hq, hle⟩ := hg
    obtain ⟨its, rv, p, _⟩ := I.list hq
    have hl := rv.length
    refine pyNext_zipS_end (I.ok.hd hc) D hz hTI h1 p.isList (by rw [List.getElem?_toArray]; exact List.getElem?_eq_none (by omega)) fun h' hk => ⟨rfl, I.turnedL (ch := [z, TI, TO, i1, i2]) (fun e o hb q => ?_) hf⟩
    simp only [List.mem_cons, List.not_mem_nil, or_false, not_or] at hb
    exact hk e o hb.1 hb.2.2.1 hb.2.2.2.1 hb.2.2.2.2 q
  self A i s Q E st h := wpAny_pyIter_zip st.1 h
def iZipS (K : PySem.W.Frag) (ta : TA) : TI := fun σ H R => ta σ H fun vs H1 => ∃ a xs z, vs = [V.ref a, .str z] ∧ SqL K H1 a xs ∧ (z.cps.all fun c => decide (c < 128)) = true ∧ R (ItzS K a z) H1
theorem pi_zipS {X : Cx} {e e2 : Expr} {ta : TA} {p pos tpos : Pos} {elts : List Expr} {kk : Nat} (hg : Gl X "zip") (hm : X.mg "zip" = none) (ha : PA X [e, e2] ta)
    (hs : starEach [e, e2] X.env = (false, eval e X.env) :: starEach [e2] X.env := by rfl) (hpl : (backTo pos (starEach [e2] X.env)).any (·.1) = false := by rfl) :
    PI X (.Tuple elts kk tpos) (.Call (.Name "zip" p) [e, e2] [] pos) (iZipS X.K ta) := by
  refine ⟨fun pins s σ H R I h => ?_⟩
  refine Call_ (ld_blt I hg hm boot_zip (PyProof.Rows.callWith_type1 (thn (ha.run pos pins s σ H _ I h) fun us s1 ⟨vs, H1, I1, r1, q1⟩ => ?_) hs hpl))
  obtain ⟨a, xs, z, ev, hq, hz, q⟩ := q1
  subst ev
  cases r1 with
  | cons r rr =>
    cases rr with
    | cons r' rr =>
      cases rr
      obtain ⟨t', rfl⟩ := r'
      cases (show _ = Value.ref a from r)
      obtain ⟨its, rv, pl, _⟩ := I1.list hq
      refine call_zipS hz pl.isList fun h' a1 a2 a3 a4 a5 a6 a7 => wpAny_pyIter_zip a1 ?_
      have fp : ∀ b : Addr, b ∈ [s1.heap.objs.size + 4, s1.heap.objs.size + 2, s1.heap.objs.size + 3, s1.heap.objs.size, s1.heap.objs.size + 1] → s1.heap.objs.size ≤ b := fun b hb => by
        simp only [List.mem_cons, List.not_mem_nil, or_false] at hb
        rcases hb with rfl | rfl | rfl | rfl | rfl <;> omega
      exact ⟨_, _, _, ItzS X.K a z, H1, rfl, I1.kept (t' := s1.toks) a7, turn_zipS (W.ktu_apart _ a a pl.lt pl.lt), ⟨a1, a2, ⟨_, _, a3⟩, a4, a5⟩, fun b hb => I1.fpOk (fp b hb) (I1.hok.fresh (fp b hb)), q⟩
end Lp
set_option Elab.async false
set_option linter.all false
set_option maxRecDepth 100000
namespace Lp
open PySem PySem.Spec PyProof.Rows L2
/-! ### set(a list of ints) -/
theorem call_set_listI {P : Program} {w : World} {A : Around} {E : Value → Shared → Prop} {s : Shared} {l : Addr} {items : Array Value} (ns : List Int) {Q : Value → Shared → Prop} (hh : A.handled = none) (hl : s.heap.IsList l items) (hit : IntsAre items.toList ns) (hb : ns.length + 1 < scanBound)
    (h : ∀ (h' : Heap) (tk c : Nat), SetR w h' s.heap.objs.size (fun j => decide (j ∈ ns)) c → c ≤ ns.length → (∀ (b : Addr) (o : Obj), s.heap.get? b = some o → h'.get? b = some o) → Q (.ref s.heap.objs.size) { heap := h', gens := s.gens, drawn := s.drawn, toks := tk, os := s.os }) :
    wpAny (model P w) A (call (.type "set") [.ref l]) Q E s := by
  have hisz : items.size = ns.length := by
    have q := hit.length
    rwa [Array.length_toList] at q
  obtain ⟨c, tl, hmro⟩ := F.called_set.mro
  have hmade := F.called_set.made
  have hsub := F.called_set.sub
  refine wpAny_call (codeAny_of_tree ?_)
  refine wpAny_pure ⟨Code.quiet_builtin _ (by decide +kernel), codeAny_builtin F.entry_type_call ?_⟩
  rw [Around.under_plain (weight_type_call_type "set" [.ref l] []) rfl]
  have h1 := F.called_set.notType
  have h2 := F.called_set.canCreate
  have hct := F.typeCall_set_1 (.ref l)
  unfold Builtin.«type.__call__»
  refine wpAny_ite_false rfl (wpAny_ite_false rfl ?_)
  refine wpAny_bind (wpAny_of_eq hct ?_)
  refine wpAny_bind (wpAny_of_eq hmro (wpAny_ite_false rfl ?_))
  refine wpAny_bind (wpAny_of_eq hmade ?_)
  refine wpAny_bind (wpAny_pure (wpAny_bind (wpAny_holding (wpAny_call (codeAny_mono (code_set_led1 (.ref l) (Q₁ := fun obj s₁ => obj = .ref s.heap.objs.size ∧ s₁ = { heap := s.heap.push { cls := .type "set", data := .set #[] 0 (SetTable.fresh 0 0 !w.params.followText "set-order") }, gens := s.gens, drawn := s.drawn, toks := s.toks, os := s.os }) (E := E) ⟨rfl, rfl⟩) fun r s₁ hr => ?_)))))
  cases r with
  | error e => exact hr
  | ok fl =>
    cases fl with
    | next => exact hr.elim
    | brk => exact hr.elim
    | cont => exact hr.elim
    | ret v =>
      obtain ⟨rfl, rfl⟩ := hr
      have hS : (s.heap.push { cls := .type "set", data := .set #[] 0 (SetTable.fresh 0 0 !w.params.followText "set-order") }).get? s.heap.objs.size = _ := Heap.get?_push_size s.heap rfl
      have hT : Shared.TypeIs { heap := s.heap.push { cls := .type "set", data := .set #[] 0 (SetTable.fresh 0 0 !w.params.followText "set-order") }, gens := s.gens, drawn := s.drawn, toks := s.toks, os := s.os } (.ref s.heap.objs.size) "set" := ⟨_, hS, rfl⟩
      have hli := F.called_set.init.lookup
      have hbi := F.called_set.init.bind (.ref s.heap.objs.size)
      refine wpAny_bind (wpAny_isInstance hT hsub (wpAny_ite_false rfl (wpAny_bind (wpAny_holding ?_))))
      unfold callSpecial?
      refine wpAny_bind (wpAny_specialOf hT hli (wpAny_holding (wpAny_bind (wpAny_of_eq hbi (wpAny_bind (wpAny_call (codeAny_mono (R := wants (fun r s₂ => r = Value.none ∧ ∃ h' tk c, s₂ = { heap := h', gens := s.gens, drawn := s.drawn, toks := tk, os := s.os } ∧ SetR w h' s.heap.objs.size (fun j => decide (j ∈ ns)) c ∧ c ≤ ns.length ∧ ∀ (b : Addr) (o : Obj), s.heap.get? b = some o → h'.get? b = some o) E) (codeAny_call_builtin F.called_set.init.plain F.entry_set_init (check_set_init_1 hT ?_)) fun r s₂ hr => ?_)))))))
      · obtain ⟨ol, hol, hcl, nl, hdl⟩ := hl
        obtain ⟨ocls, odict, odata, oslots⟩ := ol
        cases (show ocls = Value.type "list" from hcl)
        cases (show odata = Data.seq items nl from hdl)
        have hol' := Heap.get?_push_of_some { cls := .type "set", data := .set #[] 0 (SetTable.fresh 0 0 !w.params.followText "set-order") } hol
        have hsls := F.sub_list_set
        have hslf := F.sub_list_frozenset
        have hl1 : (s.heap.push { cls := .type "set", data := .set #[] 0 (SetTable.fresh 0 0 !w.params.followText "set-order") }).IsList l items := ⟨_, hol', rfl, nl, rfl⟩
        unfold Builtin.«set.__init__»
        refine wpAny_bind (wpAny_ite_true rfl (wpAny_pure ?_))
        refine wpAny_bind (wpAny_bind (wpAny_bind (wpAny_typeOf hT (wpAny_ite_false rfl (wpAny_pure (wpAny_pure ?_))))))
        refine wpAny_bind ?_
        unfold checkCount
        refine wpAny_ite_false rfl (wpAny_ite_false rfl (wpAny_ite_false rfl (wpAny_pure ?_)))
        refine wpAny_bind ?_
        unfold Builtin.Frozenset.addrOf
        refine wpAny_pure ?_
        refine wpAny_bind ?_
        unfold setUsed
        refine wpAny_bind ?_
        unfold setState
        refine wpAny_bind (wpAny_load' hS (wpAny_ite_false rfl (wpAny_pure (wpAny_pure (wpAny_ite_false rfl ?_)))))
        refine wpAny_bind ?_
        unfold Builtin.Frozenset.updateFrom
        refine wpAny_bind ?_
        unfold Builtin.Frozenset.isAnySet
        refine wpAny_bind (m := isInstance (.ref l) (.type "set")) (wpAny_isInstance hl1.typeIs hsls ?_)
        show wpAny _ _ (isInstance (.ref l) (.type "frozenset")) _ _ _
        refine wpAny_isInstance hl1.typeIs hslf ?_
        refine wpAny_ite_false rfl ?_
        refine wpAny_bind (wpAny_typeOf hl1.typeIs (wpAny_ite_false rfl ?_))
        refine wpAny_bind (wpAny_pyIter_list hl1 ?_)
        refine wpAny_bind (wpAny_runValue ?_)
        have hlS := Heap.lt_size hol
        have hneI : l ≠ (s.heap.push { cls := .type "set", data := .set #[] 0 (SetTable.fresh 0 0 !w.params.followText "set-order") }).objs.size := by
          rw [Heap.size_push]
          exact Nat.ne_of_lt (Nat.lt_succ_of_lt hlS)
        have hSf : ¬ s.heap.objs.size ∈ [(s.heap.push { cls := .type "set", data := .set #[] 0 (SetTable.fresh 0 0 !w.params.followText "set-order") }).objs.size, l] := by
          rw [Heap.size_push]
          intro hm
          rcases List.mem_cons.mp hm with e | e
          · exact Nat.ne_of_lt (Nat.lt_succ_self _) e
          · exact Nat.ne_of_gt hlS (List.mem_singleton.mp e)
        have hval : ∀ (i : Nat) (v : Value), items[i]? = some v → ∃ k t, ns[i]? = some k ∧ v = Value.int k t := fun i v hv => by
          have hi : i < ns.length := by
            rw [← hisz]
            exact (Array.getElem?_eq_some_iff.mp hv).1
          obtain ⟨t, e⟩ := hit.int_at i v (by rw [Array.getElem?_toList]; exact hv)
          exact ⟨ns[i], t, List.getElem?_eq_getElem hi, by rw [e, List.getD_eq_getElem?_getD, List.getElem?_eq_getElem hi]; rfl⟩
        refine set_update_ints (Walks.toS (Walks.list (A := A.in1.in1.in1) (show A.in1.in1.in1.handled = none from hh) _ l hneI items)) s.heap.objs.size hSf ns hisz hb hval (items.size - 0) 0 _ rfl (Nat.zero_le _) ⟨⟨_, Heap.get?_push_size _ rfl, rfl, rfl⟩, hl1.push _⟩ ⟨0, Nat.le_refl 0, setR_new_at (Heap.get?_push_of_some _ hS)⟩ fun s' c' hm hc' hS' => ?_
        obtain ⟨h', g2, d', tk', os'⟩ := s'
        have eg := hm.gens
        have ed := hm.drawn
        have eo := hm.os
        cases eg
        cases ed
        cases eo
        have hk : ∀ (b : Addr) (o : Obj), s.heap.get? b = some o → h'.get? b = some o := fun b o e => by
          have hlt := Heap.lt_size e
          refine hm.heap b o ?_ (Heap.get?_push_of_some _ (Heap.get?_push_of_some _ e))
          intro hb'
          rcases List.mem_cons.mp hb' with e1 | e1
          · exact Nat.ne_of_lt hlt e1
          · rw [List.mem_singleton] at e1
            have e2 : b = s.heap.objs.size + 1 := e1.trans (Heap.size_push ..)
            rw [e2] at hlt
            exact absurd hlt (Nat.not_lt_of_le (Nat.le_succ _))
        exact wpAny_pure (wpAny_pure ⟨rfl, h', tk', c', rfl, hS', by rw [← hisz]; exact hc', hk⟩)
      · cases r with
        | error e => exact hr
        | ok fl =>
          cases fl with
          | next => exact hr.elim
          | brk => exact hr.elim
          | cont => exact hr.elim
          | ret v =>
            obtain ⟨rfl, h', tk, c', rfl, hs, hc, hk⟩ := hr
            exact wpAny_pure (wpAny_ite_false rfl (wpAny_pure (h h' tk c' hs hc hk)))
def rSetL (K : PySem.W.Frag) (w : World) : List V → Hp → VK → Prop := fun xs H Q => ∃ (a : Addr) (ns : List Int), xs = [V.ref a] ∧ SqL K H a (ns.map V.int) ∧ ns.length ≤ 60 ∧ ∀ (p : Addr) (c : Nat), H p = none → c ≤ ns.length → Q (.ref p) (upd H p (SetO w p (fun j => decide (j ∈ ns)) c))
theorem cr_setL {X : Cx} (hc : X.calm = true) : CallR X (.type "set") (rSetL X.K X.w) := by
  intro pins s σ H xs us Q I r h
  obtain ⟨a, ns, rfl, hq, hl, q⟩ := h
  cases r with
  | cons r rr =>
    cases rr
    cases (show _ = Value.ref a from r)
    obtain ⟨its, rv, p, _⟩ := I.list hq
    refine call_set_listI ns (I.ok.hd hc) p.isList (RZ.intsAre_vals rv) (Nat.lt_of_le_of_lt (Nat.succ_le_succ hl) (by decide)) fun h' tk c hs hcn hk => ?_
    refine ⟨.ref _, upd H _ (SetO X.w s.heap.objs.size (fun j => decide (j ∈ ns)) c), I.laid hk (Nat.le_refl _) ⟨hs, ?_, fun h1 h2 x k => ?_⟩, rfl, q _ c (I.hok.fresh (Nat.le_refl _)) hcn⟩
    · obtain ⟨o, _, _, _, e, _⟩ := hs
      exact ⟨o, e⟩
    · obtain ⟨o, es, ep, t, e, r⟩ := x
      exact ⟨o, es, ep, t, k o e, r⟩
theorem op_ltLL {X : Cx} (hu : X.A.units + 64 < cLine) : OpR X (compareOp .Lt) (fun x y H Q => ∃ (a b : Addr) (xs ys : List Int), x = V.ref a ∧ y = V.ref b ∧ SqL X.K H a (xs.map V.int) ∧ SqL X.K H b (ys.map V.int) ∧ Q (.bl (HT.lexLt xs ys)) H) := by
  intro pins s σ H x y v u Q I r1 r2 h
  obtain ⟨a, b, xs, ys, rfl, rfl, h1, h2, q⟩ := h
  cases (show v = Value.ref a from r1)
  cases (show u = Value.ref b from r2)
  obtain ⟨its, rv, p, _⟩ := I.list h1
  obtain ⟨its2, rv2, p2, _⟩ := I.list h2
  have ia := RZ.intsAre_vals rv
  have ib := RZ.intsAre_vals rv2
  have l1 := ia.length
  have l2 := ib.length
  show wpAny _ _ (richCompare .Lt _ _) _ _ s
  refine SeqAt.RcLt.lists (e := fun j => xs.getD j 0 == ys.getD j 0) (r := fun j => decide (xs.getD j 0 < ys.getD j 0)) p.isList p2.isList (by omega) (fun j h1 h2 => ?_) (fun j h1 h2 _ => ?_) _ _ _ _ ?_
  · obtain ⟨t, e⟩ := ints_at ia j (by simpa using h1)
    obtain ⟨t', e'⟩ := ints_at ib j (by simpa using h2)
    rw [List.getElem_toArray, List.getElem_toArray, e, e']
    exact SeqAt.EqAt.int_int _ t _ t'
  · obtain ⟨t, e⟩ := ints_at ia j (by simpa using h1)
    obtain ⟨t', e'⟩ := ints_at ib j (by simpa using h2)
    rw [List.getElem_toArray, List.getElem_toArray, e, e']
    exact rcLt_int _ _ _ t _ t'
  · rw [List.size_toArray, List.size_toArray, l1, l2, first_lex]
    exact ⟨.bl _, H, I, rfl, q⟩
end Lp
set_option Elab.async false
set_option linter.all false
set_option maxRecDepth 100000
namespace Lp
open PySem PySem.Spec PyProof.Rows L2
/-! ### a space, so many times -/
def spc (n : Nat) : Str := ⟨(List.replicate n 32).toArray⟩
theorem spc1 : spc 1 = (" " : Str) := by decide +kernel
theorem spc_len (n : Nat) : (spc n).length = n := by
  show ((List.replicate n 32).toArray).size = n
  rw [List.size_toArray, List.length_replicate]
section
variable {X : Cx}
theorem op_repB : OpR X (binaryOp .Mult) (fun x y H Q => ∃ n : Nat, x = .str (" " : Str) ∧ y = .int (n : Int) ∧ n ≤ 1000 ∧ Q (.str (spc n)) H) := by
  intro pins s σ H x y v u Q I r1 r2 h
  obtain ⟨n, e1, e2, hn, q⟩ := h
  subst e1; subst e2
  obtain ⟨t, rfl⟩ := r1
  obtain ⟨t', rfl⟩ := r2
  have hz : (" " : Str).length = 1 := by decide +kernel
  have hc : (" " : Str).cps = [32].toArray := by decide +kernel
  refine PySem.P.mul_str ?_ (fun c _ => ?_) (fun _ _ => ?_) ?_
  · rw [decide_eq_false (show ¬ (n : Int) < -(2 ^ 63 : Int) by omega), decide_eq_false (show ¬ (n : Int) ≥ 2 ^ 63 by omega)]
    rfl
  · rw [hz]
    have := (Int.le_ediv_iff_mul_le (show (0 : Int) < n by omega)).mpr (show ((1 : Nat) : Int) * (n : Int) ≤ 2 ^ 63 - 1 by omega)
    omega
  · rw [hz]
    unfold Builtin.Str.tooLong
    refine decide_eq_false ?_
    have e : (n : Int).toNat = n := rfl
    have z := zs (show n ≤ 100000 by omega)
    omega
  · by_cases h0 : n = 0
    · subst h0
      rw [if_pos (by decide)]
      exact ⟨by decide, .str _, H, I.tok _, ⟨_, rfl⟩, q⟩
    · rw [if_neg (show ¬ (n : Int) < 1 by omega), hz]
      by_cases h1 : n = 1
      · subst h1
        rw [if_pos (by rfl)]
        rw [spc1] at q
        exact ⟨.str _, H, I, ⟨_, rfl⟩, q⟩
      · have hb : ((n : Int) == 1 || (1 : Nat) == 0) = false := by
          rw [beq_eq_false_iff_ne.mpr (show (n : Int) ≠ 1 by omega)]
          rfl
        rw [hb, if_neg Bool.false_ne_true]
        have e : (n : Int).toNat = n := rfl
        have f0 : List.foldl (fun x1 x2 => x1 ++ x2) #[] (List.replicate n [32].toArray) = (List.replicate n 32).toArray := by
          have := foldl_repN [32] n []
          rw [List.nil_append] at this
          rw [this]
          congr 1
          clear this hb h1 h0 q
          induction n with
          | zero => rfl
          | succ m ih => rw [List.replicate_succ, List.flatten_cons, ih (by omega) rfl, List.replicate_succ]; rfl
        rw [e, hc, f0]
        exact ⟨by rw [show (⟨(List.replicate n 32).toArray⟩ : Str).length = n from spc_len n]; exact zs (by omega), .str _, H, I.tok _, ⟨_, rfl⟩, q⟩
/-! ### an int, written in a form -/
def FmtI (i : Int) (sp y : Str) : Prop := ∀ (prog : Program) (w : World) (A : Around) (E : Value → Shared → Prop) (s : Shared) (t : Tok) (Q : Value → Shared → Prop), (∀ t' k, Q (.str y t') { s with toks := k }) → wpAny (model prog w) A (formatField (.int i t) sp) Q E s
def tFmtS (te ts : TE) : TE := fun σ H Q => te σ H fun x H1 => ts σ H1 fun y H2 => ∃ (i : Int) (f z : Str), x = .int i ∧ y = .str f ∧ FmtI i f z ∧ Q (.str z) H2
theorem pe_fmtS {e sp : Expr} {te ts : TE} {pos : Pos} (he : PE X e te) (hs : PE X sp ts) : PE X (.FormattedValue e (-1) (some sp) pos) (tFmtS te ts) := by
  refine ⟨fun pins s σ H Q I h => ?_⟩
  refine wpAny_FormattedValue_spec (thn (he.run pins s σ H _ I h) fun v s1 ⟨x, H1, I1, r1, q1⟩ => thn (hs.run pins s1 σ H1 _ I1 q1) fun u s2 ⟨y, H2, I2, r2, i, f, z, e1, e2, hf, q⟩ => ?_)
  subst e1
  subst e2
  obtain ⟨t, rfl⟩ := r1
  obtain ⟨t', rfl⟩ := r2
  exact ⟨f, t', rfl, hf _ _ _ _ _ _ _ fun _ _ => ⟨.str z, H2, I2.tok _, ⟨_, rfl⟩, q⟩⟩
end
open Builtin Builtin.Int Builtin.Float in
def fmF (f : FormatSpec) (i : Int) : Str := intField' f (decide (i < 0)) [] ((Nat.toDigits 10 i.natAbs).map fun c => (if (100 : Nat) == 88 then c.toUpper else c).toNat) [] 3
abbrev fs3 : Builtin.Float.FormatSpec := { align := 62, width := some 3 }
abbrev fs4 : Builtin.Float.FormatSpec := { align := 62, width := some 4 }
abbrev fs5 : Builtin.Float.FormatSpec := { align := 62, width := some 5, sign := some 43 }
abbrev fsD : Builtin.Float.FormatSpec := { align := 62, sign := some 43, type := some 100 }
section
open Builtin Builtin.Int Builtin.Float PySem.W
theorem par3 : parseFormatSpec (">3" : Str).cps.toList "int" 62 = .ok fs3 := by kernel_rfl
theorem par4 : parseFormatSpec (">4" : Str).cps.toList "int" 62 = .ok fs4 := by kernel_rfl
theorem par5 : parseFormatSpec (">+5" : Str).cps.toList "int" 62 = .ok fs5 := by kernel_rfl
theorem parD : parseFormatSpec ("+d" : Str).cps.toList "int" 62 = .ok fsD := by kernel_rfl
theorem fmt_3 {i : Int} (hi : i.natAbs.log2 < 1920) (hl : (fmF fs3 i).length ≤ sizeLine) : FmtI i (">3" : Str) (fmF fs3 i) := by
  intro prog w A E s t Q h
  refine KXf.field_int rfl (by decide +kernel) (by decide +kernel) (fun u => KPc.meets_of ?_) h
  intro _ _ _ _ _ _ hh
  unfold Builtin.«int.__format__»; refine wpAny_bind (wpAny_of_eq (a := (_, _)) rfl (wpAny_bind (wpAny_of_eq (a := _) rfl ?_)))
  kxf_if; refine wpAny_bind (wpAny_typeNameOf (T := "str") (typeIs_str _ _ _) (by decide) fun _ => wpAny_bind (wpAny_of_eq (a := some _) rfl ?_))
  kxf_if; kxf_if; refine wpAny_bind (wpAny_typeNameOfCut_int ?_); rw [par3]
  have e100 : (none : Option Nat).getD (if ((">3" : Str).cps.back? == some 0) = true then 0 else 100) = 100 := by decide +kernel
  dsimp only
  rw [e100]
  refine wpAny_ite (KPc.ite_yes (by decide +kernel) ?_)
  refine wpAny_bind (m := Builtin.overDigitLimit? i) (wpAny_of_eq (PySem.overDigitLimit_small hi) (KXf.ret_text (T := fmF fs3 i) rfl hl ?_))
  assumption
theorem fmt_4 {i : Int} (hi : i.natAbs.log2 < 1920) (hl : (fmF fs4 i).length ≤ sizeLine) : FmtI i (">4" : Str) (fmF fs4 i) := by
  intro prog w A E s t Q h
  refine KXf.field_int rfl (by decide +kernel) (by decide +kernel) (fun u => KPc.meets_of ?_) h
  intro _ _ _ _ _ _ hh
  unfold Builtin.«int.__format__»; refine wpAny_bind (wpAny_of_eq (a := (_, _)) rfl (wpAny_bind (wpAny_of_eq (a := _) rfl ?_)))
  kxf_if; refine wpAny_bind (wpAny_typeNameOf (T := "str") (typeIs_str _ _ _) (by decide) fun _ => wpAny_bind (wpAny_of_eq (a := some _) rfl ?_))
  kxf_if; kxf_if; refine wpAny_bind (wpAny_typeNameOfCut_int ?_); rw [par4]
  have e100 : (none : Option Nat).getD (if ((">4" : Str).cps.back? == some 0) = true then 0 else 100) = 100 := by decide +kernel
  dsimp only
  rw [e100]
  refine wpAny_ite (KPc.ite_yes (by decide +kernel) ?_)
  refine wpAny_bind (m := Builtin.overDigitLimit? i) (wpAny_of_eq (PySem.overDigitLimit_small hi) (KXf.ret_text (T := fmF fs4 i) rfl hl ?_))
  assumption
theorem fmt_5 {i : Int} (hi : i.natAbs.log2 < 1920) (hl : (fmF fs5 i).length ≤ sizeLine) : FmtI i (">+5" : Str) (fmF fs5 i) := by
  intro prog w A E s t Q h
  refine KXf.field_int rfl (by decide +kernel) (by decide +kernel) (fun u => KPc.meets_of ?_) h
  intro _ _ _ _ _ _ hh
  unfold Builtin.«int.__format__»; refine wpAny_bind (wpAny_of_eq (a := (_, _)) rfl (wpAny_bind (wpAny_of_eq (a := _) rfl ?_)))
  kxf_if; refine wpAny_bind (wpAny_typeNameOf (T := "str") (typeIs_str _ _ _) (by decide) fun _ => wpAny_bind (wpAny_of_eq (a := some _) rfl ?_))
  kxf_if; kxf_if; refine wpAny_bind (wpAny_typeNameOfCut_int ?_); rw [par5]
  have e100 : (none : Option Nat).getD (if ((">+5" : Str).cps.back? == some 0) = true then 0 else 100) = 100 := by decide +kernel
  dsimp only
  rw [e100]
  refine wpAny_ite (KPc.ite_yes (by decide +kernel) ?_)
  refine wpAny_bind (m := Builtin.overDigitLimit? i) (wpAny_of_eq (PySem.overDigitLimit_small hi) (KXf.ret_text (T := fmF fs5 i) rfl hl ?_))
  assumption
theorem fmt_D {i : Int} (hi : i.natAbs.log2 < 1920) (hl : (fmF fsD i).length ≤ sizeLine) : FmtI i ("+d" : Str) (fmF fsD i) := by
  intro prog w A E s t Q h
  refine KXf.field_int rfl (by decide +kernel) (by decide +kernel) (fun u => KPc.meets_of ?_) h
  intro _ _ _ _ _ _ hh
  unfold Builtin.«int.__format__»; refine wpAny_bind (wpAny_of_eq (a := (_, _)) rfl (wpAny_bind (wpAny_of_eq (a := _) rfl ?_)))
  kxf_if; refine wpAny_bind (wpAny_typeNameOf (T := "str") (typeIs_str _ _ _) (by decide) fun _ => wpAny_bind (wpAny_of_eq (a := some _) rfl ?_))
  kxf_if; kxf_if; refine wpAny_bind (wpAny_typeNameOfCut_int ?_); rw [parD]
  have e100 : (some 100 : Option Nat).getD (if (("+d" : Str).cps.back? == some 0) = true then 0 else 100) = 100 := by decide +kernel
  dsimp only
  rw [e100]
  refine wpAny_ite (KPc.ite_yes (by decide +kernel) ?_)
  refine wpAny_bind (m := Builtin.overDigitLimit? i) (wpAny_of_eq (PySem.overDigitLimit_small hi) (KXf.ret_text (T := fmF fsD i) rfl hl ?_))
  assumption
end
end Lp
set_option Elab.async false
set_option linter.all false
set_option maxRecDepth 100000
namespace Lp
open PySem PySem.Spec PyProof.Rows L2
/-! ### dict comprehensions over a range -/
theorem dc_range {lo : Int} {n : Nat} {g : TG} {tt : TT} {tk tv : TE} {vs : List Nat} {σ : L2.St} {H1 : Hp} {D : Addr} {Qd : Hp → Prop} (Pv : Nat → Hp → Prop) (h0 : Pv 0 (upd H1 D (.dK [])))
    (hs : ∀ (i : Nat) (H : Hp), i < n → Pv i H → g (.int (lo + i)) (wipe σ vs) H fun σ2 H2 => wipe σ2 vs = wipe σ vs ∧ tt σ2 H2 fun b H3 =>
      if b = true then tk σ2 H3 fun y H4 => tv σ2 H4 fun z H5 => ∃ kvs k, y = kV k ∧ H5 D = some (.dK kvs) ∧ kvs.length < sizeLine ∧ Pv (i + 1) (upd H5 D (.dK (putK kvs k z))) else Pv (i + 1) H3) (hd : ∀ H, Pv n H → Qd H) :
    ∃ W : Nat → Nat → Hp → Prop, (∃ m, W 0 m (upd H1 D (.dK []))) ∧ ∀ i m H, W i m H →
      ((Itr lo n).stop i H ∧ Qd H) ∨ ((Itr lo n).go i H ∧ ∃ Nx : Hp → Prop, (∀ H', Nx H' → ∃ m', m' < m ∧ W (i + 1) m' H') ∧ ∀ x H', (Itr lo n).yld i H x H' → g x (wipe σ vs) H' fun σ2 H2 => wipe σ2 vs = wipe σ vs ∧ tt σ2 H2 fun b H3 =>
        if b = true then tk σ2 H3 fun y H4 => tv σ2 H4 fun z H5 => ∃ kvs k, y = kV k ∧ H5 D = some (.dK kvs) ∧ kvs.length < sizeLine ∧ Nx (upd H5 D (.dK (putK kvs k z))) else Nx H3) := by
  refine ⟨fun i m H => m = n - i ∧ i ≤ n ∧ Pv i H, ⟨n, by simp, Nat.zero_le _, h0⟩, ?_⟩
  rintro i m H ⟨rfl, hi, pv⟩
  rcases Nat.lt_or_ge i n with hlt | hge
  · refine .inr ⟨hlt, Pv (i + 1), fun H' p' => ⟨n - (i + 1), by omega, rfl, hlt, p'⟩, fun x H' y => ?_⟩
    obtain ⟨rfl, rfl⟩ := y
    exact hs i _ hlt pv
  · have e : i = n := by omega
    subst e
    exact .inl ⟨Nat.le_refl _, hd H pv⟩
/-! ### words with single spaces between -/
abbrev jn (l : List Str) : Str := Str.join (" " : Str) l
theorem jn_snoc (x : Str) : ∀ l : List Str, jn (l ++ [x]) = if l = [] then x else jn l ++ (" " : Str) ++ x
  | [] => rfl
  | [y] => rfl
  | y :: z :: r => by
    have ih := jn_snoc x (z :: r)
    rw [if_neg (by simp)] at ih
    rw [if_neg (by simp)]
    show y ++ (" " : Str) ++ jn (z :: r ++ [x]) = y ++ (" " : Str) ++ jn (z :: r) ++ (" " : Str) ++ x
    rw [ih]
    simp only [Str.append_assoc]
theorem space1 : (" " : Str) = ⟨#[32]⟩ := by decide +kernel
def jc : List (List Nat) → List Nat
  | [] => []
  | [x] => x
  | x :: y :: r => x ++ 32 :: jc (y :: r)
theorem jn_jc : ∀ l : List Str, (jn l).cps.toList = jc (l.map fun x => x.cps.toList)
  | [] => rfl
  | [x] => rfl
  | x :: y :: r => by
    have ih := jn_jc (y :: r)
    show (x ++ (" " : Str) ++ jn (y :: r)).cps.toList = x.cps.toList ++ 32 :: jc ((y :: r).map fun x => x.cps.toList)
    rw [← ih, space1, Str.cps_append, Str.cps_append]
    simp
theorem cut32 : ∀ {x y a b : List Nat}, 32 ∉ x → 32 ∉ y → x ++ 32 :: a = y ++ 32 :: b → x = y ∧ a = b
  | [], [], a, b, _, _, h => ⟨rfl, (List.cons.inj h).2⟩
  | [], c :: y, a, b, _, hy, h => absurd ((List.cons.inj h).1 ▸ List.mem_cons_self) hy
  | c :: x, [], a, b, hx, _, h => absurd ((List.cons.inj h).1 ▸ List.mem_cons_self) hx
  | c :: x, d :: y, a, b, hx, hy, h => by
    obtain ⟨e1, e2⟩ := List.cons.inj h
    obtain ⟨e3, e4⟩ := cut32 (fun z => hx (List.mem_cons_of_mem _ z)) (fun z => hy (List.mem_cons_of_mem _ z)) e2
    exact ⟨by rw [e1, e3], e4⟩
theorem jc_inj : ∀ {l m : List (List Nat)}, l ≠ [] → m ≠ [] → (∀ x ∈ l, 32 ∉ x) → (∀ x ∈ m, 32 ∉ x) → jc l = jc m → l = m
  | [], _, h, _, _, _, _ => absurd rfl h
  | _ :: _, [], _, h, _, _, _ => absurd rfl h
  | [x], [y], _, _, _, _, h => by rw [show x = y from h]
  | [x], y :: z :: r, _, _, hx, _, h => absurd (show 32 ∈ x by rw [show x = y ++ 32 :: jc (z :: r) from h]; simp) (hx x List.mem_cons_self)
  | x :: z :: r, [y], _, _, _, hy, h => absurd (show 32 ∈ y by rw [← show x ++ 32 :: jc (z :: r) = y from h]; simp) (hy y List.mem_cons_self)
  | x :: z :: r, y :: u :: s, _, _, hx, hy, h => by
    obtain ⟨e1, e2⟩ := cut32 (hx x List.mem_cons_self) (hy y List.mem_cons_self) (show x ++ 32 :: jc (z :: r) = y ++ 32 :: jc (u :: s) from h)
    rw [e1, jc_inj (l := z :: r) (m := u :: s) (by simp) (by simp) (fun q hq => hx q (List.mem_cons_of_mem _ hq)) (fun q hq => hy q (List.mem_cons_of_mem _ hq)) e2]
theorem map_cps_inj : ∀ {l m : List Str}, (l.map fun x => x.cps.toList) = (m.map fun x => x.cps.toList) → l = m
  | [], [], _ => rfl
  | [], _ :: _, h => nomatch h
  | _ :: _, [], h => nomatch h
  | x :: l, y :: m, h => by
    obtain ⟨e1, e2⟩ := List.cons.inj h
    have e3 : x = y := Str.ext' (Array.toList_inj.mp e1)
    rw [e3, map_cps_inj e2]
theorem split_jn {l : List Str} (h : l ≠ []) (hf : ∀ x ∈ l, 32 ∉ x.cps.toList) : Txt.split (jn l) (" " : Str) = l := by
  have e1 : jn (Txt.split (jn l) (" " : Str)) = jn l := StrLaws.join_split _ _
  have e2 : ∀ p ∈ Txt.split (jn l) (" " : Str), 32 ∉ p.cps.toList := by
    rw [space1]
    exact StrLaws.split_free _ 32
  have e3 : Txt.split (jn l) (" " : Str) ≠ [] := fun z => by
    have := split_pos (jn l) (" " : Str)
    rw [z] at this
    simp at this
  refine map_cps_inj (jc_inj (by simpa using e3) (by simpa using h) ?_ ?_ ?_)
  · intro x hx
    obtain ⟨p, hp, rfl⟩ := List.mem_map.mp hx
    exact e2 p hp
  · intro x hx
    obtain ⟨p, hp, rfl⟩ := List.mem_map.mp hx
    exact hf p hp
  · rw [← jn_jc, ← jn_jc, e1]
end Lp
set_option Elab.async false
set_option linter.all false
set_option maxRecDepth 100000
namespace Lp
open PySem PySem.Spec PyProof.Rows L2
/-! ### defs, methods, classes, properties that may be used by their names -/
structure Cal (P : Program) (w : World) (K : PySem.W.Frag) (mg : Str → Option Value) (base : Heap) (k : Nat) (x : Str) (sp : Sp) : Prop where
  ex : ∃ (f : Addr) (fd : FuncData) (ps : List Str), FnOk P w K mg base CX0 k f fd ps sp ∧ mg x = some (.ref f) ∧ PySem.W.keepIn K (.ref f) = true ∧ Binds K fd ps []
structure Met (P : Program) (w : World) (K : PySem.W.Frag) (mg : Str → Option Value) (base : Heap) (k : Nat) (C : Addr) (m : Str) (sp : Sp) : Prop where
  ex : ∃ (f : Addr) (fd : FuncData) (ps : List Str), Cls K C ∧ Meth K C m f ∧ FnOk P w K mg base CX0 k f fd ps sp ∧ Binds K fd ps []
structure Mak (P : Program) (w : World) (K : PySem.W.Frag) (mg : Str → Option Value) (base : Heap) (k : Nat) (x : Str) (C : Addr) (sp : Sp) : Prop where
  ex : ∃ (f : Addr) (fd : FuncData) (ps : List Str), Mk K C f ∧ FnOk P w K mg base CX0 k f fd ps sp ∧ mg x = some (.ref C) ∧ Binds K fd ps []
structure Prp (P : Program) (w : World) (K : PySem.W.Frag) (mg : Str → Option Value) (base : Heap) (k : Nat) (C : Addr) (f : Str) (sp : Sp) : Prop where
  ex : ∃ (p g : Addr) (fd : FuncData) (ps : List Str), Cls K C ∧ PropOf K C f p g ∧ FnOk P w K mg base CX0 k g fd ps sp ∧ Binds K fd ps []
theorem Cal.gc {P : Program} {w : World} {K : PySem.W.Frag} {mg : Str → Option Value} {base : Heap} {k : Nat} {x : Str} {sp : Sp} (c : Cal P w K mg base k x sp) : Gc P w K mg base k x sp := by
  obtain ⟨f, fd, ps, F, h⟩ := c.ex
  exact ⟨f, fd, ps, .of F, h⟩
section
variable {X : Cx} {k j : Nat} {C : Addr} {x m f : Str} {sp : Sp} {p pos apos : Pos} {e o : Expr} {es : List Expr} {ta : TE} {t : TA}
theorem pe_c (c : Cal X.prog X.w X.K X.mg X.base k x sp) (hr : Room j X.A) (hk : k ≤ j) (hg : Gl X x) (ha : PA X (e :: es) t)
    (hdb : (x == ("__debug__" : Str)) = false := by decide) (he : starEach (e :: es) X.env = (false, eval e X.env) :: starEach es X.env := by rfl) (hpl : (backTo pos (starEach es X.env)).any (·.1) = false := by rfl) :
    PE X (.Call (.Name x p) (e :: es) [] pos) (tCall sp [] E0 t) := by
  obtain ⟨g, fd, ps, F, hm, kp, b⟩ := c.ex
  exact pe_call F (hr.mono hk) hg hm kp b .nil pass0 ha hdb he hpl
theorem pe_mk (c : Mak X.prog X.w X.K X.mg X.base k x C sp) (hr : Room j X.A) (hk : k + 1 ≤ j) (hg : Gl X x) (ha : PA X (e :: es) t)
    (hdb : (x == ("__debug__" : Str)) = false := by decide) (he : starEach (e :: es) X.env = (false, eval e X.env) :: starEach es X.env := by rfl) (hpl : (backTo pos (starEach es X.env)).any (·.1) = false := by rfl) :
    PE X (.Call (.Name x p) (e :: es) [] pos) (tMake C sp [] E0 t) := by
  obtain ⟨g, fd, ps, M, F, hm, b⟩ := c.ex
  exact pe_make M F (hr.mono hk) hg hm b .nil pass0 ha hdb he hpl
theorem pe_mt {pl : Sem Bool} (c : Met X.prog X.w X.K X.mg X.base k C m sp) (hr : Room j X.A) (hk : k ≤ j) (he : PE X o ta) (ha : PA X (e :: es) t)
    (hst : starEach (e :: es) X.env = (false, eval e X.env) :: starEach es X.env := by rfl) (hpl : (backTo pos (starEach es X.env)).any (·.1) = false := by rfl)
    (ht : eval (.Call (.Attribute o m apos) (e :: es) [] pos) X.env = (eval o X.env >>= fun ov => standAt apos.atName >>= fun _ => holding [ov] (getMethod ov m pl) >>= fun r => callWith pos r.1 r.2 (backTo pos (starEach (e :: es) X.env)) (backToKw pos (keywordEach [] X.env))) := by rfl) :
    PE X (.Call (.Attribute o m apos) (e :: es) [] pos) (tMeth C m sp [] E0 ta t) := by
  obtain ⟨g, fd, ps, hc, hm, F, b⟩ := c.ex
  exact pe_meth (pl := pl) he hc hm F (hr.mono hk) b .nil pass0 ha hst hpl ht
theorem pe_mt0 {pl : Sem Bool} (c : Met X.prog X.w X.K X.mg X.base k C m sp) (hr : Room j X.A) (hk : k ≤ j) (he : PE X o ta)
    (ht : eval (.Call (.Attribute o m apos) [] [] pos) X.env = (eval o X.env >>= fun ov => standAt apos.atName >>= fun _ => holding [ov] (getMethod ov m pl) >>= fun r => callWith pos r.1 r.2 (backTo pos (starEach [] X.env)) (backToKw pos (keywordEach [] X.env))) := by rfl) :
    PE X (.Call (.Attribute o m apos) [] [] pos) (tMeth C m sp [] E0 ta tNil) := by
  obtain ⟨g, fd, ps, hc, hm, F, b⟩ := c.ex
  exact pe_meth0 (pl := pl) he hc hm F (hr.mono hk) b .nil pass0 ht
theorem pe_pr (c : Prp X.prog X.w X.K X.mg X.base k C f sp) (hr : Room j X.A) (hk : k + 1 ≤ j) (he : PE X e ta) (hab : attributeBase e f X.env (eval e X.env) = eval e X.env := by rfl) : PE X (.Attribute e f pos) (tProp C sp [] E0 ta) := by
  obtain ⟨p, g, fd, ps, hc, hp, F, b⟩ := c.ex
  exact pe_prop he hc hp F (hr.mono hk) b .nil pass0 hab
end
/-! ### slices that end one before the end -/
theorem cut_init (xs : List V) : cutV xs none (some (-1)) = xs.dropLast := by
  have e : HT.sIx xs.length xs.length (some (-1)) = xs.length - 1 := by
    show (if (-1 : Int) < 0 then ((-1 : Int) + (xs.length : Int)).toNat else min (-1 : Int).toNat xs.length) = _
    rw [if_pos (by decide)]
    omega
  unfold cutV
  rw [HT.sIx_none, e, List.drop_zero, Nat.sub_zero, List.dropLast_eq_take]
end Lp
set_option Elab.async false
set_option linter.all false
set_option maxRecDepth 100000
namespace Lp
open PySem PySem.Spec PyProof.Rows L2
/-! ### methods that may raise, called where it is caught -/
structure MetX (P : Program) (w : World) (K : PySem.W.Frag) (mg : Str → Option Value) (base : Heap) (k : Nat) (C : Addr) (m : Str) (sp : Sp) : Prop where
  ex : ∃ (f : Addr) (fd : FuncData) (ps : List Str), Cls K C ∧ Meth K C m f ∧ FnOk P w K mg base (L2.CX P w) k f fd ps sp ∧ Binds K fd ps []
def tMtX0 (C : Addr) (m : Str) (sp : Sp) (W : WX) (ta : TE) : TE := fun σ H Q => ta σ H fun x H1 => ∃ a dx fs, x = .ref a ∧ H1 a = some (.ins C dx fs) ∧ fs.lookup m = none ∧ sp [x] H1 Q (WE W σ)
/-- classes made by keywords alone -/
structure MakK (P : Program) (w : World) (K : PySem.W.Frag) (mg : Str → Option Value) (base : Heap) (k : Nat) (x : Str) (C : Addr) (ks : List Str) (gV : List V → List V → List V) (sp : Sp) : Prop where
  ex : ∃ (f : Addr) (fd : FuncData) (ps : List Str) (g : List Value → List Value → List Value), Mk K C f ∧ FnOk P w K mg base CX0 k f fd ps sp ∧ mg x = some (.ref C) ∧ KBn K fd ps 1 ks g gV
section
variable {X : Cx} {k j : Nat} {C : Addr} {x m : Str} {sp : Sp} {p pos apos : Pos} {o : Expr} {ta : TE} {tk' : TA} {kws : List Keyword} {ks : List Str} {gV : List V → List V → List V}
theorem pe_mtX0 {pl : Sem Bool} {W : WX} (c : MetX X.prog X.w X.K X.mg X.base k C m sp) (hr : Room j X.A) (hk : k ≤ j) (tk : Takes X W) (he : PE X o ta)
    (ht : eval (.Call (.Attribute o m apos) [] [] pos) X.env = (eval o X.env >>= fun ov => standAt apos.atName >>= fun _ => holding [ov] (getMethod ov m pl) >>= fun r => callWith pos r.1 r.2 (backTo pos (starEach [] X.env)) (backToKw pos (keywordEach [] X.env))) := by rfl) :
    PE X (.Call (.Attribute o m apos) [] [] pos) (tMtX0 C m sp W ta) := by
  obtain ⟨g, fd, ps, hc, hm, F, b⟩ := c.ex
  refine ⟨fun pins s σ H Q I h => ?_⟩
  refine PySem.W.methodCall_KW (pl := pl) (thn (he.run pins s σ H _ I h) fun u s1 ⟨y, H1, I1, rx, a, dx, fs, ex, ea, l, q⟩ => ?_) ht
  subst ex
  obtain rfl : u = Value.ref a := rx
  refine getmeth_ok I1 ea hc hm l (PySem.W.callWith_K0 (first := [.ref a]) I1.kIn hm.kp ?_)
  exact run_fnS (us := [.ref a]) (vs := [.ref a]) F (hr.mono hk) b (passAt tk σ) I1 (.cons rfl .nil) q
theorem pe_mkK (c : MakK X.prog X.w X.K X.mg X.base k x C ks gV sp) (hr : Room j X.A) (hk : k + 1 ≤ j) (hg : Gl X x) (hkw : PK X kws tk')
    (hall : (backToKw pos (keywordEach kws X.env)).all (·.1.isSome) = true := by rfl) (hks : (backToKw pos (keywordEach kws X.env)).filterMap (·.1) = ks := by rfl) (hdb : (x == ("__debug__" : Str)) = false := by decide)
    (hpl : ((backTo pos (starEach [] X.env)).any (·.1) || (backToKw pos (keywordEach kws X.env)).any (·.1.isNone)) = false := by rfl) : PE X (.Call (.Name x p) [] kws pos) (tMakeK C 0 ks.length sp gV E0 tNil tk') := by
  obtain ⟨f, fd, ps, g, M, F, hm, hb⟩ := c.ex
  exact pe_makeK0 M F (hr.mono hk) hg hm hb pass0 hkw hall hks hdb hpl
end
end Lp
set_option Elab.async false
set_option linter.all false
set_option maxRecDepth 100000
set_option maxHeartbeats 1000000
namespace Lp
open PySem PySem.Spec PyProof.Rows L2 GenW
/-! ### yield from a list -/
section
variable {prog : Program} {w : World} {A : Around} {E : Value → Shared → Prop} {s : Shared}
theorem special_lst_item {it l : Addr} {i : Nat} {items : Array Value} {x : Value} {Q : Option Value → Shared → Prop} (hit : s.heap.IsListIter it l i)
    (hl : s.heap.IsList l items) (hx : items[i]? = some x)
    (hQ : ∀ h', h'.IsListIter it l (i + 1) → Heap.SameBut it s.heap h' → Q (some x) { s with heap := h' }) :
    wpAny (model prog w) A (callSpecial? (.ref it) "__next__") Q E s := by
  obtain ⟨o, ho, hc, hd⟩ := id hit
  obtain ⟨ol, hol, _, nl, hdl⟩ := hl
  refine wpAny_callSpecial?_slot (name := Str.ofString "__next__") hit.typeIs slot_listiter_next (wpAny_call_entry slot_listiter_next hit.typeIs entry_listiter_next ?_ (args_listiter_next _))
  show wpAny _ _ (field (.ref it) 0 >>= _) _ _ s
  refine wpAny_bind (wpAny_field ho hd (x := .ref l) rfl ?_)
  show wpAny _ _ (if (Value.ref l == Value.none) = true then _ else _) _ _ s
  rw [if_neg (show ¬ ((Value.ref l == Value.none) = true) from Bool.false_ne_true)]
  show wpAny _ _ (field (.ref it) 1 >>= _) _ _ s
  refine wpAny_bind (wpAny_field ho hd (x := .int i 0) rfl ?_)
  show wpAny _ _ (seqItems? (.ref l) >>= _) _ _ s
  refine wpAny_bind (wpAny_seqItems hol hdl ?_)
  simp only [Int.toNat_natCast, hx]
  refine wpAny_bind (wpAny_setField ho hd (by simp) (wpAny_pure ⟨x, rfl, hQ _ ?_ (Heap.SameBut.update ..)⟩))
  exact ⟨_, Heap.get?_update_self _ ho (Obj.isFreed_of_fields (Obj.data_mapFields hd _)), (Obj.cls_mapFields ..).trans hc, by
    rw [Obj.data_mapFields hd]; simp [rawInt]⟩
theorem special_lst_end {it l : Addr} {i : Nat} {items : Array Value} {Q : Option Value → Shared → Prop} (hh : A.handled = none) (hit : s.heap.IsListIter it l i) (hl : s.heap.IsList l items) (hx : items[i]? = none)
    (hE : ∀ e h', StopX e h' → Heap.ExtBut it s.heap h' → E e { s with heap := h' }) : wpAny (model prog w) A (callSpecial? (.ref it) "__next__") Q E s := by
  obtain ⟨o, ho, hc, hd⟩ := id hit
  obtain ⟨ol, hol, _, nl, hdl⟩ := hl
  refine wpAny_callSpecial?_slot (name := Str.ofString "__next__") hit.typeIs slot_listiter_next (wpAny_call_entry slot_listiter_next hit.typeIs entry_listiter_next ?_ (args_listiter_next _))
  show wpAny _ _ (field (.ref it) 0 >>= _) _ _ s
  refine wpAny_bind (wpAny_field ho hd (x := .ref l) rfl ?_)
  show wpAny _ _ (if (Value.ref l == Value.none) = true then _ else _) _ _ s
  rw [if_neg (show ¬ ((Value.ref l == Value.none) = true) from Bool.false_ne_true)]
  show wpAny _ _ (field (.ref it) 1 >>= _) _ _ s
  refine wpAny_bind (wpAny_field ho hd (x := .int i 0) rfl ?_)
  show wpAny _ _ (seqItems? (.ref l) >>= _) _ _ s
  refine wpAny_bind (wpAny_seqItems hol hdl ?_)
  simp only [Int.toNat_natCast, hx]
  refine wpAny_bind (wpAny_rule (wpAny_bind (wpAny_setField ho hd (by simp) ?_)))
  show wpAny _ _ (newExc (.type "StopIteration") [] >>= _) _ _ _
  refine wpAny_bind ?_
  simp only [newExc, newTuple]
  refine wpAny_bind (wpAny_newObj_type ?_ (by size_fits))
  refine wpAny_bind (m := firstArgMember _ _) (wpAny_of_eq (a := Value.none) (by first | rfl | (simp only [firstArgMember]; rfl)) ?_)
  refine wpAny_newObj_type ?_ (by size_fits)
  simp only [raiseNew]
  refine wpAny_bind (wpAny_handled ?_)
  first | rw [show A.in1.handled = none from hh] | rw [hh]
  refine wpAny_bind (wpAny_pure (wpAny_throw ?_))
  refine hE _ _ ⟨_, _, _, rfl, Heap.get?_push_size _ rfl, rfl, rfl, ?_⟩ (((Heap.SameBut.update ..).extBut.push _).push _)
  first
    | rfl
    | (rw [Array.getElem?_append_left (by decide)]; rfl)
    | kernel_rfl
end
section
variable {X : Cx} {e : Expr} {te : TE}
def tYfLst (te : TE) : TYf := fun σ H Q => te σ H fun x H1 => ∃ a xs, x = .ref a ∧ H1 a = some (.lst xs) ∧ Q xs H1
theorem close_lst : typeLookup (.type "list_iterator") "close" = pure none := by rw [typeLookup_type, builtinLookup_eq_fast]; kernel_rfl
theorem yf_lst (he : PE X e te) : YfE X e (tYfLst te) := by
  refine ⟨fun pins s σ H Q I h => ?_⟩
  refine thn (he.run pins s σ H _ I h) fun v s1 ⟨x, H1, I1, r1, a, xs, ex, ha, hq⟩ => ?_
  subst ex
  obtain rfl : v = Value.ref a := r1
  obtain ⟨hlen, its, c, rits, hg⟩ := I1.hok a _ ha
  have ht : s1.heap.IsList a its.toArray := ⟨_, hg, rfl, _, rfl⟩
  refine ⟨"list", ht.typeIs, by decide, wpAny_pyIter_list ht ?_⟩
  have ksz : ∀ b o, s1.heap.get? b = some o → b ≠ s1.heap.objs.size := fun b o e => Nat.ne_of_lt (Heap.lt_size e)
  have kp : ∀ b o, s1.heap.get? b = some o → (s1.heap.push { cls := .type "list_iterator", data := .fields #[.ref a, .int 0 0] }).get? b = some o := fun b o e => Heap.get?_push_of_some _ e
  refine ⟨s1.heap.objs.size, H1, xs, fun j h => h.IsListIter s1.heap.objs.size a j ∧ h.IsList a its.toArray, rfl, I1.kept (t' := s1.toks) kp, .inr I1.sz, Nat.ne_of_gt I1.lt, fun y c hy => ?_, I1.hok.fresh (Nat.le_refl _), fun p hp => ?_,
    ⟨⟨_, Heap.get?_push_size _ rfl, rfl, rfl⟩, ⟨_, kp _ _ hg, rfl, _, rfl⟩⟩, ⟨⟨"list_iterator", fun j h q => ?_, close_lst, by decide⟩, fun j h h' q hk => ?_, fun A' j x s2 Q' E' hA hx q hQ => ?_, fun A' s2 Q' E' hA q hE => ?_⟩, hq⟩
  · obtain ⟨v, o, ho, _⟩ := I1.cell y c hy
    exact ksz c o ho
  · exact ksz p.1 _ (I1.pin p hp).1
  · obtain ⟨⟨o, ho, hc, _⟩, _⟩ := q
    exact ⟨o, ho, hc⟩
  · obtain ⟨⟨o, ho, r⟩, o2, ho2, r2⟩ := q
    exact ⟨⟨o, hk _ o (.inl rfl) ho, r⟩, o2, hk _ o2 (.inr (by rw [ha]; exact fun z => by cases z)) ho2, r2⟩
  · obtain ⟨q1, q2⟩ := q
    obtain ⟨u, hu, ru⟩ := rits.get hx
    have hne : a ≠ s1.heap.objs.size := Nat.ne_of_lt (Heap.lt_size hg)
    exact special_lst_item q1 q2 (x := u) (by simpa using hu) fun h' q1' hs => hQ u h' s2.toks ru ⟨q1', (by obtain ⟨o2, ho2, r2⟩ := q2; exact ⟨o2, hs.extBut _ _ hne ho2, r2⟩)⟩ fun b o hb eb => hs.extBut b o hb eb
  · obtain ⟨q1, q2⟩ := q
    have hnone : its.toArray[xs.length]? = none := by
      have e := rits.length
      have e2 : its[xs.length]? = none := List.getElem?_eq_none_iff.mpr (by omega)
      simpa using e2
    exact special_lst_end hA q1 q2 hnone fun e h' hS hk => hE e h' s2.toks hS fun b o hb eb => hk b o hb eb
end
/-! ### generator defs by their names -/
section
variable {P : Program} {w : World} {K : PySem.W.Frag} {mg : Str → Option Value} {base : Heap}
theorem okGen {x qual : Str} {st : Stmt} {f : Addr} {fd : FuncData} {N ps : List Str} {k : Nat} {sp : SpG} (F : Fun K x qual st f fd) (S : GScope N ps (defScope st)) (ln : ∀ vs H Q E, sp vs H Q E → vs.length = ps.length)
    (hb : ∀ (cdv : Value) (A : Around) (outer : List Env) (s : Shared) (H : Hp) (vs : List V) (Q : List V → Hp → Prop) (E : XK) (pn : List (Addr × Obj)), Room k (A.deeper (envOfC qual (defScope st) s.heap.objs.size f cdv)) → sp vs H Q E →
      ∃ t, GSs (gcxOf P w K mg base N qual (defScope st) f cdv A outer s H E pn) (defBody st) t ∧ t { nx := fun ys _ H' => Q ys H', rt := fun ys v H' => v = .non ∧ Q ys H' } [] (start N vs) H) : GFn P w K mg base (k + 1) f fd ps sp := by
  obtain ⟨oc, od, kV, doc, pm, an, cdv, ct, osl, rfl, lk, hcd⟩ := F.ex
  exact gfn_of lk hcd S ln (hb cdv)
structure Gnr (P : Program) (w : World) (K : PySem.W.Frag) (mg : Str → Option Value) (base : Heap) (k : Nat) (x : Str) (sp : SpG) : Prop where
  ex : ∃ (f : Addr) (fd : FuncData) (ps : List Str), GFn P w K mg base k f fd ps sp ∧ mg x = some (.ref f) ∧ PySem.W.keepIn K (.ref f) = true ∧ Binds K fd ps []
end
section
variable {X : Cx} {k j : Nat} {x nm : Str} {sp : SpG} {p p2 pos pos' : Pos} {e : Expr} {es : List Expr} {t : TA}
theorem noStop0 {K : PySem.W.Frag} : NoStop K E0 := fun _ _ _ h => h.elim
theorem passes0 : Passes (CX X.prog X.w) X E0 := fun pins σ H s1 e s' I h => by
  obtain ⟨a, B, H', cls, d, _, _, _, _, _, _, _, z⟩ := h
  exact z.elim
/-- list(f(e, ..)) of a generator def -/
theorem pe_lg (c : Gnr X.prog X.w X.K X.mg X.base k x sp) (hr : Room j X.A) (hk : k + 3 ≤ j) (hg : Gl X x) (ha : PA X (e :: es) t) (hg2 : Gl X nm) (hmg : X.mg nm = none) (hv : bootBuiltins nm = some (.type "list")) (hnm : nm ≠ "__name__" := by decide) (hdb2 : (nm == ("__debug__" : Str)) = false := by decide)
    (hdb : (x == ("__debug__" : Str)) = false := by decide) (he : starEach (e :: es) X.env = (false, eval e X.env) :: starEach es X.env := by rfl) (hpl : (backTo pos' (starEach es X.env)).any (·.1) = false := by rfl)
    (he2 : starEach [.Call (.Name x p2) (e :: es) [] pos'] X.env = (false, eval (.Call (.Name x p2) (e :: es) [] pos') X.env) :: starEach [] X.env := by rfl) :
    PE X (.Call (.Name nm p) [.Call (.Name x p2) (e :: es) [] pos'] [] pos) (tListG (L2.tCallG sp [] E0 t)) := by
  obtain ⟨g, fd, ps, F, hm, kp, b⟩ := c.ex
  exact pe_listG (pgen_call F (hr.mono (by omega)) hg hm kp b .nil ha hdb he hpl) passes0 noStop0 (hr.mono hk) hg2 hmg hv hnm hdb2 he2
end
end Lp
set_option Elab.async false
set_option linter.all false
set_option maxRecDepth 100000
set_option maxHeartbeats 1000000
namespace Lp
open PySem PySem.Spec PyProof.Rows L2
/-! ### isinstance of an exception that is a value, or that an outer suite holds -/
def rIsX (K : PySem.W.Frag) : List V → Hp → VK → Prop := fun xs H Q => ∃ (a D : Addr) (c : V) (cv : Value) (b : Bool), xs = [.ref a, c] ∧ H a = some (ExO (.ref D) a) ∧ ExcC K D ∧ (∀ u, RelV c u → u = cv) ∧ PySem.W.kitOne K (.ref D) cv = some b ∧ Q (.bl b) H
theorem call_isX {X : Cx} : CallR X (.builtin "isinstance") (rIsX X.K) := by
  intro pins s σ H xs us Q I r h
  obtain ⟨a, D, c, cv, b, rfl, ha, C, hcv, e, q⟩ := h
  cases r with
  | cons rx rr =>
    cases rr with
    | cons rt rr =>
      cases rr
      cases rx
      cases hcv _ rt
      obtain ⟨⟨oe, vs, hget, hz, hv, _⟩, _, _⟩ := I.hok a _ ha
      have J : PySem.W.InstAt s.heap a oe D none := by
        obtain ⟨oc, od, oda, osl⟩ := oe
        obtain ⟨h1, h2⟩ := hz
        dsimp only at h1 h2 hv
        subst h1 h2 hv
        exact ⟨hget, rfl, rfl, trivial⟩
      exact PySem.W.kia_one (PySem.W.handS_kitx_exc C.hg C.hk C.hs C.hd C.ha C.hn C.ht C.hm) I.kIn J e (fun z => nomatch z) fun tk => ⟨.bl b, H, I.kept (t' := tk) fun _ _ z => z, rfl, q⟩
def rIsP (K : PySem.W.Frag) (p : Addr × Obj) : List V → Hp → VK → Prop := fun xs H Q => ∃ (D : Addr) (c : V) (cv : Value) (b : Bool), xs = [.ref p.1, c] ∧ Zc (.ref D) none p.2 ∧ (∃ vs, p.2.data = .fields vs) ∧ ExcC K D ∧ (∀ u, RelV c u → u = cv) ∧ PySem.W.kitOne K (.ref D) cv = some b ∧ Q (.bl b) H
theorem call_isP {X : Cx} {p : Addr × Obj} (hp : p ∈ X.pn) : CallR X (.builtin "isinstance") (rIsP X.K p) := by
  intro pins s σ H xs us Q I r h
  obtain ⟨D, c, cv, b, rfl, hz, ⟨vs, hv⟩, C, hcv, e, q⟩ := h
  cases r with
  | cons rx rr =>
    cases rr with
    | cons rt rr =>
      cases rr
      cases rx
      cases hcv _ rt
      have hget := (I.pin p (List.mem_append_left _ hp)).1
      obtain ⟨a, oe⟩ := p
      have J : PySem.W.InstAt s.heap a oe D none := by
        obtain ⟨oc, od, oda, osl⟩ := oe
        obtain ⟨h1, h2⟩ := hz
        dsimp only at h1 h2 hv
        subst h1 h2 hv
        exact ⟨hget, rfl, rfl, trivial⟩
      exact PySem.W.kia_one (PySem.W.handS_kitx_exc C.hg C.hk C.hs C.hd C.ha C.hn C.ht C.hm) I.kIn J e (fun z => nomatch z) fun tk => ⟨.bl b, H, I.kept (t' := tk) fun _ _ z => z, rfl, q⟩
/-! ### defs that are given the exception that is held -/
structure FnE (P : Program) (w : World) (K : PySem.W.Frag) (mg : Str → Option Value) (base : Heap) (k : Nat) (f : Addr) (fd : FuncData) (ps : List Str) (sp : Addr × Obj → Sp) : Prop where
  len : ∀ p vs H Q E, sp p vs H Q E → vs.length = ps.length
  run : ∀ (p : Addr × Obj) (A : Around) (out : List Env) (s : Shared) (H : Hp) (ar : Args) (us : List Value) (vs : List V) (Q : VK) (E : XK), L2H.RoomH k A → L2H.PinOk out H s p → Env0 P w K mg base A out s H →
    BindsTo s fd ar (ps.zip us) → Vals vs us → sp p vs H Q E → codeAny (model P w) A (.call (.ref f) ar) (CR CX0 out P w H s Q E) s
section
variable {P : Program} {w : World} {K : PySem.W.Frag} {mg : Str → Option Value} {base : Heap}
theorem okE {x qual : Str} {st : Stmt} {f : Addr} {fd : FuncData} {N ps : List Str} {k : Nat} {sp : Addr × Obj → Sp} (F : Fun K x qual st f fd) (S : FnScope N ps (defScope st)) (ln : ∀ p vs H Q E, sp p vs H Q E → vs.length = ps.length)
    (hb : ∀ (cdv : Value) (p : Addr × Obj) (A : Around) (out : List Env) (s : Shared) (H : Hp) (vs : List V) (Q : VK) (E : XK), L2H.RoomH k (A.deeper (envOfC qual (defScope st) s.heap.objs.size f cdv)) → sp p vs H Q E →
      ∃ t, PSs (L2H.cxH CX0 P w K mg base N qual (defScope st) f cdv A out s H E p) (defBody st) t ∧ t { nx := fun _ H' => Q .non H', rt := Q } (start N vs) H) : FnE P w K mg base (k + 1) f fd ps sp := by
  obtain ⟨oc, od, kV, doc, pm, an, cdv, ct, osl, rfl, lk, hcd⟩ := F.ex
  refine ⟨ln, fun p A out s H ar us vs Q E room hpin en bd rv hs => ?_⟩
  have KX : K.In s.heap := en.mod.kin.keeps fun b o e => (en.bs b o e).1
  have nl : s.heap.NoLimit := en.mod.nolimit.keeps fun b o e => (en.bs b o e).1
  have kd : ∀ y ∈ ps.zip us, (defScope st).names.lookup y.1 = some .local ∨ ((defScope st).names.lookup y.1 = some .cell ∧ ((cellsFrom (s.heap.objs.size + 1) (defScope st).names []).lookup y.1).isSome = true) := by
    rintro ⟨n, v⟩ hy
    have hm := (List.of_mem_zip hy).1
    exact (S.par n hm).elim (fun q => .inl q) fun q => .inr ⟨q, PySem.W.cellsFrom_some _ _ _ (.inl q)⟩
  refine codeAny_call_function room.depth (KX _ _ lk) rfl S.co S.gen rfl (PySem.W.codeRec_of KX hcd) (bd _ _ _ _ ?_)
  refine wpAny_newFunctionEnv_cells S.kind kd fun e1 he s1 x => ?_
  subst he
  refine ⟨nl.keeps x.toInCall.keep, codeAny_func ?_⟩
  obtain ⟨t, ht, hq⟩ := hb cdv p A out s H vs Q E (room.deeper _) hs
  have J0 : Inv (L2H.cxH CX0 P w K mg base N qual (defScope st) f cdv A out s H E p) [] (start N vs) H s1 := L2H.inv_startH S hpin en (ln _ _ _ _ _ hs) rv x
  refine wpAny_mono (ht.run [] s1 (start N vs) H _ J0 hq) (fun fl s' h3 => ?_) fun _ _ h3 => h3
  cases fl with
  | ret u => exact let ⟨v, _, H', J, r2, q⟩ := h3; ⟨v, H', J.os, J.bare, J.base, J.hok, r2, q⟩
  | next => exact let ⟨_, H', J, q⟩ := h3; ⟨.non, H', J.os, J.bare, J.base, J.hok, rfl, q⟩
  | brk => exact (let ⟨_, _, _, q⟩ := h3; q : False).elim
  | cont => exact (let ⟨_, _, _, q⟩ := h3; q : False).elim
structure CalE (P : Program) (w : World) (K : PySem.W.Frag) (mg : Str → Option Value) (base : Heap) (k : Nat) (x : Str) (sp : Addr × Obj → Sp) : Prop where
  ex : ∃ (f : Addr) (fd : FuncData) (ps : List Str), FnE P w K mg base k f fd ps sp ∧ mg x = some (.ref f) ∧ PySem.W.keepIn K (.ref f) = true ∧ Binds K fd ps []
structure CalX (P : Program) (w : World) (K : PySem.W.Frag) (mg : Str → Option Value) (base : Heap) (k : Nat) (x : Str) (sp : Sp) : Prop where
  ex : ∃ (f : Addr) (fd : FuncData) (ps : List Str), FnOk P w K mg base (L2.CX P w) k f fd ps sp ∧ mg x = some (.ref f) ∧ PySem.W.keepIn K (.ref f) = true ∧ Binds K fd ps []
end
section
variable {X : Cx} {k j : Nat} {x : Str} {p pos : Pos} {e : Expr} {es : List Expr} {t : TA}
def tCe (sp : Addr × Obj → Sp) (pr : Addr × Obj) (t : TA) : TE := fun σ H Q => t σ H fun vs H1 => sp pr vs H1 Q E0
theorem pe_ce {sp : Addr × Obj → Sp} {pr : Addr × Obj} (c : CalE X.prog X.w X.K X.mg X.base k x sp) (hr : L2H.RoomH k X.A) (hp : pr ∈ X.pn) (hg : Gl X x) (ha : PA X (e :: es) t)
    (hdb : (x == ("__debug__" : Str)) = false := by decide) (he : starEach (e :: es) X.env = (false, eval e X.env) :: starEach es X.env := by rfl) (hpl : (backTo pos (starEach es X.env)).any (·.1) = false := by rfl) :
    PE X (.Call (.Name x p) (e :: es) [] pos) (tCe sp pr t) := by
  obtain ⟨f, fd, ps, F, hm, kp, hb⟩ := c.ex
  refine ⟨fun pins s σ H Q I h => ?_⟩
  refine wpAny_Call_Name_kw (ld_glob I hg hm ?_ hdb)
  refine PySem.W.callWith_K (h₀ := X.base) I.ok.mod.kin kp (thn (ha.run pos pins s σ H _ I h) fun us s1 ⟨vs, H1, I1, r, q⟩ => ⟨I1.kIn, ?_⟩) he hpl
  have hl : us.length = ps.length := by rw [← r.length]; exact F.len _ _ _ _ _ q
  have b := hb s1 us I1.kIn (by rw [List.append_nil]; exact hl)
  rw [List.append_nil] at b
  have P1 := I1.pin pr (List.mem_append_left _ hp)
  have hpin : L2H.PinOk X.stack H1 s1 pr := ⟨P1.1, P1.2.1, fun hm => (List.mem_cons.mp (I1.stkSub pr.1 hm)).elim P1.2.2.1 P1.2.2.2.1, P1.2.2.2.2⟩
  refine wpAny_call (codeAny_mono (F.run pr X.A X.stack s1 H1 ⟨us, []⟩ us vs Q E0 hr hpin I1.env0 b r q) fun r s' hq => ?_)
  cases r with
  | error e => exact pass0 pins σ H1 s1 e s' I1 hq
  | ok fl =>
    cases fl with
    | ret u => exact I1.after hq
    | next => exact False.elim hq
    | brk => exact False.elim hq
    | cont => exact False.elim hq
def tCx (sp : Sp) (W : WX) (t : TA) : TE := fun σ H Q => t σ H fun vs H1 => sp vs H1 Q (WE W σ)
theorem pe_cx {sp : Sp} {W : WX} (c : CalX X.prog X.w X.K X.mg X.base k x sp) (hr : Room j X.A) (hk : k ≤ j) (tk : Takes X W) (hg : Gl X x) (ha : PA X (e :: es) t)
    (hdb : (x == ("__debug__" : Str)) = false := by decide) (he : starEach (e :: es) X.env = (false, eval e X.env) :: starEach es X.env := by rfl) (hpl : (backTo pos (starEach es X.env)).any (·.1) = false := by rfl) :
    PE X (.Call (.Name x p) (e :: es) [] pos) (tCx sp W t) := by
  obtain ⟨f, fd, ps, F, hm, kp, hb⟩ := c.ex
  refine ⟨fun pins s σ H Q I h => ?_⟩
  refine wpAny_Call_Name_kw (ld_glob I hg hm ?_ hdb)
  refine PySem.W.callWith_K (h₀ := X.base) I.ok.mod.kin kp (thn (ha.run pos pins s σ H _ I h) fun us s1 ⟨vs, H1, I1, r, q⟩ => ⟨I1.kIn, ?_⟩) he hpl
  exact run_fnS F (hr.mono hk) hb (passAt tk σ) I1 r q
end
/-! ### != of two built-in types -/
section
variable {M : Model} {A : Around} {E : Value → Shared → Prop} {s : Shared}
theorem richNe_decline {a b : Value} {T id : String} {k : Bool} {Q : Value → Shared → Prop} (ha : ∀ s' : Shared, s'.TypeIs a T) (hb : ∀ s' : Shared, s'.TypeIs b T)
    (h1 : Slot T (cmpInfo .NotEq).2.1 id) (h2 : Slot T (cmpInfo .NotEq).2.2 id) (hv : [a, b].any Value.onHeap = false) (hk : isSame a b = pure k)
    (hc : wpAny M A (call (.builtin id) [a, b]) (fun v s₁ => v = .notImplemented ∧ wpAny M A (call (.builtin id) [b, a]) (fun v s₂ => v = .notImplemented ∧ Q (.bool !k) s₂) E s₁) E s) :
    wpAny M A (richCompare .NotEq a b) Q E s := by
  rcases hi : cmpInfo CmpOp.NotEq with ⟨sym, f, r⟩
  rw [hi] at h1 h2
  simp only [richCompare, hi, (ha s).oneThing_none]
  try with_reducible refine wpAny_holding ?_
  refine wpAny_bind (wpAny_cRoomFor_or (.inl hv) ?_)
  refine wpAny_bind (wpAny_typeOf (ha s) (wpAny_bind (wpAny_typeOf (hb s) ?_)))
  simp only [bne_self_eq_false, Bool.false_eq_true, if_false, pure_bind, Bool.not_false, if_true]
  refine wpAny_bind (m := tryCompare a _ b) (wpAny_tryCompare_declines (ha s) h1 (wpAny_mono hc (fun v s₁ h₁ => ⟨h₁.1, ?_⟩) fun _ _ x => x))
  refine wpAny_bind (m := tryCompare b _ a) (wpAny_tryCompare_declines (hb s₁) h2 (wpAny_mono h₁.2 (fun v s₂ h₂ => ⟨h₂.1, ?_⟩) fun _ _ x => x))
  first
    | exact wpAny_bind (wpAny_rule (wpAny_bind (wpAny_of_eq hk (wpAny_pure h₂.2))))
    | exact wpAny_bind (wpAny_of_eq hk (wpAny_pure h₂.2))
end
section
variable {prog : Program} {w : World} {A : Around} {E : Value → Shared → Prop} {s : Shared} {Q : Value → Shared → Prop}
theorem slot_type_ne2 : Slot "type" (cmpInfo .NotEq).2.2 "object.__ne__" := slot_type_ne
theorem call_object_ne {X Y : String} (hX : ∀ s' : Shared, s'.TypeIs (.type X) "type") (hne : (Value.type X == Value.type Y) = false) (h : Q .notImplemented s) : wpAny (model prog w) A (call (.builtin "object.__ne__") [.type X, .type Y]) Q E s := by
  refine wpAny_call_entry slot_type_ne (hX s) F.entry_object_ne ?_ (F.args_object_ne_2 _ _)
  unfold Builtin.«object.__ne__»
  refine wpAny_bind (m := slotArgs "__ne__" 1 _) (wpAny_of_eq (a := ((Value.type X : Value), [Value.type Y])) (by first | rfl | (simp only [slotArgs]; rfl)) ?_)
  refine wpAny_bind (wpAny_cRoomFor_or (.inl rfl) ?_)
  refine wpAny_bind (m := callSpecialIfBound? (.type X) (Str.ofString "__eq__") [.type Y]) (wpAny_callSpecialIfBound?_slot (hX s) PySem.TypeEq.slot_type_eq
    (call_gives PySem.TypeEq.slot_type_eq (hX s) F.entry_object_eq (F.args_object_eq_2 _ _) (PySem.TypeEq.object_eq_other rfl hne) ?_))
  first
    | exact wpAny_pure ⟨_, rfl, h⟩
    | exact wpAny_pure h
    | exact wpAny_pure ⟨_, rfl, rfl, h⟩
theorem ne_type_other {X Y : String} (hX : ∀ s' : Shared, s'.TypeIs (.type X) "type") (hY : ∀ s' : Shared, s'.TypeIs (.type Y) "type") (hne : (Value.type X == Value.type Y) = false) (hne' : (Value.type Y == Value.type X) = false) (h : Q (.bool true) s) : wpAny (model prog w) A (compareOp .NotEq (.type X) (.type Y)) Q E s := by
  show wpAny _ A (richCompare .NotEq _ _) Q E s
  exact richNe_decline (T := "type") (k := false) hX hY slot_type_ne slot_type_ne2 rfl (by rw [isSame_plain rfl, hne]) (call_object_ne hX hne ⟨rfl, call_object_ne hY hne' ⟨rfl, h⟩⟩)
end
def rNeTyG : R2 := fun x y H Q => (∃ a, x = .ty a ∧ y = .ty a ∧ (∀ s' : Shared, s'.TypeIs (.type a) "type") ∧ Q (.bl false) H) ∨ ∃ a b, x = .ty a ∧ y = .ty b ∧ (∀ s' : Shared, s'.TypeIs (.type a) "type") ∧ (∀ s' : Shared, s'.TypeIs (.type b) "type") ∧ (Value.type a == Value.type b) = false ∧ (Value.type b == Value.type a) = false ∧ Q (.bl true) H
theorem op_neTyG {X : Cx} : OpR X (compareOp .NotEq) rNeTyG := by
  intro pins s σ H x y v u Q I rx ry h
  rcases h with ⟨a, rfl, rfl, ha, q⟩ | ⟨a, b, rfl, rfl, ha, hb, n1, n2, q⟩
  · cases (show v = Value.type a from rx)
    cases (show u = Value.type a from ry)
    exact ne_type_same ha ⟨.bl false, H, I, rfl, q⟩
  · cases (show v = Value.type a from rx)
    cases (show u = Value.type b from ry)
    exact ne_type_other ha hb n1 n2 ⟨.bl true, H, I, rfl, q⟩
/-! ### xs[i] op= e; one sign * n -/
def rGetL (K : PySem.W.Frag) : V → V → Hp → VK → Prop := fun o i H Q => ∃ p xs j v, o = .ref p ∧ i = .int j ∧ SqL K H p xs ∧ 0 ≤ j ∧ atI xs j = some v ∧ Q v H
theorem get_list {X : Cx} : PGet X (rGetL X.K) := by
  intro pins s σ H o i ov iv Q I ro ri h
  obtain ⟨p, xs, k, z, rfl, rfl, hq, h0, he, q⟩ := h
  cases ro
  obtain ⟨t, rfl⟩ := ri
  obtain ⟨its, r, pl, hz⟩ := I.list hq
  obtain ⟨j, h1, h2, h3, h4, h5⟩ := atI_get he
  obtain ⟨w, ew, rw'⟩ := r.get h2
  have hj : k.toNat = j := by
    rw [seqIndex_of h0 h5] at h1
    exact Option.some.inj h1
  have hl := r.length
  have hn := line63
  exact wpAny_getItem_list pl.isList h0 (by omega) (by rw [hj]; simpa using ew) ⟨z, H, I, rw', q⟩
theorem op_repA {X : Cx} : OpR X (binaryOp .Mult) (fun x y H Q => ∃ (z : Str) (n : Nat), x = .str z ∧ y = .int (n : Int) ∧ z.length = 1 ∧ n ≤ 1000 ∧ ∀ y, Q (.str y) H) := by
  intro pins s σ H x y v u Q I r1 r2 h
  obtain ⟨z, n, e1, e2, hz, hn, q⟩ := h
  subst e1; subst e2
  obtain ⟨t, rfl⟩ := r1
  obtain ⟨t', rfl⟩ := r2
  refine PySem.P.mul_str ?_ (fun c _ => ?_) (fun _ _ => ?_) ?_
  · rw [decide_eq_false (show ¬ (n : Int) < -(2 ^ 63 : Int) by omega), decide_eq_false (show ¬ (n : Int) ≥ 2 ^ 63 by omega)]
    rfl
  · rw [hz]
    have := (Int.le_ediv_iff_mul_le (show (0 : Int) < n by omega)).mpr (show ((1 : Nat) : Int) * (n : Int) ≤ 2 ^ 63 - 1 by omega)
    omega
  · rw [hz]
    unfold Builtin.Str.tooLong
    refine decide_eq_false ?_
    have e : (n : Int).toNat = n := rfl
    have z := zs (show n ≤ 100000 by omega)
    omega
  · by_cases h0 : n = 0
    · subst h0
      rw [if_pos (by decide)]
      exact ⟨by decide, .str _, H, I.tok _, ⟨_, rfl⟩, q _⟩
    · rw [if_neg (show ¬ (n : Int) < 1 by omega), hz]
      by_cases h1 : n = 1
      · subst h1
        rw [if_pos (by rfl)]
        exact ⟨.str _, H, I, ⟨_, rfl⟩, q _⟩
      · have hb : ((n : Int) == 1 || (1 : Nat) == 0) = false := by
          rw [beq_eq_false_iff_ne.mpr (show (n : Int) ≠ 1 by omega)]
          rfl
        rw [hb, if_neg Bool.false_ne_true]
        refine ⟨?_, .str _, H, I.tok _, ⟨_, rfl⟩, q _⟩
        have f0 := foldl_repN z.cps.toList n []
        rw [List.nil_append] at f0
        have e : (n : Int).toNat = n := rfl
        have e3 : z.cps = z.cps.toList.toArray := rfl
        rw [e]
        have f1 : List.foldl (fun x1 x2 => x1 ++ x2) #[] (List.replicate n z.cps) = ((List.replicate n z.cps.toList).flatten).toArray := f0
        show (List.foldl (fun (x1 x2 : Array Nat) => x1 ++ x2) #[] (List.replicate n z.cps)).size ≤ _
        rw [f1, List.size_toArray]
        have : ∀ m : Nat, ((List.replicate m z.cps.toList).flatten).length = m := fun m => by
          induction m with
          | zero => rfl
          | succ m ih =>
            rw [List.replicate_succ, List.flatten_cons, List.length_append, ih]
            have : z.cps.toList.length = 1 := hz
            omega
        rw [this]
        exact zs (by omega)
end Lp
set_option Elab.async false
set_option linter.all false
set_option maxRecDepth 100000
set_option maxHeartbeats 1000000
namespace Lp
open PySem PySem.Spec PyProof.Rows L2
/-! ### len(x), y in x: by a method of an own class -/
section
variable {X : Cx} {k j : Nat} {C : Addr} {sp : Sp}
theorem inst_of {pins : List (Addr × Obj)} {σ : L2.St} {H : Hp} {s : Shared} {a dx : Addr} {fs : List (Str × V)} (I : Inv X pins σ H s) (e : H a = some (.ins C dx fs)) : ∃ ox od, PySem.W.InstAt s.heap a ox C od := by
  obtain ⟨mA, O, _⟩ := ins_get I.hok e
  obtain ⟨od, J, _⟩ := O.look
  exact ⟨_, _, J⟩
/-- a call of a method's def, wherever the machine stands -/
theorem run_at {A : Around} {pins : List (Addr × Obj)} {σ : L2.St} {H : Hp} {s : Shared} {f : Addr} {fd : FuncData} {ps : List Str} {us : List Value} {vs : List V} {Q : VK} {E1 : Value → Shared → Prop} (F : FnOk X.prog X.w X.K X.mg X.base CX0 k f fd ps sp) (hr : Room k A) (b : Binds X.K fd ps []) (I : Inv X pins σ H s) (en : Env0 X.prog X.w X.K X.mg X.base A X.stack s H)
    (r : Vals vs us) (q : sp vs H Q E0) : wpAny (model X.prog X.w) A (call (.ref f) us) (EP X pins σ Q) E1 s := by
  have hl : us.length = ps.length := by rw [← r.length]; exact F.len _ _ _ _ q
  have bd := b s us I.kIn (by rw [List.append_nil]; exact hl)
  rw [List.append_nil] at bd
  refine wpAny_call (codeAny_mono (F.run A X.stack s H ⟨us, []⟩ us vs Q E0 hr en bd r q) fun r s' hq => ?_)
  cases r with
  | error e => exact hq.elim
  | ok fl =>
    cases fl with
    | ret u => exact I.after hq
    | next => exact False.elim hq
    | brk => exact False.elim hq
    | cont => exact False.elim hq
def rLenO (C : Addr) (sp : Sp) : List V → Hp → VK → Prop := fun xs H Q => ∃ (a dx : Addr) (fs : List (Str × V)), xs = [.ref a] ∧ H a = some (.ins C dx fs) ∧ sp [.ref a] H (fun v H' => ∃ n : Int, v = .int n ∧ 0 ≤ n ∧ n < 2 ^ 63 ∧ Q (.int n) H') E0
theorem call_lenO (c : Met X.prog X.w X.K X.mg X.base k C "__len__" sp) (hr : Room j X.A) (hk : k + 1 ≤ j) : CallR X (.builtin "len") (rLenO C sp) := by
  intro pins s σ H xs us Q I r h
  obtain ⟨a, dx, fs, rfl, ha, q⟩ := h
  obtain ⟨f, fd, ps, hc, hm, F, b⟩ := c.ex
  obtain ⟨u, rfl, ru⟩ := vals1 r
  cases (show u = Value.ref a from ru)
  obtain ⟨ox, od, J⟩ := inst_of I ha
  refine Calls.call_function_entry PySem.kind_len PySem.plain_len PySem.entry_len (PySem.args_len1 _) ?_
  unfold Builtin.«len»
  refine wpAny_bind (m := oneArg "len" _) (wpAny_pure ?_)
  refine wpAny_bind (m := callSpecial? (.ref a) (Str.ofString "__len__")) (PySem.W.special_fn I.kIn J hm.at_ (beq_iff_eq.mp hm.fn) (wpAny_mono (run_at (A := X.A.in1) (vs := [.ref a]) F (hr.mono hk).in1 b I I.env0.in1 (.cons rfl .nil) q) (fun v s' hv => ?_) fun _ _ z => z))
  obtain ⟨v, H', I', rv, n, rfl, h0, h1, hq⟩ := hv
  obtain ⟨t, rfl⟩ := rv
  refine wpAny_bind (wpAny_holding (wpAny_pure ?_))
  refine wpAny_bind (wpAny_letGo ?_)
  show wpAny _ _ (if n < 0 then _ else _) _ _ _
  rw [if_neg (by omega)]
  show wpAny _ _ (if n ≥ 2 ^ 63 then _ else _) _ _ _
  rw [if_neg (by omega)]
  exact wpAny_bind (wpAny_mkInt (wpAny_pure ⟨_, rfl, .int n, H', I'.tok _, ⟨_, rfl⟩, hq⟩))
def tInO (C : Addr) (sp : Sp) (ty td : TE) (neg : Bool) : TE := fun σ H Q => ty σ H fun y H1 => td σ H1 fun x H2 => ∃ (a dx : Addr) (fs : List (Str × V)), x = .ref a ∧ H2 a = some (.ins C dx fs) ∧ sp [.ref a, y] H2 (fun v H' => ∃ b : Bool, v = .bl b ∧ Q (.bl (if neg then !b else b)) H') E0
theorem pc_inO {i o : Expr} {ty td : TE} (c : Met X.prog X.w X.K X.mg X.base k C "__contains__" sp) (hr : Room j X.A) (hk : k ≤ j) (hi : PE X i ty) (ho : PE X o td) : PC X .In i o (tInO C sp ty td false) := by
  obtain ⟨f, fd, ps, hc, hm, F, b⟩ := c.ex
  refine ⟨fun pins s σ H Q I h => ?_⟩
  refine thn (hi.run pins s σ H _ I h) fun iv s1 ⟨y, H1, I1, ry, q1⟩ => thn (ho.run pins s1 σ H1 _ I1 q1) fun u s2 ⟨x, H2, I2, rx, a, dx, fs, ex, ea, q2⟩ => ?_
  subst ex
  cases (show u = Value.ref a from rx)
  obtain ⟨ox, od, J⟩ := inst_of I2 ea
  refine wpAny_bind ?_
  unfold contains
  refine wpAny_holding (wpAny_bind (wpAny_bind (J.type.here ((PySem.W.looks_findIn I2.kIn hm.at_).here ?_))))
  rw [if_neg (by simp)]
  refine wpAny_bind (PySem.W.unlessNone_K I2.kIn J hm.at_ hm.fn (wpAny_mono (run_at (vs := [.ref a, y]) F (hr.mono hk) b I2 I2.env0 (.cons rfl (.cons ry .nil)) q2) (fun v s' hv => ?_) fun _ _ z => z))
  obtain ⟨v, H', I', rv, b', rfl, hq⟩ := hv
  cases rv
  refine wpAny_of_eq (a := b') (by first | rfl | simp [truthy]) ?_
  exact wpAny_pure ⟨.bl b', H', I', rfl, hq⟩
end
end Lp
namespace Lp
open PySem PySem.Spec PyProof.Rows L2
/-! ### a + b of two instances, by __add__ -/
theorem binop_own {prog : Program} {w : World} {A : Around} {E : Value → Shared → Prop} {s : Shared} {K : PySem.W.Frag} {x C f : Addr} {ox : Obj} {od : Option Obj} {op : Operator} {b : Value} {Q : Value → Shared → Prop} (kin : K.In s.heap) (J : PySem.W.InstAt s.heap x ox C od) (tb : PySem.W.Looks (model prog w) s.heap (typeOf b) (.ref C)) (sf : PySem.W.selfFirst K C = true)
    (at_ : PySem.W.findIn K (.ref C) (PySem.dunder op.info.2) = some (some (.ref f))) (isf : PySem.W.isFn K (.ref f) = true) (go : wpAny (model prog w) A (call (.ref f) [.ref x, b]) (fun v s' => v ≠ .notImplemented ∧ Q v s') E s) : wpAny (model prog w) A (binaryOp op (.ref x) b) Q E s := by
  obtain ⟨cd, e1, e2⟩ := PySem.W.any_some sf
  have e3 : ∃ rest, cd.mro = .ref C :: rest := by
    cases hq : cd.mro with
    | nil =>
      rw [hq] at e2
      cases e2
    | cons u r =>
      rw [hq, List.head?_cons] at e2
      cases (beq_iff_eq.mp e2)
      exact ⟨r, rfl⟩
  obtain ⟨rest, e3⟩ := e3
  unfold binaryOp
  refine wpAny_holding (wpAny_bind ?_)
  unfold binaryOp1
  refine wpAny_bind (J.type.here (wpAny_bind (tb.here (wpAny_bind ((PySem.W.fills_K kin e1 e3 at_).here ?_)))))
  simp only [beq_self_eq_true, if_true]
  refine wpAny_bind (wpAny_pure ?_)
  simp only [Bool.and_false, Bool.false_eq_true, if_false, Bool.false_and]
  refine wpAny_bind (wpAny_pure ?_)
  simp only [Bool.false_eq_true, if_false]
  refine wpAny_bind (m := tryMethod (.ref x) _ b) ?_
  unfold tryMethod
  refine wpAny_bind (PySem.W.special_fn kin J at_ (beq_iff_eq.mp isf) (wpAny_mono go (fun v s' hv => ?_) fun _ _ z => z))
  obtain ⟨nv, hv⟩ := hv
  cases v <;> first | exact absurd rfl nv | exact wpAny_pure (wpAny_pure (wpAny_pure hv))
section
variable {X : Cx} {k j : Nat} {C : Addr} {sp : Sp}
theorem relV_ni {v : V} {u : Value} (r : RelV v u) : u ≠ .notImplemented := by
  intro e
  subst e
  cases v <;> first | (obtain ⟨_, h⟩ := r; cases h) | cases r | (exact nomatch r)
def rAddO (C : Addr) (sp : Sp) : R2 := fun x y H Q => ∃ (a b dx dy : Addr) (fs gs : List (Str × V)), x = .ref a ∧ y = .ref b ∧ H a = some (.ins C dx fs) ∧ H b = some (.ins C dy gs) ∧ sp [.ref a, .ref b] H Q E0
theorem op_addO (c : Met X.prog X.w X.K X.mg X.base k C "__add__" sp) (hr : Room j X.A) (hk : k ≤ j) (sf : PySem.W.selfFirst X.K C = true) : OpR X (binaryOp .Add) (rAddO C sp) := by
  intro pins s σ H x y v u Q I rx ry h
  obtain ⟨a, b, dx, dy, fs, gs, rfl, rfl, ha, hb, q⟩ := h
  obtain ⟨f, fd, ps, hc, hm, F, bd⟩ := c.ex
  cases (show v = Value.ref a from rx)
  cases (show u = Value.ref b from ry)
  obtain ⟨ox, od, J⟩ := inst_of I ha
  obtain ⟨ox2, od2, J2⟩ := inst_of I hb
  refine binop_own I.kIn J J2.type sf hm.at_ hm.fn (wpAny_mono (run_at (vs := [.ref a, .ref b]) F (hr.mono hk) bd I I.env0 (.cons rfl (.cons rfl .nil)) q) (fun w s' hw => ?_) fun _ _ z => z)
  exact ⟨by obtain ⟨z, _, _, r, _⟩ := hw; exact relV_ni r, hw⟩
end
end Lp
namespace Lp
open PySem PySem.Spec PyProof.Rows L2
/-! ### a == b of two instances, by __eq__ -/
theorem eq_own {prog : Program} {w : World} {A : Around} {E : Value → Shared → Prop} {s : Shared} {K : PySem.W.Frag} {x C f : Addr} {ox : Obj} {od : Option Obj} {op : CmpOp} {b tb : Value} {Q : Value → Shared → Prop} (hu : A.units < cLine) (kin : K.In s.heap) (J : PySem.W.InstAt s.heap x ox C od) (tyb : PySem.W.Looks (model prog w) s.heap (typeOf b) tb)
    (nf : PySem.W.notFirst K C tb = true) (at_ : PySem.W.findIn K (.ref C) (cmpInfo op).2.1 = some (some (.ref f))) (isf : PySem.W.isFn K (.ref f) = true) (go : wpAny (model prog w) A (call (.ref f) [.ref x, b]) (fun v s' => v ≠ .notImplemented ∧ Q v s') E s) : wpAny (model prog w) A (richCompare op (.ref x) b) Q E s := by
  have mine : wpAny (model prog w) A (tryCompare (.ref x) (cmpInfo op).2.1 b) (fun r s' => ∃ v, r = some v ∧ Q v s') E s := by
    unfold tryCompare
    refine wpAny_bind (PySem.W.ifBound_K kin J at_ isf (wpAny_mono go (fun v s' hv => ?_) fun _ _ z => z))
    obtain ⟨nv, hv⟩ := hv
    cases v <;> first | exact absurd rfl nv | exact wpAny_pure ⟨_, rfl, hv⟩
  have last : ∀ {g : Option Value → Sem Value}, (∀ v, g (some v) = pure v) → wpAny (model prog w) A (tryCompare (.ref x) (cmpInfo op).2.1 b >>= g) Q E s := fun {g} hg => wpAny_bind (wpAny_mono mine (fun r s' ⟨v, er, hq⟩ => by rw [er, hg]; exact wpAny_pure hq) fun _ _ z => z)
  unfold richCompare
  simp only [oneThing_ref]
  refine wpAny_holding (wpAny_bind (wpAny_cRoomFor hu ?_))
  refine wpAny_bind (J.type.here (wpAny_bind (tyb.here ?_)))
  split
  · rename_i q
    have sb : PySem.W.subIn K tb (.ref C) = some false := by
      rcases Bool.or_eq_true_iff.mp nf with z | z
      · rw [beq_iff_eq.mp z] at q
        simp at q
      · exact beq_iff_eq.mp z
    refine wpAny_bind ((PySem.W.looks_subIn kin sb).here ?_)
    simp only [Bool.false_eq_true, if_false]
    exact last fun v => rfl
  · refine wpAny_bind (wpAny_pure ?_)
    simp only [Bool.false_eq_true, if_false]
    exact last fun v => rfl
section
variable {X : Cx} {k j : Nat} {C : Addr} {sp : Sp}
theorem op_eqO (c : Met X.prog X.w X.K X.mg X.base k C "__eq__" sp) (hr : Room j X.A) (hk : k ≤ j) (nf : PySem.W.notFirst X.K C (.ref C) = true) : OpR X (compareOp .Eq) (rAddO C sp) := by
  intro pins s σ H x y v u Q I rx ry h
  obtain ⟨a, b, dx, dy, fs, gs, rfl, rfl, ha, hb, q⟩ := h
  obtain ⟨f, fd, ps, hc, hm, F, bd⟩ := c.ex
  cases (show v = Value.ref a from rx)
  cases (show u = Value.ref b from ry)
  obtain ⟨ox, od, J⟩ := inst_of I ha
  obtain ⟨ox2, od2, J2⟩ := inst_of I hb
  have hu : X.A.units < cLine := by have := hr.units; omega
  show wpAny _ X.A (richCompare .Eq _ _) _ _ s
  refine eq_own (op := .Eq) hu I.kIn J J2.type nf hm.at_ hm.fn (wpAny_mono (run_at (vs := [.ref a, .ref b]) F (hr.mono hk) bd I I.env0 (.cons rfl (.cons rfl .nil)) q) (fun w s' hw => ?_) fun _ _ z => z)
  exact ⟨by obtain ⟨z, _, _, r, _⟩ := hw; exact relV_ni r, hw⟩
end
end Lp
set_option Elab.async false
set_option linter.all false
set_option maxRecDepth 100000
set_option maxHeartbeats 1000000
namespace Lp
open PySem PySem.Spec PyProof.Rows L2
/-! ### x(e, ..) of an instance, by __call__ -/
theorem inst_plain {X : Cx} {C : Addr} {pins : List (Addr × Obj)} {σ : L2.St} {H : Hp} {s : Shared} {a dx : Addr} {fs : List (Str × V)} (I : Inv X pins σ H s) (e : H a = some (.ins C dx fs)) : ∃ ox od, PySem.W.InstAt s.heap a ox C od ∧ ox.data = .plain := by
  obtain ⟨mA, O, _⟩ := ins_get I.hok e
  obtain ⟨od, J, _⟩ := O.look
  exact ⟨_, _, J, rfl⟩
theorem callWith_obj {M : Model} {A : Around} {E : Value → Shared → Prop} {s : Shared} {pos : Pos} {x : Addr} {first : List Value} {Q : Value → Shared → Prop} {args : List (Bool × Sem Value)} {kws : List (Option Str × Sem Value)} (hp : (args.any (·.1) || kws.any (·.1.isNone)) = false)
    (h : wpAny M A (evalArgs (.ref x) true args kws) (fun a s₁ => (∃ C ox od, PySem.W.InstAt s₁.heap x ox C od ∧ ox.data = .plain) ∧ wpAny M A (call (.ref x) (first ++ a.pos) a.kw) Q E s₁) E s) : wpAny M A (callWith pos (.ref x) first args kws) Q E s := by
  unfold callWith
  refine wpAny_bind (wpAny_holding (wpAny_mono h (fun a s₁ ⟨⟨C, ox, od, J, hd⟩, hq⟩ => wpAny_bind (wpAny_standAt ?_)) fun _ _ z => z))
  have kl := PySem.W.kco_keeper (M := M) J hd
  simp only [hp]
  refine wpAny_bind (kl.here ?_)
  have tl : ∀ {t : Sem Value}, wpAny M A t Q E s₁ → wpAny M A (t >>= fun r => holding [r] point >>= fun _ => pure r) Q E s₁ :=
    fun ht => wpAny_bind (wpAny_mono ht (fun r s₂ hr => wpAny_bind (wpAny_holding (wpAny_point (wpAny_pure hr)))) fun _ _ z => z)
  exact tl (wpAny_operateT hq)
section
variable {X : Cx} {k j i : Nat} {C : Addr} {sp : Sp} {x : Str} {p pos : Pos} {e : Expr} {es : List Expr} {t : TA}
def tCallO (i : Nat) (C : Addr) (sp : Sp) (t : TA) : TE := fun σ H Q => ∃ a : Addr, σ[i]? = some (some (.ref a)) ∧ t σ H fun vs H1 => ∃ (dx : Addr) (fs : List (Str × V)), H1 a = some (.ins C dx fs) ∧ sp (.ref a :: vs) H1 Q E0
theorem pe_callO (c : Met X.prog X.w X.K X.mg X.base k C "__call__" sp) (fi : ∀ f, PySem.W.findIn X.K (.ref C) "__call__" = some (some (.ref f)) → PySem.W.fnIn X.K f = true) (hr : Room j X.A) (hk : k ≤ j) (hN : X.N[i]? = some x) (hv : Vis X.env.scope x) (ha : PA X (e :: es) t)
    (hdb : (x == ("__debug__" : Str)) = false := by decide) (hcd : (x == ("__classdict__" : Str)) = false := by decide)
    (he : starEach (e :: es) X.env = (false, eval e X.env) :: starEach es X.env := by rfl) (hpl : (backTo pos (starEach es X.env)).any (·.1) = false := by rfl) : PE X (.Call (.Name x p) (e :: es) [] pos) (tCallO i C sp t) := by
  obtain ⟨f, fd, ps, hc, hm, F, b⟩ := c.ex
  refine ⟨fun pins s σ H Q I h => ?_⟩
  obtain ⟨a, hs, ht⟩ := h
  refine wpAny_Call_Name_kw (thn ((pe_var (pos := p) hN hv hdb hcd).run pins s σ H (fun v H1 => v = .ref a ∧ H1 = H) I ⟨.ref a, hs, rfl, rfl⟩) fun u s1 ⟨v, H1, I1, r1, q1⟩ => ?_)
  obtain ⟨rfl, rfl⟩ := q1
  cases r1
  have go := ha.run pos pins s1 σ _ _ I1 ht
  rw [he] at go ⊢
  refine callWith_obj (by show ((false || (backTo pos (starEach es X.env)).any (·.1)) || false) = false; rw [hpl]; rfl) (Calls.evalArgs_plain ?_)
  refine thn go fun us s2 ⟨vs, H2, I2, r, dx, fs, ea, q⟩ => ?_
  obtain ⟨ox, od, J, hd⟩ := inst_plain I2 ea
  refine ⟨⟨C, ox, od, J, hd⟩, ?_⟩
  have rr : Vals (.ref a :: vs) (.ref a :: us) := .cons rfl r
  have hl : (Value.ref a :: us).length = ps.length := by rw [← rr.length]; exact F.len _ _ _ _ q
  have bd := b s2 (.ref a :: us) I2.kIn (by rw [List.append_nil]; exact hl)
  rw [List.append_nil] at bd
  refine wpAny_call (PySem.W.kco_code I2.kIn J hd hm.at_ hm.fn (fi f hm.at_) (codeAny_mono (F.run X.A X.stack s2 H2 ⟨.ref a :: us, []⟩ (.ref a :: us) (.ref a :: vs) Q E0 (hr.mono hk) I2.env0 bd rr q) fun r s' hq => ?_))
  cases r with
  | error e => exact hq.elim
  | ok fl =>
    cases fl with
    | ret u => exact I2.after hq
    | next => exact False.elim hq
    | brk => exact False.elim hq
    | cont => exact False.elim hq
end
end Lp
set_option Elab.async false
set_option linter.all false
set_option maxRecDepth 100000
set_option maxHeartbeats 1000000
namespace Lp
open PySem PySem.Spec PyProof.Rows L2
/-! ### sorted(d) of a dict with int keys, any number of them -/
def rSortedDIO : List V → Hp → VK → Prop := fun xs H Q => ∃ (a : Addr) (kvs : List (Key × V)) (ks : List Int), xs = [.ref a] ∧ Rd H a (.dK kvs) ∧ kvs.map (·.1) = ks.map Sum.inl ∧
  ∀ (ys : List Int) (p : Addr), ys.Perm ks → ys.Pairwise (· ≤ ·) → H p = none → Q (.ref p) (upd H p (.lst (ys.map V.int)))
theorem call_sortedDIO {X : Cx} (hcalm : X.calm = true) : CallR X (.builtin "sorted") rSortedDIO := by
  intro pins s σ H xs us Q I r q
  obtain ⟨a, kvs, ks, ex, hd, hks, q⟩ := q
  subst ex
  obtain ⟨u, eu, rx⟩ := vals1 r
  subst eu
  cases rx
  obtain ⟨z, lo, vs, rel, dd⟩ := dk_rd I.hok hd
  obtain ⟨ep, hat⟩ := dd.dictAt
  have hkeys : vs.map (·.1) = ks.map Sum.inl := rel.keys.symm.trans hks
  have hl : vs.length = ks.length := by
    have e := congrArg List.length hkeys
    rw [List.length_map, List.length_map] at e
    exact e
  have hl2 : kvs.length = ks.length := by
    have e := congrArg List.length hks
    rw [List.length_map, List.length_map] at e
    exact e
  have h16 : vs.length ≤ sizeLine := by rw [hl, ← hl2]; exact z
  refine Calls.call_function_entry PyProof.Rows.kind_sorted PyProof.Rows.plain_sorted PyProof.Rows.entry_sorted (PyProof.Rows.args_sorted1 _) ?_
  unfold Builtin.«sorted»
  refine wpAny_bind (m := checkCount "sorted" 1 1 _) (wpAny_pure ?_)
  refine wpAny_bind (PySem.W.kdu_collect (A := X.A.in1) (PySem.W.kdl_dict (knd := mixKind X.prog X.w) (kvs := vs) (ep := ep) lo) (I.ok.hd hcalm) hat h16 fun h' tk acc hk hacc => ?_)
  have hal : acc.toList.length = ks.length := by rw [Array.length_toList, hacc.1, hl]
  have hS : IntsAre acc.toList ks := ints_each hal fun j v e => by
    obtain ⟨k, x, e1, e2⟩ := hacc.2 j v (by rw [← Array.getElem?_toList]; exact e)
    have e3 : (vs.map (·.1))[j]? = some k := by rw [List.getElem?_map, e1]; rfl
    rw [hkeys, List.getElem?_map] at e3
    cases e4 : ks[j]? with
    | none => rw [e4] at e3; cases e3
    | some y =>
      rw [e4] at e3
      have e5 : Sum.inl y = k := Option.some.inj e3
      subst e5
      rcases keyIs_shape (show keyIs (Sum.inl y) v = true from e2) with ⟨i, t, ek, ev⟩ | ⟨z, t, ek, ev⟩
      · cases ek
        exact ⟨y, t, rfl, ev⟩
      · cases ek
  have I1 : Inv X pins σ H { s with heap := h', toks := tk } := I.kept hk
  have hz2 : acc.toList.length ≤ sizeLine := by rw [hal, ← hl2]; exact z
  refine wpAny_bind (wpAny_newList ?_ hz2)
  have hoL : (h'.push (seqObj "list" acc.toList.toArray 0)).get? h'.objs.size = some (seqObj "list" acc.toList.toArray 0) := Heap.get?_push_size _ rfl
  show wpAny _ _ _ _ _ { s with heap := h'.push (seqObj "list" acc.toList.toArray 0), toks := tk }
  refine wpAny_bind (wpAny_holding (wpAny_call_entry PyProof.Rows.slot_list_sort ⟨_, hoL, rfl⟩ PyProof.Rows.entry_list_sort
    (SrtO.list_sort_ord (s := { s with heap := h'.push (seqObj "list" acc.toList.toArray 0), toks := tk }) SrtO.swo_int hoL hz2 (fun h2 => SrtO.ints_sortable hS h2) fun out g1 g2 => ⟨_, rfl, ?_⟩) (PyProof.Rows.args_list_sort _)))
  obtain ⟨k1, k2, k3⟩ := SrtO.ints_out hS g1 g2
  obtain ⟨e', he'⟩ := PyProof.Rows.sortedHeap_at (vs := acc.toList) (out := out.toArray) hoL
  have hlen : ((out.map SrtO.iv).map V.int).length ≤ sizeLine := by
    rw [List.length_map, k2.length_eq, ← hl2]
    exact z
  refine wpAny_pure ⟨_, rfl, .ref h'.objs.size, upd H h'.objs.size (.lst ((out.map SrtO.iv).map V.int)), I1.laid (t' := tk) (fun b u e => ?_) (Nat.le_refl _)
    (show ObjOk X.prog X.w _ _ _ (.lst ((out.map SrtO.iv).map V.int)) from ⟨hlen, out, e', vals_of_ints k1, he'⟩), rfl, q _ _ k2 k3 (I1.hok.fresh (Nat.le_refl _))⟩
  have hb : b < h'.objs.size := Heap.lt_size e
  rw [PyProof.Rows.sortedHeap_old (Nat.ne_of_lt hb) (by rw [size_push']; exact Nat.lt_succ_of_lt hb)]
  exact Heap.get?_push_of_some _ e
end Lp
set_option Elab.async false
set_option linter.all false
set_option maxRecDepth 100000
set_option maxHeartbeats 1000000
namespace Lp
open PySem PySem.Spec PyProof.Rows L2 L2.DX
/-! ### d.items() and sorted(d.items()) of a dict of ints by ints, any number of them -/
def rItemsI : V → List V → Hp → VK → Prop := fun x xs H Q => ∃ (a : Addr) (kvs : List (Key × V)), x = .ref a ∧ xs = [] ∧ H a = some (.dK kvs) ∧ ∀ p, H p = none → Q (.ref p) (upd H p (itemsO p a))
theorem mt_itemsI {X : Cx} : MtR X "dict.items" rItemsI := by
  intro pins s σ H x xs v us Q I rx rxs h
  obtain ⟨a, kvs, rfl, rfl, ha, q⟩ := h
  cases rx
  cases rxs
  obtain ⟨z, hd, vs, rel, dd⟩ := dk_of I.hok ha
  obtain ⟨o, es, ep, ho, hx, hdat, _⟩ := dd
  refine DT.callItems (es := es) (ep := ep) hd ⟨o, ho, hx, hdat⟩ ?_
  have hf : H s.heap.objs.size = none := I.hok.fresh (Nat.le_refl _)
  exact ⟨.ref s.heap.objs.size, upd H s.heap.objs.size (itemsO s.heap.objs.size a), I.laid (t' := s.toks) (fun b u e => Heap.get?_push_of_some _ e) (Nat.le_refl _) (itemsO_ok (Heap.get?_push_size _ rfl)), rfl, q _ hf⟩
abbrev entI (e : Int × Int) : Key × V := (Sum.inl e.1, V.int e.2)
def rSortItI : List V → Hp → VK → Prop := fun vs H Q => ∃ (p a : Addr) (ks : List (Int × Int)), vs = [.ref p] ∧ H p = some (itemsO p a) ∧ H a = some (.dK (ks.map entI)) ∧
  ∀ (H' : Hp) (l : Addr) (ps : List (Addr × Int × Int)), (∀ b o, H b = some o → H' b = some o) → (ps.map (·.2)).Perm ks → (ps.map (·.2)).Pairwise (fun e f => e.1 ≤ f.1) → H' l = some (.lst (ps.map fun z => V.ref z.1)) →
    (∀ z ∈ ps, H' z.1 = some (.tup [.int z.2.1, .int z.2.2])) → H l = none → (∀ z ∈ ps, H z.1 = none) → Q (.ref l) H'
def pairOf (as : List Addr) (ks : List (Int × Int)) : Value → Int × Int
  | .ref b => (ks[as.idxOf b]?).getD (0, 0)
  | _ => (0, 0)
theorem pairOf_at {as : List Addr} {ks : List (Int × Int)} (nd : as.Nodup) {j : Nat} {b : Addr} {e : Int × Int} (hj : as[j]? = some b) (he : ks[j]? = some e) : pairOf as ks (.ref b) = e := by
  obtain ⟨hl, hb⟩ := List.getElem?_eq_some_iff.mp hj
  have hi : as.idxOf b = j := by
    subst hb
    exact nd.idxOf_getElem j hl
  show (ks[as.idxOf b]?).getD (0, 0) = e
  rw [hi, he]
  rfl
theorem pairOf_all {as : List Addr} {ks : List (Int × Int)} (nd : as.Nodup) (hl : as.length = ks.length) : as.map (fun b => pairOf as ks (.ref b)) = ks := by
  refine List.ext_getElem? fun j => ?_
  rw [List.getElem?_map]
  cases hj : as[j]? with
  | none =>
    have h1 := List.getElem?_eq_none_iff.mp hj
    exact (List.getElem?_eq_none (by omega)).symm
  | some b =>
    obtain ⟨h1, _⟩ := List.getElem?_eq_some_iff.mp hj
    have he : ks[j]? = some (ks[j]'(by omega)) := List.getElem?_eq_getElem (by omega)
    rw [he]
    exact congrArg some (pairOf_at nd hj he)
def adOf : Value → Addr
  | .ref b => b
  | _ => 0
theorem adOf_ref : ∀ {out : List Value}, (∀ v ∈ out, ∃ b, v = Value.ref b) → out = (out.map adOf).map Value.ref
  | [], _ => rfl
  | v :: out, h => by
    obtain ⟨b, rfl⟩ := h v List.mem_cons_self
    show Value.ref b :: out = Value.ref b :: (out.map adOf).map Value.ref
    rw [← adOf_ref fun u hu => h u (List.mem_cons_of_mem _ hu)]
theorem adOf_map (as : List Addr) : (as.map Value.ref).map adOf = as := by
  rw [List.map_map]
  exact List.map_id as
theorem cr_sortedItemsI {X : Cx} (hc : X.calm = true) : CallR X (.builtin "sorted") rSortItI := by
  intro pins s σ H xs us Q I r h
  obtain ⟨p, a, ks, rfl, hp, ha, q⟩ := h
  obtain rfl := Vals.ref1 r
  have view : s.heap.IsItemsView p a := (show ObjOk X.prog X.w H s.heap p (itemsO p a) from I.hok p _ hp).1
  obtain ⟨z, hd, vs, rel, o, es, ep, ho, hx, hdat, hes, hprs, hn⟩ := dk_of I.hok ha
  have l1 : (ks.map entI).length = vs.length := rel.length
  have l0 : (ks.map entI).length = ks.length := List.length_map ..
  have l2 : es.size = vs.length := by rw [← hprs.length]; simp
  have hh : X.A.handled = none := I.ok.hd hc
  refine DT.sortedI (es := es) (ep := ep) hh view ⟨o, ho, hx, hdat⟩ (by omega) fun h' tk as hk hlt hl hG => ?_
  have lak : as.length = ks.length := by omega
  have nd : as.Nodup := List.Pairwise.imp (fun h => Nat.ne_of_lt h) hG.rise
  -- the pairs that were made
  have pr : ∀ (j : Nat) (b : Addr), as[j]? = some b → ∃ (e : Int × Int) (t1 t2 : Tok), ks[j]? = some e ∧ h'.get? b = some { cls := .type "tuple", data := .seq #[Value.int e.1 t1, Value.int e.2 t2] } := by
    intro j b hj
    obtain ⟨en, he, hg⟩ := hG.pairs j b hj
    obtain ⟨hjl, _⟩ := List.getElem?_eq_some_iff.mp hj
    have hkj : ks[j]? = some (ks[j]'(by omega)) := List.getElem?_eq_getElem (by omega)
    have hvj : vs[j]? = some (vs[j]'(by omega)) := List.getElem?_eq_getElem (by omega)
    obtain ⟨e1, e2⟩ := hprs.get? (e := en) (by rw [Array.getElem?_toList]; exact he) (show vs[j]? = some ((vs[j]'(by omega)).1, (vs[j]'(by omega)).2) from hvj)
    obtain ⟨x, hx1, hx2⟩ := KV.at' rel (show vs[j]? = some ((vs[j]'(by omega)).1, (vs[j]'(by omega)).2) from hvj)
    rw [List.getElem?_map, hkj] at hx1
    have e3 := Option.some.inj hx1
    have e4 : Sum.inl (ks[j]'(by omega)).1 = (vs[j]'(by omega)).1 := congrArg Prod.fst e3
    have e5 : V.int (ks[j]'(by omega)).2 = x := congrArg Prod.snd e3
    subst e5
    obtain ⟨t2, e6⟩ := hx2
    rw [← e4] at e1
    rcases keyIs_shape (show keyIs (Sum.inl (ks[j]'(by omega)).1) en.key = true from e1) with ⟨i, t, ek, ev⟩ | ⟨z, t, ek, ev⟩
    · cases ek
      refine ⟨_, t, t2, hkj, ?_⟩
      rw [hg, ev, e2, e6]
    · cases ek
  have hob : (h'.push { cls := .type "list", data := .seq (as.map Value.ref).toArray }).get? h'.objs.size = some (seqObj "list" (as.map Value.ref).toArray 0) := Heap.get?_push_size _ rfl
  have kb : ∀ b o, s.heap.get? b = some o → (h'.push { cls := .type "list", data := .seq (as.map Value.ref).toArray }).get? b = some o := fun b o e => Heap.get?_push_of_some _ (hk b o e)
  have ne0 : ∀ b o, h'.get? b = some o → b ≠ h'.objs.size := fun b o e => Nat.ne_of_lt (Heap.lt_size e)
  generalize hh2 : h'.push { cls := .type "list", data := .seq (as.map Value.ref).toArray } = h2 at hob kb ⊢
  have ka : ∀ b o, h'.get? b = some o → h2.get? b = some o := fun b o e => by rw [← hh2]; exact Heap.get?_push_of_some _ e
  have at_ : ∀ v ∈ as.map Value.ref, ∃ (j : Nat) (b : Addr), v = .ref b ∧ as[j]? = some b := by
    intro v hv'
    obtain ⟨b, hb, rfl⟩ := List.mem_map.mp hv'
    obtain ⟨j, hj⟩ := List.mem_iff_getElem?.mp hb
    exact ⟨j, b, rfl, hj⟩
  have isp : ∀ v ∈ as.map Value.ref, Srt.IsPair h2 v (pairOf as ks v).1 (pairOf as ks v).2 := by
    intro v hv'
    obtain ⟨j, b, rfl, hj⟩ := at_ v hv'
    obtain ⟨e, t1, t2, he, hg⟩ := pr j b hj
    rw [pairOf_at nd hj he]
    exact ⟨b, _, t1, t2, _, rfl, ka _ _ hg, rfl, rfl⟩
  have hz2 : (as.map Value.ref).length ≤ sizeLine := by rw [List.length_map]; omega
  refine wpAny_call_entry PyProof.Rows.slot_list_sort ⟨_, hob, rfl⟩ PyProof.Rows.entry_list_sort
    (SrtO.list_sort_ord (s := { s with heap := h2, toks := tk }) (SrtO.swo_lex (pairOf as ks)) hob hz2 (fun h2' => SrtO.pairs_sortableO (s := { s with heap := h2, toks := tk }) (by omega) isp fun o e => ?_) fun out o1 o2 => ⟨.none, rfl, ?_⟩) (PyProof.Rows.args_list_sort _)
  · have e' : some o = some (seqObj "list" (as.map Value.ref).toArray 0) := e.symm.trans hob
    cases e'
    intro c
    exact absurd (Value.type.inj c) (by decide)
  · show EP X pins σ Q (.ref h'.objs.size) { s with heap := sortedHeap h2 h'.objs.size (as.map Value.ref) out.toArray, toks := tk }
    have rfs : ∀ v ∈ out, ∃ b, v = Value.ref b := fun v hv => by
      obtain ⟨_, b, e, _⟩ := at_ v (o2.perm.mem_iff.mp hv)
      exact ⟨b, e⟩
    have eo := adOf_ref rfs
    have pz : (out.map adOf).Perm as := by
      have e := o2.perm.map adOf
      rw [adOf_map] at e
      exact e
    generalize hzs : out.map adOf = zs at eo pz
    have hall := pairOf_all nd lak
    have hperm : (zs.map fun b => pairOf as ks (.ref b)).Perm ks := by
      have e := pz.map fun b => pairOf as ks (.ref b)
      rw [hall] at e
      exact e
    have hsort : (zs.map fun b => pairOf as ks (.ref b)).Pairwise (fun e f => e.1 ≤ f.1) := by
      rw [eo] at o1
      have o3 := List.pairwise_map.mp (show ((zs.map Value.ref).Pairwise fun x y => SrtO.lexB (pairOf as ks y) (pairOf as ks x) = false) from o1)
      refine List.pairwise_map.mpr (o3.imp fun {x y} h => ?_)
      have h' := SrtO.lexB_no.mp h
      omega
    -- behind the sort
    have kF : ∀ b o, b ≠ h'.objs.size → h2.get? b = some o → (sortedHeap h2 h'.objs.size (as.map Value.ref) out.toArray).get? b = some o := fun b o hb e => (PyProof.Rows.sortedHeap_old hb (Heap.lt_size e)).trans e
    have kS : ∀ b o, s.heap.get? b = some o → (sortedHeap h2 h'.objs.size (as.map Value.ref) out.toArray).get? b = some o := fun b o e => kF b o (ne0 _ _ (hk b o e)) (kb b o e)
    obtain ⟨eF, heF⟩ := PyProof.Rows.sortedHeap_at (vs := as.map Value.ref) (out := out.toArray) hob
    have I1 : Inv X pins σ H { s with heap := sortedHeap h2 h'.objs.size (as.map Value.ref) out.toArray, toks := tk } := I.kept (t' := tk) kS
    have hn0 : H h'.objs.size = none := I.hok.fresh (Nat.le_of_lt hlt)
    have hlen : (zs.map fun z => V.ref z).length ≤ sizeLine := by
      have e := hperm.length_eq
      rw [List.length_map] at e
      rw [List.length_map]
      omega
    have rv : Vals (zs.map fun z => V.ref z) out := by
      rw [eo]
      exact vals_maps (fun z : Addr => V.ref z) (fun z => Value.ref z) zs fun _ _ => rfl
    have I2 : Inv X pins σ (upd H h'.objs.size (.lst (zs.map fun z => V.ref z))) { s with heap := sortedHeap h2 h'.objs.size (as.map Value.ref) out.toArray, toks := tk } :=
      I1.take (h' := sortedHeap h2 h'.objs.size (as.map Value.ref) out.toArray) (t' := tk) (fun b ob _ e => e) (I.fpOk (Nat.le_of_lt hlt) hn0) ⟨hlen, out, eF, rv, heF⟩
    obtain ⟨H2, I3, g, qt⟩ := takeT (P := fun b vs => vs = [V.int (pairOf as ks (.ref b)).1, V.int (pairOf as ks (.ref b)).2]) I as _ I2 nd fun b hb => by
      obtain ⟨j, hj⟩ := List.mem_iff_getElem?.mp hb
      obtain ⟨e, t1, t2, he, hg⟩ := pr j b hj
      have hbl : s.heap.objs.size ≤ b := Nat.le_of_lt (hG.above b hb)
      refine ⟨hbl, ?_, _, rfl, fun H3 => ⟨(by rw [sizeLine_eq]; show 2 ≤ 16777216; omega), [Value.int e.1 t1, Value.int e.2 t2], ?_, ⟨_, kF _ _ (ne0 _ _ hg) (ka _ _ hg), rfl, 0, rfl⟩⟩⟩
      · rw [upd_ne (ne0 _ _ hg)]
        exact I.hok.fresh hbl
      · rw [pairOf_at nd hj he]
        exact .cons ⟨t1, rfl⟩ (.cons ⟨t2, rfl⟩ .nil)
    have gr : ∀ b o, H b = some o → H2 b = some o := fun b o e => g b o (by rw [upd_ne (ne_of_none e hn0)]; exact e)
    have em : (zs.map fun b => (b, pairOf as ks (.ref b))).map (·.2) = zs.map fun b => pairOf as ks (.ref b) := by
      rw [List.map_map]
      all_goals rfl
    have em1 : ((zs.map fun b => (b, pairOf as ks (.ref b))).map fun z => V.ref z.1) = zs.map fun z => V.ref z := by
      rw [List.map_map]
      all_goals rfl
    refine ⟨.ref h'.objs.size, H2, I3, rfl, q H2 h'.objs.size (zs.map fun b => (b, pairOf as ks (.ref b))) gr (by rw [em]; exact hperm) (by rw [em]; exact hsort) (by rw [em1]; exact g _ _ upd_same) (fun z' hz' => ?_) hn0 fun z' hz' => ?_⟩
    · obtain ⟨b, hb, rfl⟩ := List.mem_map.mp hz'
      obtain ⟨vs', ev, hH⟩ := qt b (pz.mem_iff.mp hb)
      rw [ev] at hH
      exact hH
    · obtain ⟨b, hb, rfl⟩ := List.mem_map.mp hz'
      exact I.hok.fresh (Nat.le_of_lt (hG.above b (pz.mem_iff.mp hb)))
end Lp
set_option Elab.async false
set_option linter.all false
set_option maxRecDepth 100000
set_option maxHeartbeats 1000000
namespace Lp
open PySem PySem.Spec PyProof.Rows L2
/-! ### y not in x: by __contains__ of an own class -/
section
variable {X : Cx} {k j : Nat} {C : Addr} {sp : Sp}
theorem pc_notinO {i o : Expr} {ty td : TE} (c : Met X.prog X.w X.K X.mg X.base k C "__contains__" sp) (hr : Room j X.A) (hk : k ≤ j) (hi : PE X i ty) (ho : PE X o td) : PC X .NotIn i o (tInO C sp ty td true) := by
  obtain ⟨f, fd, ps, hc, hm, F, b⟩ := c.ex
  refine ⟨fun pins s σ H Q I h => ?_⟩
  refine thn (hi.run pins s σ H _ I h) fun iv s1 ⟨y, H1, I1, ry, q1⟩ => thn (ho.run pins s1 σ H1 _ I1 q1) fun u s2 ⟨x, H2, I2, rx, a, dx, fs, ex, ea, q2⟩ => ?_
  subst ex
  cases (show u = Value.ref a from rx)
  obtain ⟨ox, od, J⟩ := inst_of I2 ea
  refine wpAny_bind ?_
  unfold contains
  refine wpAny_holding (wpAny_bind (wpAny_bind (J.type.here ((PySem.W.looks_findIn I2.kIn hm.at_).here ?_))))
  rw [if_neg (by simp)]
  refine wpAny_bind (PySem.W.unlessNone_K I2.kIn J hm.at_ hm.fn (wpAny_mono (run_at (vs := [.ref a, y]) F (hr.mono hk) b I2 I2.env0 (.cons rfl (.cons ry .nil)) q2) (fun v s' hv => ?_) fun _ _ z => z))
  obtain ⟨v, H', I', rv, b', rfl, hq⟩ := hv
  cases rv
  refine wpAny_of_eq (a := b') (by first | rfl | simp [truthy]) ?_
  exact wpAny_pure ⟨.bl (!b'), H', I', rfl, hq⟩
end
end Lp
set_option Elab.async false
set_option linter.all false
set_option maxRecDepth 100000
set_option maxHeartbeats 1000000
namespace Lp
open PySem PySem.Spec PyProof.Rows L2 L2.DX
/-! ### x(e, ..) and x(k = e) of an instance, by __call__; x any expression -/
structure MetK (P : Program) (w : World) (K : PySem.W.Frag) (mg : Str → Option Value) (base : Heap) (k : Nat) (C : Addr) (m : Str) (n : Nat) (ks : List Str) (gV : List V → List V → List V) (sp : Sp) : Prop where
  ex : ∃ (f : Addr) (fd : FuncData) (ps : List Str) (g : List Value → List Value → List Value), Cls K C ∧ Meth K C m f ∧ FnOk P w K mg base CX0 k f fd ps sp ∧ KBn K fd ps n ks g gV
section
variable {X : Cx} {k j : Nat} {C : Addr} {sp : Sp} {p pos : Pos} {fe e : Expr} {es : List Expr} {t tk' : TA} {tf : TE} {kws : List Keyword} {ks : List Str} {gV : List V → List V → List V}
def tCallE (C : Addr) (sp : Sp) (tf : TE) (t : TA) : TE := fun σ H Q => tf σ H fun x H1 => ∃ a : Addr, x = .ref a ∧ t σ H1 fun vs H2 => ∃ (dx : Addr) (fs : List (Str × V)), H2 a = some (.ins C dx fs) ∧ sp (.ref a :: vs) H2 Q E0
theorem pe_callE (c : Met X.prog X.w X.K X.mg X.base k C "__call__" sp) (fi : ∀ f, PySem.W.findIn X.K (.ref C) "__call__" = some (some (.ref f)) → PySem.W.fnIn X.K f = true) (hr : Room j X.A) (hk : k ≤ j) (hf : PE X fe tf) (ha : PA X (e :: es) t)
    (hc : eval (.Call fe (e :: es) [] pos) X.env = (do callWith pos (← eval fe X.env) [] (backTo pos (starEach (e :: es) X.env)) (backToKw pos (keywordEach [] X.env))) := by rfl)
    (he : starEach (e :: es) X.env = (false, eval e X.env) :: starEach es X.env := by rfl) (hpl : (backTo pos (starEach es X.env)).any (·.1) = false := by rfl) : PE X (.Call fe (e :: es) [] pos) (tCallE C sp tf t) := by
  obtain ⟨f, fd, ps, hc', hm, F, b⟩ := c.ex
  refine ⟨fun pins s σ H Q I h => ?_⟩
  refine Call_ (thn (hf.run pins s σ H _ I h) fun u s1 ⟨v, H1, I1, r1, a, ev, ht⟩ => ?_) hc
  subst ev
  cases (show u = Value.ref a from r1)
  have go := ha.run pos pins s1 σ _ _ I1 ht
  rw [he] at go ⊢
  refine callWith_obj (by show ((false || (backTo pos (starEach es X.env)).any (·.1)) || false) = false; rw [hpl]; rfl) (Calls.evalArgs_plain ?_)
  refine thn go fun us s2 ⟨vs, H2, I2, r, dx, fs, ea, q⟩ => ?_
  obtain ⟨ox, od, J, hd⟩ := inst_plain I2 ea
  refine ⟨⟨C, ox, od, J, hd⟩, ?_⟩
  have rr : Vals (.ref a :: vs) (.ref a :: us) := .cons rfl r
  have hl : (Value.ref a :: us).length = ps.length := by rw [← rr.length]; exact F.len _ _ _ _ q
  have bd := b s2 (.ref a :: us) I2.kIn (by rw [List.append_nil]; exact hl)
  rw [List.append_nil] at bd
  refine wpAny_call (PySem.W.kco_code I2.kIn J hd hm.at_ hm.fn (fi f hm.at_) (codeAny_mono (F.run X.A X.stack s2 H2 ⟨.ref a :: us, []⟩ (.ref a :: us) (.ref a :: vs) Q E0 (hr.mono hk) I2.env0 bd rr q) fun r s' hq => ?_))
  cases r with
  | error e => exact hq.elim
  | ok fl =>
    cases fl with
    | ret u => exact I2.after hq
    | next => exact False.elim hq
    | brk => exact False.elim hq
    | cont => exact False.elim hq
def tCallEK (C : Addr) (m : Nat) (sp : Sp) (gV : List V → List V → List V) (tf : TE) (t : TA) : TE := fun σ H Q => tf σ H fun x H1 => ∃ a : Addr, x = .ref a ∧ t σ H1 fun zs H2 => ∃ (dx : Addr) (fs : List (Str × V)), zs.length = m ∧ H2 a = some (.ins C dx fs) ∧ sp (gV [.ref a] zs) H2 Q E0
theorem pe_callEK (c : MetK X.prog X.w X.K X.mg X.base k C "__call__" 1 ks gV sp) (fi : ∀ f, PySem.W.findIn X.K (.ref C) "__call__" = some (some (.ref f)) → PySem.W.fnIn X.K f = true) (hr : Room j X.A) (hk : k ≤ j) (hf : PE X fe tf) (hkw : PK X kws tk')
    (hc : eval (.Call fe [] kws pos) X.env = (do callWith pos (← eval fe X.env) [] (backTo pos (starEach [] X.env)) (backToKw pos (keywordEach kws X.env))) := by rfl)
    (hall : (backToKw pos (keywordEach kws X.env)).all (·.1.isSome) = true := by rfl) (hks : (backToKw pos (keywordEach kws X.env)).filterMap (·.1) = ks := by rfl)
    (hpl : ((backTo pos (starEach [] X.env)).any (·.1) || (backToKw pos (keywordEach kws X.env)).any (·.1.isNone)) = false := by rfl) : PE X (.Call fe [] kws pos) (tCallEK C ks.length sp gV tf tk') := by
  obtain ⟨f, fd, ps, g, hc', hm, F, b⟩ := c.ex
  refine ⟨fun pins s σ H Q I h => ?_⟩
  rw [hc]
  refine wpAny_bind (thn (hf.run pins s σ H _ I h) fun u s1 ⟨v, H1, I1, r1, a, ev, ht⟩ => ?_)
  subst ev
  cases (show u = Value.ref a from r1)
  refine callWith_obj hpl (evalArgs_kw2_nil hall ?_)
  refine thn (hkw.run pos pins s1 σ _ _ I1 ht) fun ws s2 ⟨zs, H2, I2, rz, dx, fs, lz, ea, q⟩ => ?_
  obtain ⟨ox, od, J, hd⟩ := inst_plain I2 ea
  refine ⟨⟨C, ox, od, J, hd⟩, ?_⟩
  have r0 : Vals [.ref a] [Value.ref a] := .cons rfl .nil
  have rr := b.rel r0 rz
  have bd := b.to s2 [.ref a] ws I2.kIn rfl (rz.length.symm.trans lz)
  rw [hks]
  refine wpAny_call (PySem.W.kco_code I2.kIn J hd hm.at_ hm.fn (fi f hm.at_) (codeAny_mono (F.run X.A X.stack s2 H2 ⟨[.ref a], ks.zip ws⟩ (g [.ref a] ws) (gV [.ref a] zs) Q E0 (hr.mono hk) I2.env0 bd rr q) fun r s' hq => ?_))
  cases r with
  | error e => exact hq.elim
  | ok fl =>
    cases fl with
    | ret u => exact I2.after hq
    | next => exact False.elim hq
    | brk => exact False.elim hq
    | cont => exact False.elim hq
end
/-! ### d.values() and list(d.values()) -/
def valsO (p d : Addr) : HO := .ext fun h => h.IsValuesView p d
theorem valsO_ok {P : Program} {w : World} {H : Hp} {h : Heap} {p d : Addr} (e : h.get? p = some { cls := .type "dict_values", data := .fields #[.ref d] }) : ObjOk P w H h p (valsO p d) :=
  ⟨⟨_, e, rfl, rfl⟩, ⟨_, e⟩, fun h1 h2 x k => let ⟨o, ho, r⟩ := x; ⟨o, k o ho, r⟩⟩
def rValuesI : V → List V → Hp → VK → Prop := fun x xs H Q => ∃ (a : Addr) (kvs : List (L2.Key × V)), x = .ref a ∧ xs = [] ∧ H a = some (.dK kvs) ∧ ∀ p, H p = none → Q (.ref p) (upd H p (valsO p a))
theorem mt_valuesI {X : Cx} : MtR X "dict.values" rValuesI := by
  intro pins s σ H x xs v us Q I rx rxs h
  obtain ⟨a, kvs, rfl, rfl, ha, q⟩ := h
  cases rx
  cases rxs
  obtain ⟨z, hd, vs, rel, dof⟩ := dk_of I.hok ha
  obtain ⟨ep, dat⟩ := dof.dictAt
  obtain ⟨ob, es, ho, ex, hdat, hko, hpr, hnd⟩ := id dat
  refine call_meetsIn PySem.F.slot_dict_values ⟨ob, ho, ex.1⟩ PySem.F.entry_dict_values (PySem.F.args_dict_values_1 _) (meets_dict_values (mixKind X.prog X.w) a hd) ⟨⟨vs, dof⟩, ?_⟩
  have hf : H s.heap.objs.size = none := I.hok.fresh (Nat.le_refl _)
  exact ⟨.ref s.heap.objs.size, upd H s.heap.objs.size (valsO s.heap.objs.size a), I.laid (t' := s.toks) (fun b u e => Heap.get?_push_of_some _ e) (Nat.le_refl _) (valsO_ok (Heap.get?_push_size _ rfl)), rfl, q _ hf⟩
def rListVals : List V → Hp → VK → Prop := fun xs H Q => ∃ (p a : Addr) (kvs : List (L2.Key × V)), xs = [.ref p] ∧ H p = some (valsO p a) ∧ H a = some (.dK kvs) ∧ ∀ q, H q = none → Q (.ref q) (upd H q (.lst (kvs.map (·.2))))
theorem call_listVals {X : Cx} (hc : X.calm = true) : CallR X (.type "list") rListVals := by
  intro pins s σ H xs us Q I r h
  obtain ⟨p, a, kvs, e, hp, hk, q⟩ := h
  subst e
  obtain ⟨u, eu, rx⟩ := vals1 r
  subst eu
  obtain rfl : u = Value.ref p := rx
  have view : s.heap.IsValuesView p a := (show ObjOk X.prog X.w H s.heap p (valsO p a) from I.hok p _ hp).1
  obtain ⟨z, lo, vs, rk, hd⟩ := (show ObjOk X.prog X.w H s.heap a (.dK kvs) from I.hok a _ hk)
  obtain ⟨ep, hat⟩ := hd.dictAt
  have hl : kvs.length = vs.length := Paired.length rk
  refine PySem.W.kdl_call (PySem.W.kdl_values (knd := mixKind X.prog X.w) (kvs := vs) (ep := ep)) (I.ok.hd hc) ⟨view, hat⟩ (by rw [← hl]; exact z) fun h' tk acc' c' hkeep hS hacc => ?_
  refine ⟨.ref s.heap.objs.size, upd H s.heap.objs.size (.lst (kvs.map (·.2))), I.laid hkeep (Nat.le_refl _) (show ObjOk X.prog X.w _ _ _ (.lst (kvs.map (·.2))) from ⟨?_, acc'.toList, c', ?_, ?_⟩), rfl, q _ (I.hok.fresh (Nat.le_refl _))⟩
  · rw [List.length_map]; exact z
  · have el : acc'.toList.length = acc'.size := by simp
    refine vals_of_at (by rw [List.length_map, el, hacc.1, hl]) fun j x w h1 h2 => ?_
    obtain ⟨k, hky⟩ := hacc.2 j w (by rw [← Array.getElem?_toList]; exact h2)
    obtain ⟨y, e1, e2⟩ := KV.at' rk hky
    rw [List.getElem?_map, e1] at h1
    cases h1
    exact e2
  · rw [Array.toArray_toList]; exact hS
end Lp
set_option Elab.async false
set_option linter.all false
set_option maxRecDepth 100000
set_option maxHeartbeats 1000000
namespace Lp
open PySem PySem.Spec PyProof.Rows L2
/-! ### set(xs) and sorted(set(xs)) of ints, any number of them -/
def rSetLG (K : PySem.W.Frag) (w : World) : List V → Hp → VK → Prop := fun xs H Q => ∃ (a : Addr) (ns : List Int), xs = [V.ref a] ∧ SqL K H a (ns.map V.int) ∧ ns.length ≤ 1000 ∧ ∀ (p : Addr) (c : Nat), H p = none → c ≤ ns.length → Q (.ref p) (upd H p (SetO w p (fun j => decide (j ∈ ns)) c))
theorem cr_setLG {X : Cx} (hc : X.calm = true) : CallR X (.type "set") (rSetLG X.K X.w) := by
  intro pins s σ H xs us Q I r h
  obtain ⟨a, ns, rfl, hq, hl, q⟩ := h
  cases r with
  | cons r rr =>
    cases rr
    cases (show _ = Value.ref a from r)
    obtain ⟨its, rv, p, _⟩ := I.list hq
    refine call_set_listI ns (I.ok.hd hc) p.isList (RZ.intsAre_vals rv) (Nat.lt_of_le_of_lt (Nat.succ_le_succ hl) (by decide)) fun h' tk c hs hcn hk => ?_
    refine ⟨.ref _, upd H _ (SetO X.w s.heap.objs.size (fun j => decide (j ∈ ns)) c), I.laid hk (Nat.le_refl _) ⟨hs, ?_, fun h1 h2 x k => ?_⟩, rfl, q _ c (I.hok.fresh (Nat.le_refl _)) hcn⟩
    · obtain ⟨o, _, _, _, e, _⟩ := hs
      exact ⟨o, e⟩
    · obtain ⟨o, es, ep, t, e, r⟩ := x
      exact ⟨o, es, ep, t, k o e, r⟩
section
variable {P : Program} {w : World} {A : Around} {E : Value → Shared → Prop} {s : Shared} {a : Addr}
theorem sorted_setG {S : Int → Bool} {n : Nat} {Q : Value → Shared → Prop} (R : SetR w s.heap a S n) (hh : A.handled = none) (hn : n ≤ 100000)
    (hQ : ∀ s' p (out : Array Value) (c : Nat) (ns : List Int), (∀ b o, s.heap.get? b = some o → s'.heap.get? b = some o) → s'.gens = s.gens → s'.os = s.os → s.heap.objs.size ≤ p →
      s'.heap.get? p = some (seqObj "list" out c) → IntsAre out.toList ns → ns.Pairwise (· ≤ ·) → ns.Nodup → (∀ k, k ∈ ns ↔ S k = true) → ns.length = n → Q (.ref p) s') :
    wpAny (model P w) A (call (.builtin "sorted") [.ref a]) Q E s := by
  obtain ⟨o, es, ep, t, ho, hex, hd, g, nd, hm, hb, hf, hn', hr, hl⟩ := R
  refine Calls.call_function_entry PyProof.Rows.kind_sorted PyProof.Rows.plain_sorted PyProof.Rows.entry_sorted (PyProof.Rows.args_sorted1 _) ?_
  unfold Builtin.«sorted»
  refine wpAny_bind (m := checkCount "sorted" 1 1 _) (wpAny_pure ?_)
  refine wpAny_bind (collect_set (A := A.in1) hh ⟨o, ho, hex.1, hd⟩ hf hb hr hl fun s1 vs k1 hz g1 o1 pm => ?_)
  have hvl : vs.length = n := by rw [pm.length_eq, List.length_map, Array.length_toList]; exact hn'
  have hI : IntsAre vs (vs.map Builtin.Re.reRawOf) := ints_of vs fun v hv => by
    obtain ⟨e, he, q⟩ := List.mem_map.mp (pm.mem_iff.mp hv)
    obtain ⟨k, tk, h1, _⟩ := g e he
    exact ⟨k, tk, by rw [← q]; exact h1⟩
  have pk : (vs.map Builtin.Re.reRawOf).Perm (es.toList.map keyOf) := by
    have q := pm.map Builtin.Re.reRawOf
    rw [List.map_map] at q
    exact q
  have hz2 : vs.length ≤ sizeLine := by rw [hvl]; exact zs hn
  refine wpAny_bind (wpAny_newList ?_ hz2)
  have hoL : (s1.heap.push (seqObj "list" vs.toArray 0)).get? s1.heap.objs.size = some (seqObj "list" vs.toArray 0) := Heap.get?_push_size _ rfl
  refine wpAny_bind (wpAny_holding (wpAny_call_entry PyProof.Rows.slot_list_sort ⟨_, hoL, rfl⟩ PyProof.Rows.entry_list_sort
    (SrtO.list_sort_ord SrtO.swo_int hoL hz2 (fun h2 => SrtO.ints_sortable hI h2) fun out g1' g2 => ⟨_, rfl, ?_⟩) (PyProof.Rows.args_list_sort _)))
  obtain ⟨q1, q2, q3⟩ := SrtO.ints_out hI g1' g2
  obtain ⟨c, hc⟩ := PyProof.Rows.sortedHeap_at (vs := vs) (out := out.toArray) hoL
  have pn : (out.map SrtO.iv).Perm (es.toList.map keyOf) := q2.trans pk
  refine wpAny_pure ⟨_, rfl, hQ _ s1.heap.objs.size out.toArray c (out.map SrtO.iv) (fun b u e => ?_) g1 o1 hz hc (by simpa using q1) q3 (pn.nodup_iff.mpr nd) (fun k => by rw [pn.mem_iff, ← hm k]) ?_⟩
  · have q := k1 b u e
    have hlt := Heap.lt_size q
    show (PyProof.Rows.sortedHeap (s1.heap.push (seqObj "list" vs.toArray 0)) s1.heap.objs.size vs out.toArray).get? b = some u
    rw [PyProof.Rows.sortedHeap_old (Nat.ne_of_lt hlt) (by rw [size_push']; exact Nat.lt_succ_of_lt hlt)]
    exact Heap.get?_push_of_some _ q
  · rw [pn.length_eq, List.length_map, Array.length_toList]; exact hn'
end
section
variable {X : Cx}
def rSortedSetG (w : World) : List V → Hp → VK → Prop := fun vs H Q => ∃ (a : Addr) (S : Int → Bool) (n : Nat), vs = [V.ref a] ∧ H a = some (SetO w a S n) ∧ n ≤ 100000 ∧
  ∀ (ns : List Int) (p : Addr), ns.Pairwise (· ≤ ·) → ns.Nodup → (∀ k : Int, k ∈ ns ↔ S k = true) → H p = none → Q (.ref p) (upd H p (.lst (ns.map V.int)))
theorem cr_sortedSetG (hc : X.calm = true) : CallR X (.builtin "sorted") (rSortedSetG X.w) := by
  intro pins s σ H vs us Q I r h
  obtain ⟨a, S, n, rfl, ha, h64, q⟩ := h
  have R := setO_get I ha
  rw [Vals.ref1 r]
  refine sorted_setG R (I.ok.hd hc) h64 fun s' p out c ns k g o hp hg hi hs hnd hm hl => ?_
  have hlen : (ns.map V.int).length ≤ sizeLine := by rw [List.length_map, hl]; exact zs h64
  have hn : H p = none := I.hok.fresh hp
  have J : Inv X pins σ (upd H p (.lst (ns.map V.int))) { s with heap := s'.heap, gens := s'.gens, drawn := s'.drawn, toks := s'.toks } :=
    I.call (ch := []) (Un.laid k hp hn) (I.hok.laid k hp ⟨hlen, out.toList, c, vals_of_ints hi, hg⟩) (by rw [g]; exact I.bare) (fun _ z => nomatch z)
  have e : s' = { s with heap := s'.heap, gens := s'.gens, drawn := s'.drawn, toks := s'.toks } := by
    cases s'
    cases s
    cases o
    rfl
  rw [e]
  exact ⟨.ref p, _, J, rfl, q ns p hs hnd hm hn⟩
end
end Lp
set_option Elab.async false
set_option linter.all false
set_option maxRecDepth 100000
set_option maxHeartbeats 1000000
namespace Lp
open PySem PySem.Spec PyProof.Rows L2
/-! ### a != b of two instances whose class has __eq__ alone -/
theorem one_bind (self : Value) : bindSpecial (.builtin "object.__ne__") self = pure (.builtin "object.__ne__", [self]) :=
  (Slot.of (T := "object") (name := "__ne__") (owner := "object") (n := "__ne__") (by rw [typeLookup_type, builtinLookup_eq_fast]; kernel_rfl) (by decide +kernel) (by decide +kernel) (by decide +kernel)
    (.inl (by decide +kernel)) (by rw [isSubtype_type]; kernel_rfl)).bind self
theorem ifBound_ne {M : Model} {A : Around} {E : Value → Shared → Prop} {s : Shared} {K : PySem.W.Frag} {x C : Addr} {ox : Obj} {od : Option Obj} {args : List Value} {Q : Option Value → Shared → Prop} (X : K.In s.heap) (I : PySem.W.InstAt s.heap x ox C od) (hs : PySem.W.findIn K (.ref C) "__ne__" = some (some (.builtin "object.__ne__")))
    (h : wpAny M A (call (.builtin "object.__ne__") (.ref x :: args)) (fun v => Q (some v)) E s) : wpAny M A (callSpecialIfBound? (.ref x) "__ne__" args) Q E s := by
  simp only [callSpecialIfBound?, bindSpecialIfBound?]
  refine wpAny_holding (wpAny_bind (wpAny_bind (wpAny_bind (I.type.here ((PySem.W.looks_findIn X hs).here ?_)))))
  refine wpAny_bind (wpAny_askSetting (wpAny_ite ?_))
  have fin : wpAny M A (call (.builtin "object.__ne__") ([.ref x] ++ args) >>= fun v => pure (some v)) Q E s := wpAny_bind (wpAny_mono h (fun v s' h' => wpAny_pure h') fun _ _ h' => h')
  have bnd : PySem.W.Looks M s.heap (bindSpecial (.builtin "object.__ne__") (.ref x)) (.builtin "object.__ne__", [.ref x]) := PySem.W.Looks.of_pure (one_bind _)
  split
  · exact wpAny_bind (bnd.here (wpAny_pure (by exact fin)))
  · exact wpAny_tryCatch (wpAny_bind (bnd.here (wpAny_pure (by exact fin))))
theorem ne_entry {prog : Program} {w : World} {A : Around} {E : Value → Shared → Prop} {s : Shared} {K : PySem.W.Frag} {x C f : Addr} {ox : Obj} {od : Option Obj} {b : Value} {Q : Value → Shared → Prop} (hu : A.in1.units < cLine) (X : K.In s.heap) (I : PySem.W.InstAt s.heap x ox C od)
    (hob : PySem.W.subIn K (.ref C) (.type "object") = some true) (at_ : PySem.W.findIn K (.ref C) "__eq__" = some (some (.ref f))) (isf : PySem.W.isFn K (.ref f) = true)
    (go : wpAny (model prog w) A.in1 (call (.ref f) [.ref x, b]) (fun v s' => ∃ c, v = .bool c ∧ Q (.bool (!c)) s') E s) : wpAny (model prog w) A (call (.builtin "object.__ne__") [.ref x, b]) Q E s := by
  have hi : PySem.W.Looks (model prog w) s.heap (isInstance (.ref x) (.type "object")) true := I.type.andThen (PySem.W.looks_subIn X hob)
  refine wpAny_call (codeAny_call_builtin (by decide +kernel) F.cmpEntry_ne (PySem.W.check_slot F.cmpKind_ne F.cmpSplit_ne hi (F.cmpArgs_ne _ _) ?_))
  unfold Builtin.«object.__ne__»
  refine wpAny_bind (m := slotArgs "__ne__" 1 _) (wpAny_of_eq (a := ((Value.ref x : Value), [b])) (by first | rfl | (simp only [slotArgs]; rfl)) ?_)
  refine wpAny_bind (wpAny_cRoomFor hu ?_)
  refine wpAny_bind (m := callSpecialIfBound? (.ref x) (Str.ofString "__eq__") [b]) (PySem.W.ifBound_K X I at_ isf (wpAny_mono go (fun v s' hv => ?_) fun _ _ z => z))
  obtain ⟨c, rfl, hq⟩ := hv
  show wpAny (model prog w) A.in1 (truthy (.bool c) >>= fun b => ret (Value.bool !b)) _ E s'
  exact wpAny_bind (wpAny_of_eq (a := c) (by first | rfl | simp [truthy]) (wpAny_pure hq))
theorem ne_own {prog : Program} {w : World} {A : Around} {E : Value → Shared → Prop} {s : Shared} {K : PySem.W.Frag} {x C f : Addr} {ox : Obj} {od : Option Obj} {b tb : Value} {Q : Value → Shared → Prop} (hu : A.units < cLine) (hu1 : A.in1.units < cLine) (X : K.In s.heap) (I : PySem.W.InstAt s.heap x ox C od) (tyb : PySem.W.Looks (model prog w) s.heap (typeOf b) tb)
    (nf : PySem.W.notFirst K C tb = true) (hne : PySem.W.findIn K (.ref C) "__ne__" = some (some (.builtin "object.__ne__"))) (hob : PySem.W.subIn K (.ref C) (.type "object") = some true) (at_ : PySem.W.findIn K (.ref C) "__eq__" = some (some (.ref f))) (isf : PySem.W.isFn K (.ref f) = true)
    (go : wpAny (model prog w) A.in1 (call (.ref f) [.ref x, b]) (fun v s' => ∃ c, v = .bool c ∧ Q (.bool (!c)) s') E s) : wpAny (model prog w) A (richCompare .NotEq (.ref x) b) Q E s := by
  have mine : wpAny (model prog w) A (tryCompare (.ref x) (cmpInfo .NotEq).2.1 b) (fun r s' => ∃ v, r = some v ∧ Q v s') E s := by
    show wpAny (model prog w) A (tryCompare (.ref x) "__ne__" b) _ E s
    unfold tryCompare
    have ent : wpAny (model prog w) A (call (.builtin "object.__ne__") [.ref x, b]) (fun v s' => ∃ c, v = .bool c ∧ Q (.bool c) s') E s :=
      ne_entry (Q := fun v s' => ∃ c, v = .bool c ∧ Q (.bool c) s') hu1 X I hob at_ isf (wpAny_mono go (fun v s' hv => by
        obtain ⟨c, rfl, hq⟩ := hv
        exact ⟨c, rfl, !c, rfl, hq⟩) fun _ _ z => z)
    refine wpAny_bind (ifBound_ne X I hne (wpAny_mono ent (fun v s' hv => ?_) fun _ _ z => z))
    obtain ⟨c, rfl, hq⟩ := hv
    exact wpAny_pure ⟨_, rfl, hq⟩
  have last : ∀ {g : Option Value → Sem Value}, (∀ v, g (some v) = pure v) → wpAny (model prog w) A (tryCompare (.ref x) (cmpInfo .NotEq).2.1 b >>= g) Q E s := fun {g} hg => wpAny_bind (wpAny_mono mine (fun r s' ⟨v, er, hq⟩ => by rw [er, hg]; exact wpAny_pure hq) fun _ _ z => z)
  unfold richCompare
  simp only [oneThing_ref]
  refine wpAny_holding (wpAny_bind (wpAny_cRoomFor hu ?_))
  refine wpAny_bind (I.type.here (wpAny_bind (tyb.here ?_)))
  split
  · rename_i q
    have sb : PySem.W.subIn K tb (.ref C) = some false := by
      rcases Bool.or_eq_true_iff.mp nf with z | z
      · rw [beq_iff_eq.mp z] at q
        simp at q
      · exact beq_iff_eq.mp z
    refine wpAny_bind ((PySem.W.looks_subIn X sb).here ?_)
    simp only [Bool.false_eq_true, if_false]
    exact last fun v => rfl
  · refine wpAny_bind (wpAny_pure ?_)
    simp only [Bool.false_eq_true, if_false]
    exact last fun v => rfl
section
variable {X : Cx} {k j : Nat} {C : Addr} {sp : Sp}
def rNeO (C : Addr) (sp : Sp) : R2 := fun x y H Q => ∃ (a b dx dy : Addr) (fs gs : List (Str × V)), x = .ref a ∧ y = .ref b ∧ H a = some (.ins C dx fs) ∧ H b = some (.ins C dy gs) ∧ sp [.ref a, .ref b] H (fun v H' => ∃ c : Bool, v = .bl c ∧ Q (.bl (!c)) H') E0
theorem op_neO (c : Met X.prog X.w X.K X.mg X.base k C "__eq__" sp) (hr : Room j X.A) (hk : k + 1 ≤ j) (nf : PySem.W.notFirst X.K C (.ref C) = true) (hne : PySem.W.findIn X.K (.ref C) "__ne__" = some (some (.builtin "object.__ne__"))) (hob : PySem.W.subIn X.K (.ref C) (.type "object") = some true) : OpR X (compareOp .NotEq) (rNeO C sp) := by
  intro pins s σ H x y v u Q I rx ry h
  obtain ⟨a, b, dx, dy, fs, gs, rfl, rfl, ha, hb, q⟩ := h
  obtain ⟨f, fd, ps, hc, hm, F, bd⟩ := c.ex
  cases (show v = Value.ref a from rx)
  cases (show u = Value.ref b from ry)
  obtain ⟨ox, od, J⟩ := inst_of I ha
  obtain ⟨ox2, od2, J2⟩ := inst_of I hb
  have hu : X.A.units < cLine := by have := hr.units; omega
  have hu1 : X.A.in1.units < cLine := by
    have := hr.units
    show X.A.units + 1 < cLine
    omega
  show wpAny _ X.A (richCompare .NotEq _ _) _ _ s
  refine ne_own hu hu1 I.kIn J J2.type nf hne hob hm.at_ hm.fn (wpAny_mono (run_at (A := X.A.in1) (vs := [.ref a, .ref b]) F (hr.mono hk).in1 bd I I.env0.in1 (.cons rfl (.cons rfl .nil)) q) (fun w s' hw => ?_) fun _ _ z => z)
  obtain ⟨z, H', I', r, c, rfl, hq⟩ := hw
  cases r
  exact ⟨c, rfl, .bl (!c), H', I', rfl, hq⟩
end
end Lp
set_option Elab.async false
set_option linter.all false
set_option maxRecDepth 100000
set_option maxHeartbeats 1000000
namespace Lp
open PySem PySem.Spec PyProof.Rows L2
/-! ### a == y, a != y of an instance and any value -/
section
variable {X : Cx} {k j : Nat} {C : Addr} {sp : Sp}
def rEqOV (K : PySem.W.Frag) (C : Addr) (sp : Sp) : R2 := fun x y H Q => ∃ (a dx : Addr) (fs : List (Str × V)) (t : Value), x = .ref a ∧ H a = some (.ins C dx fs) ∧ TyX K H y t ∧ PySem.W.notFirst K C t = true ∧ sp [.ref a, y] H Q E0
theorem op_eqOV (c : Met X.prog X.w X.K X.mg X.base k C "__eq__" sp) (hr : Room j X.A) (hk : k ≤ j) : OpR X (compareOp .Eq) (rEqOV X.K C sp) := by
  intro pins s σ H x y v u Q I rx ry h
  obtain ⟨a, dx, fs, t, rfl, ha, ty, nf, q⟩ := h
  obtain ⟨f, fd, ps, hc, hm, F, bd⟩ := c.ex
  cases (show v = Value.ref a from rx)
  obtain ⟨ox, od, J⟩ := inst_of I ha
  obtain ⟨P, Z, p, _⟩ := kit_of I ry ty
  have hu : X.A.units < cLine := by have := hr.units; omega
  show wpAny _ X.A (richCompare .Eq _ _) _ _ s
  refine eq_own (op := .Eq) hu I.kIn J (Z.ty _ _ I.kIn p) nf hm.at_ hm.fn (wpAny_mono (run_at (vs := [.ref a, y]) F (hr.mono hk) bd I I.env0 (.cons rfl (.cons ry .nil)) q) (fun w s' hw => ?_) fun _ _ z => z)
  exact ⟨by obtain ⟨z, _, _, r, _⟩ := hw; exact relV_ni r, hw⟩
def rNeOV (K : PySem.W.Frag) (C : Addr) (sp : Sp) : R2 := fun x y H Q => ∃ (a dx : Addr) (fs : List (Str × V)) (t : Value), x = .ref a ∧ H a = some (.ins C dx fs) ∧ TyX K H y t ∧ PySem.W.notFirst K C t = true ∧ sp [.ref a, y] H (fun v H' => ∃ c : Bool, v = .bl c ∧ Q (.bl (!c)) H') E0
theorem op_neOV (c : Met X.prog X.w X.K X.mg X.base k C "__eq__" sp) (hr : Room j X.A) (hk : k + 1 ≤ j) (hne : PySem.W.findIn X.K (.ref C) "__ne__" = some (some (.builtin "object.__ne__"))) (hob : PySem.W.subIn X.K (.ref C) (.type "object") = some true) : OpR X (compareOp .NotEq) (rNeOV X.K C sp) := by
  intro pins s σ H x y v u Q I rx ry h
  obtain ⟨a, dx, fs, t, rfl, ha, ty, nf, q⟩ := h
  obtain ⟨f, fd, ps, hc, hm, F, bd⟩ := c.ex
  cases (show v = Value.ref a from rx)
  obtain ⟨ox, od, J⟩ := inst_of I ha
  obtain ⟨P, Z, p, _⟩ := kit_of I ry ty
  have hu : X.A.units < cLine := by have := hr.units; omega
  have hu1 : X.A.in1.units < cLine := by
    have := hr.units
    show X.A.units + 1 < cLine
    omega
  show wpAny _ X.A (richCompare .NotEq _ _) _ _ s
  refine ne_own hu hu1 I.kIn J (Z.ty _ _ I.kIn p) nf hne hob hm.at_ hm.fn (wpAny_mono (run_at (A := X.A.in1) (vs := [.ref a, y]) F (hr.mono hk).in1 bd I I.env0.in1 (.cons rfl (.cons ry .nil)) q) (fun w s' hw => ?_) fun _ _ z => z)
  obtain ⟨z, H', I', r, c, rfl, hq⟩ := hw
  cases r
  exact ⟨c, rfl, .bl (!c), H', I', rfl, hq⟩
end
end Lp
set_option Elab.async false
set_option linter.all false
set_option maxRecDepth 100000
namespace Lp
open PySem PySem.Spec PyProof.Rows L2
/-! ### the same, with K told apart (for comprehensions) -/
section
variable {X : Cx} {K : PySem.W.Frag} {k j : Nat} {C : Addr} {sp : Sp}
theorem k_eqOV (e : X.K = K) (c : Met X.prog X.w X.K X.mg X.base k C "__eq__" sp) (hr : Room j X.A) (hk : k ≤ j) : OpR X (compareOp .Eq) (rEqOV K C sp) := by
  subst e
  exact op_eqOV c hr hk
theorem k_neOV (e : X.K = K) (c : Met X.prog X.w X.K X.mg X.base k C "__eq__" sp) (hr : Room j X.A) (hk : k + 1 ≤ j) (hne : PySem.W.findIn X.K (.ref C) "__ne__" = some (some (.builtin "object.__ne__"))) (hob : PySem.W.subIn X.K (.ref C) (.type "object") = some true) : OpR X (compareOp .NotEq) (rNeOV K C sp) := by
  subst e
  exact op_neOV c hr hk hne hob
end
end Lp
set_option Elab.async false
set_option linter.all false
set_option maxRecDepth 100000
namespace L45
open PySem PySem.Spec PyProof.Rows L2 Lp
def topS (i : Nat) : Stmt := PySem.Challenge.pw_latepatches_k45_equal_effects.main.body.getD i (.Pass ⟨0, 0, 0, 0⟩)
abbrev s_is_integer : Stmt := topS 7
abbrev N_is_integer : List Str := ["value"]
theorem sc_is_integer : FnScope N_is_integer ["value"] (defScope s_is_integer) := ⟨rfl, rfl, rfl, by decide +kernel, rfl, by decide +kernel, by decide +kernel⟩
abbrev s_is_integer_within : Stmt := topS 8
abbrev N_is_integer_within : List Str := ["value", "least", "greatest"]
theorem sc_is_integer_within : FnScope N_is_integer_within ["value", "least", "greatest"] (defScope s_is_integer_within) := ⟨rfl, rfl, rfl, by decide +kernel, rfl, by decide +kernel, by decide +kernel⟩
abbrev s_are_integers : Stmt := topS 9
abbrev N_are_integers : List Str := ["value", "least", "greatest", "most", "item"]
theorem sc_are_integers : FnScope N_are_integers ["value", "least", "greatest", "most"] (defScope s_are_integers) := ⟨rfl, rfl, rfl, by decide +kernel, rfl, by decide +kernel, by decide +kernel⟩
abbrev s_are_events : Stmt := topS 13
abbrev N_are_events : List Str := ["value"]
theorem sc_are_events : FnScope N_are_events ["value"] (defScope s_are_events) := ⟨rfl, rfl, rfl, by decide +kernel, rfl, by decide +kernel, by decide +kernel⟩
abbrev s_is_history : Stmt := topS 14
abbrev N_is_history : List Str := ["value", "started", "event"]
theorem sc_is_history : FnScope N_is_history ["value"] (defScope s_is_history) := ⟨rfl, rfl, rfl, by decide +kernel, rfl, by decide +kernel, by decide +kernel⟩
abbrev s_check_history : Stmt := topS 15
abbrev N_check_history : List Str := ["history"]
theorem sc_check_history : FnScope N_check_history ["history"] (defScope s_check_history) := ⟨rfl, rfl, rfl, by decide +kernel, rfl, by decide +kernel, by decide +kernel⟩
abbrev s_starts_of : Stmt := topS 16
abbrev N_starts_of : List Str := ["history", "event"]
theorem sc_starts_of : FnScope N_starts_of ["history"] (defScope s_starts_of) := ⟨rfl, rfl, rfl, by decide +kernel, rfl, by decide +kernel, by decide +kernel⟩
abbrev s_running_after : Stmt := topS 17
abbrev N_running_after : List Str := ["history", "patch"]
theorem sc_running_after : FnScope N_running_after ["history"] (defScope s_running_after) := ⟨rfl, rfl, rfl, by decide +kernel, rfl, by decide +kernel, by decide +kernel⟩
abbrev s_replay : Stmt := topS 19
abbrev N_replay : List Str := ["history", "presents", "saved", "event"]
theorem sc_replay : FnScope N_replay ["history"] (defScope s_replay) := ⟨rfl, rfl, rfl, by decide +kernel, rfl, by decide +kernel, by decide +kernel⟩
abbrev s_is_piece : Stmt := topS 21
abbrev N_is_piece : List Str := ["value", "stopped", "event"]
theorem sc_is_piece : FnScope N_is_piece ["value"] (defScope s_is_piece) := ⟨rfl, rfl, rfl, by decide +kernel, rfl, by decide +kernel, by decide +kernel⟩
abbrev s_is_state : Stmt := topS 22
abbrev N_is_state : List Str := ["value", "present", "saved", "patches", "values", "item", "patch", "_", "number"]
theorem sc_is_state : FnScope N_is_state ["value"] (defScope s_is_state) := ⟨rfl, rfl, rfl, by decide +kernel, rfl, by decide +kernel, by decide +kernel⟩
abbrev s_is_saving : Stmt := topS 23
abbrev N_is_saving : List Str := ["value"]
theorem sc_is_saving : FnScope N_is_saving ["value"] (defScope s_is_saving) := ⟨rfl, rfl, rfl, by decide +kernel, rfl, by decide +kernel, by decide +kernel⟩
abbrev s_state_after : Stmt := topS 24
abbrev N_state_after : List Str := ["history", "running", "presents", "saved", "patch"]
theorem sc_state_after : FnScope N_state_after ["history"] (defScope s_state_after) := ⟨rfl, rfl, rfl, by decide +kernel, rfl, by decide +kernel, by decide +kernel⟩
abbrev s_references_behind : Stmt := topS 26
abbrev N_references_behind : List Str := ["piece", "present", "saved", "event"]
theorem sc_references_behind : FnScope N_references_behind ["piece"] (defScope s_references_behind) := ⟨rfl, rfl, rfl, by decide +kernel, rfl, by decide +kernel, by decide +kernel⟩
abbrev s_law_open_source : Stmt := topS 28
abbrev N_law_open_source : List Str := ["script", "k", "cell"]
theorem sc_law_open_source : FnScope N_law_open_source ["script", "k"] (defScope s_law_open_source) := ⟨rfl, rfl, rfl, by decide +kernel, rfl, by decide +kernel, by decide +kernel⟩
abbrev s_law_draw : Stmt := topS 29
abbrev N_law_draw : List Str := ["source", "limit", "digit", "mixed"]
theorem sc_law_draw : FnScope N_law_draw ["source", "limit"] (defScope s_law_draw) := ⟨rfl, rfl, rfl, by decide +kernel, rfl, by decide +kernel, by decide +kernel⟩
abbrev s_law_same : Stmt := topS 30
abbrev N_law_same : List Str := ["result", "expected", "one", "two"]
theorem sc_law_same : FnScope N_law_same ["result", "expected"] (defScope s_law_same) := ⟨rfl, rfl, rfl, by decide +kernel, rfl, by decide +kernel, by decide +kernel⟩
abbrev s_law_log : Stmt := topS 31
abbrev N_law_log : List Str := ["source", "script", "most", "many", "style", "rate", "left", "fresh", "found", "alive", "turn", "last", "spots"]
theorem sc_law_log : FnScope N_law_log ["source", "script", "most"] (defScope s_law_log) := ⟨rfl, rfl, rfl, by decide +kernel, rfl, by decide +kernel, by decide +kernel⟩
abbrev s_law_piece : Stmt := topS 32
abbrev N_law_piece : List Str := ["source", "script", "most", "log", "cut", "end"]
theorem sc_law_piece : FnScope N_law_piece ["source", "script", "most"] (defScope s_law_piece) := ⟨rfl, rfl, rfl, by decide +kernel, rfl, by decide +kernel, by decide +kernel⟩
abbrev s_law_refs : Stmt := topS 33
abbrev N_law_refs : List Str := ["part", "here", "held", "gone", "ended", "one"]
theorem sc_law_refs : FnScope N_law_refs ["part"] (defScope s_law_refs) := ⟨rfl, rfl, rfl, by decide +kernel, rfl, by decide +kernel, by decide +kernel⟩
abbrev s_law_others : Stmt := topS 34
abbrev N_law_others : List Str := ["source", "part", "at", "to", "found", "fresh", "name", "low", "high", "inner", "other"]
theorem sc_law_others : FnScope N_law_others ["source", "part"] (defScope s_law_others) := ⟨rfl, rfl, rfl, by decide +kernel, rfl, by decide +kernel, by decide +kernel⟩
abbrev s_law_pair_right : Stmt := topS 35
abbrev N_law_pair_right : List Str := ["part", "other", "one", "two", "due", "told"]
theorem sc_law_pair_right : FnScope N_law_pair_right ["part", "other"] (defScope s_law_pair_right) := ⟨rfl, rfl, rfl, by decide +kernel, rfl, by decide +kernel, by decide +kernel⟩
abbrev s_law : Stmt := topS 36
abbrev N_law : List Str := ["script", "k", "source", "turn", "ahead", "part", "thing", "other", "begun", "gone", "alive", "away", "fits", "told", "odd", "whole", "at", "name", "one"]
theorem sc_law : FnScope N_law ["script"] (defScope s_law) := ⟨rfl, rfl, rfl, by decide +kernel, rfl, by decide +kernel, by decide +kernel⟩
abbrev s_Effect_init : Stmt := inClass (topS 25) 0
abbrev N_Effect_init : List Str := ["self", "piece", "present", "saved", "patch", "event"]
theorem sc_Effect_init : FnScope N_Effect_init ["self", "piece"] (defScope s_Effect_init) := ⟨rfl, rfl, rfl, by decide +kernel, rfl, by decide +kernel, by decide +kernel⟩
abbrev s_Effect_present : Stmt := inClass (topS 25) 1
abbrev N_Effect_present : List Str := ["self"]
theorem sc_Effect_present : FnScope N_Effect_present ["self"] (defScope s_Effect_present) := ⟨rfl, rfl, rfl, by decide +kernel, rfl, by decide +kernel, by decide +kernel⟩
abbrev s_Effect_saved : Stmt := inClass (topS 25) 2
abbrev N_Effect_saved : List Str := ["self"]
theorem sc_Effect_saved : FnScope N_Effect_saved ["self"] (defScope s_Effect_saved) := ⟨rfl, rfl, rfl, by decide +kernel, rfl, by decide +kernel, by decide +kernel⟩
abbrev s_Effect_stopped : Stmt := inClass (topS 25) 3
abbrev N_Effect_stopped : List Str := ["self"]
theorem sc_Effect_stopped : FnScope N_Effect_stopped ["self"] (defScope s_Effect_stopped) := ⟨rfl, rfl, rfl, by decide +kernel, rfl, by decide +kernel, by decide +kernel⟩
abbrev s_Effect_ended : Stmt := inClass (topS 25) 4
abbrev N_Effect_ended : List Str := ["self"]
theorem sc_Effect_ended : FnScope N_Effect_ended ["self"] (defScope s_Effect_ended) := ⟨rfl, rfl, rfl, by decide +kernel, rfl, by decide +kernel, by decide +kernel⟩
abbrev s_Effect_call : Stmt := inClass (topS 25) 5
abbrev N_Effect_call : List Str := ["self", "state", "present", "saved", "values", "patch", "reference"]
theorem sc_Effect_call : FnScope N_Effect_call ["self", "state"] (defScope s_Effect_call) := ⟨rfl, rfl, rfl, by decide +kernel, rfl, by decide +kernel, by decide +kernel⟩
abbrev s_Effect_fits : Stmt := inClass (topS 25) 6
abbrev N_Effect_fits : List Str := ["self", "present", "saved", "taken", "patch"]
theorem sc_Effect_fits : FnScope N_Effect_fits ["self", "present", "saved"] (defScope s_Effect_fits) := ⟨rfl, rfl, rfl, by decide +kernel, rfl, by decide +kernel, by decide +kernel⟩
abbrev s_Effect_add : Stmt := inClass (topS 25) 7
abbrev N_Effect_add : List Str := ["self", "other", "piece"]
theorem sc_Effect_add : FnScope N_Effect_add ["self", "other"] (defScope s_Effect_add) := ⟨rfl, rfl, rfl, by decide +kernel, rfl, by decide +kernel, by decide +kernel⟩
abbrev s_Effect_eq : Stmt := inClass (topS 25) 8
abbrev N_Effect_eq : List Str := ["self", "other"]
theorem sc_Effect_eq : FnScope N_Effect_eq ["self", "other"] (defScope s_Effect_eq) := ⟨rfl, rfl, rfl, by decide +kernel, rfl, by decide +kernel, by decide +kernel⟩
abbrev s_Effect_len : Stmt := inClass (topS 25) 9
abbrev N_Effect_len : List Str := ["self"]
theorem sc_Effect_len : FnScope N_Effect_len ["self"] (defScope s_Effect_len) := ⟨rfl, rfl, rfl, by decide +kernel, rfl, by decide +kernel, by decide +kernel⟩
abbrev s_Effect_contains : Stmt := inClass (topS 25) 10
abbrev N_Effect_contains : List Str := ["self", "patch"]
theorem sc_Effect_contains : FnScope N_Effect_contains ["self", "patch"] (defScope s_Effect_contains) := ⟨rfl, rfl, rfl, by decide +kernel, rfl, by decide +kernel, by decide +kernel⟩
end L45
set_option Elab.async false
set_option linter.all false
set_option maxRecDepth 100000
namespace L45
open PySem PySem.Spec PyProof.Rows L2 Lp
section
variable {P : Program} {w : World} {K : PySem.W.Frag} {mg : Str → Option Value} {base : Heap}
/-- a def of the text at its name -/
structure At (K : PySem.W.Frag) (mg : Str → Option Value) (x : Str) (st : Stmt) (f : Addr) (fd : FuncData) : Prop where
  fn : Fun K x x st f fd
  mgf : mg x = some (.ref f)
theorem At.gc {k : Nat} {x : Str} {st : Stmt} {f : Addr} {fd : FuncData} {ps : List Str} {sp : Sp} (a : At K mg x st f fd) (b : Binds K fd ps []) (F : FnOk P w K mg base CX0 k f fd ps sp) : Cal P w K mg base k x sp := ⟨f, fd, ps, F, a.mgf, a.fn.kp, b⟩

/-! ### is_integer and its kin -/
def spIsInt : Sp := fun vs H Q _ => ∃ i : Int, vs = [.int i] ∧ Q (.bl true) H
theorem ok_is_integer {f : Addr} {fd : FuncData} (F : Fun K "is_integer" "is_integer" s_is_integer f fd) (B : NoB mg) : FnOk P w K mg base CX0 1 f fd ["value"] spIsInt := by
  refine F.ok sc_is_integer (fun vs H Q E h => ?_) (fun cdv A outer s H vs Q E hr h => ?_)
  · obtain ⟨i, rfl, _⟩ := h
    rfl
  · obtain ⟨i, rfl, q⟩ := h
    refine ⟨_, (pss_one (ps_ret (pe_and (pe_callB call_isi (by rfl) B.isinstance (by decide +kernel) (pa_cons (pv 0) (pa_cons (pe_bltn (v := .ty "int") (by rfl) B.int boot_int rfl) pa_nil))) (pe_one (pe_not (pe_callB call_isi (by rfl) B.isinstance (by decide +kernel) (pa_cons (pv 0) (pa_cons (pe_bltn (v := .ty "bool") (by rfl) B.bool boot_bool rfl) pa_nil)))))))), ?_⟩
    refine ⟨_, rfl, _, _, _, _, true, rfl, .ty _, .base (.int i), kit_ty (by decide +kernel), true, rfl, iteT ?_⟩
    exact ⟨_, rfl, _, _, _, _, false, rfl, .ty _, .base (.int i), kit_ty (by decide +kernel), false, rfl, q⟩
def spWithin : Sp := fun vs H Q _ => ∃ i lo hi : Int, vs = [.int i, .int lo, .int hi] ∧ lo ≤ i ∧ i ≤ hi ∧ Q (.bl true) H
theorem ok_is_integer_within {f : Addr} {fd : FuncData} (F : Fun K "is_integer_within" "is_integer_within" s_is_integer_within f fd) (T_is_integer : Cal P w K mg base 1 "is_integer" spIsInt) : FnOk P w K mg base CX0 2 f fd ["value", "least", "greatest"] spWithin := by
  refine F.ok sc_is_integer_within (fun vs H Q E h => ?_) (fun cdv A outer s H vs Q E hr h => ?_)
  · obtain ⟨i, lo, hi, rfl, _⟩ := h
    rfl
  · obtain ⟨i, lo, hi, rfl, h1, h2, q⟩ := h
    refine ⟨_, (pss_one (ps_ret (pe_and (pe_c T_is_integer hr (by decide) (by rfl) (pa_cons (pv 0) pa_nil)) (pe_one (pe_chain op_le op_le (pv 1) (pv 0) (pv 2)))))), ?_⟩
    refine ⟨_, rfl, i, rfl, true, rfl, iteT ?_⟩
    refine ⟨_, rfl, _, rfl, _, _, rfl, rfl, _, rfl, ?_⟩
    rw [decide_eq_true h1]
    refine iteT ⟨_, rfl, _, _, rfl, rfl, ?_⟩
    dsimp only
    rw [decide_eq_true h2]
    exact q
/-! ### are_integers -/
def spAreInts (K : PySem.W.Frag) : Sp := fun vs H Q _ => ∃ (a : Addr) (ns : List Int) (lo hi m : Int), vs = [.ref a, .int lo, .int hi, .int m] ∧ SqL K H a (ns.map V.int) ∧ ((ns.length : Nat) : Int) ≤ m ∧ ns.length ≤ 1000 ∧ (∀ n ∈ ns, lo ≤ n ∧ n ≤ hi) ∧ ∀ H', Same H H' → Q (.bl true) H'
theorem ok_are_integers {f : Addr} {fd : FuncData} (F : Fun K "are_integers" "are_integers" s_are_integers f fd) (B : NoB mg) (T_is_integer_within : Cal P w K mg base 2 "is_integer_within" spWithin) : FnOk P w K mg base CX0 3 f fd ["value", "least", "greatest", "most"] (spAreInts K) := by
  refine F.ok sc_are_integers (fun vs H Q E h => ?_) (fun cdv A outer s H vs Q E hr h => ?_)
  · obtain ⟨a, ns, lo, hi, m, rfl, _⟩ := h
    rfl
  · obtain ⟨a, ns, lo, hi, m, rfl, hS, hm, hl, hb, q⟩ := h
    refine ⟨_, (pss_cons (ps_if (PW.pt (pw_or (pt_cmpR op_neTy (pe_callTy call_type1 (by rfl) B.type (by decide +kernel) (pa_cons (pv 0) pa_nil)) (pe_bltn (v := .ty "list") (by rfl) B.list boot_list rfl) (nomark _)) (pw_or1 (pt_cmpR op_gt (pe_callB call_len_seq (by rfl) B.len PySem.boot_len (pa_cons (pv 0) pa_nil)) (pv 3) (nomark _))))) (pss_one (ps_ret pe_bl)) pss_nil)
        (pss_one (ps_ret (pe_callB (cr_all rfl) (by rfl) B.all (by decide +kernel) (pa_cons (pe_lc (own := [("item", 4)]) (g := gName 4) (tt := tYes) rfl sc_are_integers.nd (pi_list (pv 0)) (blkOk_by (own := [("item", 4)]) (N := N_are_integers) (sc := defScope s_are_integers) (by decide +kernel)) (fun _ _ _ _ _ => (pg_name (i := 4) sc_are_integers.nd rfl (Or.inl rfl))) (fun _ _ _ _ _ => pts_nil) (fun _ _ _ _ _ => (pe_c T_is_integer_within hr (by decide) (by rfl) (pa_cons (pv 4) (pa_cons (pv 1) (pa_cons (pv 2) pa_nil)))))) pa_nil))))), ?_⟩
    refine ⟨_, rfl, _, _, rfl, .lst hS, _, rfl, rfl, PySem.TypeEq.meta_list, _, rfl, iteF ?_⟩
    refine ⟨_, rfl, a, _, rfl, .inl hS, _, rfl, _, _, rfl, rfl, _, rfl, ?_⟩
    rw [List.length_map, decide_eq_false (show ¬ m < ((ns.length : Nat) : Int) by omega)]
    refine iteF ?_
    refine ⟨_, rfl, a, rfl, ⟨_, hS⟩, fun D hD => lc_list (xs := ns.map V.int) (LcP H D fun i => (List.replicate i true).map V.bl) (.init hD rfl) (fun i H' _ p => p.2.1.seq hS) (fun i x H' hx p => ?_) (fun H' p => ?_)⟩
    · obtain ⟨n, rfl, hn⟩ := get_int hx
      obtain ⟨h1, h2⟩ := hb n (mem_get hn)
      refine ⟨rfl, ?_⟩
      refine ⟨_, rfl, _, rfl, _, rfl, n, lo, hi, rfl, h1, h2, ?_⟩
      refine p.put (Same.refl _) ?_ (by rw [List.length_map, List.length_replicate]; have := lt_get hn; omega)
      rw [List.replicate_succ', List.map_append]
      rfl
    · refine ⟨D, _, rfl, .of p.2.2, ?_⟩
      have e : (List.replicate (ns.map V.int).length true).all id = true := by
        rw [List.all_eq_true]
        intro b hb
        exact (List.eq_of_mem_replicate hb)
      rw [e]
      exact q _ p.2.1

/-! ### histories -/
structure Hist (ns : List Int) : Prop where
  rng : ∀ e ∈ ns, e ≠ 0 ∧ -100 ≤ e ∧ e ≤ 100
  nd : ns.Nodup
  ord : ∀ (i : Nat) (e : Int), ns[i]? = some e → e < 0 → -e ∈ ns.take i
  len : ns.length ≤ 200
theorem not_mem_take {ns : List Int} (nd : ns.Nodup) {i : Nat} {e : Int} (h : ns[i]? = some e) : e ∉ ns.take i := by
  intro hm
  obtain ⟨j, hj, e1⟩ := List.mem_iff_getElem.mp hm
  rw [List.length_take] at hj
  have hjn : j < ns.length := by omega
  have e2 : ns[j]? = some e := by
    rw [List.getElem?_eq_getElem hjn, ← e1, List.getElem_take]
  have := nd_ix nd e2 h
  omega
theorem mem_take_succ {ns : List Int} {i : Nat} {e x : Int} (h : ns[i]? = some e) : (x ∈ ns.take (i + 1)) ↔ (x ∈ ns.take i ∨ x = e) := by
  rw [take_get h, List.mem_append, List.mem_singleton]
/-! ### are_events -/
def spAreEv (K : PySem.W.Frag) : Sp := fun vs H Q _ => ∃ (a : Addr) (ns : List Int), vs = [.ref a] ∧ SqL K H a (ns.map V.int) ∧ (∀ e ∈ ns, e ≠ 0 ∧ -100 ≤ e ∧ e ≤ 100) ∧ ns.Nodup ∧ ns.length ≤ 200 ∧ ∀ H', Same H H' → Q (.bl true) H'
theorem ok_are_events {f : Addr} {fd : FuncData} (F : Fun K "are_events" "are_events" s_are_events f fd) (B : NoB mg) {t1 t2 : Tok} (T_g_LAST_PATCH : mg "LAST_PATCH" = some (.int 100 t1)) (T_g_MOST_EVENTS : mg "MOST_EVENTS" = some (.int 200 t2))
    (T_are_integers : Cal P w K mg base 3 "are_integers" (spAreInts K)) : FnOk P w K mg base CX0 4 f fd ["value"] (spAreEv K) := by
  refine F.ok sc_are_events (fun vs H Q E h => ?_) (fun cdv A outer s H vs Q E hr h => ?_)
  · obtain ⟨a, ns, rfl, _⟩ := h
    rfl
  · obtain ⟨a, ns, rfl, hS, hb, nd, hl, q⟩ := h
    refine ⟨_, (pss_cons (ps_if (pt_not (pt_val (pe_c T_are_integers hr (by decide) (by rfl) (pa_cons (pv 0) (pa_cons (pe_un un_neg (pe_glob (v := .int 100) (by rfl) T_g_LAST_PATCH ⟨_, rfl⟩)) (pa_cons (pe_glob (v := .int 100) (by rfl) T_g_LAST_PATCH ⟨_, rfl⟩) (pa_cons (pe_glob (v := .int 200) (by rfl) T_g_MOST_EVENTS ⟨_, rfl⟩) pa_nil))))))) (pss_one (ps_ret pe_bl)) pss_nil)
        (pss_one (ps_ret (pe_and (pe_cmpR op_notIn_seq pe_int (pv 0) (by rfl)) (pe_one (pe_cmpR op_eq (RZ.pe_lenSetI (by rfl) B.len (by rfl) B.set (pv 0)) (pe_callB call_len_seq (by rfl) B.len PySem.boot_len (pa_cons (pv 0) pa_nil)) (nomark _))))))), ?_⟩
    refine ⟨_, rfl, _, rfl, a, ns, -100, 100, 200, rfl, hS, by omega, by omega, fun n hn => (hb n hn).2, fun H1 s1 => ?_⟩
    refine ⟨_, rfl, iteF ?_⟩
    have hS1 := s1.seq hS
    refine ⟨_, rfl, a, ns.map V.int, rfl, .inl hS1, rfl, flatI ns, true, notInT fun z => (hb 0 z).1 rfl, iteT ?_⟩
    refine ⟨_, rfl, a, ns, rfl, hS1, nd, by omega, _, rfl, a, _, rfl, .inl hS1, rfl, ?_⟩
    rw [List.length_map, dT rfl]
    exact q _ s1

def spIsHist (K : PySem.W.Frag) : Sp := fun vs H Q _ => ∃ (a : Addr) (ns : List Int), vs = [.ref a] ∧ SqL K H a (ns.map V.int) ∧ Hist ns ∧ ∀ H', Same H H' → Q (.bl true) H'
theorem ok_is_history {f : Addr} {fd : FuncData} (F : Fun K "is_history" "is_history" s_is_history f fd) (B : NoB mg) (T_are_events : Cal P w K mg base 4 "are_events" (spAreEv K)) : FnOk P w K mg base CX0 5 f fd ["value"] (spIsHist K) := by
  refine F.ok sc_is_history (fun vs H Q E h => ?_) (fun cdv A outer s H vs Q E hr h => ?_)
  · obtain ⟨a, ns, rfl, _⟩ := h
    rfl
  · obtain ⟨a, ns, rfl, hS, hh, q⟩ := h
    have hu := hu_of hr
    refine ⟨_, (pss_cons (ps_if (pt_not (pt_val (pe_c T_are_events hr (by decide) (by rfl) (pa_cons (pv 0) pa_nil)))) (pss_one (ps_ret pe_bl)) pss_nil)
        (pss_cons (ps_set (i := 1) sc_is_history.nd rfl (Or.inl rfl) (pe_callTy0 cr_set0 (by rfl) B.set (by decide +kernel)))
        (pss_cons (ps_for PassesOwn.never rfl (pi_list (pv 0)) (pg_name (i := 2) sc_is_history.nd rfl (Or.inl rfl))
          (pss_one (ps_if (pt_cmpR op_gt (pv 2) pe_int (nomark _)) (pss_one (ps_expr (pe_sadd (pv 1) (pa_cons (pv 2) pa_nil)))) (pss_one (ps_if (pt_cmpR or_snotin (pe_un un_neg (pv 2)) (pv 1) (by rfl)) (pss_one (ps_ret pe_bl)) pss_nil)))))
        (pss_one (ps_ret pe_bl))))), ?_⟩
    refine ⟨_, rfl, a, ns, rfl, hS, hh.rng, hh.nd, hh.len, fun H1 s1 => ?_⟩
    refine ⟨_, rfl, iteF ?_⟩
    refine ⟨rfl, fun p np => ?_⟩
    have hS1 := s1.seq hS
    refine ⟨_, rfl, a, rfl, ⟨_, (same_new np).seq hS1⟩, for_list (xs := ns.map V.int) (fun i σ H' => (∃ y, σ = [some (.ref a), some (.ref p), y]) ∧ Same H1 H' ∧ ∃ n, n ≤ i ∧ H' p = some (SetO w p (fun x => decide (0 < x ∧ x ∈ ns.take i)) n)) ⟨⟨_, rfl⟩, same_new np, 0, Nat.le_refl _, ?_⟩ (fun i σ H' _ h => h.2.1.seq hS1) (fun i x σ H' hx h => ?_) (fun σ H' h => ?_)⟩
    · rw [upd_same]
      show some (SetO w p (fun x => false) 0) = some (SetO w p (fun x => decide (0 < x ∧ x ∈ ns.take 0)) 0)
      simp
    · obtain ⟨n, rfl, hn⟩ := get_int hx
      obtain ⟨⟨y, rfl⟩, sm, m, hm, hp⟩ := h
      have hi : i < 200 := Nat.lt_of_lt_of_le (lt_get hn) hh.len
      by_cases h0 : 0 < n
      · refine ⟨_, rfl, _, _, rfl, rfl, true, dT h0, ?_⟩
        refine ⟨_, rfl, ⟨p, _, m, rfl, hp⟩, _, rfl, p, n, _, m, rfl, rfl, hp, by show m + 1 < 4096; omega, ⟨_, rfl⟩, fun b o e => ?_, m + 1, by omega, ?_⟩
        rotate_left 1
        · have hnt : ¬ (0 < n ∧ n ∈ ns.take i) := fun z => not_mem_take hh.nd hn z.2
          rw [upd_same, decide_eq_false hnt, if_neg Bool.false_ne_true]
          refine congrArg some (congrArg (fun S => SetO w p S _) (funext fun x => ?_))
          rw [← Bool.decide_or]
          refine decide_eq_decide.mpr ?_
          have := mem_take_succ (x := x) hn
          rw [this]
          constructor
          · rintro (⟨a, b⟩ | rfl)
            · exact ⟨a, .inl b⟩
            · exact ⟨h0, .inr rfl⟩
          · rintro ⟨a, b | b⟩
            · exact .inl ⟨a, b⟩
            · exact .inr b
        · rw [upd_ne (ne_of_none e np)]
          exact sm _ _ e
      · refine ⟨_, rfl, _, _, rfl, rfl, false, dF h0, ?_⟩
        have e0 := (hh.rng n (mem_get hn)).1
        have hpre := hh.ord i n hn (by omega)
        refine ⟨_, rfl, n, rfl, _, rfl, -n, p, _, m, rfl, rfl, hp, false, nF ⟨by omega, hpre⟩, ⟨_, rfl⟩, sm, m, by omega, ?_⟩
        rw [hp]
        refine congrArg some (congrArg (fun S => SetO w p S m) (funext fun x => decide_eq_decide.mpr ?_))
        rw [mem_take_succ hn]
        constructor
        · exact fun ⟨a, b⟩ => ⟨a, .inl b⟩
        · rintro ⟨a, b | b⟩
          · exact ⟨a, b⟩
          · omega
    · obtain ⟨⟨y, rfl⟩, sm, _⟩ := h
      exact q _ (s1.trans sm)

/-! ### check_history -/
def spCheck (K : PySem.W.Frag) : Sp := fun vs H Q _ => ∃ (a : Addr) (ns : List Int), vs = [.ref a] ∧ SqL K H a (ns.map V.int) ∧ Hist ns ∧ ∀ H', Same H H' → Q .non H'
theorem ok_check_history {f : Addr} {fd : FuncData} (F : Fun K "check_history" "check_history" s_check_history f fd) (T_is_history : Cal P w K mg base 5 "is_history" (spIsHist K)) : FnOk P w K mg base CX0 6 f fd ["history"] (spCheck K) := by
  refine F.ok sc_check_history (fun vs H Q E h => ?_) (fun cdv A outer s H vs Q E hr h => ?_)
  · obtain ⟨a, ns, rfl, _⟩ := h
    rfl
  · obtain ⟨a, ns, rfl, hS, hh, q⟩ := h
    refine ⟨_, (pss_one (ps_if (pt_not (pt_val (pe_c T_is_history hr (by decide) (by rfl) (pa_cons (pv 0) pa_nil)))) (pss_one ps_never) pss_nil)), ?_⟩
    exact ⟨_, rfl, a, ns, rfl, hS, hh, fun H1 s1 => ⟨_, rfl, iteF (q _ s1)⟩⟩

end
section
variable {P : Program} {w : World} {K : PySem.W.Frag} {mg : Str → Option Value} {base : Heap}
/-! ### draws -/
/-- the list of three ints that draws are made of: at most n draws were made in the second way -/
def Src (H : Hp) (a : Addr) (n : Nat) : Prop := ∃ x y z : Int, H a = some (.lst [.int x, .int y, .int z]) ∧ 0 ≤ y ∧ y < 2 ^ 300 ∧ 0 ≤ z ∧ z ≤ (n : Int)
theorem Src.mono {H : Hp} {a : Addr} {n m : Nat} (h : Src H a n) (l : n ≤ m) : Src H a m := by
  obtain ⟨x, y, z, h1, h2, h3, h4, h5⟩ := h
  exact ⟨x, y, z, h1, h2, h3, h4, by omega⟩
theorem Src.bt {H H' : Hp} {a b : Addr} {n : Nat} (h : Src H a n) (x : Bt b H H') (e : a ≠ b) : Src H' a n := by
  obtain ⟨p, y, z, h1, h2⟩ := h
  exact ⟨p, y, z, x _ _ e h1, h2⟩
theorem Src.same {H H' : Hp} {a : Addr} {n : Nat} (h : Src H a n) (x : Same H H') : Src H' a n := by
  obtain ⟨p, y, z, h1, h2⟩ := h
  exact ⟨p, y, z, x _ _ h1, h2⟩
theorem Src.new {H : Hp} {a p : Addr} {n : Nat} {o : HO} (h : Src H a n) (e : H p = none) : Src (upd H p o) a n := h.same (same_new e)
theorem Src.ne {H : Hp} {a p : Addr} {n : Nat} (h : Src H a n) (e : H p = none) : p ≠ a := fun z => by
  obtain ⟨_, _, _, h1, _⟩ := h
  rw [← z, e] at h1
  cases h1
theorem Src.upd {H : Hp} {a p : Addr} {n : Nat} {o : HO} (h : Src H a n) (e : p ≠ a) : Src (upd H p o) a n := by
  obtain ⟨x, y, z, h1, h2⟩ := h
  exact ⟨x, y, z, by rw [upd_ne e.symm]; exact h1, h2⟩
def spDraw : Sp := fun vs H Q _ => ∃ (a : Addr) (m : Int) (n : Nat), vs = [.ref a, .int m] ∧ Src H a n ∧ n ≤ 1000000 ∧ 1 ≤ m ∧ m ≤ 1000000 ∧ ∀ r H', 0 ≤ r → r < m → Src H' a (n + 1) → Bt a H H' → Q (.int r) H'
theorem lt_pow {i : Int} {n : Nat} (h0 : 0 ≤ i) (h : i < 2 ^ n) : i.natAbs < 2 ^ n := by
  have e : ((i.natAbs : Nat) : Int) = i := Int.natAbs_of_nonneg h0
  have h' : ((i.natAbs : Nat) : Int) < ((2 ^ n : Nat) : Int) := by
    rw [e]
    simpa using h
  exact Int.ofNat_lt.mp h'
theorem zz_le {z : Int} (h0 : 0 ≤ z) (h : z ≤ 1000001) : z * z ≤ 1000002000001 := by
  have := Int.mul_le_mul h h h0 (by decide)
  omega
theorem ok_law_draw {f : Addr} {fd : FuncData} (F : Fun K "_law_draw" "_law_draw" s_law_draw f fd) : FnG P w K mg base CX0 1 f fd ["source", "limit"] spDraw := by
  refine okG F sc_law_draw (fun vs H Q E h => ?_) (fun cdv A outer s H vs Q E hG hr h => ?_)
  · obtain ⟨a, m, n, rfl, _⟩ := h
    rfl
  · obtain ⟨a, m, n, rfl, ⟨x, y, z, ha, y0, y1, z0, z1⟩, hn, m0, m1, q⟩ := h
    refine ⟨_, (pss_cons (ps_if (pt_cmpR op_gt (pe_ix ix_list (pv 0) pe_int (fun _ _ => rfl)) pe_int (nomark _)) (pss_cons (ps_set (i := 2) sc_law_draw.nd rfl (Or.inl rfl) (pe_op op_mod (pe_ix ix_list (pv 0) pe_int (fun _ _ => rfl)) (pv 1)))
          (pss_cons (ps_asg (pe_op op_fdivW (pe_ix ix_list (pv 0) pe_int (fun _ _ => rfl)) (pv 1)) (pg_sub (pv 0) pe_int set_list))
          (pss_one (ps_ret (pv 2))))) pss_nil)
        (pss_cons (ps_asg (pe_op op_add (pe_ix ix_list (pv 0) pe_int (fun _ _ => rfl)) pe_int) (pg_sub (pv 0) pe_int set_list))
        (pss_cons (ps_set (i := 3) sc_law_draw.nd rfl (Or.inl rfl) (pe_op op_mod (pe_op op_powW (pe_op op_add (pe_op op_add (pe_ix ix_list (pv 0) pe_int (fun _ _ => rfl)) (pe_op op_mulW (pe_op op_mulW pe_int (pe_ix ix_list (pv 0) pe_int (fun _ _ => rfl))) (pe_ix ix_list (pv 0) pe_int (fun _ _ => rfl)))) pe_int) pe_int) pe_int))
        (pss_cons (ps_set (i := 3) sc_law_draw.nd rfl (Or.inl rfl) (pe_op op_mod (pe_op op_powW (pe_op op_add (pv 3) (pe_op op_mulW pe_int (pe_ix ix_list (pv 0) pe_int (fun _ _ => rfl)))) pe_int) pe_int))
        (pss_one (ps_ret (pe_op op_mod (pe_op op_fdivW (pv 3) pe_int) (pv 1)))))))), ?_⟩
    have hS : SqL K H a [.int x, .int y, .int z] := .of ha
    by_cases hx : 0 < x
    · refine ⟨_, rfl, a, _, 0, _, rfl, rfl, hS, at0, _, _, rfl, rfl, true, dT hx, ?_⟩
      refine ⟨_, rfl, a, _, 0, _, rfl, rfl, hS, at0, _, rfl, _, _, rfl, rfl, (by show (0 : Int) < m; omega), ?_⟩
      refine ⟨_, rfl, a, _, 0, _, rfl, rfl, hS, at0, _, rfl, _, _, rfl, rfl, wide_div (b := 30) (by omega) (lt_pow (by omega) (by omega)) (by decide) (by decide), ?_⟩
      refine ⟨_, rfl, a, _, 0, 0, rfl, rfl, ha, rfl, _, rfl, ?_⟩
      exact q _ _ (Int.emod_nonneg _ (by omega)) (Int.emod_lt_of_pos _ (by omega)) ⟨_, _, _, upd_same, y0, y1, z0, by omega⟩ (.at_ _ _ _)
    · refine ⟨_, rfl, a, _, 0, _, rfl, rfl, hS, at0, _, _, rfl, rfl, false, dF hx, ?_⟩
      refine ⟨_, rfl, a, _, 2, _, rfl, rfl, hS, at2, _, _, rfl, rfl, _, rfl, a, _, 2, 2, rfl, rfl, ha, rfl, ?_⟩
      have e2 : ([V.int x, .int y, .int z] : List V).set 2 (.int (z + 1)) = [.int x, .int y, .int (z + 1)] := rfl
      have hS2 : SqL K (upd H a (.lst [.int x, .int y, .int (z + 1)])) a [.int x, .int y, .int (z + 1)] := .of upd_same
      have zz := zz_le (z := z + 1) (by omega) (by omega)
      have zz0 : 0 ≤ (z + 1) * (z + 1) := Int.mul_nonneg (by omega) (by omega)
      have em : 40503 * (z + 1) * (z + 1) = 40503 * ((z + 1) * (z + 1)) := Int.mul_assoc _ _ _
      have c1 : CPowW (y + 40503 * (z + 1) * (z + 1) + 11) 3 := powW_ok (n := 400) (lt_pow (by omega) (by omega)) (by decide) (by decide)
      refine ⟨_, rfl, a, _, 1, _, rfl, rfl, hS2, at1, _, rfl, a, _, 2, _, rfl, rfl, hS2, at2, _, _, rfl, rfl, wide_mul (a := 30) (b := 30) (by decide) (lt_pow (by omega) (by omega)) (by decide) (by decide) (by decide), ?_⟩
      refine ⟨_, rfl, a, _, 2, _, rfl, rfl, hS2, at2, _, _, rfl, rfl, wide_mul (a := 60) (b := 30) (lt_pow (by omega) (by omega)) (lt_pow (by omega) (by omega)) (by decide) (by decide) (by decide), _, _, rfl, rfl, _, _, rfl, rfl, _, _, rfl, rfl, c1, _, _, rfl, rfl, (by show (0 : Int) < 2305843009213693951; decide), ?_⟩
      generalize (y + 40503 * (z + 1) * (z + 1) + 11) ^ (3 : Int).toNat = big
      have b0 : 0 ≤ big % 2305843009213693951 := Int.emod_nonneg _ (by decide)
      have b1 : big % 2305843009213693951 < 2305843009213693951 := Int.emod_lt_of_pos _ (by decide)
      have c2 : CPowW (big % 2305843009213693951 + 69621 * (z + 1)) 3 := powW_ok (n := 400) (lt_pow (by omega) (by omega)) (by decide) (by decide)
      refine ⟨_, rfl, _, rfl, a, _, 2, _, rfl, rfl, hS2, at2, _, _, rfl, rfl, wide_mul (a := 30) (b := 30) (by decide) (lt_pow (by omega) (by omega)) (by decide) (by decide) (by decide), _, _, rfl, rfl, _, _, rfl, rfl, c2, _, _, rfl, rfl, (by show (0 : Int) < 2305843009213693921; decide), ?_⟩
      refine ⟨_, rfl, _, _, rfl, rfl, wide_div (b := 30) (by decide) (by decide) (by decide) (by decide), _, rfl, _, _, rfl, rfl, (by show (0 : Int) < m; omega), ?_⟩
      exact q _ _ (Int.emod_nonneg _ (by omega)) (Int.emod_lt_of_pos _ (by omega)) ⟨_, _, _, upd_same, y0, y1, by omega, by omega⟩ (.at_ _ _ _)
end
section
variable {P : Program} {w : World} {K : PySem.W.Frag} {mg : Str → Option Value} {base : Heap}
/-! ### where the draws come from -/
def spSource (K : PySem.W.Frag) : Sp := fun vs H Q _ => ∃ (a : Addr) (ns : List Int) (k : Nat), vs = [.ref a, .int (k : Int)] ∧ SqL K H a (ns.map V.int) ∧ k ≤ 1000 ∧ ∀ H' p, Same H H' → H p = none → Src H' p 0 → Q (.ref p) H'
theorem src_y {r k : Int} (r0 : 0 ≤ r) (r1 : r < 10 ^ (60 : Int).toNat + 7) (k0 : 0 ≤ k) : 0 ≤ r * 64 + k % 64 ∧ r * 64 + k % 64 < 2 ^ 300 := by
  have e : (10 : Int) ^ (60 : Int).toNat + 7 = 1000000000000000000000000000000000000000000000000000000000007 := by decide +kernel
  rw [e] at r1
  omega
theorem ok_law_open_source {f : Addr} {fd : FuncData} (F : Fun K "_law_open_source" "_law_open_source" s_law_open_source f fd) (B : NoB mg) : FnG P w K mg base CX0 1 f fd ["script", "k"] (spSource K) := by
  refine okG F sc_law_open_source (fun vs H Q E h => ?_) (fun cdv A outer s H vs Q E hG hr h => ?_)
  · obtain ⟨a, ns, k, rfl, _⟩ := h
    rfl
  · obtain ⟨a, ns, k, rfl, hS, hk, q⟩ := h
    refine ⟨_, (pss_cons (ps_set (i := 2) sc_law_open_source.nd rfl (Or.inl rfl) pe_int)
        (Evl.pss_cut (ps_if (pt_cmpR op_lt (pv 1) (pe_callB call_len_seq (by rfl) B.len PySem.boot_len (pa_cons (pv 0) pa_nil)) (nomark _)) (pss_one (ps_set (i := 2) sc_law_open_source.nd rfl (Or.inl rfl) (pe_ix ix_list (pv 0) (pv 1) (fun _ _ => rfl)))) pss_nil)
        (pss_one (ps_ret (pe_lst (pa_cons (pe_callB (call_max2 rfl) (by rfl) B.max (by decide +kernel) (pa_cons pe_int (pa_cons (pe_op op_sub (pv 2) (pe_op op_powW pe_int pe_int)) pa_nil))) (pa_cons (pe_op op_add (pe_op op_mulW (pe_op op_mod (pv 2) (pe_op op_add (pe_op op_powW pe_int pe_int) pe_int)) pe_int) (pe_op op_mod (pv 1) pe_int)) (pa_cons pe_int pa_nil)))))))), ?_⟩
    refine ⟨fun σ H' => H' = H ∧ ∃ c : Int, σ = [some (.ref a), some (.int (k : Int)), some (.int c)], ?_, fun σ H' hm => ?_⟩
    · by_cases hl : (k : Int) < (((ns.map V.int).length : Nat) : Int)
      · have hl' : k < ns.length := by rw [List.length_map] at hl; omega
        refine ⟨_, rfl, _, rfl, a, _, rfl, .inl hS, _, _, rfl, rfl, true, dT hl, ?_⟩
        refine ⟨_, rfl, _, rfl, a, _, _, .int ns[k], rfl, rfl, hS, atI_nat ?_, rfl, ns[k], rfl⟩
        rw [List.getElem?_map, List.getElem?_eq_getElem hl']
        rfl
      · exact ⟨_, rfl, _, rfl, a, _, rfl, .inl hS, _, _, rfl, rfl, false, dF hl, rfl, 0, rfl⟩
    · obtain ⟨rfl, c, rfl⟩ := hm
      have p1 : CPowW 10 18 := powW_ok (n := 4) (by decide) (by decide) (by decide)
      have p2 : CPowW 10 60 := powW_ok (n := 4) (by decide) (by decide) (by decide)
      have m0 : (0 : Int) < 10 ^ (60 : Int).toNat + 7 := by decide +kernel
      have r0 := Int.emod_nonneg c (Int.ne_of_gt m0)
      have r1 := Int.emod_lt_of_pos c m0
      have e : (10 : Int) ^ (60 : Int).toNat + 7 = 1000000000000000000000000000000000000000000000000000000000007 := by decide +kernel
      have r2 : c % (10 ^ (60 : Int).toNat + 7) < 2 ^ 200 := by
        refine Int.lt_trans r1 ?_
        rw [e]
        decide
      refine ⟨_, rfl, _, _, rfl, rfl, p1, _, _, rfl, rfl, _, _, rfl, _, rfl, _, _, rfl, rfl, p2, _, _, rfl, rfl, _, _, rfl, rfl, m0, _, _, rfl, rfl, wide_mul (a := 200) (b := 30) (lt_pow r0 r2) (by decide) (by decide) (by decide) (by decide),
        _, rfl, _, _, rfl, rfl, (by show (0 : Int) < 64; decide), _, _, rfl, rfl, by show 3 ≤ sizeLine; decide, fun p np => q _ p (same_new np) np ?_⟩
      obtain ⟨y0, y1⟩ := src_y r0 r1 (Int.natCast_nonneg k)
      exact ⟨_, _, _, upd_same, y0, y1, Int.le_refl _, Int.le_refl _⟩

end
/-! ### the drawn history -/
def upL (n : Nat) : List Int := (List.range n).map fun i : Nat => 1 + (i : Int)
theorem nodup_map {α β : Type} {f : α → β} (hf : ∀ x y, f x = f y → x = y) : ∀ {l : List α}, l.Nodup → (l.map f).Nodup
  | [], _ => List.nodup_nil
  | x :: r, h => by
    obtain ⟨h1, h2⟩ := List.nodup_cons.mp h
    refine List.nodup_cons.mpr ⟨fun hm => ?_, nodup_map hf h2⟩
    obtain ⟨y, hy, e⟩ := List.mem_map.mp hm
    exact h1 (hf _ _ e ▸ hy)
theorem upL_nd (n : Nat) : (upL n).Nodup := nodup_map (fun x y e => by omega) List.nodup_range
theorem upL_mem {n : Nat} {k : Int} (h : k ∈ upL n) : 1 ≤ k ∧ k ≤ (n : Int) := by
  obtain ⟨i, hi, rfl⟩ := List.mem_map.mp h
  have := List.mem_range.mp hi
  omega
theorem upL_len (n : Nat) : (upL n).length = n := by
  unfold upL
  rw [List.length_map, List.length_range]
theorem rgV_up (b : Int) : rgV 1 b = (upL (b - 1).toNat).map V.int := by
  unfold rgV upL
  rw [List.map_map]
  rfl
structure Good (fr av fd : List Int) : Prop where
  rng : ∀ e ∈ fd, e ≠ 0 ∧ -100 ≤ e ∧ e ≤ 100
  nd : fd.Nodup
  ord : ∀ (i : Nat) (e : Int), fd[i]? = some e → e < 0 → -e ∈ fd.take i
  avn : av.Nodup
  avm : ∀ k ∈ av, 0 < k ∧ k ∈ fd ∧ -k ∉ fd
  frn : fr.Nodup
  frm : ∀ k ∈ fr, 1 ≤ k ∧ k ≤ 100 ∧ k ∉ fd
theorem ord_snoc {fd : List Int} {x : Int} (h : ∀ (i : Nat) (e : Int), fd[i]? = some e → e < 0 → -e ∈ fd.take i) (hx : x < 0 → -x ∈ fd) (i : Nat) (e : Int) (he : (fd ++ [x])[i]? = some e) (h0 : e < 0) : -e ∈ (fd ++ [x]).take i := by
  by_cases hi : i < fd.length
  · rw [List.getElem?_append_left hi] at he
    rw [List.take_append_of_le_length (Nat.le_of_lt hi)]
    exact h i e he h0
  · have hi2 := lt_get he
    rw [List.length_append, List.length_singleton] at hi2
    have e1 : i = fd.length := by omega
    subst e1
    rw [List.getElem?_append_right (Nat.le_refl _), Nat.sub_self] at he
    have e2 : x = e := Option.some.inj he
    subst e2
    rw [List.take_append_of_le_length (Nat.le_refl _), List.take_length]
    exact hx h0
theorem ord_mem {fd : List Int} (h : ∀ (i : Nat) (e : Int), fd[i]? = some e → e < 0 → -e ∈ fd.take i) {e : Int} (he : e ∈ fd) (h0 : e < 0) : -e ∈ fd := by
  obtain ⟨i, hi, rfl⟩ := List.mem_iff_getElem.mp he
  exact List.mem_of_mem_take (h i _ (List.getElem?_eq_getElem hi) h0)
theorem nodup_snoc {l : List Int} {x : Int} (h : l.Nodup) (hx : x ∉ l) : (l ++ [x]).Nodup :=
  List.nodup_append.mpr ⟨h, List.nodup_cons.mpr ⟨List.not_mem_nil, List.nodup_nil⟩, fun a ha b hb e => hx (by
    rw [List.mem_singleton] at hb
    rw [← hb, ← e]
    exact ha)⟩
theorem Good.push {k : Int} {fr av fd : List Int} (g : Good (k :: fr) av fd) : Good fr (av ++ [k]) (fd ++ [k]) := by
  obtain ⟨k1, k2, k3⟩ := g.frm k List.mem_cons_self
  obtain ⟨n1, n2⟩ := List.nodup_cons.mp g.frn
  have kn : -k ∉ fd := fun h => k3 (by
    have z := ord_mem g.ord h (by omega)
    rwa [Int.neg_neg] at z)
  have kav : k ∉ av := fun h => k3 (g.avm k h).2.1
  refine ⟨fun e he => ?_, nodup_snoc g.nd k3, ord_snoc g.ord (fun z => by omega), nodup_snoc g.avn kav, fun j hj => ?_, n2, fun j hj => ?_⟩
  · rcases List.mem_append.mp he with h | h
    · exact g.rng e h
    · rw [List.mem_singleton] at h
      omega
  · rw [List.mem_append, List.mem_append, List.mem_singleton, List.mem_singleton]
    rcases List.mem_append.mp hj with h | h
    · obtain ⟨a, b, c⟩ := g.avm j h
      exact ⟨a, .inl b, fun z => z.elim c fun z => by omega⟩
    · rw [List.mem_singleton] at h
      subst h
      exact ⟨by omega, .inr rfl, fun z => z.elim kn fun z => by omega⟩
  · obtain ⟨a, b, c⟩ := g.frm j (List.mem_cons_of_mem _ hj)
    refine ⟨a, b, fun z => ?_⟩
    rcases List.mem_append.mp z with h | h
    · exact c h
    · rw [List.mem_singleton] at h
      exact n1 (h ▸ hj)
theorem Good.stop {fr av fd : List Int} (g : Good fr av fd) {j : Nat} (hj : j < av.length) : Good fr (av.eraseIdx j) (fd ++ [-av[j]]) := by
  obtain ⟨a0, a1, a2⟩ := g.avm av[j] (List.getElem_mem hj)
  have pm := erase_perm av j hj
  have ndp : (av[j] :: av.eraseIdx j).Nodup := pm.nodup_iff.mpr g.avn
  obtain ⟨m1, m2⟩ := List.nodup_cons.mp ndp
  refine ⟨fun e he => ?_, nodup_snoc g.nd a2, ord_snoc g.ord (fun _ => by rw [Int.neg_neg]; exact a1), m2, fun k hk => ?_, g.frn, fun k hk => ?_⟩
  · rcases List.mem_append.mp he with h | h
    · exact g.rng e h
    · rw [List.mem_singleton] at h
      have := g.rng _ a1
      omega
  · have hk2 : k ∈ av := pm.mem_iff.mp (List.mem_cons_of_mem _ hk)
    obtain ⟨a, b, c⟩ := g.avm k hk2
    refine ⟨a, List.mem_append_left _ b, fun z => ?_⟩
    rcases List.mem_append.mp z with h | h
    · exact c h
    · rw [List.mem_singleton] at h
      have e : k = av[j] := by omega
      exact m1 (e ▸ hk)
  · obtain ⟨a, b, c⟩ := g.frm k hk
    refine ⟨a, b, fun z => ?_⟩
    rcases List.mem_append.mp z with h | h
    · exact c h
    · rw [List.mem_singleton] at h
      omega
theorem eqvT {xs ys : List Int} (h : xs = ys) : V.bl (PyData.eqv (dI xs) (dI ys)) = V.bl true := by rw [eqv_ints, decide_eq_true h]
theorem eqvF {xs ys : List Int} (h : ¬ xs = ys) : V.bl (PyData.eqv (dI xs) (dI ys)) = V.bl false := by rw [eqv_ints, decide_eq_false h]
theorem neqT {xs ys : List Int} (h : ¬ xs = ys) : V.bl (!PyData.eqv (dI xs) (dI ys)) = V.bl true := by rw [eqv_ints, decide_eq_false h]; rfl
theorem neqF {xs ys : List Int} (h : xs = ys) : V.bl (!PyData.eqv (dI xs) (dI ys)) = V.bl false := by rw [eqv_ints, decide_eq_true h]; rfl
theorem nodup_len {l : List Int} : ∀ {m : List Int}, l.Nodup → (∀ x ∈ l, x ∈ m) → l.length ≤ m.length := by
  induction l with
  | nil => intro m _ _; exact Nat.zero_le _
  | cons x r ih =>
    intro m h s
    obtain ⟨h1, h2⟩ := List.nodup_cons.mp h
    have hx := s x List.mem_cons_self
    have z := ih (m := m.erase x) h2 fun y hy => (List.mem_erase_of_ne (fun e : y = x => h1 (e ▸ hy))).mpr (s y (List.mem_cons_of_mem _ hy))
    rw [List.length_erase_of_mem hx] at z
    have := List.length_pos_of_mem hx
    show r.length + 1 ≤ m.length
    omega
section
variable {P : Program} {w : World} {K : PySem.W.Frag} {mg : Str → Option Value} {base : Heap}
def spLog (K : PySem.W.Frag) : Sp := fun vs H Q _ => ∃ (src sc : Addr) (most : Int) (n : Nat) (scr : List Int), vs = [.ref src, .ref sc, .int most] ∧ Src H src n ∧ n ≤ 800000 ∧ (∀ H', Bt src H H' → SqL K H' sc (scr.map V.int)) ∧ 1 ≤ most ∧ most ≤ 100 ∧
  ∀ (H' : Hp) (p : Addr) (log : List Int), Hist log → log ≠ [] → Bt src H H' → Src H' src (n + 1000) → H p = none → H' p = some (.lst (log.map V.int)) → Q (.ref p) H'
/-- what the loop of _law_log keeps -/
def LogF (H H' : Hp) (src fa fo al : Addr) (n : Nat) (fr av fd : List Int) : Prop :=
  H' fa = some (.lst (fr.map V.int)) ∧ H' al = some (.lst (av.map V.int)) ∧ H' fo = some (.lst (fd.map V.int)) ∧ Src H' src n ∧ Bt src H H'
theorem ok_law_log {f : Addr} {fdd : FuncData} (F : Fun K "_law_log" "_law_log" s_law_log f fdd) (B : NoB mg) (T_law_draw : Gc P w K mg base 1 "_law_draw" spDraw) : FnG P w K mg base CX0 2 f fdd ["source", "script", "most"] (spLog K) := by
  refine okG F sc_law_log (fun vs H Q E h => ?_) (fun cdv A outer s H vs Q E hG hr h => ?_)
  · obtain ⟨src, sc, most, n, scr, rfl, _⟩ := h
    rfl
  · obtain ⟨src, sc, most, n, scr, rfl, hs, hn, hS, m1, m2, q⟩ := h
    have hu64 := hr.units
    refine ⟨_, (pss_cons (ps_set (i := 3) sc_law_log.nd rfl (Or.inl rfl) (pe_ix ix_list (pe_lst (pa_cons (pe_op op_add pe_int (pe_g T_law_draw hG hr (by decide) (by rfl) (pa_cons (pv 0) (pa_cons pe_int pa_nil)))) (pa_cons (pe_op op_add pe_int (pe_g T_law_draw hG hr (by decide) (by rfl) (pa_cons (pv 0) (pa_cons (pv 2) pa_nil)))) (pa_cons (pv 2) pa_nil)))) (pe_g T_law_draw hG hr (by decide) (by rfl) (pa_cons (pv 0) (pa_cons pe_int pa_nil))) (fun _ _ => rfl)))
        (pss_cons (ps_asg (pe_tup (pa_cons (pe_g T_law_draw hG hr (by decide) (by rfl) (pa_cons (pv 0) (pa_cons pe_int pa_nil))) (pa_cons (pe_op op_add pe_int (pe_g T_law_draw hG hr (by decide) (by rfl) (pa_cons (pv 0) (pa_cons pe_int pa_nil)))) (pa_cons (pe_listRg rfl (by rfl) B.list (prg_2 (by rfl) B.range pe_int pe_int)) pa_nil)))) (pg_tup rfl (pgs_cons (pg_name (i := 4) sc_law_log.nd rfl (Or.inl rfl)) (pgs_cons (pg_name (i := 5) sc_law_log.nd rfl (Or.inl rfl)) (pgs_cons (pg_name (i := 6) sc_law_log.nd rfl (Or.inr rfl)) pgs_nil)))))
        (Evl.pss_cut (ps_if (pt_cmpR (op_eqD hu64) (pv 1) (pe_lst pa_nil) (nomark _)) (pss_one (ps_par3 (i := 3) (j := 4) (l := 5) (by rfl) sc_law_log.nd rfl rfl rfl (by decide) (by decide) (by decide) rfl rfl rfl (pa_cons (pe_callB (call_min2 rfl) (by rfl) B.min (by decide +kernel) (pa_cons pe_int (pa_cons (pv 2) pa_nil))) (pa_cons pe_int (pa_cons pe_int pa_nil))) (by rfl))) pss_nil)
        (pss_cons (ps_setLc (i := 7) (own := [("turn", 10)]) (g := gName 10) (tt := tYes) rfl sc_law_log.nd rfl rfl (sw_true rfl rfl rfl (by decide +kernel)) (pi_range1 rfl B.range (pa_cons (pv 3) pa_nil)) (blkOk_by (own := [("turn", 10)]) (N := N_law_log) (sc := defScope s_law_log) (by decide +kernel)) (fun _ _ _ _ _ => (pg_name (i := 10) sc_law_log.nd rfl (Or.inl rfl))) (fun _ _ _ _ _ => pts_nil) (fun _ _ _ _ _ => (k_bm (K := K) rfl PySem.F.plainAttrs_list PySem.F.slot_list_pop PySem.F.type_list_pop mt_popAt (pv 6) (pa_cons (pe_g T_law_draw hG hr (by decide) (by rfl) (pa_cons (pv 0) (pa_cons (pe_callB (k_len (K := K) rfl) (by rfl) B.len PySem.boot_len (pa_cons (pv 6) pa_nil)) pa_nil))) pa_nil))))
        (Evl.pss_cut (ps_if (pt_cmpR op_eq (pe_g T_law_draw hG hr (by decide) (by rfl) (pa_cons (pv 0) (pa_cons pe_int pa_nil))) pe_int (nomark _)) (pss_one (ps_set (i := 7) sc_law_log.nd rfl (Or.inl rfl) (pe_listRg rfl (by rfl) B.list (prg_2 (by rfl) B.range pe_int (pe_op op_add (pv 3) pe_int))))) pss_nil)
        (pss_cons (ps_par (i := 8) (j := 9) (by rfl) sc_law_log.nd rfl rfl (by decide) rfl rfl (pa_cons (pe_lst pa_nil) (pa_cons (pe_lst pa_nil) pa_nil)) (by rfl))
        (pss_cons (ps_for PassesOwn.never rfl (pi_range1 rfl B.range (pa_cons (pe_op op_sub (pe_op op_mulW pe_int (pv 3)) (pe_g T_law_draw hG hr (by decide) (by rfl) (pa_cons (pv 0) (pa_cons (pe_op op_add (pv 3) pe_int) pa_nil)))) pa_nil)) (pg_name (i := 10) sc_law_log.nd rfl (Or.inl rfl))
          (pss_one (ps_if (pt_mid (PW.pt (pw_and (pt_cmpR (op_neD hu64) (pv 7) (pe_lst pa_nil) (nomark _)) (pw_and1 (PW.pt (pw_or (pt_cmpR (op_eqD hu64) (pv 9) (pe_lst pa_nil) (nomark _)) (pw_or (pt_cmpR op_eq (pv 4) pe_int (nomark _)) (pw_or1 (pt_cmpR op_ge (pe_g T_law_draw hG hr (by decide) (by rfl) (pa_cons (pv 0) (pa_cons pe_int pa_nil))) (pv 5) (nomark _)))))))))) (pss_cons (ps_expr (pe_bm PySem.F.plainAttrs_list PySem.F.slot_list_append PySem.F.type_list_append mt_append (pv 9) (pa_cons (pe_bm PySem.F.plainAttrs_list PySem.F.slot_list_pop PySem.F.type_list_pop mt_popAt (pv 7) (pa_cons pe_int pa_nil)) pa_nil)))
            (pss_one (ps_expr (pe_bm PySem.F.plainAttrs_list PySem.F.slot_list_append PySem.F.type_list_append mt_append (pv 8) (pa_cons (pe_ix ix_list (pv 9) (pe_un un_neg pe_int) (fun _ _ => rfl)) pa_nil))))) (pss_one (ps_if (pt_cmpR (op_neD hu64) (pv 9) (pe_lst pa_nil) (nomark _)) (pss_cons (ps_set (i := 11) sc_law_log.nd rfl (Or.inl rfl) (pe_op op_sub (pe_callB call_len_seq (by rfl) B.len PySem.boot_len (pa_cons (pv 9) pa_nil)) pe_int))
              (pss_cons (ps_set (i := 12) sc_law_log.nd rfl (Or.inl rfl) (pe_lst (pa_cons (pe_g T_law_draw hG hr (by decide) (by rfl) (pa_cons (pv 0) (pa_cons (pe_callB call_len_seq (by rfl) B.len PySem.boot_len (pa_cons (pv 9) pa_nil)) pa_nil))) (pa_cons pe_int (pa_cons (pv 11) (pa_cons (pe_g T_law_draw hG hr (by decide) (by rfl) (pa_cons (pv 0) (pa_cons (pe_callB call_len_seq (by rfl) B.len PySem.boot_len (pa_cons (pv 9) pa_nil)) pa_nil))) (pa_cons (pe_callB (call_max2 rfl) (by rfl) B.max (by decide +kernel) (pa_cons pe_int (pa_cons (pe_op op_sub (pv 11) pe_int) pa_nil))) pa_nil)))))))
              (pss_one (ps_expr (pe_bm PySem.F.plainAttrs_list PySem.F.slot_list_append PySem.F.type_list_append mt_append (pv 8) (pa_cons (pe_op op_sub pe_int (pe_bm PySem.F.plainAttrs_list PySem.F.slot_list_pop PySem.F.type_list_pop mt_popAt (pv 9) (pa_cons (pe_ix ix_list (pv 12) (pv 4) (fun _ _ => rfl)) pa_nil))) pa_nil)))))) pss_nil)))))
        (pss_one (ps_ret (pv 8)))))))))), ?_⟩
    -- many
    refine ⟨_, rfl, src, 5, n, rfl, hs, by omega, by decide, by decide, fun r1 H1 r10 r11 hs1 b1 => ?_⟩
    refine ⟨_, _, rfl, rfl, _, rfl, _, rfl, src, most, n + 1, rfl, hs1, by omega, m1, by omega, fun r2 H2 r20 r21 hs2 b2 => ?_⟩
    refine ⟨_, _, rfl, rfl, _, rfl, by show 3 ≤ sizeLine; decide, fun L nL => ?_⟩
    refine ⟨_, rfl, src, 3, n + 2, rfl, hs2.new nL, by omega, by decide, by decide, fun r3 H3 r30 r31 hs3 b3 => ?_⟩
    have nLs := hs2.ne nL
    have hL3 : H3 L = some (.lst [.int (1 + r1), .int (1 + r2), .int most]) := b3 _ _ nLs upd_same
    obtain ⟨many, em, k1, k2⟩ : ∃ m : Int, atI [V.int (1 + r1), .int (1 + r2), .int most] r3 = some (.int m) ∧ 1 ≤ m ∧ m ≤ 100 := by
      have c : r3 = 0 ∨ r3 = 1 ∨ r3 = 2 := by omega
      rcases c with rfl | rfl | rfl
      · exact ⟨_, at0, by omega, by omega⟩
      · exact ⟨_, at1, by omega, by omega⟩
      · exact ⟨_, at2, m1, m2⟩
    have b03 : Bt src H H3 := ((b1.trans b2).add nL).trans b3
    refine ⟨L, _, r3, _, rfl, rfl, .of hL3, em, ?_⟩
    -- style, rate, left
    refine ⟨_, rfl, src, 5, n + 3, rfl, hs3, by omega, by decide, by decide, fun r4 H4 r40 r41 hs4 b4 => ?_⟩
    refine ⟨_, rfl, src, 3, n + 4, rfl, hs4, by omega, by decide, by decide, fun r5 H5 r50 r51 hs5 b5 => ?_⟩
    refine ⟨_, _, rfl, rfl, _, _, rfl, rfl, RgOk.of_le (by decide) (by decide) (by decide) (by decide), fun lf nlf => ?_⟩
    refine ⟨by show 3 ≤ sizeLine; decide, fun T nT => ⟨T, _, rfl, .of upd_same, rfl, _, _, rfl, _, _, rfl, _, _, rfl, rfl, ?_⟩⟩
    have b05 : Bt src H H5 := (b03.trans b4).trans b5
    have nlfs := hs5.ne nlf
    have hlf0 : H lf = none := free_of b05 nlfs nlf
    have hlf6 : (upd (upd H5 lf (.lst (rgV 1 101))) T (.tup [.int r4, .int (1 + r5), .ref lf])) lf = some (.lst ((upL 100).map V.int)) := by
      rw [upd_ne (ne_of_none upd_same nT), upd_same, rgV_up]
      rfl
    have hs6 : Src (upd (upd H5 lf (.lst (rgV 1 101))) T (.tup [.int r4, .int (1 + r5), .ref lf])) src (n + 5) := (hs5.new nlf).new nT
    have b06 : Bt src H (upd (upd H5 lf (.lst (rgV 1 101))) T (.tup [.int r4, .int (1 + r5), .ref lf])) := (b05.add nlf).add nT
    generalize upd (upd H5 lf (.lst (rgV 1 101))) T (.tup [.int r4, .int (1 + r5), .ref lf]) = H6 at hlf6 hs6 b06 ⊢
    -- if script == []
    refine ⟨fun σ H' => (∃ m st rt : Int, σ = [some (.ref src), some (.ref sc), some (.int most), some (.int m), some (.int st), some (.int rt), some (.ref lf), none, none, none, none, none, none] ∧ 1 ≤ m ∧ m ≤ 100 ∧ 0 ≤ st ∧ st ≤ 4) ∧
      Src H' src (n + 5) ∧ Bt src H H' ∧ H' lf = some (.lst ((upL 100).map V.int)), ?_, fun σ H7 hm => ?_⟩
    · refine ⟨_, rfl, Nat.zero_le _, fun e ne => ?_⟩
      have f6 : Src (upd H6 e (.lst [])) src (n + 5) ∧ Bt src H (upd H6 e (.lst [])) ∧ (upd H6 e (.lst [])) lf = some (.lst ((upL 100).map V.int)) := ⟨hs6.new ne, b06.add ne, by rw [upd_ne (ne_of_none hlf6 ne)]; exact hlf6⟩
      by_cases hb : scr = []
      · refine ⟨dI scr, dI [], dp_ints (hS _ (b06.add ne)), dp_ints (ns := []) (.of upd_same), shaped_ints _, shaped_ints _, true, eqvT hb, ?_⟩
        refine ⟨_, rfl, _, _, rfl, _, _, _, rfl, ⟨_, 0, 2, rfl, ?_, ?_, by decide, by decide⟩, f6⟩
        · split <;> omega
        · split <;> omega
      · refine ⟨dI scr, dI [], dp_ints (hS _ (b06.add ne)), dp_ints (ns := []) (.of upd_same), shaped_ints _, shaped_ints _, false, eqvF hb, ?_⟩
        exact ⟨⟨many, r4, 1 + r5, rfl, k1, k2, r40, by omega⟩, f6⟩
    · obtain ⟨⟨m, st, rt, rfl, m10, m11, st0, st1⟩, hs7, b07, hlf7⟩ := hm
      -- fresh
      refine ⟨_, rfl, m, rfl, by omega, by omega, fun D nD => ?_⟩
      have nDs := hs7.ne nD
      have hD0 := free_of b07 nDs nD
      have nlD : lf ≠ D := ne_of_none hlf7 nD
      refine lc_range (lo := 0) (n := m.toNat) (fun i H' => ∃ l ac : List Int, H' lf = some (.lst (l.map V.int)) ∧ H' D = some (.lst (ac.map V.int)) ∧ (ac ++ l).Perm (upL 100) ∧ ac.length = i ∧ Src H' src (n + 5 + i) ∧ Bt src H H')
        ⟨upL 100, [], by rw [upd_ne nlD]; exact hlf7, upd_same, .refl _, rfl, hs7.new nD, b07.add nD⟩ (fun i H' hi h => ?_) (fun H8 h => ?_)
      · obtain ⟨l, ac, hl, hac, pm, li, hs', b'⟩ := h
        have lsum : ac.length + l.length = 100 := by rw [← List.length_append, pm.length_eq, upL_len]
        refine ⟨rfl, ?_⟩
        refine ⟨_, rfl, .inl ⟨rfl, _, .of hl⟩, _, rfl, _, rfl, lf, _, rfl, .inl (.of hl), src, _, n + 5 + i, rfl, hs', by omega, by rw [List.length_map]; omega, by rw [List.length_map]; omega, fun r H9 r0 r1 hs9 b9 => ?_⟩
        obtain ⟨j, rfl⟩ := nat_of r0
        rw [List.length_map] at r1
        have hj : j < l.length := by omega
        have hl9 : H9 lf = some (.lst (l.map V.int)) := b9 _ _ nlfs hl
        have hac9 : H9 D = some (.lst (ac.map V.int)) := b9 _ _ nDs hac
        refine ⟨lf, _, _, j, _, rfl, rfl, hl9, (nm (by omega)).1, (nm (by omega)).2, by rw [List.length_map]; exact ix_at hj, get_at hj, _, (by rw [upd_ne nlD.symm]; exact hac9), by rw [List.length_map]; exact zl (by omega), l.eraseIdx j, ac ++ [l[j]], ?_, ?_, ?_, ?_, ?_, ?_⟩
        · rw [upd_ne nlD, upd_same, erase_map]
        · rw [upd_same, List.map_append]
          rfl
        · rw [List.append_assoc]
          exact ((erase_perm l j hj).append_left ac).trans pm
        · rw [List.length_append, li]
          rfl
        · exact ((hs9.upd nlfs).upd nDs).mono (by omega)
        · exact ((b'.trans b9).mut hlf0).mut hD0
      · obtain ⟨l, ac, hl, hac, pm, li, hs8, b08⟩ := h
        have acl : ac ≠ [] := fun e => by
          rw [e] at li
          have : (0 : Nat) = m.toNat := li
          omega
        have ndU : (ac ++ l).Nodup := pm.nodup_iff.mpr (upL_nd 100)
        have acn : ac.Nodup := (List.nodup_append.mp ndU).1
        have acm : ∀ k ∈ ac, 1 ≤ k ∧ k ≤ 100 := fun k hk => upL_mem (pm.mem_iff.mp (List.mem_append_left _ hk))
        -- if draw == 0: fresh = 1, 2, ..
        refine ⟨fun σ H' => ∃ (fa : Addr) (fr : List Int), σ = [some (.ref src), some (.ref sc), some (.int most), some (.int m), some (.int st), some (.int rt), some (.ref lf), some (.ref fa), none, none, none, none, none] ∧
          fr ≠ [] ∧ fr.Nodup ∧ (∀ k ∈ fr, 1 ≤ k ∧ k ≤ 100) ∧ H' fa = some (.lst (fr.map V.int)) ∧ H fa = none ∧ Src H' src (n + 106) ∧ Bt src H H', ?_, fun σ H9 hm => ?_⟩
        · refine ⟨_, rfl, src, 2, n + 105, rfl, hs8.mono (by omega), by omega, by decide, by decide, fun r H9 r0 r1 hs9 b9 => ?_⟩
          have hac9 : H9 D = some (.lst (ac.map V.int)) := b9 _ _ nDs hac
          by_cases er : r = 0
          · refine ⟨rfl, true, dT (congrArg V.int er), ?_⟩
            refine ⟨_, rfl, _, _, rfl, rfl, _, _, rfl, rfl, RgOk.of_le (by decide) (by omega) (by decide) (by omega), fun fa nfa => ?_⟩
            refine ⟨fa, upL m.toNat, rfl, fun e => ?_, upL_nd _, fun k hk => ?_, ?_, free_of (b08.trans b9) (hs9.ne nfa) nfa, hs9.new nfa, (b08.trans b9).add nfa⟩
            · have := upL_len m.toNat
              rw [e] at this
              have : (0 : Nat) = m.toNat := this
              omega
            · have := upL_mem hk
              omega
            · rw [upd_same, rgV_up]
              have e : (m + 1 - 1).toNat = m.toNat := by omega
              rw [e]
          · refine ⟨rfl, false, dF (vne er), ?_⟩
            exact ⟨D, ac, rfl, acl, acn, acm, hac9, hD0, hs9, b08.trans b9⟩
        · obtain ⟨fa, fr0, rfl, fr0n, fr0d, fr0m, hfa, hfa0, hs9, b09⟩ := hm
          -- found, alive = [], []
          refine ⟨Nat.zero_le _, fun fo nfo => ⟨Nat.zero_le _, fun al nal => ⟨_, _, rfl, ?_⟩⟩⟩
          have nfas : fa ≠ src := fun e => by
            obtain ⟨x, y, z, h1, _⟩ := hs
            rw [e, h1] at hfa0
            cases hfa0
          have nfos := hs9.ne nfo
          have nals := (hs9.new nfo).ne nal
          have nafo : al ≠ fo := fun e => by
            rw [e, upd_same] at nal
            cases nal
          have nal9 : H9 al = none := by rw [upd_ne nafo] at nal; exact nal
          have hfo0 := free_of b09 nfos nfo
          have hal0 := free_of b09 nals nal9
          have nfafo : fa ≠ fo := ne_of_none hfa nfo
          have nfaal : fa ≠ al := ne_of_none hfa nal9
          -- the turns
          refine ⟨_, rfl, _, _, rfl, rfl, wide_mul (a := 3) (b := 10) (by decide) (by omega) (by decide) (by decide) (by decide), _, rfl, _, rfl, _, _, rfl, rfl, src, m + 1, n + 106, rfl, (hs9.new nfo).new nal, by omega, by omega, by omega, fun r H10 r0 r1 hs10 b10 => ?_⟩
          refine ⟨_, _, rfl, rfl, 2 * m - r, rfl, by omega, by omega, ?_⟩
          refine for_range (lo := 0) (n := (2 * m - r).toNat) (fun i σ H' => (∃ y1 y2 y3, σ = [some (.ref src), some (.ref sc), some (.int most), some (.int m), some (.int st), some (.int rt), some (.ref lf), some (.ref fa), some (.ref fo), some (.ref al), y1, y2, y3]) ∧
            ∃ fr av fd : List Int, LogF H H' src fa fo al (n + 107 + 3 * i) fr av fd ∧ Good fr av fd ∧ fd.length ≤ i ∧ (fd = [] → fr ≠ [] ∧ av = []) ∧ (0 < i → fd ≠ [])) ⟨⟨_, _, _, rfl⟩, fr0, [], [], ⟨?_, ?_, ?_, hs10, ((b09.add nfo).add nal).trans b10⟩, ?_, Nat.le_refl _, fun _ => ⟨fr0n, rfl⟩, fun z => absurd z (Nat.lt_irrefl _)⟩ (fun i σ H' hi h => ?_) (fun σ H' h => ?_)
          · refine b10 _ _ nfas ?_
            rw [upd_ne nfaal, upd_ne nfafo]
            exact hfa
          · exact b10 _ _ nals upd_same
          · refine b10 _ _ nfos ?_
            rw [upd_ne nafo.symm]
            exact upd_same
          · exact ⟨fun e he => absurd he List.not_mem_nil, List.nodup_nil, fun i e he => by simp at he, List.nodup_nil, fun k hk => absurd hk List.not_mem_nil, fr0d, fun k hk => ⟨(fr0m k hk).1, (fr0m k hk).2, List.not_mem_nil⟩⟩
          · obtain ⟨⟨y1, y2, y3, rfl⟩, fr, av, fd, ⟨f1, f2, f3, f4, f5⟩, g, ln, e1, e2⟩ := h
            have avl : av.length ≤ 100 := Nat.le_trans (nodup_len (m := upL 100) g.avn fun k hk => by
              obtain ⟨a, b, _⟩ := g.avm k hk
              have := g.rng k b
              exact List.mem_map.mpr ⟨(k - 1).toNat, List.mem_range.mpr (by omega), by omega⟩) (by rw [upL_len]; exact Nat.le_refl _)
            have i200 : i < 200 := by omega
            have sgl : ∀ (b : Bool) (H3 : Hp), LogF H H3 src fa fo al (n + 107 + 3 * i + 1) fr av fd → (b = true → fr ≠ []) → (b = false → fr = [] ∨ av ≠ []) → LogF H H3 src fa fo al (n + 107 + 3 * i + 1) fr av fd ∧ (b = true → fr ≠ []) ∧ (b = false → fr = [] ∨ av ≠ []) := fun b H3 x y z => ⟨x, y, z⟩
            refine ⟨fun b H3 => LogF H H3 src fa fo al (n + 107 + 3 * i + 1) fr av fd ∧ (b = true → fr ≠ []) ∧ (b = false → fr = [] ∨ av ≠ []), ?_, fun b H3 hM => ?_⟩
            · refine ⟨_, rfl, Nat.zero_le _, fun e ne => ?_⟩
              have f2' : LogF H (upd H' e (.lst [])) src fa fo al (n + 107 + 3 * i + 1) fr av fd := ⟨by rw [upd_ne (ne_of_none f1 ne)]; exact f1, by rw [upd_ne (ne_of_none f2 ne)]; exact f2, by rw [upd_ne (ne_of_none f3 ne)]; exact f3, (f4.new ne).mono (Nat.le_succ _), f5.add ne⟩
              have f4e : Src (upd H' e (.lst [])) src (n + 107 + 3 * i) := f4.new ne
              by_cases hfr : fr = []
              · exact ⟨dI fr, dI [], dp_ints (.of f2'.1), dp_ints (ns := []) (.of upd_same), shaped_ints _, shaped_ints _, false, neqF hfr, f2', fun z => absurd z Bool.false_ne_true, fun _ => .inl hfr⟩
              · refine ⟨dI fr, dI [], dp_ints (.of f2'.1), dp_ints (ns := []) (.of upd_same), shaped_ints _, shaped_ints _, true, neqT hfr, ?_⟩
                refine ⟨_, rfl, Nat.zero_le _, fun e3 ne3 => ?_⟩
                obtain ⟨g1, g2, g3, g4, g5⟩ := f2'
                have f3' : LogF H (upd (upd H' e (.lst [])) e3 (.lst [])) src fa fo al (n + 107 + 3 * i + 1) fr av fd := ⟨by rw [upd_ne (ne_of_none g1 ne3)]; exact g1, by rw [upd_ne (ne_of_none g2 ne3)]; exact g2, by rw [upd_ne (ne_of_none g3 ne3)]; exact g3, g4.new ne3, g5.add ne3⟩
                by_cases hav : av = []
                · exact ⟨dI av, dI [], dp_ints (.of f3'.2.1), dp_ints (ns := []) (.of upd_same), shaped_ints _, shaped_ints _, true, eqvT hav, f3', fun _ => hfr, fun z => absurd z.symm Bool.false_ne_true⟩
                · refine ⟨dI av, dI [], dp_ints (.of f3'.2.1), dp_ints (ns := []) (.of upd_same), shaped_ints _, shaped_ints _, false, eqvF hav, ?_⟩
                  by_cases hst : st = 3
                  · exact ⟨_, rfl, rfl, true, dT (congrArg V.int hst), f3', fun _ => hfr, fun z => absurd z.symm Bool.false_ne_true⟩
                  · refine ⟨_, rfl, rfl, false, dF (vne hst), _, rfl, src, 4, n + 107 + 3 * i, rfl, f4e.new ne3, by omega, by decide, by decide, fun rr H4 rr0 rr1 hs4 b4 => ?_⟩
                    refine ⟨_, rfl, _, _, rfl, rfl, _, rfl, ⟨b4 _ _ nfas f3'.1, b4 _ _ nals f3'.2.1, b4 _ _ nfos f3'.2.2.1, hs4, f3'.2.2.2.2.trans b4⟩, fun _ => hfr, fun _ => .inr hav⟩
            · obtain ⟨⟨f1, f2, f3, f4, f5⟩, hb1, hb2⟩ := hM
              have fdl : fd.length < 100000 := by omega
              cases b with
              | true =>
                have hfr := hb1 rfl
                cases fr with
                | nil => exact absurd rfl hfr
                | cons k fr' =>
                  have al3 : (upd H3 fa (.lst (((k :: fr').map V.int).eraseIdx 0))) al = some (.lst (av.map V.int)) := by rw [upd_ne nfaal.symm]; exact f2
                  have fo3 : (upd (upd H3 fa (.lst (((k :: fr').map V.int).eraseIdx 0))) al (.lst (av.map V.int ++ [.int k]))) fo = some (.lst (fd.map V.int)) := by rw [upd_ne nafo.symm, upd_ne nfafo.symm]; exact f3
                  refine ⟨_, rfl, .inl ⟨rfl, _, .of f2⟩, _, rfl, .inl ⟨rfl, _, .of f1⟩, fa, _, 0, 0, .int k, rfl, rfl, f1, by decide, by decide, by rw [List.length_map]; exact ix_at (Nat.succ_pos _), rfl, al, _, _, rfl, rfl, al3, by rw [List.length_map]; exact zl (by omega), ?_⟩
                  refine ⟨_, rfl, .inl ⟨rfl, _, .of fo3⟩, _, rfl, 1, rfl, al, _, -1, _, rfl, rfl, .of upd_same, at_last, fo, _, _, rfl, rfl, fo3, by rw [List.length_map]; exact zl fdl, ⟨_, _, _, rfl⟩, fr', av ++ [k], fd ++ [k], ⟨?_, ?_, ?_, ?_, ?_⟩, g.push, ?_, ?_, ?_⟩
                  · rw [upd_ne nfafo, upd_ne nfaal, upd_same]
                    rfl
                  · rw [upd_ne nafo, upd_same, List.map_append]
                    rfl
                  · rw [upd_same, List.map_append]
                    rfl
                  · exact (((f4.upd nfas).upd nals).upd nfos).mono (by omega)
                  · exact ((f5.mut hfa0).mut hal0).mut hfo0
                  · rw [List.length_append]
                    exact Nat.succ_le_succ ln
                  · intro z
                    simp at z
                  · intro _ z
                    simp at z
              | false =>
                refine ⟨_, rfl, Nat.zero_le _, fun e ne => ?_⟩
                have f1e : (upd H3 e (.lst [])) fa = some (.lst (fr.map V.int)) := by rw [upd_ne (ne_of_none f1 ne)]; exact f1
                have f2e : (upd H3 e (.lst [])) al = some (.lst (av.map V.int)) := by rw [upd_ne (ne_of_none f2 ne)]; exact f2
                have f3e : (upd H3 e (.lst [])) fo = some (.lst (fd.map V.int)) := by rw [upd_ne (ne_of_none f3 ne)]; exact f3
                have f4e : Src (upd H3 e (.lst [])) src (n + 107 + 3 * i + 1) := f4.new ne
                have f5e : Bt src H (upd H3 e (.lst [])) := f5.add ne
                by_cases hav : av = []
                · refine ⟨dI av, dI [], dp_ints (.of f2e), dp_ints (ns := []) (.of upd_same), shaped_ints _, shaped_ints _, false, neqF hav, ?_⟩
                  have hfr : fr = [] := (hb2 rfl).resolve_right fun z => z hav
                  exact ⟨⟨_, _, _, rfl⟩, fr, av, fd, ⟨f1e, f2e, f3e, f4e.mono (by omega), f5e⟩, g, Nat.le_succ_of_le ln, e1, fun _ z => (e1 z).1 hfr⟩
                · refine ⟨dI av, dI [], dp_ints (.of f2e), dp_ints (ns := []) (.of upd_same), shaped_ints _, shaped_ints _, true, neqT hav, ?_⟩
                  have apos : 0 < av.length := Nat.pos_of_ne_zero fun z => hav (List.length_eq_zero_iff.mp z)
                  refine ⟨_, rfl, al, _, rfl, .inl (.of f2e), _, _, rfl, rfl, ?_⟩
                  refine ⟨_, rfl, _, rfl, al, _, rfl, .inl (.of f2e), src, _, n + 107 + 3 * i + 1, rfl, f4e, by omega, by rw [List.length_map]; omega, by rw [List.length_map]; omega, fun r5 H5 r50 r51 hs5 b5 => ?_⟩
                  rw [List.length_map] at r51
                  have f1f := b5 _ _ nfas f1e
                  have f2f := b5 _ _ nals f2e
                  have f3f := b5 _ _ nfos f3e
                  refine ⟨_, rfl, _, rfl, _, rfl, al, _, rfl, .inl (.of f2f), src, _, n + 107 + 3 * i + 2, rfl, hs5, by omega, by rw [List.length_map]; omega, by rw [List.length_map]; omega, fun r6 H6 r60 r61 hs6 b6 => ?_⟩
                  rw [List.length_map] at r61
                  have f1g := b6 _ _ nfas f1f
                  have f2g := b6 _ _ nals f2f
                  have f3g := b6 _ _ nfos f3f
                  refine ⟨_, rfl, _, _, rfl, rfl, _, _, rfl, by show 5 ≤ sizeLine; decide, fun sp nsp => ?_⟩
                  have f1h : ∀ o, (upd H6 sp o) fa = some (.lst (fr.map V.int)) := fun o => by rw [upd_ne (ne_of_none f1g nsp)]; exact f1g
                  have f2h : ∀ o, (upd H6 sp o) al = some (.lst (av.map V.int)) := fun o => by rw [upd_ne (ne_of_none f2g nsp)]; exact f2g
                  have f3h : ∀ o, (upd H6 sp o) fo = some (.lst (fd.map V.int)) := fun o => by rw [upd_ne (ne_of_none f3g nsp)]; exact f3g
                  have f4h : ∀ o, Src (upd H6 sp o) src (n + 107 + 3 * i + 3) := fun o => hs6.new nsp
                  have f5h : ∀ o, Bt src H (upd H6 sp o) := fun o => ((f5e.trans b5).trans b6).add nsp
                  generalize emx : (if ((((av.map V.int).length : Nat) : Int) - 1 - 1) > 0 then ((((av.map V.int).length : Nat) : Int) - 1 - 1) else 0) = mx
                  have mx0 : 0 ≤ mx ∧ mx < (av.length : Int) := by
                    rw [← emx, List.length_map]
                    split <;> omega
                  obtain ⟨j, ej, hj⟩ : ∃ j : Nat, atI [V.int r5, .int 0, .int ((((av.map V.int).length : Nat) : Int) - 1), .int r6, .int mx] st = some (.int (j : Int)) ∧ j < av.length := by
                    have c : st = 0 ∨ st = 1 ∨ st = 2 ∨ st = 3 ∨ st = 4 := by omega
                    have fin : ∀ (s : Nat) (v : Int), [V.int r5, .int 0, .int ((((av.map V.int).length : Nat) : Int) - 1), .int r6, .int mx][s]? = some (.int v) → 0 ≤ v → v < (av.length : Int) → ∃ j : Nat, atI [V.int r5, .int 0, .int ((((av.map V.int).length : Nat) : Int) - 1), .int r6, .int mx] (s : Int) = some (.int (j : Int)) ∧ j < av.length := fun s v e v0 v1 => by
                      obtain ⟨j, rfl⟩ := nat_of v0
                      exact ⟨j, atI_nat e, by omega⟩
                    rcases c with rfl | rfl | rfl | rfl | rfl
                    · exact fin 0 r5 rfl r50 r51
                    · exact fin 1 0 rfl (by decide) (by omega)
                    · exact fin 2 _ rfl (by rw [List.length_map]; omega) (by rw [List.length_map]; omega)
                    · exact fin 3 r6 rfl r60 r61
                    · exact fin 4 mx rfl mx0.1 mx0.2
                  refine ⟨_, rfl, .inl ⟨rfl, _, .of (f3h _)⟩, _, rfl, .inl ⟨rfl, _, .of (f2h _)⟩, _, rfl, _, rfl, sp, _, st, _, rfl, rfl, .of upd_same, ej, al, _, _, j, _, rfl, rfl, f2h _, (nm (by omega)).1, (nm (by omega)).2, by rw [List.length_map]; exact ix_at hj, get_at hj, _, _, rfl, rfl, fo, _, _, rfl, rfl, (by rw [upd_ne nafo.symm]; exact f3h _), by rw [List.length_map]; exact zl fdl, ?_⟩
                  refine ⟨⟨_, _, _, rfl⟩, fr, av.eraseIdx j, fd ++ [-av[j]], ⟨?_, ?_, ?_, ?_, ?_⟩, g.stop hj, ?_, ?_, ?_⟩
                  · rw [upd_ne nfafo, upd_ne nfaal]
                    exact f1h _
                  · rw [upd_ne nafo, upd_same, erase_map]
                  · rw [upd_same, List.map_append]
                    show some (HO.lst (_ ++ [V.int (0 - av[j])])) = _
                    rw [Int.zero_sub]
                    rfl
                  · exact (((f4h _).upd nals).upd nfos).mono (by omega)
                  · exact ((f5h _).mut hal0).mut hfo0
                  · rw [List.length_append]
                    exact Nat.succ_le_succ ln
                  · intro z
                    simp at z
                  · intro _ z
                    simp at z
          · obtain ⟨⟨y1, y2, y3, rfl⟩, fr, av, fd, ⟨f1, f2, f3, f4, f5⟩, g, ln, e1, e2⟩ := h
            exact ⟨_, rfl, q _ fo fd ⟨g.rng, g.nd, g.ord, by omega⟩ (e2 (by omega)) f5 (f4.mono (by omega)) hfo0 f3⟩
end
section
variable {P : Program} {w : World} {K : PySem.W.Frag} {mg : Str → Option Value} {base : Heap}
/-! ### _law_same of equal data -/
/-- data of at most so many levels, its lists of a size -/
def okD : Nat → PyData → Prop
  | _, .none => True
  | _, .bool _ => True
  | _, .int _ => True
  | _, .str _ => True
  | n + 1, .list ds => ds.length < 100000 ∧ ∀ x ∈ ds, okD n x
  | n + 1, .tuple ds => ds.length < 100000 ∧ ∀ x ∈ ds, okD n x
  | _, _ => False
def spEqD (K : PySem.W.Frag) (n : Nat) : Sp := fun vs H Q _ => ∃ (r e : V) (d : PyData), vs = [r, e] ∧ Dp K H r d ∧ Dp K H e d ∧ okD n d ∧ (∀ H', Same H H' → Q (.bl true) H')
theorem ok_law_same_0 {f : Addr} {fd : FuncData} (F : Fun K "_law_same" "_law_same" s_law_same f fd) (B : NoB mg) :
    FnG P w K mg base CX0 1 f fd ["result", "expected"] (spEqD K 0) := by
  refine okG F sc_law_same (fun vs H Q E h => ?_) (fun cdv A outer s H vs Q E hG hr h => ?_)
  · obtain ⟨r, e, d, rfl, _⟩ := h
    rfl
  · obtain ⟨r, e, d, rfl, h1, h2, hd, q⟩ := h
    have el : PySem.W.kitOne K (.type "list") (.type "list") = some true := kit_ty (by decide +kernel)
    have tl : PySem.W.kitOne K (.type "tuple") (.type "list") = some false := kit_ty (by decide +kernel)
    have tt : PySem.W.kitOne K (.type "tuple") (.type "tuple") = some true := kit_ty (by decide +kernel)
    cases h1 with
    | non =>
      cases h2
      refine ⟨_, (pss_cons (ps_if (pt_val (pe_callB call_isiT (by rfl) B.isinstance (by decide +kernel) (pa_cons (pv 1) (pa_cons (pe_tup (pa_cons (pe_bltn (v := .ty "list") (by rfl) B.list boot_list rfl) (pa_cons (pe_bltn (v := .ty "tuple") (by rfl) B.tuple boot_tuple rfl) pa_nil))) pa_nil)))) (pss_cons ps_never (pss_one ps_never)) pss_nil)
        (pss_cons (ps_if (PW.pt (pw_or (pt_cmpR op_isN (pv 1) pe_non (nomark _)) (pw_or1 (pt_cmpR op_isN (pv 0) pe_non (nomark _))))) (pss_one (ps_ret (pe_and (pe_cmpR op_isN (pv 1) pe_non (nomark _)) (pe_one (pe_cmpR op_isN (pv 0) pe_non (nomark _)))))) pss_nil)
        (pss_cons (ps_if (PW.pt (pw_or (pt_val (pe_callB call_isi (by rfl) B.isinstance (by decide +kernel) (pa_cons (pv 1) (pa_cons (pe_bltn (v := .ty "bool") (by rfl) B.bool boot_bool rfl) pa_nil)))) (pw_or1 (pt_val (pe_callB call_isi (by rfl) B.isinstance (by decide +kernel) (pa_cons (pv 0) (pa_cons (pe_bltn (v := .ty "bool") (by rfl) B.bool boot_bool rfl) pa_nil))))))) (pss_one (ps_ret (pe_and (pe_callB call_isi (by rfl) B.isinstance (by decide +kernel) (pa_cons (pv 1) (pa_cons (pe_bltn (v := .ty "bool") (by rfl) B.bool boot_bool rfl) pa_nil))) (pe_and (pe_callB call_isi (by rfl) B.isinstance (by decide +kernel) (pa_cons (pv 0) (pa_cons (pe_bltn (v := .ty "bool") (by rfl) B.bool boot_bool rfl) pa_nil))) (pe_one (pe_cmpR op_eq (pv 0) (pv 1) (nomark _))))))) pss_nil)
        (pss_one (ps_ret (pe_and (pe_cmpR op_eq (pe_callB call_isi (by rfl) B.isinstance (by decide +kernel) (pa_cons (pv 0) (pa_cons (pe_bltn (v := .ty "str") (by rfl) B.str boot_str rfl) pa_nil))) (pe_callB call_isi (by rfl) B.isinstance (by decide +kernel) (pa_cons (pv 1) (pa_cons (pe_bltn (v := .ty "str") (by rfl) B.str boot_str rfl) pa_nil))) (nomark _)) (pe_one (pe_cmpR op_eq (pv 0) (pv 1) (nomark _))))))))), ?_⟩
      refine ⟨_, rfl, by show 2 ≤ sizeLine; decide, fun T nT => ?_⟩
      refine ⟨_, T, _, _, _, false, rfl, upd_same, .cons (.ty _) (.cons (.ty _) .nil), .base .non, kitA (kit_ty (by decide +kernel)) (kit_ty (by decide +kernel)), false, rfl, ?_⟩
      exact ⟨_, rfl, rfl, true, rfl, _, rfl, rfl, true, rfl, _, rfl, rfl, q _ (same_new nT)⟩
    | bl b =>
      cases h2
      refine ⟨_, (pss_cons (ps_if (pt_val (pe_callB call_isiT (by rfl) B.isinstance (by decide +kernel) (pa_cons (pv 1) (pa_cons (pe_tup (pa_cons (pe_bltn (v := .ty "list") (by rfl) B.list boot_list rfl) (pa_cons (pe_bltn (v := .ty "tuple") (by rfl) B.tuple boot_tuple rfl) pa_nil))) pa_nil)))) (pss_cons ps_never (pss_one ps_never)) pss_nil)
        (pss_cons (ps_if (PW.pt (pw_or (pt_cmpR op_isN (pv 1) pe_non (nomark _)) (pw_or1 (pt_cmpR op_isN (pv 0) pe_non (nomark _))))) (pss_one (ps_ret (pe_and (pe_cmpR op_isN (pv 1) pe_non (nomark _)) (pe_one (pe_cmpR op_isN (pv 0) pe_non (nomark _)))))) pss_nil)
        (pss_cons (ps_if (PW.pt (pw_or (pt_val (pe_callB call_isi (by rfl) B.isinstance (by decide +kernel) (pa_cons (pv 1) (pa_cons (pe_bltn (v := .ty "bool") (by rfl) B.bool boot_bool rfl) pa_nil)))) (pw_or1 (pt_val (pe_callB call_isi (by rfl) B.isinstance (by decide +kernel) (pa_cons (pv 0) (pa_cons (pe_bltn (v := .ty "bool") (by rfl) B.bool boot_bool rfl) pa_nil))))))) (pss_one (ps_ret (pe_and (pe_callB call_isi (by rfl) B.isinstance (by decide +kernel) (pa_cons (pv 1) (pa_cons (pe_bltn (v := .ty "bool") (by rfl) B.bool boot_bool rfl) pa_nil))) (pe_and (pe_callB call_isi (by rfl) B.isinstance (by decide +kernel) (pa_cons (pv 0) (pa_cons (pe_bltn (v := .ty "bool") (by rfl) B.bool boot_bool rfl) pa_nil))) (pe_one (pe_cmpR op_eq (pv 0) (pv 1) (nomark _))))))) pss_nil)
        (pss_one (ps_ret (pe_and (pe_cmpR op_eq (pe_callB call_isi (by rfl) B.isinstance (by decide +kernel) (pa_cons (pv 0) (pa_cons (pe_bltn (v := .ty "str") (by rfl) B.str boot_str rfl) pa_nil))) (pe_callB call_isi (by rfl) B.isinstance (by decide +kernel) (pa_cons (pv 1) (pa_cons (pe_bltn (v := .ty "str") (by rfl) B.str boot_str rfl) pa_nil))) (nomark _)) (pe_one (pe_cmpR op_eq (pv 0) (pv 1) (nomark _))))))))), ?_⟩
      refine ⟨_, rfl, by show 2 ≤ sizeLine; decide, fun T nT => ?_⟩
      refine ⟨_, T, _, _, _, false, rfl, upd_same, .cons (.ty _) (.cons (.ty _) .nil), .base (.bl b), kitA (kit_ty (by decide +kernel)) (kit_ty (by decide +kernel)), false, rfl, ?_⟩
      refine ⟨_, rfl, rfl, false, dF (fun z => nomatch z), _, rfl, rfl, false, dF (fun z => nomatch z), ?_⟩
      refine ⟨_, rfl, _, _, _, _, true, rfl, .ty _, .base (.bl b), kit_ty (by decide +kernel), true, rfl, ?_⟩
      refine ⟨_, rfl, _, _, _, _, true, rfl, .ty _, .base (.bl b), kit_ty (by decide +kernel), true, rfl, _, rfl, _, _, _, _, true, rfl, .ty _, .base (.bl b), kit_ty (by decide +kernel), true, rfl, _, rfl, _, rfl, rfl, ?_⟩
      rw [decide_eq_true rfl]
      exact q _ (same_new nT)
    | int i =>
      cases h2
      refine ⟨_, (pss_cons (ps_if (pt_val (pe_callB call_isiT (by rfl) B.isinstance (by decide +kernel) (pa_cons (pv 1) (pa_cons (pe_tup (pa_cons (pe_bltn (v := .ty "list") (by rfl) B.list boot_list rfl) (pa_cons (pe_bltn (v := .ty "tuple") (by rfl) B.tuple boot_tuple rfl) pa_nil))) pa_nil)))) (pss_cons ps_never (pss_one ps_never)) pss_nil)
        (pss_cons (ps_if (PW.pt (pw_or (pt_cmpR op_isN (pv 1) pe_non (nomark _)) (pw_or1 (pt_cmpR op_isN (pv 0) pe_non (nomark _))))) (pss_one (ps_ret (pe_and (pe_cmpR op_isN (pv 1) pe_non (nomark _)) (pe_one (pe_cmpR op_isN (pv 0) pe_non (nomark _)))))) pss_nil)
        (pss_cons (ps_if (PW.pt (pw_or (pt_val (pe_callB call_isi (by rfl) B.isinstance (by decide +kernel) (pa_cons (pv 1) (pa_cons (pe_bltn (v := .ty "bool") (by rfl) B.bool boot_bool rfl) pa_nil)))) (pw_or1 (pt_val (pe_callB call_isi (by rfl) B.isinstance (by decide +kernel) (pa_cons (pv 0) (pa_cons (pe_bltn (v := .ty "bool") (by rfl) B.bool boot_bool rfl) pa_nil))))))) (pss_one (ps_ret (pe_and (pe_callB call_isi (by rfl) B.isinstance (by decide +kernel) (pa_cons (pv 1) (pa_cons (pe_bltn (v := .ty "bool") (by rfl) B.bool boot_bool rfl) pa_nil))) (pe_and (pe_callB call_isi (by rfl) B.isinstance (by decide +kernel) (pa_cons (pv 0) (pa_cons (pe_bltn (v := .ty "bool") (by rfl) B.bool boot_bool rfl) pa_nil))) (pe_one (pe_cmpR op_eq (pv 0) (pv 1) (nomark _))))))) pss_nil)
        (pss_one (ps_ret (pe_and (pe_cmpR op_eq (pe_callB call_isi (by rfl) B.isinstance (by decide +kernel) (pa_cons (pv 0) (pa_cons (pe_bltn (v := .ty "str") (by rfl) B.str boot_str rfl) pa_nil))) (pe_callB call_isi (by rfl) B.isinstance (by decide +kernel) (pa_cons (pv 1) (pa_cons (pe_bltn (v := .ty "str") (by rfl) B.str boot_str rfl) pa_nil))) (nomark _)) (pe_one (pe_cmpR op_eq (pv 0) (pv 1) (nomark _))))))))), ?_⟩
      refine ⟨_, rfl, by show 2 ≤ sizeLine; decide, fun T nT => ?_⟩
      refine ⟨_, T, _, _, _, false, rfl, upd_same, .cons (.ty _) (.cons (.ty _) .nil), .base (.int i), kitA (kit_ty (by decide +kernel)) (kit_ty (by decide +kernel)), false, rfl, ?_⟩
      refine ⟨_, rfl, rfl, false, dF (fun z => nomatch z), _, rfl, rfl, false, dF (fun z => nomatch z), ?_⟩
      refine ⟨_, rfl, _, _, _, _, false, rfl, .ty _, .base (.int i), kit_ty (by decide +kernel), false, rfl, _, rfl, _, _, _, _, false, rfl, .ty _, .base (.int i), kit_ty (by decide +kernel), false, rfl, ?_⟩
      refine ⟨_, rfl, _, _, _, _, false, rfl, .ty _, .base (.int i), kit_ty (by decide +kernel), _, rfl, _, _, _, _, false, rfl, .ty _, .base (.int i), kit_ty (by decide +kernel), rfl, true, dT rfl, ?_⟩
      refine ⟨_, rfl, _, rfl, rfl, ?_⟩
      rw [decide_eq_true rfl]
      exact q _ (same_new nT)
    | str x =>
      cases h2
      refine ⟨_, (pss_cons (ps_if (pt_val (pe_callB call_isiT (by rfl) B.isinstance (by decide +kernel) (pa_cons (pv 1) (pa_cons (pe_tup (pa_cons (pe_bltn (v := .ty "list") (by rfl) B.list boot_list rfl) (pa_cons (pe_bltn (v := .ty "tuple") (by rfl) B.tuple boot_tuple rfl) pa_nil))) pa_nil)))) (pss_cons ps_never (pss_one ps_never)) pss_nil)
        (pss_cons (ps_if (PW.pt (pw_or (pt_cmpR op_isN (pv 1) pe_non (nomark _)) (pw_or1 (pt_cmpR op_isN (pv 0) pe_non (nomark _))))) (pss_one (ps_ret (pe_and (pe_cmpR op_isN (pv 1) pe_non (nomark _)) (pe_one (pe_cmpR op_isN (pv 0) pe_non (nomark _)))))) pss_nil)
        (pss_cons (ps_if (PW.pt (pw_or (pt_val (pe_callB call_isi (by rfl) B.isinstance (by decide +kernel) (pa_cons (pv 1) (pa_cons (pe_bltn (v := .ty "bool") (by rfl) B.bool boot_bool rfl) pa_nil)))) (pw_or1 (pt_val (pe_callB call_isi (by rfl) B.isinstance (by decide +kernel) (pa_cons (pv 0) (pa_cons (pe_bltn (v := .ty "bool") (by rfl) B.bool boot_bool rfl) pa_nil))))))) (pss_one (ps_ret (pe_and (pe_callB call_isi (by rfl) B.isinstance (by decide +kernel) (pa_cons (pv 1) (pa_cons (pe_bltn (v := .ty "bool") (by rfl) B.bool boot_bool rfl) pa_nil))) (pe_and (pe_callB call_isi (by rfl) B.isinstance (by decide +kernel) (pa_cons (pv 0) (pa_cons (pe_bltn (v := .ty "bool") (by rfl) B.bool boot_bool rfl) pa_nil))) (pe_one (pe_cmpR op_eq (pv 0) (pv 1) (nomark _))))))) pss_nil)
        (pss_one (ps_ret (pe_and (pe_cmpR op_eq (pe_callB call_isi (by rfl) B.isinstance (by decide +kernel) (pa_cons (pv 0) (pa_cons (pe_bltn (v := .ty "str") (by rfl) B.str boot_str rfl) pa_nil))) (pe_callB call_isi (by rfl) B.isinstance (by decide +kernel) (pa_cons (pv 1) (pa_cons (pe_bltn (v := .ty "str") (by rfl) B.str boot_str rfl) pa_nil))) (nomark _)) (pe_one (pe_cmpR op_eq (pv 0) (pv 1) (nomark _))))))))), ?_⟩
      refine ⟨_, rfl, by show 2 ≤ sizeLine; decide, fun T nT => ?_⟩
      refine ⟨_, T, _, _, _, false, rfl, upd_same, .cons (.ty _) (.cons (.ty _) .nil), .base (.str x), kitA (kit_ty (by decide +kernel)) (kit_ty (by decide +kernel)), false, rfl, ?_⟩
      refine ⟨_, rfl, rfl, false, dF (fun z => nomatch z), _, rfl, rfl, false, dF (fun z => nomatch z), ?_⟩
      refine ⟨_, rfl, _, _, _, _, false, rfl, .ty _, .base (.str x), kit_ty (by decide +kernel), false, rfl, _, rfl, _, _, _, _, false, rfl, .ty _, .base (.str x), kit_ty (by decide +kernel), false, rfl, ?_⟩
      refine ⟨_, rfl, _, _, _, _, true, rfl, .ty _, .base (.str x), kit_ty (by decide +kernel), _, rfl, _, _, _, _, true, rfl, .ty _, .base (.str x), kit_ty (by decide +kernel), rfl, true, dT rfl, ?_⟩
      refine ⟨_, rfl, _, rfl, rfl, ?_⟩
      rw [decide_eq_true rfl]
      exact q _ (same_new nT)
    | @lst a xs ds hs ha => exact hd.elim
    | @tup a xs ds hs ha => exact hd.elim
theorem ok_law_same_step {f : Addr} {fd : FuncData} (F : Fun K "_law_same" "_law_same" s_law_same f fd) (B : NoB mg) (n : Nat) (T_law_same : Gc P w K mg base n "_law_same" (spEqD K (n - 1))) :
    FnG P w K mg base CX0 (n + 1) f fd ["result", "expected"] (spEqD K n) := by
  refine okG F sc_law_same (fun vs H Q E h => ?_) (fun cdv A outer s H vs Q E hG hr h => ?_)
  · obtain ⟨r, e, d, rfl, _⟩ := h
    rfl
  · obtain ⟨r, e, d, rfl, h1, h2, hd, q⟩ := h
    have el : PySem.W.kitOne K (.type "list") (.type "list") = some true := kit_ty (by decide +kernel)
    have tl : PySem.W.kitOne K (.type "tuple") (.type "list") = some false := kit_ty (by decide +kernel)
    have tt : PySem.W.kitOne K (.type "tuple") (.type "tuple") = some true := kit_ty (by decide +kernel)
    cases h1 with
    | non =>
      cases h2
      refine ⟨_, (pss_cons (ps_if (pt_val (pe_callB call_isiT (by rfl) B.isinstance (by decide +kernel) (pa_cons (pv 1) (pa_cons (pe_tup (pa_cons (pe_bltn (v := .ty "list") (by rfl) B.list boot_list rfl) (pa_cons (pe_bltn (v := .ty "tuple") (by rfl) B.tuple boot_tuple rfl) pa_nil))) pa_nil)))) (pss_cons ps_never (pss_one ps_never)) pss_nil)
        (pss_cons (ps_if (PW.pt (pw_or (pt_cmpR op_isN (pv 1) pe_non (nomark _)) (pw_or1 (pt_cmpR op_isN (pv 0) pe_non (nomark _))))) (pss_one (ps_ret (pe_and (pe_cmpR op_isN (pv 1) pe_non (nomark _)) (pe_one (pe_cmpR op_isN (pv 0) pe_non (nomark _)))))) pss_nil)
        (pss_cons (ps_if (PW.pt (pw_or (pt_val (pe_callB call_isi (by rfl) B.isinstance (by decide +kernel) (pa_cons (pv 1) (pa_cons (pe_bltn (v := .ty "bool") (by rfl) B.bool boot_bool rfl) pa_nil)))) (pw_or1 (pt_val (pe_callB call_isi (by rfl) B.isinstance (by decide +kernel) (pa_cons (pv 0) (pa_cons (pe_bltn (v := .ty "bool") (by rfl) B.bool boot_bool rfl) pa_nil))))))) (pss_one (ps_ret (pe_and (pe_callB call_isi (by rfl) B.isinstance (by decide +kernel) (pa_cons (pv 1) (pa_cons (pe_bltn (v := .ty "bool") (by rfl) B.bool boot_bool rfl) pa_nil))) (pe_and (pe_callB call_isi (by rfl) B.isinstance (by decide +kernel) (pa_cons (pv 0) (pa_cons (pe_bltn (v := .ty "bool") (by rfl) B.bool boot_bool rfl) pa_nil))) (pe_one (pe_cmpR op_eq (pv 0) (pv 1) (nomark _))))))) pss_nil)
        (pss_one (ps_ret (pe_and (pe_cmpR op_eq (pe_callB call_isi (by rfl) B.isinstance (by decide +kernel) (pa_cons (pv 0) (pa_cons (pe_bltn (v := .ty "str") (by rfl) B.str boot_str rfl) pa_nil))) (pe_callB call_isi (by rfl) B.isinstance (by decide +kernel) (pa_cons (pv 1) (pa_cons (pe_bltn (v := .ty "str") (by rfl) B.str boot_str rfl) pa_nil))) (nomark _)) (pe_one (pe_cmpR op_eq (pv 0) (pv 1) (nomark _))))))))), ?_⟩
      refine ⟨_, rfl, by show 2 ≤ sizeLine; decide, fun T nT => ?_⟩
      refine ⟨_, T, _, _, _, false, rfl, upd_same, .cons (.ty _) (.cons (.ty _) .nil), .base .non, kitA (kit_ty (by decide +kernel)) (kit_ty (by decide +kernel)), false, rfl, ?_⟩
      exact ⟨_, rfl, rfl, true, rfl, _, rfl, rfl, true, rfl, _, rfl, rfl, q _ (same_new nT)⟩
    | bl b =>
      cases h2
      refine ⟨_, (pss_cons (ps_if (pt_val (pe_callB call_isiT (by rfl) B.isinstance (by decide +kernel) (pa_cons (pv 1) (pa_cons (pe_tup (pa_cons (pe_bltn (v := .ty "list") (by rfl) B.list boot_list rfl) (pa_cons (pe_bltn (v := .ty "tuple") (by rfl) B.tuple boot_tuple rfl) pa_nil))) pa_nil)))) (pss_cons ps_never (pss_one ps_never)) pss_nil)
        (pss_cons (ps_if (PW.pt (pw_or (pt_cmpR op_isN (pv 1) pe_non (nomark _)) (pw_or1 (pt_cmpR op_isN (pv 0) pe_non (nomark _))))) (pss_one (ps_ret (pe_and (pe_cmpR op_isN (pv 1) pe_non (nomark _)) (pe_one (pe_cmpR op_isN (pv 0) pe_non (nomark _)))))) pss_nil)
        (pss_cons (ps_if (PW.pt (pw_or (pt_val (pe_callB call_isi (by rfl) B.isinstance (by decide +kernel) (pa_cons (pv 1) (pa_cons (pe_bltn (v := .ty "bool") (by rfl) B.bool boot_bool rfl) pa_nil)))) (pw_or1 (pt_val (pe_callB call_isi (by rfl) B.isinstance (by decide +kernel) (pa_cons (pv 0) (pa_cons (pe_bltn (v := .ty "bool") (by rfl) B.bool boot_bool rfl) pa_nil))))))) (pss_one (ps_ret (pe_and (pe_callB call_isi (by rfl) B.isinstance (by decide +kernel) (pa_cons (pv 1) (pa_cons (pe_bltn (v := .ty "bool") (by rfl) B.bool boot_bool rfl) pa_nil))) (pe_and (pe_callB call_isi (by rfl) B.isinstance (by decide +kernel) (pa_cons (pv 0) (pa_cons (pe_bltn (v := .ty "bool") (by rfl) B.bool boot_bool rfl) pa_nil))) (pe_one (pe_cmpR op_eq (pv 0) (pv 1) (nomark _))))))) pss_nil)
        (pss_one (ps_ret (pe_and (pe_cmpR op_eq (pe_callB call_isi (by rfl) B.isinstance (by decide +kernel) (pa_cons (pv 0) (pa_cons (pe_bltn (v := .ty "str") (by rfl) B.str boot_str rfl) pa_nil))) (pe_callB call_isi (by rfl) B.isinstance (by decide +kernel) (pa_cons (pv 1) (pa_cons (pe_bltn (v := .ty "str") (by rfl) B.str boot_str rfl) pa_nil))) (nomark _)) (pe_one (pe_cmpR op_eq (pv 0) (pv 1) (nomark _))))))))), ?_⟩
      refine ⟨_, rfl, by show 2 ≤ sizeLine; decide, fun T nT => ?_⟩
      refine ⟨_, T, _, _, _, false, rfl, upd_same, .cons (.ty _) (.cons (.ty _) .nil), .base (.bl b), kitA (kit_ty (by decide +kernel)) (kit_ty (by decide +kernel)), false, rfl, ?_⟩
      refine ⟨_, rfl, rfl, false, dF (fun z => nomatch z), _, rfl, rfl, false, dF (fun z => nomatch z), ?_⟩
      refine ⟨_, rfl, _, _, _, _, true, rfl, .ty _, .base (.bl b), kit_ty (by decide +kernel), true, rfl, ?_⟩
      refine ⟨_, rfl, _, _, _, _, true, rfl, .ty _, .base (.bl b), kit_ty (by decide +kernel), true, rfl, _, rfl, _, _, _, _, true, rfl, .ty _, .base (.bl b), kit_ty (by decide +kernel), true, rfl, _, rfl, _, rfl, rfl, ?_⟩
      rw [decide_eq_true rfl]
      exact q _ (same_new nT)
    | int i =>
      cases h2
      refine ⟨_, (pss_cons (ps_if (pt_val (pe_callB call_isiT (by rfl) B.isinstance (by decide +kernel) (pa_cons (pv 1) (pa_cons (pe_tup (pa_cons (pe_bltn (v := .ty "list") (by rfl) B.list boot_list rfl) (pa_cons (pe_bltn (v := .ty "tuple") (by rfl) B.tuple boot_tuple rfl) pa_nil))) pa_nil)))) (pss_cons ps_never (pss_one ps_never)) pss_nil)
        (pss_cons (ps_if (PW.pt (pw_or (pt_cmpR op_isN (pv 1) pe_non (nomark _)) (pw_or1 (pt_cmpR op_isN (pv 0) pe_non (nomark _))))) (pss_one (ps_ret (pe_and (pe_cmpR op_isN (pv 1) pe_non (nomark _)) (pe_one (pe_cmpR op_isN (pv 0) pe_non (nomark _)))))) pss_nil)
        (pss_cons (ps_if (PW.pt (pw_or (pt_val (pe_callB call_isi (by rfl) B.isinstance (by decide +kernel) (pa_cons (pv 1) (pa_cons (pe_bltn (v := .ty "bool") (by rfl) B.bool boot_bool rfl) pa_nil)))) (pw_or1 (pt_val (pe_callB call_isi (by rfl) B.isinstance (by decide +kernel) (pa_cons (pv 0) (pa_cons (pe_bltn (v := .ty "bool") (by rfl) B.bool boot_bool rfl) pa_nil))))))) (pss_one (ps_ret (pe_and (pe_callB call_isi (by rfl) B.isinstance (by decide +kernel) (pa_cons (pv 1) (pa_cons (pe_bltn (v := .ty "bool") (by rfl) B.bool boot_bool rfl) pa_nil))) (pe_and (pe_callB call_isi (by rfl) B.isinstance (by decide +kernel) (pa_cons (pv 0) (pa_cons (pe_bltn (v := .ty "bool") (by rfl) B.bool boot_bool rfl) pa_nil))) (pe_one (pe_cmpR op_eq (pv 0) (pv 1) (nomark _))))))) pss_nil)
        (pss_one (ps_ret (pe_and (pe_cmpR op_eq (pe_callB call_isi (by rfl) B.isinstance (by decide +kernel) (pa_cons (pv 0) (pa_cons (pe_bltn (v := .ty "str") (by rfl) B.str boot_str rfl) pa_nil))) (pe_callB call_isi (by rfl) B.isinstance (by decide +kernel) (pa_cons (pv 1) (pa_cons (pe_bltn (v := .ty "str") (by rfl) B.str boot_str rfl) pa_nil))) (nomark _)) (pe_one (pe_cmpR op_eq (pv 0) (pv 1) (nomark _))))))))), ?_⟩
      refine ⟨_, rfl, by show 2 ≤ sizeLine; decide, fun T nT => ?_⟩
      refine ⟨_, T, _, _, _, false, rfl, upd_same, .cons (.ty _) (.cons (.ty _) .nil), .base (.int i), kitA (kit_ty (by decide +kernel)) (kit_ty (by decide +kernel)), false, rfl, ?_⟩
      refine ⟨_, rfl, rfl, false, dF (fun z => nomatch z), _, rfl, rfl, false, dF (fun z => nomatch z), ?_⟩
      refine ⟨_, rfl, _, _, _, _, false, rfl, .ty _, .base (.int i), kit_ty (by decide +kernel), false, rfl, _, rfl, _, _, _, _, false, rfl, .ty _, .base (.int i), kit_ty (by decide +kernel), false, rfl, ?_⟩
      refine ⟨_, rfl, _, _, _, _, false, rfl, .ty _, .base (.int i), kit_ty (by decide +kernel), _, rfl, _, _, _, _, false, rfl, .ty _, .base (.int i), kit_ty (by decide +kernel), rfl, true, dT rfl, ?_⟩
      refine ⟨_, rfl, _, rfl, rfl, ?_⟩
      rw [decide_eq_true rfl]
      exact q _ (same_new nT)
    | str x =>
      cases h2
      refine ⟨_, (pss_cons (ps_if (pt_val (pe_callB call_isiT (by rfl) B.isinstance (by decide +kernel) (pa_cons (pv 1) (pa_cons (pe_tup (pa_cons (pe_bltn (v := .ty "list") (by rfl) B.list boot_list rfl) (pa_cons (pe_bltn (v := .ty "tuple") (by rfl) B.tuple boot_tuple rfl) pa_nil))) pa_nil)))) (pss_cons ps_never (pss_one ps_never)) pss_nil)
        (pss_cons (ps_if (PW.pt (pw_or (pt_cmpR op_isN (pv 1) pe_non (nomark _)) (pw_or1 (pt_cmpR op_isN (pv 0) pe_non (nomark _))))) (pss_one (ps_ret (pe_and (pe_cmpR op_isN (pv 1) pe_non (nomark _)) (pe_one (pe_cmpR op_isN (pv 0) pe_non (nomark _)))))) pss_nil)
        (pss_cons (ps_if (PW.pt (pw_or (pt_val (pe_callB call_isi (by rfl) B.isinstance (by decide +kernel) (pa_cons (pv 1) (pa_cons (pe_bltn (v := .ty "bool") (by rfl) B.bool boot_bool rfl) pa_nil)))) (pw_or1 (pt_val (pe_callB call_isi (by rfl) B.isinstance (by decide +kernel) (pa_cons (pv 0) (pa_cons (pe_bltn (v := .ty "bool") (by rfl) B.bool boot_bool rfl) pa_nil))))))) (pss_one (ps_ret (pe_and (pe_callB call_isi (by rfl) B.isinstance (by decide +kernel) (pa_cons (pv 1) (pa_cons (pe_bltn (v := .ty "bool") (by rfl) B.bool boot_bool rfl) pa_nil))) (pe_and (pe_callB call_isi (by rfl) B.isinstance (by decide +kernel) (pa_cons (pv 0) (pa_cons (pe_bltn (v := .ty "bool") (by rfl) B.bool boot_bool rfl) pa_nil))) (pe_one (pe_cmpR op_eq (pv 0) (pv 1) (nomark _))))))) pss_nil)
        (pss_one (ps_ret (pe_and (pe_cmpR op_eq (pe_callB call_isi (by rfl) B.isinstance (by decide +kernel) (pa_cons (pv 0) (pa_cons (pe_bltn (v := .ty "str") (by rfl) B.str boot_str rfl) pa_nil))) (pe_callB call_isi (by rfl) B.isinstance (by decide +kernel) (pa_cons (pv 1) (pa_cons (pe_bltn (v := .ty "str") (by rfl) B.str boot_str rfl) pa_nil))) (nomark _)) (pe_one (pe_cmpR op_eq (pv 0) (pv 1) (nomark _))))))))), ?_⟩
      refine ⟨_, rfl, by show 2 ≤ sizeLine; decide, fun T nT => ?_⟩
      refine ⟨_, T, _, _, _, false, rfl, upd_same, .cons (.ty _) (.cons (.ty _) .nil), .base (.str x), kitA (kit_ty (by decide +kernel)) (kit_ty (by decide +kernel)), false, rfl, ?_⟩
      refine ⟨_, rfl, rfl, false, dF (fun z => nomatch z), _, rfl, rfl, false, dF (fun z => nomatch z), ?_⟩
      refine ⟨_, rfl, _, _, _, _, false, rfl, .ty _, .base (.str x), kit_ty (by decide +kernel), false, rfl, _, rfl, _, _, _, _, false, rfl, .ty _, .base (.str x), kit_ty (by decide +kernel), false, rfl, ?_⟩
      refine ⟨_, rfl, _, _, _, _, true, rfl, .ty _, .base (.str x), kit_ty (by decide +kernel), _, rfl, _, _, _, _, true, rfl, .ty _, .base (.str x), kit_ty (by decide +kernel), rfl, true, dT rfl, ?_⟩
      refine ⟨_, rfl, _, rfl, rfl, ?_⟩
      rw [decide_eq_true rfl]
      exact q _ (same_new nT)
    | @lst a xs ds hs ha =>
      cases h2 with
      | @lst b ys _ hs2 ha2 =>
      obtain ⟨dsl, dsm⟩ : ds.length < 100000 ∧ ∀ x ∈ ds, okD (n - 1) x := by
        cases n with
        | zero => exact hd.elim
        | succ m => exact hd
      have l1 := dpAll_len ha
      have l2 := dpAll_len ha2
      refine ⟨_, (pss_cons (ps_if (pt_val (pe_callB call_isiT (by rfl) B.isinstance (by decide +kernel) (pa_cons (pv 1) (pa_cons (pe_tup (pa_cons (pe_bltn (v := .ty "list") (by rfl) B.list boot_list rfl) (pa_cons (pe_bltn (v := .ty "tuple") (by rfl) B.tuple boot_tuple rfl) pa_nil))) pa_nil)))) (pss_cons (ps_if (PW.pt (pw_or (pt_cmpR op_ne (pe_callB call_isi (by rfl) B.isinstance (by decide +kernel) (pa_cons (pv 0) (pa_cons (pe_bltn (v := .ty "list") (by rfl) B.list boot_list rfl) pa_nil))) (pe_callB call_isi (by rfl) B.isinstance (by decide +kernel) (pa_cons (pv 1) (pa_cons (pe_bltn (v := .ty "list") (by rfl) B.list boot_list rfl) pa_nil))) (nomark _)) (pw_or1 (pt_not (pt_val (pe_callB call_isiT (by rfl) B.isinstance (by decide +kernel) (pa_cons (pv 0) (pa_cons (pe_tup (pa_cons (pe_bltn (v := .ty "list") (by rfl) B.list boot_list rfl) (pa_cons (pe_bltn (v := .ty "tuple") (by rfl) B.tuple boot_tuple rfl) pa_nil))) pa_nil)))))))) (pss_one (ps_ret pe_bl)) pss_nil)
          (pss_one (ps_ret (pe_and (pe_cmpR op_eq (pe_callB call_len_seq (by rfl) B.len PySem.boot_len (pa_cons (pv 0) pa_nil)) (pe_callB call_len_seq (by rfl) B.len PySem.boot_len (pa_cons (pv 1) pa_nil)) (nomark _)) (pe_one (pe_callB (cr_all rfl) (by rfl) B.all (by decide +kernel) (pa_cons (pe_lc (own := [("one", 2), ("two", 3)]) (g := _) (tt := tYes) rfl sc_law_same.nd (RZ.pi_zipA (by rfl) B.zip (pa_cons (pv 0) (pa_cons (pv 1) pa_nil))) (blkOk_by (own := [("one", 2), ("two", 3)]) (N := N_law_same) (sc := defScope s_law_same) (by decide +kernel)) (fun _ _ _ _ _ => (k_tup (K := K) (n := 2) rfl rfl (pgs_cons (pg_name (i := 2) sc_law_same.nd rfl (Or.inl rfl)) (pgs_cons (pg_name (i := 3) sc_law_same.nd rfl (Or.inl rfl)) pgs_nil)))) (fun _ _ _ _ _ => pts_nil) (fun _ _ _ _ _ => (pe_g T_law_same hG hr (Nat.le_refl _) (by rfl) (pa_cons (pv 2) (pa_cons (pv 3) pa_nil))))) pa_nil))))))) pss_nil)
        (pss_cons (ps_if (PW.pt (pw_or (pt_cmpR op_isN (pv 1) pe_non (nomark _)) (pw_or1 (pt_cmpR op_isN (pv 0) pe_non (nomark _))))) (pss_one (ps_ret (pe_and (pe_cmpR op_isN (pv 1) pe_non (nomark _)) (pe_one (pe_cmpR op_isN (pv 0) pe_non (nomark _)))))) pss_nil)
        (pss_cons (ps_if (PW.pt (pw_or (pt_val (pe_callB call_isi (by rfl) B.isinstance (by decide +kernel) (pa_cons (pv 1) (pa_cons (pe_bltn (v := .ty "bool") (by rfl) B.bool boot_bool rfl) pa_nil)))) (pw_or1 (pt_val (pe_callB call_isi (by rfl) B.isinstance (by decide +kernel) (pa_cons (pv 0) (pa_cons (pe_bltn (v := .ty "bool") (by rfl) B.bool boot_bool rfl) pa_nil))))))) (pss_one (ps_ret (pe_and (pe_callB call_isi (by rfl) B.isinstance (by decide +kernel) (pa_cons (pv 1) (pa_cons (pe_bltn (v := .ty "bool") (by rfl) B.bool boot_bool rfl) pa_nil))) (pe_and (pe_callB call_isi (by rfl) B.isinstance (by decide +kernel) (pa_cons (pv 0) (pa_cons (pe_bltn (v := .ty "bool") (by rfl) B.bool boot_bool rfl) pa_nil))) (pe_one (pe_cmpR op_eq (pv 0) (pv 1) (nomark _))))))) pss_nil)
        (pss_one (ps_ret (pe_and (pe_cmpR op_eq (pe_callB call_isi (by rfl) B.isinstance (by decide +kernel) (pa_cons (pv 0) (pa_cons (pe_bltn (v := .ty "str") (by rfl) B.str boot_str rfl) pa_nil))) (pe_callB call_isi (by rfl) B.isinstance (by decide +kernel) (pa_cons (pv 1) (pa_cons (pe_bltn (v := .ty "str") (by rfl) B.str boot_str rfl) pa_nil))) (nomark _)) (pe_one (pe_cmpR op_eq (pv 0) (pv 1) (nomark _))))))))), ?_⟩
      refine ⟨_, rfl, by show 2 ≤ sizeLine; decide, fun T nT => ?_⟩
      have s1 := same_new (o := .tup [.ty "list", .ty "tuple"]) nT
      refine ⟨_, T, _, _, _, true, rfl, upd_same, .cons (.ty _) (.cons (.ty _) .nil), tyx_l (s1.seq hs2), kitT el, true, rfl, ?_⟩
      refine ⟨_, rfl, _, _, _, _, true, rfl, .ty _, tyx_l (s1.seq hs), el, _, rfl, _, _, _, _, true, rfl, .ty _, tyx_l (s1.seq hs2), el, rfl, false, nF rfl, ?_⟩
      refine ⟨_, rfl, by show 2 ≤ sizeLine; decide, fun T2 nT2 => ?_⟩
      have s2 := s1.trans (same_new (o := .tup [.ty "list", .ty "tuple"]) nT2)
      refine ⟨_, T2, _, _, _, true, rfl, upd_same, .cons (.ty _) (.cons (.ty _) .nil), tyx_l (s2.seq hs), kitT el, true, rfl, ?_⟩
      refine ⟨_, rfl, a, _, rfl, .inl (s2.seq hs), _, rfl, b, _, rfl, .inl (s2.seq hs2), rfl, true, dT (by rw [l1, l2]), ?_⟩
      refine ⟨_, rfl, _, rfl, a, b, xs, ys, rfl, .inl ⟨s2.seq hs, s2.seq hs2, fun D nD => lc_zipL (l1.trans l2.symm) (LcP (upd (upd H T (.tup [.ty "list", .ty "tuple"])) T2 (.tup [.ty "list", .ty "tuple"])) D fun i => (List.replicate i true).map V.bl) (.init nD rfl) (fun i H' _ p => ⟨p.2.1.seq (s2.seq hs), p.2.1.seq (s2.seq hs2)⟩) (fun i x y T3 H' hx hy nT3 p => ?_) (fun H' p => ?_)⟩⟩
      · obtain ⟨d1, e1, p1⟩ := dpAll_get ha hx
        obtain ⟨d2, e2, p2⟩ := dpAll_get ha2 hy
        rw [e1] at e2
        cases e2
        have s3 : Same H (upd H' T3 (.tup [x, y])) := (s2.trans p.2.1).trans (same_new nT3)
        have dd : okD (n - 1) d1 := dsm d1 (List.mem_of_getElem? e1)
        refine ⟨T3, _, rfl, .of upd_same, rfl, _, _, rfl, _, _, rfl, rfl, rfl, ?_⟩
        refine ⟨_, rfl, _, rfl, x, y, d1, rfl, dp_same s3 p1, dp_same s3 p2, dd, fun H4 s4 => ?_⟩
        refine p.put ((same_new nT3).trans s4) ?_ (by have := lt_get hx; rw [List.length_map, List.length_replicate]; omega)
        show (List.replicate (i + 1) true).map V.bl = _
        rw [List.replicate_succ', List.map_append]
        rfl
      · refine ⟨D, _, rfl, .of p.2.2, ?_⟩
        have e : (List.replicate xs.length true).all id = true := by
          rw [List.all_eq_true]
          intro z hz
          exact (List.eq_of_mem_replicate hz)
        rw [e]
        exact q _ (s2.trans p.2.1)
    | @tup a xs ds hs ha =>
      cases h2 with
      | @tup b ys _ hs2 ha2 =>
      obtain ⟨dsl, dsm⟩ : ds.length < 100000 ∧ ∀ x ∈ ds, okD (n - 1) x := by
        cases n with
        | zero => exact hd.elim
        | succ m => exact hd
      have l1 := dpAll_len ha
      have l2 := dpAll_len ha2
      refine ⟨_, (pss_cons (ps_if (pt_val (pe_callB call_isiT (by rfl) B.isinstance (by decide +kernel) (pa_cons (pv 1) (pa_cons (pe_tup (pa_cons (pe_bltn (v := .ty "list") (by rfl) B.list boot_list rfl) (pa_cons (pe_bltn (v := .ty "tuple") (by rfl) B.tuple boot_tuple rfl) pa_nil))) pa_nil)))) (pss_cons (ps_if (PW.pt (pw_or (pt_cmpR op_ne (pe_callB call_isi (by rfl) B.isinstance (by decide +kernel) (pa_cons (pv 0) (pa_cons (pe_bltn (v := .ty "list") (by rfl) B.list boot_list rfl) pa_nil))) (pe_callB call_isi (by rfl) B.isinstance (by decide +kernel) (pa_cons (pv 1) (pa_cons (pe_bltn (v := .ty "list") (by rfl) B.list boot_list rfl) pa_nil))) (nomark _)) (pw_or1 (pt_not (pt_val (pe_callB call_isiT (by rfl) B.isinstance (by decide +kernel) (pa_cons (pv 0) (pa_cons (pe_tup (pa_cons (pe_bltn (v := .ty "list") (by rfl) B.list boot_list rfl) (pa_cons (pe_bltn (v := .ty "tuple") (by rfl) B.tuple boot_tuple rfl) pa_nil))) pa_nil)))))))) (pss_one (ps_ret pe_bl)) pss_nil)
          (pss_one (ps_ret (pe_and (pe_cmpR op_eq (pe_callB call_len_seq (by rfl) B.len PySem.boot_len (pa_cons (pv 0) pa_nil)) (pe_callB call_len_seq (by rfl) B.len PySem.boot_len (pa_cons (pv 1) pa_nil)) (nomark _)) (pe_one (pe_callB (cr_all rfl) (by rfl) B.all (by decide +kernel) (pa_cons (pe_lc (own := [("one", 2), ("two", 3)]) (g := _) (tt := tYes) rfl sc_law_same.nd (RZ.pi_zipA (by rfl) B.zip (pa_cons (pv 0) (pa_cons (pv 1) pa_nil))) (blkOk_by (own := [("one", 2), ("two", 3)]) (N := N_law_same) (sc := defScope s_law_same) (by decide +kernel)) (fun _ _ _ _ _ => (k_tup (K := K) (n := 2) rfl rfl (pgs_cons (pg_name (i := 2) sc_law_same.nd rfl (Or.inl rfl)) (pgs_cons (pg_name (i := 3) sc_law_same.nd rfl (Or.inl rfl)) pgs_nil)))) (fun _ _ _ _ _ => pts_nil) (fun _ _ _ _ _ => (pe_g T_law_same hG hr (Nat.le_refl _) (by rfl) (pa_cons (pv 2) (pa_cons (pv 3) pa_nil))))) pa_nil))))))) pss_nil)
        (pss_cons (ps_if (PW.pt (pw_or (pt_cmpR op_isN (pv 1) pe_non (nomark _)) (pw_or1 (pt_cmpR op_isN (pv 0) pe_non (nomark _))))) (pss_one (ps_ret (pe_and (pe_cmpR op_isN (pv 1) pe_non (nomark _)) (pe_one (pe_cmpR op_isN (pv 0) pe_non (nomark _)))))) pss_nil)
        (pss_cons (ps_if (PW.pt (pw_or (pt_val (pe_callB call_isi (by rfl) B.isinstance (by decide +kernel) (pa_cons (pv 1) (pa_cons (pe_bltn (v := .ty "bool") (by rfl) B.bool boot_bool rfl) pa_nil)))) (pw_or1 (pt_val (pe_callB call_isi (by rfl) B.isinstance (by decide +kernel) (pa_cons (pv 0) (pa_cons (pe_bltn (v := .ty "bool") (by rfl) B.bool boot_bool rfl) pa_nil))))))) (pss_one (ps_ret (pe_and (pe_callB call_isi (by rfl) B.isinstance (by decide +kernel) (pa_cons (pv 1) (pa_cons (pe_bltn (v := .ty "bool") (by rfl) B.bool boot_bool rfl) pa_nil))) (pe_and (pe_callB call_isi (by rfl) B.isinstance (by decide +kernel) (pa_cons (pv 0) (pa_cons (pe_bltn (v := .ty "bool") (by rfl) B.bool boot_bool rfl) pa_nil))) (pe_one (pe_cmpR op_eq (pv 0) (pv 1) (nomark _))))))) pss_nil)
        (pss_one (ps_ret (pe_and (pe_cmpR op_eq (pe_callB call_isi (by rfl) B.isinstance (by decide +kernel) (pa_cons (pv 0) (pa_cons (pe_bltn (v := .ty "str") (by rfl) B.str boot_str rfl) pa_nil))) (pe_callB call_isi (by rfl) B.isinstance (by decide +kernel) (pa_cons (pv 1) (pa_cons (pe_bltn (v := .ty "str") (by rfl) B.str boot_str rfl) pa_nil))) (nomark _)) (pe_one (pe_cmpR op_eq (pv 0) (pv 1) (nomark _))))))))), ?_⟩
      refine ⟨_, rfl, by show 2 ≤ sizeLine; decide, fun T nT => ?_⟩
      have s1 := same_new (o := .tup [.ty "list", .ty "tuple"]) nT
      refine ⟨_, T, _, _, _, true, rfl, upd_same, .cons (.ty _) (.cons (.ty _) .nil), tyx_t (seqT s1 hs2), kitA tl tt, true, rfl, ?_⟩
      refine ⟨_, rfl, _, _, _, _, false, rfl, .ty _, tyx_t (seqT s1 hs), tl, _, rfl, _, _, _, _, false, rfl, .ty _, tyx_t (seqT s1 hs2), tl, rfl, false, nF rfl, ?_⟩
      refine ⟨_, rfl, by show 2 ≤ sizeLine; decide, fun T2 nT2 => ?_⟩
      have s2 := s1.trans (same_new (o := .tup [.ty "list", .ty "tuple"]) nT2)
      refine ⟨_, T2, _, _, _, true, rfl, upd_same, .cons (.ty _) (.cons (.ty _) .nil), tyx_t (seqT s2 hs), kitA tl tt, true, rfl, ?_⟩
      refine ⟨_, rfl, a, _, rfl, .inr (seqT s2 hs), _, rfl, b, _, rfl, .inr (seqT s2 hs2), rfl, true, dT (by rw [l1, l2]), ?_⟩
      refine ⟨_, rfl, _, rfl, a, b, xs, ys, rfl, .inr ⟨seqT s2 hs, seqT s2 hs2, fun D nD => lc_zipT (l1.trans l2.symm) (LcP (upd (upd H T (.tup [.ty "list", .ty "tuple"])) T2 (.tup [.ty "list", .ty "tuple"])) D fun i => (List.replicate i true).map V.bl) (.init nD rfl) (fun i H' _ p => ⟨seqT p.2.1 (seqT s2 hs), seqT p.2.1 (seqT s2 hs2)⟩) (fun i x y T3 H' hx hy nT3 p => ?_) (fun H' p => ?_)⟩⟩
      · obtain ⟨d1, e1, p1⟩ := dpAll_get ha hx
        obtain ⟨d2, e2, p2⟩ := dpAll_get ha2 hy
        rw [e1] at e2
        cases e2
        have s3 : Same H (upd H' T3 (.tup [x, y])) := (s2.trans p.2.1).trans (same_new nT3)
        have dd : okD (n - 1) d1 := dsm d1 (List.mem_of_getElem? e1)
        refine ⟨T3, _, rfl, .of upd_same, rfl, _, _, rfl, _, _, rfl, rfl, rfl, ?_⟩
        refine ⟨_, rfl, _, rfl, x, y, d1, rfl, dp_same s3 p1, dp_same s3 p2, dd, fun H4 s4 => ?_⟩
        refine p.put ((same_new nT3).trans s4) ?_ (by have := lt_get hx; rw [List.length_map, List.length_replicate]; omega)
        show (List.replicate (i + 1) true).map V.bl = _
        rw [List.replicate_succ', List.map_append]
        rfl
      · refine ⟨D, _, rfl, .of p.2.2, ?_⟩
        have e : (List.replicate xs.length true).all id = true := by
          rw [List.all_eq_true]
          intro z hz
          exact (List.eq_of_mem_replicate hz)
        rw [e]
        exact q _ (s2.trans p.2.1)
/-- .. for data of at most n levels -/
theorem ok_law_same_D {f : Addr} {fd : FuncData} (F : Fun K "_law_same" "_law_same" s_law_same f fd) (B : NoB mg) (hm : mg "_law_same" = some (.ref f)) (b : Binds K fd ["result", "expected"] []) : ∀ n : Nat, FnG P w K mg base CX0 (n + 1) f fd ["result", "expected"] (spEqD K n)
  | 0 => by
    refine ok_law_same_0 F B
  | n + 1 => ok_law_same_step F B (n + 1) ⟨f, fd, _, ok_law_same_D F B hm b n, hm, F.kp, b⟩
end
end L45
set_option Elab.async false
set_option linter.all false
set_option maxRecDepth 100000
namespace L45
open PySem PySem.Spec PyProof.Rows L2 Lp
/-! ### pieces -/
structure Piece (ns : List Int) : Prop where
  rng : ∀ e ∈ ns, e ≠ 0 ∧ -100 ≤ e ∧ e ≤ 100
  nd : ns.Nodup
  ord : ∀ (i : Nat) (e : Int), ns[i]? = some e → 0 < e → -e ∉ ns.take i
  len : ns.length ≤ 200
theorem Hist.piece {ns : List Int} (h : Hist ns) : Piece ns := by
  refine ⟨h.rng, h.nd, fun i e he h0 hm => ?_, h.len⟩
  obtain ⟨j, hj, e1⟩ := List.mem_iff_getElem.mp hm
  rw [List.length_take] at hj
  rw [List.getElem_take] at e1
  have hj2 : ns[j]? = some (-e) := by rw [List.getElem?_eq_getElem (by omega), e1]
  have hp := h.ord j (-e) hj2 (by omega)
  have e3 : - -e = e := by omega
  rw [e3] at hp
  have : ns.take j = (ns.take i).take j := by rw [List.take_take, Nat.min_eq_left (by omega)]
  rw [this] at hp
  exact not_mem_take h.nd he (List.mem_of_mem_take hp)
theorem Piece.cut {ns : List Int} (h : Piece ns) (a b : Nat) : Piece ((ns.take b).drop a) := by
  have sub : ((ns.take b).drop a).Sublist ns := (List.drop_sublist _ _).trans (List.take_sublist _ _)
  refine ⟨fun e he => h.rng e (sub.subset he), h.nd.sublist sub, fun i e he h0 hm => ?_, Nat.le_trans sub.length_le h.len⟩
  rw [List.getElem?_drop] at he
  have hl : a + i < (ns.take b).length := (List.getElem?_eq_some_iff.mp he).1
  rw [List.length_take] at hl
  rw [List.getElem?_take_of_lt (by omega)] at he
  refine h.ord (a + i) e he h0 ?_
  have e1 : ((ns.take b).drop a).take i = (ns.take (a + i)).drop a := by
    rw [List.take_drop, List.take_take, Nat.min_eq_left (by omega)]
  rw [e1] at hm
  exact List.mem_of_mem_drop hm
theorem Piece.nil : Piece [] := ⟨(fun _ h => nomatch h), List.nodup_nil, (fun i e h => nomatch h), by decide⟩
/-! ### is_piece -/
section
variable {P : Program} {w : World} {K : PySem.W.Frag} {mg : Str → Option Value} {base : Heap}
def spIsPiece (K : PySem.W.Frag) : Sp := fun vs H Q _ => ∃ (a : Addr) (ns : List Int), vs = [.ref a] ∧ SqL K H a (ns.map V.int) ∧ Piece ns ∧ ∀ H', Same H H' → Q (.bl true) H'
theorem ok_is_piece {f : Addr} {fd : FuncData} (F : Fun K "is_piece" "is_piece" s_is_piece f fd) (B : NoB mg) (T_are_events : Cal P w K mg base 4 "are_events" (spAreEv K)) : FnOk P w K mg base CX0 5 f fd ["value"] (spIsPiece K) := by
  refine F.ok sc_is_piece (fun vs H Q E h => ?_) (fun cdv A outer s H vs Q E hr h => ?_)
  · obtain ⟨a, ns, rfl, _⟩ := h
    rfl
  · obtain ⟨a, ns, rfl, hS, hh, q⟩ := h
    have hu := hu_of hr
    refine ⟨_, (pss_cons (ps_if (pt_not (pt_val (pe_c T_are_events hr (by decide) (by rfl) (pa_cons (pv 0) pa_nil)))) (pss_one (ps_ret pe_bl)) pss_nil)
        (pss_cons (ps_set (i := 1) sc_is_piece.nd rfl (Or.inl rfl) (pe_callTy0 cr_set0 (by rfl) B.set (by decide +kernel)))
        (pss_cons (ps_for PassesOwn.never rfl (pi_list (pv 0)) (pg_name (i := 2) sc_is_piece.nd rfl (Or.inl rfl))
          (pss_one (ps_if (pt_cmpR op_lt (pv 2) pe_int (nomark _)) (pss_one (ps_expr (pe_sadd (pv 1) (pa_cons (pe_un un_neg (pv 2)) pa_nil)))) (pss_one (ps_if (pt_cmpR or_sin (pv 2) (pv 1) (by rfl)) (pss_one (ps_ret pe_bl)) pss_nil)))))
        (pss_one (ps_ret pe_bl))))), ?_⟩
    refine ⟨_, rfl, a, ns, rfl, hS, hh.rng, hh.nd, hh.len, fun H1 s1 => ?_⟩
    refine ⟨_, rfl, iteF ?_⟩
    refine ⟨rfl, fun p np => ?_⟩
    have hS1 := s1.seq hS
    refine ⟨_, rfl, a, rfl, ⟨_, (same_new np).seq hS1⟩, for_list (xs := ns.map V.int) (fun i σ H' => (∃ y, σ = [some (.ref a), some (.ref p), y]) ∧ Same H1 H' ∧ ∃ n, n ≤ i ∧ H' p = some (SetO w p (fun x => decide (0 < x ∧ -x ∈ ns.take i)) n)) ⟨⟨_, rfl⟩, same_new np, 0, Nat.le_refl _, ?_⟩ (fun i σ H' _ h => h.2.1.seq hS1) (fun i x σ H' hx h => ?_) (fun σ H' h => ?_)⟩
    · rw [upd_same]
      show some (SetO w p (fun x => false) 0) = some (SetO w p (fun x => decide (0 < x ∧ -x ∈ ns.take 0)) 0)
      simp
    · obtain ⟨n, rfl, hn⟩ := get_int hx
      obtain ⟨⟨y, rfl⟩, sm, m, hm, hp⟩ := h
      have hi : i < 200 := Nat.lt_of_lt_of_le (lt_get hn) hh.len
      by_cases h0 : n < 0
      · refine ⟨_, rfl, _, _, rfl, rfl, true, dT h0, ?_⟩
        refine ⟨_, rfl, ⟨p, _, m, rfl, hp⟩, _, rfl, n, rfl, p, -n, _, m, rfl, rfl, hp, by show m + 1 < 4096; omega, ⟨_, rfl⟩, fun b o e => ?_, m + 1, by omega, ?_⟩
        rotate_left 1
        · have hnt : ¬ (0 < -n ∧ - -n ∈ ns.take i) := fun z => not_mem_take hh.nd hn (by have := z.2; rw [show - -n = n by omega] at this; exact this)
          rw [upd_same, decide_eq_false hnt, if_neg Bool.false_ne_true]
          refine congrArg some (congrArg (fun S => SetO w p S _) (funext fun x => ?_))
          rw [← Bool.decide_or]
          refine decide_eq_decide.mpr ?_
          rw [mem_take_succ (x := -x) hn]
          constructor
          · rintro (⟨a, b⟩ | rfl)
            · exact ⟨a, .inl b⟩
            · exact ⟨by omega, .inr (by omega)⟩
          · rintro ⟨a, b | b⟩
            · exact .inl ⟨a, b⟩
            · exact .inr (by omega)
        · rw [upd_ne (ne_of_none e np)]
          exact sm _ _ e
      · refine ⟨_, rfl, _, _, rfl, rfl, false, dF h0, ?_⟩
        have e0 := (hh.rng n (mem_get hn)).1
        have hpre := hh.ord i n hn (by omega)
        refine ⟨_, rfl, _, rfl, n, p, _, m, rfl, rfl, hp, false, dF (fun z => hpre z.2), ⟨_, rfl⟩, sm, m, by omega, ?_⟩
        · rw [hp]
          refine congrArg some (congrArg (fun S => SetO w p S m) (funext fun x => decide_eq_decide.mpr ?_))
          rw [mem_take_succ hn]
          constructor
          · exact fun ⟨a, b⟩ => ⟨a, .inl b⟩
          · rintro ⟨a, b | b⟩
            · exact ⟨a, b⟩
            · omega
    · obtain ⟨⟨y, rfl⟩, sm, _⟩ := h
      exact q _ (s1.trans sm)
end
/-! ### references -/
def lk (l : List (Int × Int)) (k : Int) : Option Int := (l.find? fun z => decide (z.1 = k)).map (·.2)
def stepR (s : Int × List (Int × Int)) (e : Int) : Int × List (Int × Int) := if 0 < e then (e, s.2 ++ [(e, s.1)]) else ((lk s.2 (-e)).getD e, s.2)
def runR (ns : List Int) : Int × List (Int × Int) := ns.foldl stepR (0, [])
theorem runR_snoc (t : List Int) (e : Int) : runR (t ++ [e]) = stepR (runR t) e := by
  unfold runR
  rw [List.foldl_append]
  rfl
theorem lk_nil (k : Int) : lk [] k = none := rfl
theorem lk_cons (z : Int × Int) (l : List (Int × Int)) (k : Int) : lk (z :: l) k = if z.1 = k then some z.2 else lk l k := by
  unfold lk
  rw [List.find?_cons]
  by_cases h : z.1 = k
  · rw [decide_eq_true h, if_pos h]
    rfl
  · rw [decide_eq_false h, if_neg h]
theorem valV_ent (k : Int) : ∀ l : List (Int × Int), valV (l.map entI) (Sum.inl k) = (lk l k).map V.int
  | [] => rfl
  | z :: l => by
    rw [lk_cons]
    by_cases h : z.1 = k
    · rw [if_pos h]
      exact valV_pos (p := entI z) (r := l.map entI) (congrArg Sum.inl h)
    · rw [if_neg h, ← valV_ent k l]
      unfold valV
      rw [List.map_cons, List.find?_cons, decide_eq_false (fun q => h (Sum.inl.inj q))]
theorem drop_ent (k : Int) (l : List (Int × Int)) : dropK (l.map entI) (Sum.inl k) = (l.filter fun z => decide (z.1 ≠ k)).map entI := by
  unfold dropK
  rw [List.filter_map]
  refine congrArg (List.map entI) (List.filter_congr fun z _ => decide_eq_decide.mpr ?_)
  exact ⟨fun h q => h (congrArg Sum.inl q), fun h q => h (Sum.inl.inj q)⟩
theorem lk_none {l : List (Int × Int)} {k : Int} (h : k ∉ l.map (·.1)) : lk l k = none := by
  unfold lk
  rw [List.find?_eq_none.mpr]
  · rfl
  · intro z hz q
    exact h (List.mem_map.mpr ⟨z, hz, of_decide_eq_true q⟩)
theorem lk_some {l : List (Int × Int)} {k : Int} : k ∈ l.map (·.1) → ∃ v, lk l k = some v ∧ (k, v) ∈ l := by
  induction l with
  | nil => exact fun h => nomatch h
  | cons z l ih =>
    intro h
    rw [lk_cons]
    by_cases q : z.1 = k
    · refine ⟨z.2, if_pos q, ?_⟩
      rw [← q]
      exact List.mem_cons_self
    · obtain ⟨v, e1, e2⟩ := ih ((List.mem_cons.mp h).resolve_left (fun c => q c.symm))
      exact ⟨v, by rw [if_neg q]; exact e1, List.mem_cons_of_mem _ e2⟩
theorem lk_mem {l : List (Int × Int)} {z : Int × Int} (nd : (l.map (·.1)).Nodup) (h : z ∈ l) : lk l z.1 = some z.2 := by
  induction l with
  | nil => exact nomatch h
  | cons y l ih =>
    rw [lk_cons]
    rw [List.map_cons, List.nodup_cons] at nd
    rcases List.mem_cons.mp h with rfl | h
    · exact if_pos rfl
    · rw [if_neg fun q => nd.1 (by rw [q]; exact List.mem_map.mpr ⟨z, h, rfl⟩)]
      exact ih nd.2 h
theorem put_ent {l : List (Int × Int)} {k : Int} (v : Int) (h : k ∉ l.map (·.1)) : putK (l.map entI) (Sum.inl k) (.int v) = (l ++ [(k, v)]).map entI := by
  rw [putK_new]
  · rw [List.map_append]
    rfl
  · rw [valV_ent, lk_none h]
    rfl
theorem lk_filter {p : Int × Int → Bool} {k : Int} : ∀ {l : List (Int × Int)}, (∀ z ∈ l, z.1 = k → p z = true) → lk (l.filter p) k = lk l k
  | [], _ => rfl
  | z :: l, h => by
    have ih := lk_filter (p := p) (k := k) (l := l) fun y hy => h y (List.mem_cons_of_mem _ hy)
    rw [lk_cons]
    by_cases q : z.1 = k
    · rw [List.filter_cons_of_pos (h z List.mem_cons_self q), lk_cons, if_pos q, if_pos q]
    · rw [if_neg q]
      cases hp : p z with
      | true => rw [List.filter_cons_of_pos hp, lk_cons, if_neg q, ih]
      | false => rw [List.filter_cons_of_neg (by rw [hp]; exact Bool.false_ne_true), ih]
theorem keysR' : ∀ (t : List Int) (s : Int × List (Int × Int)), (t.foldl stepR s).2.map (·.1) = s.2.map (·.1) ++ t.filter fun e => decide (0 < e)
  | [], s => (List.append_nil _).symm
  | e :: t, s => by
    rw [List.foldl_cons, keysR' t]
    unfold stepR
    by_cases h : 0 < e
    · rw [if_pos h, List.filter_cons_of_pos (p := fun e => decide (0 < e)) (by exact decide_eq_true h), List.map_append, List.append_assoc]
      rfl
    · rw [if_neg h, List.filter_cons_of_neg (by rw [decide_eq_false h]; exact Bool.false_ne_true)]
theorem keysR (t : List Int) : (runR t).2.map (·.1) = t.filter fun e => decide (0 < e) := by
  unfold runR
  rw [keysR']
  rfl
theorem keysR_mem {t : List Int} {k : Int} : k ∈ (runR t).2.map (·.1) ↔ k ∈ t ∧ 0 < k := by
  rw [keysR, List.mem_filter, decide_eq_true_eq]
/-- the patches started and not stopped, with what they saved; those stopped only; those started and stopped -/
def hl (t : List Int) : List (Int × Int) := (runR t).2.filter fun z => decide (-z.1 ∉ t)
def gn (t : List Int) : List Int := (t.filter fun e => decide (e < 0 ∧ -e ∉ t)).map fun e => -e
def en (t : List Int) : List Int := (t.filter fun e => decide (e < 0 ∧ -e ∈ t)).map fun e => -e
theorem mem_keyR {t : List Int} {z : Int × Int} (h : z ∈ (runR t).2) : z.1 ∈ t ∧ 0 < z.1 := keysR_mem.mp (List.mem_map.mpr ⟨z, h, rfl⟩)
theorem hl_start {t : List Int} {e : Int} (h0 : 0 < e) (hn : -e ∉ t) : hl (t ++ [e]) = hl t ++ [(e, (runR t).1)] := by
  unfold hl
  rw [runR_snoc]
  unfold stepR
  rw [if_pos h0, List.filter_append]
  congr 1
  · refine List.filter_congr fun z hz => decide_eq_decide.mpr ?_
    have := (mem_keyR hz).2
    rw [List.mem_append, List.mem_singleton]
    constructor
    · exact fun a b => a (.inl b)
    · rintro a (b | b)
      · exact a b
      · omega
  · rw [List.filter_cons_of_pos, List.filter_nil]
    refine decide_eq_true ?_
    rw [List.mem_append, List.mem_singleton]
    rintro (b | b)
    · exact hn b
    · have b' : -e = e := b
      omega
theorem hl_stop {t : List Int} {e : Int} (h0 : e < 0) : hl (t ++ [e]) = (hl t).filter fun z => decide (z.1 ≠ -e) := by
  unfold hl
  rw [runR_snoc]
  unfold stepR
  rw [if_neg (by omega), List.filter_filter]
  refine List.filter_congr fun z hz => ?_
  rw [← Bool.decide_and]
  refine decide_eq_decide.mpr ?_
  rw [List.mem_append, List.mem_singleton]
  constructor
  · exact fun a => ⟨fun b => a (.inr (by omega)), fun b => a (.inl b)⟩
  · rintro ⟨a, b⟩ (c | c)
    · exact b c
    · exact a (by omega)
theorem lk_hl {t : List Int} {e : Int} (hn : e ∉ t) : lk (hl t) (-e) = lk (runR t).2 (-e) := lk_filter fun z _ q => decide_eq_true (by rw [q, show - -e = e by omega]; exact hn)
theorem gn_start {t : List Int} {e : Int} (h0 : 0 < e) (hn : -e ∉ t) : gn (t ++ [e]) = gn t ∧ en (t ++ [e]) = en t := by
  unfold gn en
  rw [List.filter_append, List.filter_append, List.filter_cons_of_neg (by rw [decide_eq_false (fun c => absurd c.1 (by omega))]; exact Bool.false_ne_true), List.filter_nil, List.append_nil,
    List.filter_cons_of_neg (by rw [decide_eq_false (fun c => absurd c.1 (by omega))]; exact Bool.false_ne_true), List.filter_nil, List.append_nil]
  constructor
  · refine congrArg (List.map _) (List.filter_congr fun x hx => decide_eq_decide.mpr ?_)
    rw [List.mem_append, List.mem_singleton]
    constructor
    · exact fun ⟨a, b⟩ => ⟨a, fun c => b (.inl c)⟩
    · rintro ⟨a, b⟩
      refine ⟨a, ?_⟩
      rintro (c | c)
      · exact b c
      · exact hn (by rw [← c, show - -x = x by omega]; exact hx)
  · refine congrArg (List.map _) (List.filter_congr fun x hx => decide_eq_decide.mpr ?_)
    rw [List.mem_append, List.mem_singleton]
    constructor
    · rintro ⟨a, b | b⟩
      · exact ⟨a, b⟩
      · exact absurd hx (by rw [show x = -e by omega]; exact hn)
    · exact fun ⟨a, b⟩ => ⟨a, .inl b⟩
theorem gn_stop {t : List Int} {e : Int} (h0 : e < 0) : gn (t ++ [e]) = gn t ++ (if -e ∈ t then [] else [-e]) ∧ en (t ++ [e]) = en t ++ (if -e ∈ t then [-e] else []) := by
  unfold gn en
  have m : ∀ x ∈ t, x < 0 → (-x ∈ t ++ [e] ↔ -x ∈ t) := fun x _ hx => by
    rw [List.mem_append, List.mem_singleton]
    exact ⟨fun c => c.resolve_right (by omega), .inl⟩
  have me : -e ∈ t ++ [e] ↔ -e ∈ t := by
    rw [List.mem_append, List.mem_singleton]
    exact ⟨fun c => c.resolve_right (by omega), .inl⟩
  rw [List.filter_append, List.filter_append, List.map_append, List.map_append]
  refine ⟨?_, ?_⟩
  · congr 1
    · refine congrArg (List.map _) (List.filter_congr fun x hx => decide_eq_decide.mpr ?_)
      exact ⟨fun ⟨a, b⟩ => ⟨a, fun c => b ((m x hx a).mpr c)⟩, fun ⟨a, b⟩ => ⟨a, fun c => b ((m x hx a).mp c)⟩⟩
    · by_cases c : -e ∈ t
      · rw [if_pos c, List.filter_cons_of_neg (by rw [decide_eq_false (fun q => q.2 (me.mpr c))]; exact Bool.false_ne_true)]
        rfl
      · rw [if_neg c, List.filter_cons_of_pos (p := fun x => decide (x < 0 ∧ -x ∉ t ++ [e])) (by exact decide_eq_true ⟨h0, fun q => c (me.mp q)⟩)]
        rfl
  · congr 1
    · refine congrArg (List.map _) (List.filter_congr fun x hx => decide_eq_decide.mpr ?_)
      exact ⟨fun ⟨a, b⟩ => ⟨a, (m x hx a).mp b⟩, fun ⟨a, b⟩ => ⟨a, (m x hx a).mpr b⟩⟩
    · by_cases c : -e ∈ t
      · rw [if_pos c, List.filter_cons_of_pos (p := fun x => decide (x < 0 ∧ -x ∈ t ++ [e])) (by exact decide_eq_true ⟨h0, me.mpr c⟩)]
        rfl
      · rw [if_neg c, List.filter_cons_of_neg (by rw [decide_eq_false (fun q => c (me.mp q.2))]; exact Bool.false_ne_true)]
        rfl
section
variable {P : Program} {w : World} {K : PySem.W.Frag} {mg : Str → Option Value} {base : Heap}
theorem runR_len (t : List Int) : (runR t).2.length ≤ t.length := by
  have e := congrArg List.length (keysR t)
  rw [List.length_map] at e
  rw [e]
  exact List.length_filter_le _ _
def spRefsB (K : PySem.W.Frag) : Sp := fun vs H Q _ => ∃ (a : Addr) (ns : List Int), vs = [.ref a] ∧ SqL K H a (ns.map V.int) ∧ Piece ns ∧
  ∀ H' t d, Same H H' → H' t = some (.tup [.int (runR ns).1, .ref d]) → H' d = some (.dK ((runR ns).2.map entI)) → Q (.ref t) H'
theorem ok_references_behind {f : Addr} {fd : FuncData} (F : Fun K "_references_behind" "_references_behind" s_references_behind f fd) : FnOk P w K mg base CX0 1 f fd ["piece"] (spRefsB K) := by
  refine F.ok sc_references_behind (fun vs H Q E h => ?_) (fun cdv A outer s H vs Q E hr h => ?_)
  · obtain ⟨a, ns, rfl, _⟩ := h
    rfl
  · obtain ⟨a, ns, rfl, hS, hh, q⟩ := h
    have hu := hu_of hr
    refine ⟨_, (pss_cons (ps_set (i := 1) sc_references_behind.nd rfl (Or.inl rfl) pe_int)
        (pss_cons (ps_set (i := 2) sc_references_behind.nd rfl (Or.inl rfl) pe_dnewK)
        (pss_cons (ps_for PassesOwn.never rfl (pi_list (pv 0)) (pg_name (i := 3) sc_references_behind.nd rfl (Or.inl rfl))
          (pss_one (ps_if (pt_cmpR op_gt (pv 3) pe_int (nomark _)) (pss_cons (ps_dput hu (pv 2) (pv 3) (pv 1) rfl)
            (pss_one (ps_set (i := 1) sc_references_behind.nd rfl (Or.inl rfl) (pv 3)))) (pss_one (ps_set (i := 1) sc_references_behind.nd rfl (Or.inl rfl) (pe_dget2 hu (pv 2) (pe_un un_neg (pv 3)) (pv 3) (by constructor <;> rfl)))))))
        (pss_one (ps_ret (pe_tup (pa_cons (pv 1) (pa_cons (pv 2) pa_nil)))))))), ?_⟩
    refine fun d nd => ?_
    refine ⟨_, rfl, a, rfl, ⟨_, (same_new nd).seq hS⟩, for_list (xs := ns.map V.int) (fun i σ H' => (∃ y, σ = [some (.ref a), some (.int (runR (ns.take i)).1), some (.ref d), y]) ∧ Same H H' ∧ H' d = some (.dK ((runR (ns.take i)).2.map entI))) ⟨⟨_, rfl⟩, same_new nd, upd_same⟩ (fun i σ H' _ h => h.2.1.seq hS) (fun i x σ H' hx h => ?_) (fun σ H' h => ?_)⟩
    · obtain ⟨n, rfl, hn⟩ := get_int hx
      obtain ⟨⟨y, rfl⟩, sm, hd⟩ := h
      have hi : i < 200 := Nat.lt_of_lt_of_le (lt_get hn) hh.len
      have e0 := (hh.rng n (mem_get hn)).1
      have hln := runR_len (ns.take i)
      rw [List.length_take] at hln
      have eR : runR (ns.take (i + 1)) = stepR (runR (ns.take i)) n := by rw [take_get hn, runR_snoc]
      by_cases h0 : 0 < n
      · have hk : n ∉ (runR (ns.take i)).2.map (·.1) := fun z => not_mem_take hh.nd hn (keysR_mem.mp z).1
        have eS : stepR (runR (ns.take i)) n = (n, (runR (ns.take i)).2 ++ [(n, (runR (ns.take i)).1)]) := if_pos h0
        refine ⟨_, rfl, _, _, rfl, rfl, true, dT h0, ?_⟩
        refine ⟨_, rfl, _, rfl, _, rfl, d, _, rfl, DPut.k (k := Sum.inl n) hd (zl (by rw [List.length_map]; omega)), ?_⟩
        refine ⟨_, rfl, ⟨some (.int n), ?_⟩, fun b o e => ?_, ?_⟩
        · rw [eR, eS]
          rfl
        · rw [upd_ne (ne_of_none e nd)]
          exact sm _ _ e
        · rw [upd_same, put_ent _ hk, eR, eS]
      · have eS : stepR (runR (ns.take i)) n = ((lk (runR (ns.take i)).2 (-n)).getD n, (runR (ns.take i)).2) := if_neg h0
        refine ⟨_, rfl, _, _, rfl, rfl, false, dF h0, ?_⟩
        refine ⟨_, rfl, d, rfl, .inl ⟨_, .inl hd⟩, _, rfl, n, rfl, _, rfl, _, DGet.k (k := Sum.inl (-n)) hd, ⟨some (.int n), ?_⟩, sm, ?_⟩
        · rw [eR, eS, valV_ent]
          cases lk (runR (ns.take i)).2 (-n) <;> rfl
        · rw [eR, eS]
          exact hd
    · obtain ⟨⟨y, rfl⟩, sm, hd⟩ := h
      rw [List.length_map, List.take_length] at hd
      refine ⟨_, rfl, _, rfl, by show 2 ≤ sizeLine; decide, fun t nt => q _ t d (sm.trans (same_new nt)) (by rw [upd_same, List.length_map, List.take_length]) ?_⟩
      rw [upd_ne (ne_of_none hd nt)]
      exact hd
end
open L2.DX
structure Parts (ns : List Int) (S : List (Int × Int)) (G E : List Int) : Prop where
  s1 : S.Perm (hl ns)
  s2 : S.Pairwise fun x y => x.1 ≤ y.1
  g1 : G.Perm (gn ns)
  g2 : G.Pairwise (· ≤ ·)
  e1 : E.Perm (en ns)
  e2 : E.Pairwise (· ≤ ·)
def dP (S : List (Int × Int)) : PyData := .list (S.map fun z => .tuple [.int z.1, .int z.2])
def dOf (p : Int) (S : List (Int × Int)) (G E : List Int) : PyData := .list [.int p, dP S, dI G, dI E]
theorem dpAll_pairs {K : PySem.W.Frag} {H : Hp} : ∀ ps : List (Addr × Int × Int), (∀ z ∈ ps, H z.1 = some (.tup [.int z.2.1, .int z.2.2])) → DpAll K H (ps.map fun z => V.ref z.1) ((ps.map (·.2)).map fun z => .tuple [.int z.1, .int z.2])
  | [], _ => .nil
  | z :: ps, h => .cons (.tup (.of (h z List.mem_cons_self)) (.cons (.int _) (.cons (.int _) .nil))) (dpAll_pairs ps fun y hy => h y (List.mem_cons_of_mem _ hy))
section
variable {P : Program} {w : World} {K : PySem.W.Frag} {mg : Str → Option Value} {base : Heap}
theorem hl_len (t : List Int) : (hl t).length ≤ t.length := Nat.le_trans (List.length_filter_le _ _) (runR_len t)
theorem gn_len (t : List Int) : (gn t).length ≤ t.length := by unfold gn; rw [List.length_map]; exact List.length_filter_le _ _
theorem en_len (t : List Int) : (en t).length ≤ t.length := by unfold en; rw [List.length_map]; exact List.length_filter_le _ _
/-- what is new in H', as H2 has it -/
def Nw (H H' H2 : Hp) : Prop := ∀ b o, H b = none → H' b = some o → H2 b = some o
theorem Same.none {H H' : Hp} {a : Addr} (s : Same H H') (n : H' a = none) : H a = none := by
  cases e : H a with
  | none => rfl
  | some o =>
    rw [s _ _ e] at n
    cases n
end
section
variable {P : Program} {w : World} {K : PySem.W.Frag} {mg : Str → Option Value} {base : Heap}
def spRefs (K : PySem.W.Frag) : Sp := fun vs H Q _ => ∃ (a : Addr) (ns : List Int), vs = [.ref a] ∧ SqL K H a (ns.map V.int) ∧ Piece ns ∧
  ∀ H' r S G E, Same H H' → H r = none → Parts ns S G E → (∀ H2, Nw H H' H2 → Dp K H2 (.ref r) (dOf (runR ns).1 S G E)) → Q (.ref r) H'
theorem ok_law_refs {f : Addr} {fd : FuncData} (F : Fun K "_law_refs" "_law_refs" s_law_refs f fd) (B : NoB mg) : FnG P w K mg base CX0 1 f fd ["part"] (spRefs K) := by
  refine okG F sc_law_refs (fun vs H Q E h => ?_) (fun cdv A outer s H vs Q E hG hr h => ?_)
  · obtain ⟨a, ns, rfl, _⟩ := h
    rfl
  · obtain ⟨a, ns, rfl, hS, hh, q⟩ := h
    have hu := hu_of hr
    refine ⟨_, (pss_cons (ps_asg (pe_tup (pa_cons pe_int (pa_cons pe_dnewK (pa_cons (pe_lst pa_nil) (pa_cons (pe_lst pa_nil) pa_nil))))) (pg_tup rfl (pgs_cons (pg_name (i := 1) sc_law_refs.nd rfl (Or.inl rfl)) (pgs_cons (pg_name (i := 2) sc_law_refs.nd rfl (Or.inl rfl)) (pgs_cons (pg_name (i := 3) sc_law_refs.nd rfl (Or.inl rfl)) (pgs_cons (pg_name (i := 4) sc_law_refs.nd rfl (Or.inl rfl)) pgs_nil))))))
        (pss_cons (ps_for PassesOwn.never rfl (pi_list (pv 0)) (pg_name (i := 5) sc_law_refs.nd rfl (Or.inl rfl))
          (pss_one (ps_if (pt_cmpR op_gt (pv 5) pe_int (nomark _)) (pss_one (ps_asg (pe_tup (pa_cons (pv 1) (pa_cons (pv 5) pa_nil))) (pg_tup rfl (pgs_cons (pg_sub (pv 2) (pv 5) (set_dict hu)) (pgs_cons (pg_name (i := 1) sc_law_refs.nd rfl (Or.inl rfl)) pgs_nil))))) (pss_one (ps_if (pt_cmp (pc_din hu (pe_op op_sub pe_int (pv 5)) (pv 2))) (pss_cons (ps_set (i := 1) sc_law_refs.nd rfl (Or.inl rfl) (pe_dpop1 (pv 2) (pe_op op_sub pe_int (pv 5)) (by constructor <;> rfl)))
              (pss_one (ps_expr (pe_bm PySem.F.plainAttrs_list PySem.F.slot_list_append PySem.F.type_list_append mt_append (pv 4) (pa_cons (pe_op op_sub pe_int (pv 5)) pa_nil))))) (pss_cons (ps_set (i := 1) sc_law_refs.nd rfl (Or.inl rfl) (pv 5))
              (pss_one (ps_expr (pe_bm PySem.F.plainAttrs_list PySem.F.slot_list_append PySem.F.type_list_append mt_append (pv 3) (pa_cons (pe_op op_sub pe_int (pv 5)) pa_nil))))))))))
        (pss_one (ps_ret (pe_lst (pa_cons (pv 1) (pa_cons (pe_callB (cr_sortedItemsI rfl) (by rfl) B.sorted (by decide +kernel) (pa_cons (pe_bm0 PySem.F.plainAttrs_dict PySem.F.slot_dict_items PySem.F.type_dict_items mt_itemsI (pv 2)) pa_nil)) (pa_cons (pe_callB cr_sortedI (by rfl) B.sorted (by decide +kernel) (pa_cons (pv 3) pa_nil)) (pa_cons (pe_callB cr_sortedI (by rfl) B.sorted (by decide +kernel) (pa_cons (pv 4) pa_nil)) pa_nil))))))))), ?_⟩
    refine fun d nd => ⟨Nat.zero_le _, fun g ng => ⟨Nat.zero_le _, fun m nm => ⟨by show 4 ≤ sizeLine; decide, fun T nT => ⟨T, _, rfl, .of upd_same, rfl, _, _, rfl, _, _, rfl, _, _, rfl, _, _, rfl, rfl, ?_⟩⟩⟩⟩
    have dg : d ≠ g := fun z => by
      rw [← z, upd_same] at ng
      cases ng
    have ng0 : H g = none := by rw [upd_ne dg.symm] at ng; exact ng
    have gm : g ≠ m := fun z => by
      rw [← z, upd_same] at nm
      cases nm
    have dm : d ≠ m := fun z => by
      rw [← z, upd_ne dg, upd_same] at nm
      cases nm
    have nm0 : H m = none := by rw [upd_ne gm.symm, upd_ne dm.symm] at nm; exact nm
    have s0 : Same H (upd (upd (upd (upd H d (.dK [])) g (.lst [])) m (.lst [])) T (.tup [.int 0, .ref d, .ref g, .ref m])) := (((same_new nd).trans (same_new ng)).trans (same_new nm)).trans (same_new nT)
    have hd0 : (upd (upd (upd (upd H d (.dK [])) g (.lst [])) m (.lst [])) T (.tup [.int 0, .ref d, .ref g, .ref m])) d = some (.dK []) := by
      have e : (upd (upd (upd H d (.dK [])) g (.lst [])) m (.lst [])) d = some (.dK []) := by rw [upd_ne dm, upd_ne dg, upd_same]
      rw [upd_ne (ne_of_none e nT)]
      exact e
    have hg0 : (upd (upd (upd (upd H d (.dK [])) g (.lst [])) m (.lst [])) T (.tup [.int 0, .ref d, .ref g, .ref m])) g = some (.lst []) := by
      have e : (upd (upd (upd H d (.dK [])) g (.lst [])) m (.lst [])) g = some (.lst []) := by rw [upd_ne gm, upd_same]
      rw [upd_ne (ne_of_none e nT)]
      exact e
    have hm0 : (upd (upd (upd (upd H d (.dK [])) g (.lst [])) m (.lst [])) T (.tup [.int 0, .ref d, .ref g, .ref m])) m = some (.lst []) := by
      rw [upd_ne (ne_of_none upd_same nT), upd_same]
    generalize upd (upd (upd (upd H d (.dK [])) g (.lst [])) m (.lst [])) T (.tup [.int 0, .ref d, .ref g, .ref m]) = H1 at s0 hd0 hg0 hm0 ⊢
    refine ⟨_, rfl, a, rfl, ⟨_, s0.seq hS⟩, for_list (xs := ns.map V.int) (fun i σ H' => (∃ y, σ = [some (.ref a), some (.int (runR (ns.take i)).1), some (.ref d), some (.ref g), some (.ref m), y]) ∧ Same H H' ∧ H' d = some (.dK ((hl (ns.take i)).map entI)) ∧ H' g = some (.lst ((gn (ns.take i)).map V.int)) ∧ H' m = some (.lst ((en (ns.take i)).map V.int))) ⟨⟨_, rfl⟩, s0, hd0, hg0, hm0⟩ (fun i σ H' _ h => h.2.1.seq hS) (fun i x σ H' hx h => ?_) (fun σ H' h => ?_)⟩
    · obtain ⟨n, rfl, hn⟩ := get_int hx
      obtain ⟨⟨y, rfl⟩, sm, hd, hg, hm⟩ := h
      have hi : i < 200 := Nat.lt_of_lt_of_le (lt_get hn) hh.len
      have e0 := (hh.rng n (mem_get hn)).1
      have hll := hl_len (ns.take i)
      have hgl := gn_len (ns.take i)
      have hel := en_len (ns.take i)
      rw [List.length_take] at hll hgl hel
      have hnt := not_mem_take hh.nd hn
      rw [take_get hn]
      by_cases h0 : 0 < n
      · have ho := hh.ord i n hn h0
        have eS : runR (ns.take i ++ [n]) = (n, (runR (ns.take i)).2 ++ [(n, (runR (ns.take i)).1)]) := by rw [runR_snoc]; exact if_pos h0
        have hk : n ∉ (hl (ns.take i)).map (·.1) := fun z => by
          obtain ⟨y, hy, e⟩ := List.mem_map.mp z
          exact hnt (by rw [← e]; exact (mem_keyR (List.mem_filter.mp hy).1).1)
        obtain ⟨eg, ee⟩ := gn_start h0 ho
        refine ⟨_, rfl, _, _, rfl, rfl, true, dT h0, ?_⟩
        refine ⟨_, rfl, _, rfl, by show 2 ≤ sizeLine; decide, fun T2 nT2 => ⟨T2, _, rfl, .of upd_same, rfl, ?_⟩⟩
        have hd2 : (upd H' T2 (.tup [.int (runR (ns.take i)).1, .int n])) d = some (.dK ((hl (ns.take i)).map entI)) := by rw [upd_ne (ne_of_none hd nT2)]; exact hd
        have hg2 : (upd H' T2 (.tup [.int (runR (ns.take i)).1, .int n])) g = some (.lst ((gn (ns.take i)).map V.int)) := by rw [upd_ne (ne_of_none hg nT2)]; exact hg
        have hm2 : (upd H' T2 (.tup [.int (runR (ns.take i)).1, .int n])) m = some (.lst ((en (ns.take i)).map V.int)) := by rw [upd_ne (ne_of_none hm nT2)]; exact hm
        have sm2 := sm.trans (same_new (o := .tup [.int (runR (ns.take i)).1, .int n]) nT2)
        refine ⟨_, _, rfl, _, rfl, _, rfl, d, _, rfl, DPut.k (k := Sum.inl n) hd2 (zl (by rw [List.length_map]; omega)), ?_⟩
        refine ⟨_, _, rfl, rfl, ⟨some (.int n), ?_⟩, fun b o e => ?_, ?_, ?_, ?_⟩
        · rw [eS]
          rfl
        · rw [upd_ne (ne_of_none e nd)]
          exact sm2 _ _ e
        · rw [upd_same, put_ent _ hk, hl_start h0 ho]
        · rw [upd_ne dg.symm, hg2, eg]
        · rw [upd_ne dm.symm, hm2, ee]
      · have hneg : n < 0 := by omega
        have eS : runR (ns.take i ++ [n]) = ((lk (runR (ns.take i)).2 (-n)).getD n, (runR (ns.take i)).2) := by rw [runR_snoc]; exact if_neg h0
        have ez : (0 : Int) - n = -n := Int.zero_sub n
        obtain ⟨eg, ee⟩ := gn_stop (t := ns.take i) hneg
        have eL := lk_hl (t := ns.take i) (e := n) hnt
        refine ⟨_, rfl, _, _, rfl, rfl, false, dF h0, ?_⟩
        by_cases hk : -n ∈ ns.take i
        · obtain ⟨v, hv, _⟩ := lk_some (l := (runR (ns.take i)).2) (k := -n) (keysR_mem.mpr ⟨hk, by omega⟩)
          have hv2 : valV ((hl (ns.take i)).map entI) (Sum.inl (-n)) = some (.int v) := by rw [valV_ent, eL, hv]; rfl
          refine ⟨_, rfl, _, _, rfl, rfl, _, rfl, d, valV ((hl (ns.take i)).map entI) (Sum.inl (-n)), rfl, (by show DGet H' d (V.int (0 - n)) _; rw [ez]; exact DGet.k (k := Sum.inl (-n)) hd), true, (by rw [hv2]; rfl), ?_⟩
          refine ⟨_, rfl, d, rfl, .inl ⟨_, .inl hd⟩, _, rfl, _, _, rfl, rfl, _, Sum.inl (-n), .int v, hd, congrArg V.int ez, hv2, ?_⟩
          have hm2 : (upd H' d (.dK (dropK ((hl (ns.take i)).map entI) (Sum.inl (-n))))) m = some (.lst ((en (ns.take i)).map V.int)) := by rw [upd_ne dm.symm]; exact hm
          refine ⟨_, rfl, .inl ⟨rfl, _, .of hm2⟩, _, rfl, _, _, rfl, rfl, m, _, _, rfl, rfl, hm2, by rw [List.length_map]; exact zl (by omega), ⟨some (.int n), ?_⟩, fun b o e => ?_, ?_, ?_, ?_⟩
          · rw [eS, hv]
            rfl
          · rw [upd_ne (ne_of_none e nm0), upd_ne (ne_of_none e nd)]
            exact sm _ _ e
          · rw [upd_ne dm, upd_same, drop_ent, hl_stop hneg]
          · rw [upd_ne gm, upd_ne dg.symm, hg, eg, if_pos hk, List.append_nil]
          · rw [upd_same, ee, if_pos hk, List.map_append, ← ez]
            rfl
        · have hv : lk (runR (ns.take i)).2 (-n) = none := lk_none fun z => hk (keysR_mem.mp z).1
          have hv2 : valV ((hl (ns.take i)).map entI) (Sum.inl (-n)) = none := by rw [valV_ent, eL, hv]; rfl
          refine ⟨_, rfl, _, _, rfl, rfl, _, rfl, d, valV ((hl (ns.take i)).map entI) (Sum.inl (-n)), rfl, (by show DGet H' d (V.int (0 - n)) _; rw [ez]; exact DGet.k (k := Sum.inl (-n)) hd), false, (by rw [hv2]; rfl), ?_⟩
          refine ⟨_, rfl, _, rfl, .inl ⟨rfl, _, .of hg⟩, _, rfl, _, _, rfl, rfl, g, _, _, rfl, rfl, hg, by rw [List.length_map]; exact zl (by omega), ⟨some (.int n), ?_⟩, fun b o e => ?_, ?_, ?_, ?_⟩
          · rw [eS, hv]
            rfl
          · rw [upd_ne (ne_of_none e ng0)]
            exact sm _ _ e
          · rw [upd_ne dg, hd, hl_stop hneg]
            refine congrArg some (congrArg HO.dK (congrArg (List.map entI) (List.filter_eq_self.mpr fun z hz => decide_eq_true (show z.1 ≠ -n from fun q => hk ?_)).symm))
            rw [← q]
            exact (mem_keyR (List.mem_filter.mp hz).1).1
          · rw [upd_same, eg, if_neg hk, List.map_append, ← ez]
            rfl
          · rw [upd_ne gm.symm, hm, ee, if_neg hk, List.append_nil]
    · obtain ⟨⟨y, rfl⟩, sm, hd, hg, hm⟩ := h
      rw [List.length_map, List.take_length] at hd hg hm
      rw [List.length_map, List.take_length]
      refine ⟨_, rfl, _, rfl, .inr (.inr (.inl ⟨rfl, .inl ⟨_, hd⟩⟩)), d, _, rfl, rfl, hd, fun p np => ?_⟩
      have hdp : (upd H' p (itemsO p d)) d = some (.dK ((hl ns).map entI)) := by rw [upd_ne (ne_of_none hd np)]; exact hd
      refine ⟨p, d, hl ns, rfl, upd_same, hdp, fun H3 l ps k1 pm pw hl3 hz nl0 nz0 => ?_⟩
      have s3 : Same H' H3 := (same_new np).trans k1
      have hg3 := s3 _ _ hg
      have hm3 := s3 _ _ hm
      refine ⟨_, rfl, g, gn ns, rfl, .of hg3, fun G pg gp gw ng3 => ?_⟩
      have s4 : Same H3 (upd H3 pg (.lst (G.map V.int))) := same_new ng3
      refine ⟨_, rfl, m, en ns, rfl, .of (s4 _ _ hm3), fun E pe ep ew ne3 => ?_⟩
      have s5 : Same (upd H3 pg (.lst (G.map V.int))) (upd (upd H3 pg (.lst (G.map V.int))) pe (.lst (E.map V.int))) := same_new ne3
      refine ⟨by show 4 ≤ sizeLine; decide, fun r nr => ?_⟩
      have s6 := same_new (o := .lst [.int (runR ns).1, .ref l, .ref pg, .ref pe]) nr
      have sA := ((sm.trans s3).trans s4).trans s5
      have nr0 : H r = none := by
        cases hr0 : H r with
        | none => rfl
        | some o =>
          rw [sA _ _ hr0] at nr
          cases nr
      refine q _ r (ps.map (·.2)) G E (sA.trans s6) nr0 ⟨pm, pw, gp, gw, ep, ew⟩ fun H2 nw => ?_
      have sP : Same H (upd H' p (itemsO p d)) := sm.trans (same_new np)
      have s456 := (s4.trans s5).trans s6
      refine .lst (.of (nw _ _ nr0 upd_same)) (.cons (.int _) (.cons ?_ (.cons ?_ (.cons ?_ .nil))))
      · exact .lst (.of (nw _ _ (Same.none sP nl0) (s456 _ _ hl3))) (dpAll_pairs ps fun z hz' => nw _ _ (Same.none sP (nz0 z hz')) (s456 _ _ (hz z hz')))
      · exact dp_ints (.of (nw _ _ (Same.none (sm.trans s3) ng3) (s6 _ _ (s5 _ _ upd_same))))
      · exact dp_ints (.of (nw _ _ (Same.none ((sm.trans s3).trans s4) ne3) (s6 _ _ upd_same)))
end
def selS (ns : List Int) (l : List (Int × Int)) (ys : List Int) : List (Int × Int) := (ys.filter fun y => decide (-y ∉ ns)).map fun y => (y, (lk l y).getD 0)
theorem keysR_nd {ns : List Int} (nd : ns.Nodup) : ((runR ns).2.map (·.1)).Nodup := by
  rw [keysR]
  exact nd.sublist List.filter_sublist
theorem selS_perm {ns : List Int} (nd : ns.Nodup) {ys : List Int} (h : ys.Perm ((runR ns).2.map (·.1))) : (selS ns (runR ns).2 ys).Perm (hl ns) := by
  have hn := keysR_nd nd
  have e : ((runR ns).2.map (·.1)).filter (fun y => decide (-y ∉ ns)) = (hl ns).map (·.1) := by
    rw [List.filter_map]
    rfl
  have p := (h.filter fun y => decide (-y ∉ ns)).map fun y => (y, (lk (runR ns).2 y).getD 0)
  rw [e, List.map_map] at p
  have e2 : (hl ns).map ((fun y => (y, (lk (runR ns).2 y).getD 0)) ∘ (·.1)) = (hl ns).map id := List.map_congr_left fun z hz => by
    show (z.1, (lk (runR ns).2 z.1).getD 0) = z
    rw [lk_mem hn (List.mem_filter.mp hz).1]
    rfl
  rw [e2, List.map_id] at p
  exact p
theorem selS_le {ns : List Int} {l : List (Int × Int)} {ys : List Int} (h : ys.Pairwise (· ≤ ·)) : (selS ns l ys).Pairwise fun x y => x.1 ≤ y.1 :=
  List.pairwise_map.mpr (h.sublist List.filter_sublist)
theorem selS_succ {ns : List Int} {l : List (Int × Int)} {ys : List Int} {i : Nat} {y : Int} (h : ys[i]? = some y) : selS ns l (ys.take (i + 1)) = selS ns l (ys.take i) ++ if -y ∉ ns then [(y, (lk l y).getD 0)] else [] := by
  unfold selS
  rw [take_get h, List.filter_append, List.map_append]
  congr 1
  by_cases c : -y ∉ ns
  · rw [if_pos c, List.filter_cons_of_pos (p := fun y => decide (-y ∉ ns)) (by exact decide_eq_true c)]
    rfl
  · rw [if_neg c, List.filter_cons_of_neg (p := fun y => decide (-y ∉ ns)) (by rw [decide_eq_false c]; exact Bool.false_ne_true)]
    rfl
theorem selS_len (ns : List Int) (l : List (Int × Int)) (ys : List Int) : (selS ns l ys).length ≤ ys.length := by
  unfold selS
  rw [List.length_map]
  exact List.length_filter_le _ _
theorem en_perm {ns : List Int} (nd : ns.Nodup) : (ns.filter fun e => decide (0 < e ∧ -e ∈ ns)).Perm (en ns) := by
  refine (List.perm_ext_iff_of_nodup (nd.sublist List.filter_sublist) (nodup_map (fun x y e => by omega) (nd.sublist List.filter_sublist))).mpr fun x => ?_
  rw [List.mem_filter, decide_eq_true_eq, List.mem_map]
  constructor
  · rintro ⟨h1, h2, h3⟩
    exact ⟨-x, List.mem_filter.mpr ⟨h3, decide_eq_true ⟨by omega, by rw [show - -x = x by omega]; exact h1⟩⟩, by omega⟩
  · rintro ⟨y, hy, rfl⟩
    obtain ⟨h1, h2⟩ := List.mem_filter.mp hy
    obtain ⟨h3, h4⟩ := of_decide_eq_true h2
    exact ⟨h4, by omega, by rw [show - -y = y by omega]; exact h1⟩
theorem filt_succ {ns : List Int} {f : Int → Bool} {i : Nat} {e : Int} (h : ns[i]? = some e) : (ns.take (i + 1)).filter f = (ns.take i).filter f ++ if f e = true then [e] else [] := by
  rw [take_get h, List.filter_append, List.filter_cons]
  split <;> rfl
theorem filt_len {ns : List Int} {f : Int → Bool} (i : Nat) : ((ns.take i).filter f).length ≤ i := by
  have a := List.length_filter_le f (ns.take i)
  rw [List.length_take] at a
  omega
theorem inT {x : Int} {ns : List Int} (h : x ∈ ns) : V.bl (if false = true then !inV (.int x) (ns.map V.int) else inV (.int x) (ns.map V.int)) = V.bl true := by
  rw [if_neg Bool.false_ne_true, inVI, decide_eq_true h]
theorem inF {x : Int} {ns : List Int} (h : x ∉ ns) : V.bl (if false = true then !inV (.int x) (ns.map V.int) else inV (.int x) (ns.map V.int)) = V.bl false := by
  rw [if_neg Bool.false_ne_true, inVI, decide_eq_false h]
/-! ### an effect -/
abbrev fE (a1 : Addr) (p : Int) (a3 a4 a5 : Addr) : List (Str × V) := [("_piece", .ref a1), ("_present", .int p), ("_saved", .ref a3), ("_stopped", .ref a4), ("_ended", .ref a5)]
structure Txt (K : PySem.W.Frag) (CE : Addr) : Prop where
  cE : Cls K CE
  n0 : NoAttr K CE "_piece"
  n1 : NoAttr K CE "_present"
  n2 : NoAttr K CE "_saved"
  n3 : NoAttr K CE "_stopped"
  n4 : NoAttr K CE "_ended"
structure Eff (CE : Addr) (H : Hp) (x dx a1 a3 a4 a5 : Addr) (ns : List Int) (ps : List (Addr × Int × Int)) (G E : List Int) : Prop where
  hx : H x = some (.ins CE dx (fE a1 (runR ns).1 a3 a4 a5))
  h1 : H a1 = some (.lst (ns.map V.int))
  h3 : H a3 = some (.lst (ps.map fun z => V.ref z.1))
  hp : ∀ z ∈ ps, H z.1 = some (.tup [.int z.2.1, .int z.2.2])
  h4 : H a4 = some (.lst (G.map V.int))
  h5 : H a5 = some (.lst (E.map V.int))
  pt : Parts ns (ps.map (·.2)) G E
  pc : Piece ns
theorem Eff.same {CE : Addr} {H H' : Hp} {x dx a1 a3 a4 a5 : Addr} {ns : List Int} {ps : List (Addr × Int × Int)} {G E : List Int} (h : Eff CE H x dx a1 a3 a4 a5 ns ps G E) (s : Same H H') : Eff CE H' x dx a1 a3 a4 a5 ns ps G E :=
  ⟨s _ _ h.hx, s _ _ h.h1, s _ _ h.h3, fun z hz => s _ _ (h.hp z hz), s _ _ h.h4, s _ _ h.h5, h.pt, h.pc⟩
theorem Eff.mut {CE : Addr} {H : Hp} {x dx a1 a3 a4 a5 p : Addr} {ns : List Int} {ps : List (Addr × Int × Int)} {G E : List Int} {xs ys : List V} (h : Eff CE H x dx a1 a3 a4 a5 ns ps G E) (hp : H p = some (.lst xs)) (n1 : a1 ≠ p) (n3 : a3 ≠ p) (n4 : a4 ≠ p) (n5 : a5 ≠ p) : Eff CE (upd H p (.lst ys)) x dx a1 a3 a4 a5 ns ps G E :=
  ⟨by rw [upd_ne (ne_of h.hx hp (fun z => nomatch z))]; exact h.hx, by rw [upd_ne n1]; exact h.h1, by rw [upd_ne n3]; exact h.h3, fun z hz => by rw [upd_ne (ne_of (h.hp z hz) hp (fun z => nomatch z))]; exact h.hp z hz, by rw [upd_ne n4]; exact h.h4, by rw [upd_ne n5]; exact h.h5, h.pt, h.pc⟩
/-- the heaps agree but at x -/
def But (x : Addr) (H H' : Hp) : Prop := ∀ y o, y ≠ x → H y = some o → H' y = some o
theorem But.sm {x : Addr} {H H' H2 : Hp} (h : But x H H') (s : Same H' H2) : But x H H2 := fun y o a b => s _ _ (h y o a b)
theorem But.up {x : Addr} {H H' : Hp} (h : But x H H') (o : HO) : But x H (upd H' x o) := fun y u a b => by rw [upd_ne a]; exact h y u a b
structure Fa (CE : Addr) (H H' : Hp) (x dx a a1 d : Addr) (ns : List Int) (fs : List (Str × V)) : Prop where
  bt : But x H H'
  hx : H' x = some (.ins CE dx fs)
  ha : H' a = some (.lst (ns.map V.int))
  h1 : H' a1 = some (.lst (ns.map V.int))
  hd : H' d = some (.dK ((runR ns).2.map entI))
section
variable {CE : Addr} {H H' H2 : Hp} {x dx a a1 d D : Addr} {ns : List Int} {fs gs : List (Str × V)}
theorem Fa.same (f : Fa CE H H' x dx a a1 d ns fs) (s : Same H' H2) : Fa CE H H2 x dx a a1 d ns fs := ⟨f.bt.sm s, s _ _ f.hx, s _ _ f.ha, s _ _ f.h1, s _ _ f.hd⟩
theorem Fa.free (f : Fa CE H H' x dx a a1 d ns fs) (n : H' D = none) : H D = none := by
  have hx : D ≠ x := fun z => by
    rw [z, f.hx] at n
    cases n
  cases e : H D with
  | none => rfl
  | some o =>
    rw [f.bt _ _ hx e] at n
    cases n
theorem Fa.nax (f : Fa CE H H' x dx a a1 d ns fs) : a ≠ x := fun z => by
  have h1 := f.ha
  rw [z, f.hx] at h1
  cases h1
theorem Fa.n1x (f : Fa CE H H' x dx a a1 d ns fs) : a1 ≠ x := fun z => by
  have h1 := f.h1
  rw [z, f.hx] at h1
  cases h1
theorem Fa.ndx (f : Fa CE H H' x dx a a1 d ns fs) : d ≠ x := fun z => by
  have h1 := f.hd
  rw [z, f.hx] at h1
  cases h1
theorem Fa.fld (f : Fa CE H H' x dx a a1 d ns fs) : Fa CE H (upd H' x (.ins CE dx gs)) x dx a a1 d ns gs :=
  ⟨f.bt.up _, upd_same, by rw [upd_ne f.nax]; exact f.ha, by rw [upd_ne f.n1x]; exact f.h1, by rw [upd_ne f.ndx]; exact f.hd⟩
theorem Fa.put {fs0 : List (Str × V)} {o : HO} (f0 : Fa CE H H' x dx a a1 d ns fs0) (n : H' D = none) (f : Fa CE H H2 x dx a a1 d ns fs) : Fa CE H (upd H2 D o) x dx a a1 d ns fs := by
  refine ⟨fun y u b c => ?_, ?_, ?_, ?_, ?_⟩
  · rw [upd_ne (ne_of_none (f0.bt y u b c) n)]
    exact f.bt y u b c
  · rw [upd_ne (ne_of_none f0.hx n)]; exact f.hx
  · rw [upd_ne (ne_of_none f0.ha n)]; exact f.ha
  · rw [upd_ne (ne_of_none f0.h1 n)]; exact f.h1
  · rw [upd_ne (ne_of_none f0.hd n)]; exact f.hd
end
structure Sv (H : Hp) (D : Addr) (ps : List (Addr × Int × Int)) : Prop where
  h : H D = some (.lst (ps.map fun z => V.ref z.1))
  q : ∀ z ∈ ps, H z.1 = some (.tup [.int z.2.1, .int z.2.2])
section
variable {CE : Addr} {H H2 : Hp} {x dx D D2 : Addr} {ps : List (Addr × Int × Int)} {fs gs : List (Str × V)}
theorem Sv.same (f : Sv H D ps) (s : Same H H2) : Sv H2 D ps := ⟨s _ _ f.h, fun z hz => s _ _ (f.q z hz)⟩
theorem Sv.fld (f : Sv H D ps) (hx : H x = some (.ins CE dx fs)) : Sv (upd H x (.ins CE dx gs)) D ps := by
  refine ⟨?_, fun z hz => ?_⟩
  · rw [upd_ne (ne_of f.h hx (fun z => nomatch z))]; exact f.h
  · rw [upd_ne (ne_of (f.q z hz) hx (fun z => nomatch z))]; exact f.q z hz
theorem Sv.put {o : HO} (f0 : Sv H D ps) (n : H D2 = none) (f : Sv H2 D ps) : Sv (upd H2 D2 o) D ps := by
  refine ⟨?_, fun z hz => ?_⟩
  · rw [upd_ne (ne_of_none f0.h n)]; exact f.h
  · rw [upd_ne (ne_of_none (f0.q z hz) n)]; exact f.q z hz
end
section
variable {P : Program} {w : World} {K : PySem.W.Frag} {mg : Str → Option Value} {base : Heap} {CE : Addr}
def spInit (CE : Addr) : Sp := fun vs H Q _ => ∃ (x dx a : Addr) (ns : List Int), vs = [.ref x, .ref a] ∧ H a = some (.lst (ns.map V.int)) ∧ Piece ns ∧ H x = some (.ins CE dx []) ∧
  ∀ H' a1 a3 a4 a5 ps G E, Eff CE H' x dx a1 a3 a4 a5 ns ps G E → But x H H' → H a1 = none → H a3 = none → H a4 = none → H a5 = none → Q .non H'
theorem ok_Effect_init {f : Addr} {fd : FuncData} (F : Fun K "__init__" "Effect.__init__" s_Effect_init f fd) (B : NoB mg) (T : Txt K CE) (T_is_piece : Cal P w K mg base 5 "is_piece" (spIsPiece K)) (T_references_behind : Cal P w K mg base 1 "_references_behind" (spRefsB K)) : FnOk P w K mg base CX0 6 f fd ["self", "piece"] (spInit CE) := by
  refine F.ok sc_Effect_init (fun vs H Q E h => ?_) (fun cdv A outer s H vs Q E hr h => ?_)
  · obtain ⟨x, dx, a, ns, rfl, _⟩ := h
    rfl
  · obtain ⟨x, dx, a, ns, rfl, ha, hh, hx, q⟩ := h
    have hu := hu_of hr
    have hS : SqL K H a (ns.map V.int) := .of ha
    refine ⟨_, (pss_cons (ps_if (pt_not (pt_val (pe_c T_is_piece hr (by decide) (by rfl) (pa_cons (pv 1) pa_nil)))) (pss_one ps_never) pss_nil)
        (pss_cons (ps_asg (pe_c T_references_behind hr (by decide) (by rfl) (pa_cons (pv 1) pa_nil)) (pg_tup rfl (pgs_cons (pg_name (i := 2) sc_Effect_init.nd rfl (Or.inl rfl)) (pgs_cons (pg_name (i := 3) sc_Effect_init.nd rfl (Or.inr rfl)) pgs_nil))))
        (pss_cons (ps_fld (pv 0) (pe_callTy call_list_of (by rfl) B.list (by decide +kernel) (pa_cons (pv 1) pa_nil)) rfl)
        (pss_cons (ps_fld (pv 0) (pv 2) rfl)
        (pss_cons (ps_fld (pv 0) (pe_lc (own := [("patch", 4)]) (g := gName 4) (tt := _) rfl sc_Effect_init.nd (pi_list (pe_callB (call_sortedDIO rfl) (by rfl) B.sorted (by decide +kernel) (pa_cons (pv 3) pa_nil))) (blkOk_by (own := [("patch", 4)]) (N := N_Effect_init) (sc := defScope s_Effect_init) (by decide +kernel)) (fun _ _ _ _ _ => (pg_name (i := 4) sc_Effect_init.nd rfl (Or.inl rfl))) (fun _ _ _ _ _ => (pts_one (pt_cmpR (k_notin (K := K) rfl) (pe_un un_neg (pv 4)) (pv 1) (by rfl)))) (fun _ _ _ _ _ => (pe_tup (pa_cons (pv 4) (pa_cons (pe_dget hu (pv 3) (pv 4) (fun _ _ => rfl)) pa_nil))))) rfl)
        (pss_cons (ps_fld (pv 0) (pe_callB cr_sortedI (by rfl) B.sorted (by decide +kernel) (pa_cons (pe_lc (own := [("event", 5)]) (g := gName 5) (tt := _) rfl sc_Effect_init.nd (pi_list (pv 1)) (blkOk_by (own := [("event", 5)]) (N := N_Effect_init) (sc := defScope s_Effect_init) (by decide +kernel)) (fun _ _ _ _ _ => (pg_name (i := 5) sc_Effect_init.nd rfl (Or.inl rfl))) (fun _ _ _ _ _ => (pts_one (PW.pt (pw_and (pt_cmpR op_lt (pv 5) pe_int (nomark _)) (pw_and1 (pt_cmpR (k_notin (K := K) rfl) (pe_un un_neg (pv 5)) (pv 1) (by rfl))))))) (fun _ _ _ _ _ => (pe_un un_neg (pv 5)))) pa_nil)) rfl)
        (pss_one (ps_fld (pv 0) (pe_callB cr_sortedI (by rfl) B.sorted (by decide +kernel) (pa_cons (pe_lc (own := [("event", 5)]) (g := gName 5) (tt := _) rfl sc_Effect_init.nd (pi_list (pv 1)) (blkOk_by (own := [("event", 5)]) (N := N_Effect_init) (sc := defScope s_Effect_init) (by decide +kernel)) (fun _ _ _ _ _ => (pg_name (i := 5) sc_Effect_init.nd rfl (Or.inl rfl))) (fun _ _ _ _ _ => (pts_one (PW.pt (pw_and (pt_cmpR op_gt (pv 5) pe_int (nomark _)) (pw_and1 (pt_cmpR (k_in (K := K) rfl) (pe_un un_neg (pv 5)) (pv 1) (by rfl))))))) (fun _ _ _ _ _ => (pv 5))) pa_nil)) rfl)))))))), ?_⟩
    refine ⟨_, rfl, a, ns, rfl, hS, hh, fun H1 s1 => ?_⟩
    refine ⟨_, rfl, iteF ?_⟩
    refine ⟨_, rfl, a, ns, rfl, s1.seq hS, hh, fun H2 t d s2 ht hd => ?_⟩
    refine ⟨t, _, rfl, .of ht, rfl, _, _, rfl, _, _, rfl, rfl, ?_⟩
    have sA := s1.trans s2
    have hx2 := sA _ _ hx
    refine ⟨_, rfl, a, _, rfl, .inl (sA.seq hS), fun a1 na1 => ?_⟩
    have s3 := same_new (o := .lst (ns.map V.int)) na1
    have F0 : Fa CE H (upd H2 a1 (.lst (ns.map V.int))) x dx a a1 d ns [] := ⟨fun y u _ c => s3 _ _ (sA _ _ c), s3 _ _ hx2, s3 _ _ (sA _ _ ha), upd_same, s3 _ _ hd⟩
    refine ⟨_, rfl, x, CE, dx, _, rfl, F0.hx, T.cE, T.n0, (by show 0 < 1000; decide), ?_⟩
    refine ⟨_, rfl, _, rfl, x, CE, dx, _, rfl, upd_same, T.cE, T.n1, (by show 1 < 1000; decide), ?_⟩
    have F2 : Fa CE H (upd (upd (upd H2 a1 (.lst (ns.map V.int))) x (.ins CE dx [("_piece", .ref a1)])) x (.ins CE dx [("_piece", .ref a1), ("_present", .int (runR ns).1)])) x dx a a1 d ns [("_piece", .ref a1), ("_present", .int (runR ns).1)] := F0.fld.fld
    refine ⟨_, rfl, d, (runR ns).2.map entI, (runR ns).2.map (·.1), rfl, .inl F2.hd, (by rw [List.map_map, List.map_map]; rfl), fun ys py yp yw nyp => ?_⟩
    have F3 := F2.same (same_new (o := .lst (ys.map V.int)) nyp)
    have ylen : ys.length ≤ 200 := by
      have e := yp.length_eq
      rw [List.length_map] at e
      have := runR_len ns
      have := hh.len
      omega
    refine ⟨py, rfl, ⟨_, .of upd_same⟩, fun D nD => lc_list (xs := ys.map V.int) (fun i H' => Fa CE H H' x dx a a1 d ns [("_piece", .ref a1), ("_present", .int (runR ns).1)] ∧ H' py = some (.lst (ys.map V.int)) ∧ ∃ ps : List (Addr × Int × Int), H' D = some (.lst (ps.map fun z => V.ref z.1)) ∧ ps.map (·.2) = selS ns (runR ns).2 (ys.take i) ∧ ∀ z ∈ ps, z.1 ≠ D ∧ H' z.1 = some (.tup [.int z.2.1, .int z.2.2])) ⟨F3.same (same_new nD), ?_, [], upd_same, rfl, fun z hz => nomatch hz⟩ (fun i H' _ p => .of p.2.1) (fun i y H' hy p => ?_) (fun H' p => ?_)⟩
    · rw [upd_ne (ne_of_none upd_same nD), upd_same]
    · obtain ⟨n, rfl, hn⟩ := get_int hy
      obtain ⟨F4, hpy, ps, hD, eps, hps⟩ := p
      have hi := lt_get hn
      have l1 := selS_len ns (runR ns).2 (ys.take i)
      rw [List.length_take, ← eps, List.length_map] at l1
      have eS := selS_succ (ns := ns) (l := (runR ns).2) hn
      refine ⟨rfl, ?_⟩
      by_cases c : -n ∈ ns
      · refine ⟨_, rfl, n, rfl, _, rfl, a, ns.map V.int, rfl, .inl (.of F4.ha), rfl, flatI ns, false, ?_, ?_⟩
        · exact notInF c
        · rw [eS, if_neg (fun z => z c), List.append_nil]
          exact ⟨F4, hpy, ps, hD, eps, hps⟩
      · refine ⟨_, rfl, n, rfl, _, rfl, a, ns.map V.int, rfl, .inl (.of F4.ha), rfl, flatI ns, true, notInT c, ?_⟩
        obtain ⟨v, ev, _⟩ := lk_some (l := (runR ns).2) (k := n) (yp.mem_iff.mp (mem_get hn))
        refine ⟨_, rfl, _, rfl, _, rfl, d, .int v, rfl, ?_, by show 2 ≤ sizeLine; decide, fun Tt nT => ?_⟩
        · have g := DGet.k (k := Sum.inl n) F4.hd
          rw [valV_ent, ev] at g
          exact g
        have e4 := same_new (o := .tup [.int n, .int v]) nT
        have nD0 : Tt ≠ D := fun z => by
          rw [z, hD] at nT
          cases nT
        refine ⟨ps.map fun z => V.ref z.1, e4 _ _ hD, by rw [List.length_map]; exact zl (by omega), (F3.put nD (F4.same e4)), ?_, ps ++ [(Tt, n, v)], ?_, ?_, ?_⟩
        · rw [upd_ne (ne_of_none upd_same nD)]
          exact e4 _ _ hpy
        · rw [upd_same, List.map_append]
          rfl
        · rw [List.map_append, eps, eS, if_pos c, ev]
          rfl
        · intro z hz
          rcases List.mem_append.mp hz with hz | hz
          · obtain ⟨q1, q2⟩ := hps z hz
            exact ⟨q1, by rw [upd_ne q1]; exact e4 _ _ q2⟩
          · rw [List.mem_singleton.mp hz]
            exact ⟨nD0, by rw [upd_ne nD0]; exact upd_same⟩
    · obtain ⟨F5, _, ps, hD, eps, hps⟩ := p
      rw [List.length_map, List.take_length] at eps
      have S5 : Sv H' D ps := ⟨hD, fun z hz => (hps z hz).2⟩
      refine ⟨_, rfl, x, CE, dx, _, rfl, F5.hx, T.cE, T.n2, (by show 2 < 1000; decide), ?_⟩
      have F6 : Fa CE H (upd H' x (.ins CE dx [("_piece", .ref a1), ("_present", .int (runR ns).1), ("_saved", .ref D)])) x dx a a1 d ns [("_piece", .ref a1), ("_present", .int (runR ns).1), ("_saved", .ref D)] := F5.fld
      have S6 : Sv (upd H' x (.ins CE dx [("_piece", .ref a1), ("_present", .int (runR ns).1), ("_saved", .ref D)])) D ps := S5.fld F5.hx
      refine ⟨_, rfl, a, rfl, ⟨_, .of F6.ha⟩, fun D2 nD2 => lc_list (xs := ns.map V.int) (fun i H' => Fa CE H H' x dx a a1 d ns [("_piece", .ref a1), ("_present", .int (runR ns).1), ("_saved", .ref D)] ∧ Sv H' D ps ∧ H' D2 = some (.lst ((((ns.take i).filter fun e => decide (e < 0 ∧ -e ∉ ns)).map fun e => -e).map V.int))) ⟨F6.same (same_new nD2), S6.same (same_new nD2), upd_same⟩ (fun i H' _ p => .of p.1.ha) (fun i y H' hy p => ?_) (fun H' p => ?_)⟩
      · obtain ⟨n, rfl, hn⟩ := get_int hy
        obtain ⟨F7, S7, h7⟩ := p
        have hi := lt_get hn
        have hil := hh.len
        have fs := filt_succ (f := fun e => decide (e < 0 ∧ -e ∉ ns)) hn
        have fl := filt_len (ns := ns) (f := fun e => decide (e < 0 ∧ -e ∉ ns)) i
        refine ⟨rfl, ?_⟩
        by_cases c0 : n < 0
        · refine ⟨_, rfl, _, _, rfl, rfl, true, dT c0, ?_⟩
          by_cases c : -n ∈ ns
          · refine ⟨_, rfl, n, rfl, _, rfl, a, ns.map V.int, rfl, .inl (.of F7.ha), rfl, flatI ns, false, notInF c, ?_⟩
            refine ⟨F7, S7, ?_⟩
            rw [fs, if_neg (by rw [decide_eq_false (fun z => z.2 c)]; exact Bool.false_ne_true), List.append_nil]
            exact h7
          · refine ⟨_, rfl, n, rfl, _, rfl, a, ns.map V.int, rfl, .inl (.of F7.ha), rfl, flatI ns, true, notInT c, ?_⟩
            refine ⟨_, rfl, n, rfl, _, h7, by rw [List.length_map, List.length_map]; exact zl (by omega), F6.put nD2 F7, S6.put nD2 S7, ?_⟩
            rw [upd_same, fs, if_pos (decide_eq_true ⟨c0, c⟩), List.map_append, List.map_append]
            rfl
        · refine ⟨_, rfl, _, _, rfl, rfl, false, dF c0, ?_⟩
          refine ⟨F7, S7, ?_⟩
          rw [fs, if_neg (by rw [decide_eq_false (fun z => c0 z.1)]; exact Bool.false_ne_true), List.append_nil]
          exact h7
      · obtain ⟨F7, S7, h7⟩ := p
        rw [List.length_map, List.take_length] at h7
        refine ⟨D2, gn ns, rfl, .of h7, fun G pg gp gw ng => ?_⟩
        have F8 := F7.same (same_new (o := .lst (G.map V.int)) ng)
        have S8 := S7.same (same_new (o := .lst (G.map V.int)) ng)
        refine ⟨_, rfl, x, CE, dx, _, rfl, F8.hx, T.cE, T.n3, (by show 3 < 1000; decide), ?_⟩
        have hG8 : (upd H' pg (.lst (G.map V.int))) pg = some (.lst (G.map V.int)) := upd_same
        generalize upd H' pg (.lst (G.map V.int)) = H8 at F8 S8 hG8 ⊢
        have F9 : Fa CE H (upd H8 x (.ins CE dx [("_piece", .ref a1), ("_present", .int (runR ns).1), ("_saved", .ref D), ("_stopped", .ref pg)])) x dx a a1 d ns [("_piece", .ref a1), ("_present", .int (runR ns).1), ("_saved", .ref D), ("_stopped", .ref pg)] := F8.fld
        have S9 : Sv (upd H8 x (.ins CE dx [("_piece", .ref a1), ("_present", .int (runR ns).1), ("_saved", .ref D), ("_stopped", .ref pg)])) D ps := S8.fld F8.hx
        have hG9 : (upd H8 x (.ins CE dx [("_piece", .ref a1), ("_present", .int (runR ns).1), ("_saved", .ref D), ("_stopped", .ref pg)])) pg = some (.lst (G.map V.int)) := by
          rw [upd_ne (ne_of hG8 F8.hx (fun z => nomatch z))]
          exact hG8
        refine ⟨_, rfl, a, rfl, ⟨_, .of F9.ha⟩, fun D3 nD3 => lc_list (xs := ns.map V.int) (fun i H' => Fa CE H H' x dx a a1 d ns [("_piece", .ref a1), ("_present", .int (runR ns).1), ("_saved", .ref D), ("_stopped", .ref pg)] ∧ Sv H' D ps ∧ H' pg = some (.lst (G.map V.int)) ∧ H' D3 = some (.lst (((ns.take i).filter fun e => decide (0 < e ∧ -e ∈ ns)).map V.int))) ⟨F9.same (same_new nD3), S9.same (same_new nD3), same_new nD3 _ _ hG9, upd_same⟩ (fun i H' _ p => .of p.1.ha) (fun i y H' hy p => ?_) (fun H' p => ?_)⟩
        · obtain ⟨n, rfl, hn⟩ := get_int hy
          obtain ⟨Fb, Sb, hGb, hb⟩ := p
          have hi := lt_get hn
          have hil := hh.len
          have fs := filt_succ (f := fun e => decide (0 < e ∧ -e ∈ ns)) hn
          have fl := filt_len (ns := ns) (f := fun e => decide (0 < e ∧ -e ∈ ns)) i
          refine ⟨rfl, ?_⟩
          by_cases c0 : 0 < n
          · refine ⟨_, rfl, _, _, rfl, rfl, true, dT c0, ?_⟩
            by_cases c : -n ∈ ns
            · refine ⟨_, rfl, n, rfl, _, rfl, a, ns.map V.int, rfl, .inl (.of Fb.ha), rfl, flatI ns, true, inT c, ?_⟩
              refine ⟨_, rfl, _, hb, by rw [List.length_map]; exact zl (by omega), F9.put nD3 Fb, S9.put nD3 Sb, ?_, ?_⟩
              · rw [upd_ne (ne_of_none hG9 nD3)]
                exact hGb
              · rw [upd_same, fs, if_pos (decide_eq_true ⟨c0, c⟩), List.map_append]
                rfl
            · refine ⟨_, rfl, n, rfl, _, rfl, a, ns.map V.int, rfl, .inl (.of Fb.ha), rfl, flatI ns, false, inF c, ?_⟩
              refine ⟨Fb, Sb, hGb, ?_⟩
              rw [fs, if_neg (by rw [decide_eq_false (fun z => c z.2)]; exact Bool.false_ne_true), List.append_nil]
              exact hb
          · refine ⟨_, rfl, _, _, rfl, rfl, false, dF c0, ?_⟩
            refine ⟨Fb, Sb, hGb, ?_⟩
            rw [fs, if_neg (by rw [decide_eq_false (fun z => c0 z.1)]; exact Bool.false_ne_true), List.append_nil]
            exact hb
        · obtain ⟨Fb, Sb, hGb, hb⟩ := p
          rw [List.length_map, List.take_length] at hb
          refine ⟨D3, ns.filter fun e => decide (0 < e ∧ -e ∈ ns), rfl, .of hb, fun E pe ep ew ne => ?_⟩
          have sE := same_new (o := .lst (E.map V.int)) ne
          have Fc := Fb.same sE
          have Sc := Sb.same sE
          have hGc := sE _ _ hGb
          have hEc : (upd H' pe (.lst (E.map V.int))) pe = some (.lst (E.map V.int)) := upd_same
          refine ⟨_, rfl, x, CE, dx, _, rfl, Fc.hx, T.cE, T.n4, (by show 4 < 1000; decide), ?_⟩
          have Fd : Fa CE H (upd (upd H' pe (.lst (E.map V.int))) x (.ins CE dx (fE a1 (runR ns).1 D pg pe))) x dx a a1 d ns (fE a1 (runR ns).1 D pg pe) := Fc.fld
          have Sd : Sv (upd (upd H' pe (.lst (E.map V.int))) x (.ins CE dx (fE a1 (runR ns).1 D pg pe))) D ps := Sc.fld Fc.hx
          refine q _ a1 D pg pe ps G E ⟨Fd.hx, Fd.h1, Sd.h, Sd.q, ?_, ?_, ⟨?_, ?_, gp, gw, ep.trans (en_perm hh.nd), ew⟩, hh⟩ Fd.bt (Same.none sA na1) (F3.free nD) (F7.free ng) (Fb.free ne)
          · rw [upd_ne (ne_of hGc Fc.hx (fun z => nomatch z))]
            exact hGc
          · rw [upd_ne (ne_of hEc Fc.hx (fun z => nomatch z))]
            exact hEc
          · rw [eps]
            exact selS_perm hh.nd yp
          · rw [eps]
            exact selS_le yw
end
/-! ### the parts are determined -/
theorem sorted_uniq {xs ys : List Int} (p : xs.Perm ys) (h1 : xs.Pairwise (· ≤ ·)) (h2 : ys.Pairwise (· ≤ ·)) : xs = ys :=
  List.Perm.eq_of_pairwise (le := (· ≤ ·)) (fun a b _ _ h1 h2 => Int.le_antisymm h1 h2) h1 h2 p
theorem pairs_uniq {xs ys : List (Int × Int)} (p : xs.Perm ys) (nd : (ys.map (·.1)).Nodup) (h1 : xs.Pairwise fun x y => x.1 ≤ y.1) (h2 : ys.Pairwise fun x y => x.1 ≤ y.1) : xs = ys := by
  refine List.Perm.eq_of_pairwise (le := fun x y => x.1 ≤ y.1) (fun a b ha hb q1 q2 => ?_) h1 h2 p
  have e : a.1 = b.1 := Int.le_antisymm q1 q2
  have l1 := lk_mem nd (p.mem_iff.mp ha)
  have l2 := lk_mem nd hb
  rw [e, l2] at l1
  exact Prod.ext e (Option.some.inj l1).symm
theorem Parts.uniq {ns : List Int} (nd : ns.Nodup) {S S' : List (Int × Int)} {G G' E E' : List Int} (h : Parts ns S G E) (h' : Parts ns S' G' E') : S = S' ∧ G = G' ∧ E = E' := by
  have hn : ((hl ns).map (·.1)).Nodup := (keysR_nd nd).sublist (List.filter_sublist.map _)
  refine ⟨pairs_uniq (h.s1.trans h'.s1.symm) ((h'.s1.map (·.1)).nodup_iff.mpr hn) h.s2 h'.s2, sorted_uniq (h.g1.trans h'.g1.symm) h.g2 h'.g2, sorted_uniq (h.e1.trans h'.e1.symm) h.e2 h'.e2⟩
theorem Hist.take {ns : List Int} (h : Hist ns) (b : Nat) : Hist (ns.take b) := by
  refine ⟨fun e he => h.rng e (List.mem_of_mem_take he), h.nd.sublist (List.take_sublist _ _), fun i e he h0 => ?_, Nat.le_trans (List.take_sublist _ _).length_le h.len⟩
  have hl : i < (ns.take b).length := (List.getElem?_eq_some_iff.mp he).1
  rw [List.length_take] at hl
  rw [List.getElem?_take_of_lt (by omega)] at he
  rw [List.take_take, Nat.min_eq_left (by omega)]
  exact h.ord i e he h0
section
variable {P : Program} {w : World} {K : PySem.W.Frag} {mg : Str → Option Value} {base : Heap} {CE : Addr}
/-! ### _law_piece -/
def spPiece (K : PySem.W.Frag) : Sp := fun vs H Q _ => ∃ (src sc : Addr) (most : Int) (n : Nat) (scr : List Int), vs = [.ref src, .ref sc, .int most] ∧ Src H src n ∧ n ≤ 700000 ∧ (∀ H', Bt src H H' → SqL K H' sc (scr.map V.int)) ∧ 1 ≤ most ∧ most ≤ 100 ∧
  ∀ (H' : Hp) (t p1 p2 : Addr) (us vs : List Int), Hist us → Piece vs → Hist (us ++ vs) → Bt src H H' → Src H' src (n + 1002) → H p1 = none → H p2 = none → p1 ≠ p2 → H' t = some (.tup [.ref p1, .ref p2]) → H' p1 = some (.lst (us.map V.int)) → H' p2 = some (.lst (vs.map V.int)) → Q (.ref t) H'
theorem ok_law_piece {f : Addr} {fd : FuncData} (F : Fun K "_law_piece" "_law_piece" s_law_piece f fd) (B : NoB mg) (T_law_draw : Gc P w K mg base 1 "_law_draw" spDraw) (T_law_log : Gc P w K mg base 2 "_law_log" (spLog K)) : FnG P w K mg base CX0 3 f fd ["source", "script", "most"] (spPiece K) := by
  refine okG F sc_law_piece (fun vs H Q E h => ?_) (fun cdv A outer s H vs Q E hG hr h => ?_)
  · obtain ⟨src, sc, most, n, scr, rfl, _⟩ := h
    rfl
  · obtain ⟨src, sc, most, n, scr, rfl, hs, hn, hS, m1, m2, q⟩ := h
    refine ⟨_, (pss_cons (ps_set (i := 3) sc_law_piece.nd rfl (Or.inl rfl) (pe_g T_law_log hG hr (by decide) (by rfl) (pa_cons (pv 0) (pa_cons (pv 1) (pa_cons (pv 2) pa_nil)))))
        (pss_cons (ps_set (i := 4) sc_law_piece.nd rfl (Or.inl rfl) (pe_g T_law_draw hG hr (by decide) (by rfl) (pa_cons (pv 0) (pa_cons (pe_op op_add (pe_callB call_len_seq (by rfl) B.len PySem.boot_len (pa_cons (pv 3) pa_nil)) pe_int) pa_nil))))
        (pss_cons (ps_set (i := 5) sc_law_piece.nd rfl (Or.inl rfl) (pe_op op_add (pv 4) (pe_g T_law_draw hG hr (by decide) (by rfl) (pa_cons (pv 0) (pa_cons (pe_op op_add (pe_op op_sub (pe_callB call_len_seq (by rfl) B.len PySem.boot_len (pa_cons (pv 3) pa_nil)) (pv 4)) pe_int) pa_nil)))))
        (pss_one (ps_ret (pe_tup (pa_cons (pe_slice sl_list (pv 3) po_none (po_some (pv 4))) (pa_cons (pe_slice sl_list (pv 3) (po_some (pv 4)) (po_some (pv 5))) pa_nil)))))))), ?_⟩
    refine ⟨_, rfl, _, rfl, _, rfl, src, sc, most, n, scr, rfl, hs, by omega, hS, m1, m2, fun H1 p log hh hne b1 hs1 np hp => ?_⟩
    have hlen := hh.len
    refine ⟨_, rfl, _, rfl, p, log.map V.int, rfl, .inl (.of hp), _, _, rfl, rfl, src, _, n + 1000, rfl, hs1, by omega, by omega, by rw [List.length_map]; omega, fun r1 H2 r10 r11 hs2 b2 => ?_⟩
    have psrc : p ≠ src := fun z => by
      obtain ⟨_, _, _, hsrc, _⟩ := hs
      rw [z, hsrc] at np
      cases np
    have hp2 : H2 p = some (.lst (log.map V.int)) := b2 _ _ psrc hp
    rw [List.length_map] at r11
    refine ⟨_, rfl, _, rfl, _, rfl, p, log.map V.int, rfl, .inl (.of hp2), _, rfl, _, _, rfl, rfl, _, _, rfl, rfl, src, _, n + 1001, rfl, hs2, by omega, by rw [List.length_map]; omega, by rw [List.length_map]; omega, fun r2 H3 r20 r21 hs3 b3 => ?_⟩
    have hp3 := b3 _ _ psrc hp2
    have r21' : r2 < (log.length : Int) - r1 + 1 := by rw [List.length_map] at r21; exact r21
    obtain ⟨c, rfl⟩ := Int.eq_ofNat_of_zero_le r10
    obtain ⟨g, rfl⟩ := Int.eq_ofNat_of_zero_le r20
    have hc : c + g ≤ log.length := by omega
    have hp2' : (log.map V.int).length = log.length := List.length_map ..
    have cut1 : cutV (log.map V.int) none (some (c : Int)) = (log.take c).map V.int := by rw [cut_take _ _ (by omega), List.map_take]
    have cut2 : cutV (log.map V.int) (some (c : Int)) (some ((c : Int) + (g : Int))) = ((log.take (c + g)).drop c).map V.int := by
      have e : ((c : Int) + (g : Int)) = ((c + g : Nat) : Int) := by omega
      unfold cutV
      rw [e, HT.sIx_nat, HT.sIx_nat, hp2', Nat.min_eq_left hc, Nat.min_eq_left (show c ≤ log.length by omega), List.map_drop, List.map_take, List.drop_take]
    have b03 := (b1.trans b2).trans b3
    refine ⟨_, _, rfl, rfl, ?_⟩
    refine ⟨_, rfl, _, rfl, _, rfl, p, log.map V.int, rfl, .of hp3, fun q1 nq1 => ?_⟩
    have q1s := hs3.ne nq1
    have b04 := b03.add (o := .lst (cutV (log.map V.int) none (some (c : Int)))) nq1
    have hs4 := hs3.new (o := .lst (cutV (log.map V.int) none (some (c : Int)))) nq1
    have hp4 := same_new (o := .lst (cutV (log.map V.int) none (some (c : Int)))) nq1 _ _ hp3
    refine ⟨_, rfl, _, rfl, _, rfl, _, rfl, _, rfl, p, log.map V.int, rfl, .of hp4, fun q2 nq2 => ?_⟩
    have q2s := hs4.ne nq2
    have q12 : q1 ≠ q2 := fun z => by
      rw [← z, upd_same] at nq2
      cases nq2
    refine ⟨by show 2 ≤ sizeLine; decide, fun t nt => ?_⟩
    have s6 := same_new (o := .tup [.ref q1, .ref q2]) nt
    have pp := hh.piece
    have e12 : log.take c ++ (log.take (c + g)).drop c = log.take (c + g) := by
      have e := List.take_append_drop c (log.take (c + g))
      rw [List.take_take, Nat.min_eq_left (by omega)] at e
      exact e
    refine q _ t q1 q2 (log.take c) ((log.take (c + g)).drop c) (hh.take c) (pp.cut c (c + g)) (by rw [e12]; exact hh.take (c + g)) ((b04.add nq2).add nt) ((hs4.new nq2).new nt) (free_of b03 q1s nq1) (free_of b04 q2s nq2) q12 upd_same (s6 _ _ ?_) (s6 _ _ ?_)
    · rw [upd_ne q12, upd_same, cut1]
    · rw [upd_same, cut2]
end
/-! ### is_piece of any list of different events -/
def OrdP (ns : List Int) : Prop := ∀ (i : Nat) (e : Int), ns[i]? = some e → 0 < e → -e ∉ ns.take i
structure Pre (ns : List Int) : Prop where
  rng : ∀ e ∈ ns, e ≠ 0 ∧ -100 ≤ e ∧ e ≤ 100
  nd : ns.Nodup
theorem Pre.len {ns : List Int} (h : Pre ns) : ns.length ≤ 200 := by
  have := nodup_len (m := upL 100 ++ (upL 100).map fun e => -e) h.nd fun x hx => by
    have := h.rng x hx
    by_cases h0 : 0 < x
    · exact List.mem_append_left _ (List.mem_map.mpr ⟨(x - 1).toNat, List.mem_range.mpr (by omega), by omega⟩)
    · exact List.mem_append_right _ (List.mem_map.mpr ⟨-x, List.mem_map.mpr ⟨(-x - 1).toNat, List.mem_range.mpr (by omega), by omega⟩, by omega⟩)
  rw [List.length_append, List.length_map, upL_len] at this
  exact this
theorem Pre.piece {ns : List Int} (h : Pre ns) (o : OrdP ns) : Piece ns := ⟨h.rng, h.nd, o, h.len⟩
theorem Piece.pre {ns : List Int} (h : Piece ns) : Pre ns := ⟨h.rng, h.nd⟩
theorem Pre.perm {ns ms : List Int} (h : Pre ns) (p : ms.Perm ns) : Pre ms := ⟨fun e he => h.rng e (p.mem_iff.mp he), p.nodup_iff.mpr h.nd⟩
section
variable {P : Program} {w : World} {K : PySem.W.Frag} {mg : Str → Option Value} {base : Heap}
def spIsPieceG (K : PySem.W.Frag) : Sp := fun vs H Q _ => ∃ (a : Addr) (ns : List Int), vs = [.ref a] ∧ SqL K H a (ns.map V.int) ∧ Pre ns ∧ ∀ H' (b : Bool), Same H H' → (b = true ↔ OrdP ns) → Q (.bl b) H'
theorem ok_is_piece_G {f : Addr} {fd : FuncData} (F : Fun K "is_piece" "is_piece" s_is_piece f fd) (B : NoB mg) (T_are_events : Cal P w K mg base 4 "are_events" (spAreEv K)) : FnOk P w K mg base CX0 5 f fd ["value"] (spIsPieceG K) := by
  refine F.ok sc_is_piece (fun vs H Q E h => ?_) (fun cdv A outer s H vs Q E hr h => ?_)
  · obtain ⟨a, ns, rfl, _⟩ := h
    rfl
  · obtain ⟨a, ns, rfl, hS, hh, q⟩ := h
    have hu := hu_of hr
    have hlen := hh.len
    refine ⟨_, (pss_cons (ps_if (pt_not (pt_val (pe_c T_are_events hr (by decide) (by rfl) (pa_cons (pv 0) pa_nil)))) (pss_one (ps_ret pe_bl)) pss_nil)
        (pss_cons (ps_set (i := 1) sc_is_piece.nd rfl (Or.inl rfl) (pe_callTy0 cr_set0 (by rfl) B.set (by decide +kernel)))
        (pss_cons (ps_for PassesOwn.never rfl (pi_list (pv 0)) (pg_name (i := 2) sc_is_piece.nd rfl (Or.inl rfl))
          (pss_one (ps_if (pt_cmpR op_lt (pv 2) pe_int (nomark _)) (pss_one (ps_expr (pe_sadd (pv 1) (pa_cons (pe_un un_neg (pv 2)) pa_nil)))) (pss_one (ps_if (pt_cmpR or_sin (pv 2) (pv 1) (by rfl)) (pss_one (ps_ret pe_bl)) pss_nil)))))
        (pss_one (ps_ret pe_bl))))), ?_⟩
    refine ⟨_, rfl, a, ns, rfl, hS, hh.rng, hh.nd, hh.len, fun H1 s1 => ?_⟩
    refine ⟨_, rfl, iteF ?_⟩
    refine ⟨rfl, fun p np => ?_⟩
    have hS1 := s1.seq hS
    refine ⟨_, rfl, a, rfl, ⟨_, (same_new np).seq hS1⟩, for_list (xs := ns.map V.int) (fun i σ H' => (∃ y, σ = [some (.ref a), some (.ref p), y]) ∧ Same H1 H' ∧ (∃ n, n ≤ i ∧ H' p = some (SetO w p (fun x => decide (0 < x ∧ -x ∈ ns.take i)) n)) ∧ ∀ (j : Nat) (e : Int), j < i → ns[j]? = some e → 0 < e → -e ∉ ns.take j) ⟨⟨_, rfl⟩, same_new np, ⟨0, Nat.le_refl _, ?_⟩, fun j e h => absurd h (Nat.not_lt_zero _)⟩ (fun i σ H' _ h => h.2.1.seq hS1) (fun i x σ H' hx h => ?_) (fun σ H' h => ?_)⟩
    · rw [upd_same]
      show some (SetO w p (fun x => false) 0) = some (SetO w p (fun x => decide (0 < x ∧ -x ∈ ns.take 0)) 0)
      simp
    · obtain ⟨n, rfl, hn⟩ := get_int hx
      obtain ⟨⟨y, rfl⟩, sm, ⟨m, hm, hp⟩, ho⟩ := h
      have hi : i < 200 := Nat.lt_of_lt_of_le (lt_get hn) hlen
      have e0 := (hh.rng n (mem_get hn)).1
      have ho' : 0 < n → -n ∉ ns.take i → ∀ (j : Nat) (e : Int), j < i + 1 → ns[j]? = some e → 0 < e → -e ∉ ns.take j := fun h0 hnn j e hj he hpos => by
        rcases Nat.lt_or_ge j i with h | h
        · exact ho j e h he hpos
        · have : j = i := by omega
          subst this
          rw [hn] at he
          cases he
          exact hnn
      by_cases h0 : n < 0
      · refine ⟨_, rfl, _, _, rfl, rfl, true, dT h0, ?_⟩
        refine ⟨_, rfl, ⟨p, _, m, rfl, hp⟩, _, rfl, n, rfl, p, -n, _, m, rfl, rfl, hp, by show m + 1 < 4096; omega, ⟨_, rfl⟩, fun b o e => ?_, ⟨m + 1, by omega, ?_⟩, fun j e hj he hpos => ?_⟩
        rotate_left 1
        · have hnt : ¬ (0 < -n ∧ - -n ∈ ns.take i) := fun z => not_mem_take hh.nd hn (by have := z.2; rw [show - -n = n by omega] at this; exact this)
          rw [upd_same, decide_eq_false hnt, if_neg Bool.false_ne_true]
          refine congrArg some (congrArg (fun S => SetO w p S _) (funext fun x => ?_))
          rw [← Bool.decide_or]
          refine decide_eq_decide.mpr ?_
          rw [mem_take_succ (x := -x) hn]
          constructor
          · rintro (⟨a, b⟩ | rfl)
            · exact ⟨a, .inl b⟩
            · exact ⟨by omega, .inr (by omega)⟩
          · rintro ⟨a, b | b⟩
            · exact .inl ⟨a, b⟩
            · exact .inr (by omega)
        · rcases Nat.lt_or_ge j i with h | h
          · exact ho j e h he hpos
          · have : j = i := by omega
            subst this
            rw [hn] at he
            cases he
            omega
        · rw [upd_ne (ne_of_none e np)]
          exact sm _ _ e
      · refine ⟨_, rfl, _, _, rfl, rfl, false, dF h0, ?_⟩
        by_cases hpre : -n ∈ ns.take i
        · refine ⟨_, rfl, _, rfl, n, p, _, m, rfl, rfl, hp, true, dT ⟨by omega, hpre⟩, ?_⟩
          exact q _ false (s1.trans sm) ⟨(fun h => nomatch h), fun h => absurd hpre (h i n hn (by omega))⟩
        · refine ⟨_, rfl, _, rfl, n, p, _, m, rfl, rfl, hp, false, dF (fun z => hpre z.2), ⟨_, rfl⟩, sm, ⟨m, by omega, ?_⟩, ho' (by omega) hpre⟩
          rw [hp]
          refine congrArg some (congrArg (fun S => SetO w p S m) (funext fun x => decide_eq_decide.mpr ?_))
          rw [mem_take_succ hn]
          constructor
          · exact fun ⟨a, b⟩ => ⟨a, .inl b⟩
          · rintro ⟨a, b | b⟩
            · exact ⟨a, b⟩
            · omega
    · obtain ⟨⟨y, rfl⟩, sm, _, ho⟩ := h
      exact q _ true (s1.trans sm) ⟨fun _ i e he h0 => ho i e (by rw [List.length_map]; exact lt_get he) he h0, fun _ => rfl⟩
theorem piece_g {vs : List V} {H : Hp} {Q : VK} {E : XK} (h : spIsPiece K vs H Q E) : spIsPieceG K vs H Q E := by
  obtain ⟨a, ns, rfl, hS, hh, q⟩ := h
  refine ⟨a, ns, rfl, hS, hh.pre, fun H' b s hb => ?_⟩
  have : b = true := hb.mpr hh.ord
  subst this
  exact q H' s
end
end L45
set_option Elab.async false
set_option linter.all false
set_option maxRecDepth 100000
namespace L45
open PySem PySem.Spec PyProof.Rows L2 Lp
/-! ### states and what a piece does to them -/
structure St (p : Int) (S : List (Int × Int)) : Prop where
  p0 : 0 ≤ p ∧ p ≤ 100
  rng : ∀ z ∈ S, (1 ≤ z.1 ∧ z.1 ≤ 100) ∧ 0 ≤ z.2 ∧ z.2 ≤ 100
  asc : (S.map (·.1)).Pairwise (· < ·)
  ndv : (p :: S.map (·.2)).Nodup
def stepB (s : Int × List (Int × Int)) (e : Int) : Int × List (Int × Int) := if 0 < e then (e, s.2 ++ [(e, s.1)]) else ((lk s.2 (-e)).getD e, s.2.filter fun z => decide (z.1 ≠ -e))
def runB (s : Int × List (Int × Int)) (ns : List Int) : Int × List (Int × Int) := ns.foldl stepB s
theorem runB_snoc (s : Int × List (Int × Int)) (t : List Int) (e : Int) : runB s (t ++ [e]) = stepB (runB s t) e := by
  unfold runB
  rw [List.foldl_append]
  rfl
/-- what a reference means in a state -/
def mean (p : Int) (S : List (Int × Int)) (r : Int) : Int := if r = 0 then p else (lk S (-r)).getD r
def behL (p : Int) (S : List (Int × Int)) (ns : List Int) : Int × List (Int × Int) :=
  (mean p S (runR ns).1, (S.filter fun z => decide (z.1 ∉ gn ns)) ++ (hl ns).map fun z => (z.1, mean p S z.2))
theorem gn_mem {t : List Int} {k : Int} : k ∈ gn t ↔ 0 < k ∧ -k ∈ t ∧ k ∉ t := by
  unfold gn
  rw [List.mem_map]
  constructor
  · rintro ⟨e, he, rfl⟩
    obtain ⟨h1, h2⟩ := List.mem_filter.mp he
    obtain ⟨h3, h4⟩ := of_decide_eq_true h2
    exact ⟨by omega, by rw [Int.neg_neg]; exact h1, h4⟩
  · rintro ⟨h0, h1, h2⟩
    exact ⟨-k, List.mem_filter.mpr ⟨h1, decide_eq_true ⟨by omega, by rw [Int.neg_neg]; exact h2⟩⟩, Int.neg_neg k⟩
theorem hl_mem {t : List Int} {z : Int × Int} (h : z ∈ hl t) : z.1 ∈ t ∧ 0 < z.1 ∧ -z.1 ∉ t := by
  obtain ⟨h1, h2⟩ := List.mem_filter.mp h
  exact ⟨(mem_keyR h1).1, (mem_keyR h1).2, of_decide_eq_true h2⟩
theorem lk_append {l m : List (Int × Int)} {k : Int} : lk (l ++ m) k = (lk l k).or (lk m k) := by
  unfold lk
  rw [List.find?_append]
  cases l.find? fun z => decide (z.1 = k) <;> rfl
theorem lk_mapv {f : Int → Int} {k : Int} : ∀ {l : List (Int × Int)}, lk (l.map fun z => (z.1, f z.2)) k = (lk l k).map f
  | [] => rfl
  | z :: l => by
    rw [List.map_cons, lk_cons, lk_cons, lk_mapv (l := l)]
    by_cases h : z.1 = k
    · rw [if_pos h, if_pos h]
      rfl
    · rw [if_neg h, if_neg h]
theorem mean_pos {p : Int} {S : List (Int × Int)} (hk : ∀ z ∈ S, 0 < z.1) {r : Int} (h : 0 < r) : mean p S r = r := by
  unfold mean
  rw [if_neg (by omega), lk_none]
  · rfl
  · intro c
    obtain ⟨z, hz, e⟩ := List.mem_map.mp c
    have := hk z hz
    omega
theorem stepB_beh {p : Int} {S : List (Int × Int)} (hk : ∀ z ∈ S, 0 < z.1) {t : List Int} {e : Int} (h0 : e ≠ 0) (hnt : e ∉ t) (ho : 0 < e → -e ∉ t) (fn : ∀ k ∈ t, 0 < k → k ∉ S.map (·.1)) :
    stepB (behL p S t) e = behL p S (t ++ [e]) := by
  by_cases hp : 0 < e
  · have hn := ho hp
    have eS : runR (t ++ [e]) = (e, (runR t).2 ++ [(e, (runR t).1)]) := by rw [runR_snoc]; exact if_pos hp
    unfold stepB
    rw [if_pos hp]
    unfold behL
    rw [eS, (gn_start hp hn).1, hl_start hp hn, List.map_append, ← List.append_assoc]
    show ((e : Int), _) = (mean p S e, _)
    rw [mean_pos hk hp]
    rfl
  · have hneg : e < 0 := by omega
    have eS : runR (t ++ [e]) = ((lk (runR t).2 (-e)).getD e, (runR t).2) := by rw [runR_snoc]; exact if_neg hp
    have eL := lk_hl (t := t) (e := e) hnt
    unfold stepB
    rw [if_neg hp]
    have ef : ((hl t).map fun z => (z.1, mean p S z.2)).filter (fun z => decide (z.1 ≠ -e)) = (hl (t ++ [e])).map fun z => (z.1, mean p S z.2) := by
      rw [List.filter_map, hl_stop hneg]
      rfl
    by_cases hk2 : -e ∈ t
    · obtain ⟨v, hv, _⟩ := lk_some (l := (runR t).2) (k := -e) (keysR_mem.mpr ⟨hk2, by omega⟩)
      have hnS : -e ∉ S.map (·.1) := fn _ hk2 (by omega)
      have l1 : lk (S.filter fun z => decide (z.1 ∉ gn t)) (-e) = none := lk_none fun c => hnS (by
        obtain ⟨z, hz, q⟩ := List.mem_map.mp c
        exact List.mem_map.mpr ⟨z, (List.mem_filter.mp hz).1, q⟩)
      have e1 : lk (behL p S t).2 (-e) = some (mean p S v) := by
        unfold behL
        rw [lk_append, l1, lk_mapv, eL, hv]
        rfl
      rw [e1]
      refine Prod.ext ?_ ?_
      · show mean p S v = mean p S (runR (t ++ [e])).1
        rw [eS, hv]
        rfl
      · show ((S.filter fun z => decide (z.1 ∉ gn t)) ++ (hl t).map fun z => (z.1, mean p S z.2)).filter (fun z => decide (z.1 ≠ -e)) = (S.filter fun z => decide (z.1 ∉ gn (t ++ [e]))) ++ (hl (t ++ [e])).map fun z => (z.1, mean p S z.2)
        rw [List.filter_append, ef, (gn_stop (t := t) hneg).1, if_pos hk2, List.append_nil]
        congr 1
        refine List.filter_eq_self.mpr fun z hz => decide_eq_true fun q => hnS ?_
        rw [← q]
        exact List.mem_map.mpr ⟨z, (List.mem_filter.mp hz).1, rfl⟩
    · have hv : lk (runR t).2 (-e) = none := lk_none fun z => hk2 (keysR_mem.mp z).1
      have l1 : lk (S.filter fun z => decide (z.1 ∉ gn t)) (-e) = lk S (-e) := lk_filter fun z _ q => decide_eq_true fun c => by
        rw [q] at c
        have c2 := (gn_mem.mp c).2.1
        rw [Int.neg_neg] at c2
        exact hnt c2
      have e1 : lk (behL p S t).2 (-e) = lk S (-e) := by
        unfold behL
        rw [lk_append, l1, lk_mapv, eL, hv]
        cases lk S (-e) <;> rfl
      rw [e1]
      refine Prod.ext ?_ ?_
      · show (lk S (-e)).getD e = mean p S (runR (t ++ [e])).1
        rw [eS, hv]
        show _ = mean p S e
        unfold mean
        rw [if_neg h0]
      · show ((S.filter fun z => decide (z.1 ∉ gn t)) ++ (hl t).map fun z => (z.1, mean p S z.2)).filter (fun z => decide (z.1 ≠ -e)) = (S.filter fun z => decide (z.1 ∉ gn (t ++ [e]))) ++ (hl (t ++ [e])).map fun z => (z.1, mean p S z.2)
        rw [List.filter_append, ef, (gn_stop (t := t) hneg).1, if_neg hk2, List.filter_filter]
        congr 1
        refine List.filter_congr fun z _ => ?_
        rw [← Bool.decide_and]
        refine decide_eq_decide.mpr ?_
        rw [List.mem_append, List.mem_singleton]
        exact ⟨fun ⟨a, b⟩ c => c.elim b a, fun a => ⟨fun c => a (.inr c), fun c => a (.inl c)⟩⟩
theorem behL_nil (p : Int) (S : List (Int × Int)) : behL p S [] = (p, S) := by
  refine Prod.ext ?_ ?_
  · rfl
  · show (S.filter fun z => decide (z.1 ∉ gn [])) ++ [] = S
    rw [List.append_nil]
    exact List.filter_eq_self.mpr fun z _ => decide_eq_true (show z.1 ∉ ([] : List Int) from List.not_mem_nil)
/-- a piece, event by event -/
theorem runB_beh {p : Int} {S : List (Int × Int)} (hk : ∀ z ∈ S, 0 < z.1) {ns : List Int} (hp : Piece ns) (fn : ∀ k ∈ ns, 0 < k → k ∉ S.map (·.1)) : ∀ i, i ≤ ns.length → runB (p, S) (ns.take i) = behL p S (ns.take i)
  | 0, _ => by
    rw [List.take_zero, behL_nil]
    rfl
  | i + 1, h => by
    have he : ns[i]? = some (ns[i]'(by omega)) := List.getElem?_eq_getElem (by omega)
    rw [take_get he, runB_snoc, runB_beh hk hp fn i (by omega)]
    exact stepB_beh hk (hp.rng _ (mem_get he)).1 (not_mem_take hp.nd he) (hp.ord i _ he) fun k hk => fn k (List.mem_of_mem_take hk)
/-- the state at the end of a history goes on -/
theorem stt_run {a t : List Int} (hp : Piece (a ++ t)) : ∀ i, i ≤ t.length → ((runR (a ++ t.take i)).1, hl (a ++ t.take i)) = runB ((runR a).1, hl a) (t.take i)
  | 0, _ => by
    rw [List.take_zero, List.append_nil]
    rfl
  | i + 1, h => by
    have he : t[i]? = some (t[i]'(by omega)) := List.getElem?_eq_getElem (by omega)
    have he2 : (a ++ t)[a.length + i]? = some (t[i]'(by omega)) := by rw [List.getElem?_append_right (by omega), Nat.add_sub_cancel_left]; exact he
    have et : (a ++ t).take (a.length + i) = a ++ t.take i := by rw [List.take_length_add_append]
    have hnt := not_mem_take hp.nd he2
    have ho := hp.ord _ _ he2
    have h0 := (hp.rng _ (mem_get he2)).1
    rw [et] at hnt ho
    rw [take_get he, runB_snoc, ← stt_run hp i (by omega), ← List.append_assoc]
    generalize t[i]'(by omega) = e at *
    generalize a ++ t.take i = u at *
    unfold stepB
    by_cases hpos : 0 < e
    · rw [if_pos hpos, hl_start hpos (ho hpos)]
      have eS : runR (u ++ [e]) = (e, (runR u).2 ++ [(e, (runR u).1)]) := by rw [runR_snoc]; exact if_pos hpos
      rw [eS]
    · have eS : runR (u ++ [e]) = ((lk (runR u).2 (-e)).getD e, (runR u).2) := by rw [runR_snoc]; exact if_neg hpos
      rw [if_neg hpos, hl_stop (by omega), eS, lk_hl hnt]
/-- .. so the piece behind a history does to its state what the effect says -/
theorem stt_append {a t : List Int} (hp : Piece (a ++ t)) (ht : Piece t) : ((runR (a ++ t)).1, hl (a ++ t)) = behL (runR a).1 (hl a) t := by
  have h1 := stt_run hp t.length (Nat.le_refl _)
  rw [List.take_length] at h1
  have h2 := runB_beh (p := (runR a).1) (S := hl a) (fun z hz => (hl_mem hz).2.1) ht (fun k hk h0 c => by
    obtain ⟨z, hz, rfl⟩ := List.mem_map.mp c
    have := (List.nodup_append.mp hp.nd).2.2 _ (hl_mem hz).1 _ hk
    exact this rfl) t.length (Nat.le_refl _)
  rw [List.take_length] at h2
  rw [h1, h2]
/-- a piece fits a state -/
structure Fits (p : Int) (S : List (Int × Int)) (ns : List Int) : Prop where
  fn : ∀ k ∈ ns, 0 < k → k ∉ S.map (·.1)
  fv : ∀ k ∈ ns, 0 < k → k ∉ p :: S.map (·.2)
  fg : ∀ k ∈ gn ns, k ∈ S.map (·.1)
open L2.DX
def stL (ns : List Int) : List Int := ns.filter fun e => decide (0 < e)
theorem stL_len (ns : List Int) : (stL ns).length ≤ ns.length := List.length_filter_le _ _
def runL (ns : List Int) : List Int := (stL ns).filter fun e => decide (-e ∉ ns)
theorem runL_hl (ns : List Int) : (hl ns).map (·.1) = runL ns := by
  unfold runL stL hl
  rw [← keysR, List.filter_map]
  rfl
def presR (ns : List Int) (n : Nat) : List V := (List.range (n + 1)).map fun j => V.int (runR (ns.take j)).1
theorem presR_succ (ns : List Int) (n : Nat) : presR ns (n + 1) = presR ns n ++ [.int (runR (ns.take (n + 1))).1] := by
  unfold presR
  rw [List.range_succ, List.map_append]
  rfl
theorem presR_last (ns : List Int) (n : Nat) : atI (presR ns n) (-1) = some (.int (runR (ns.take n)).1) := by
  unfold presR
  rw [List.range_succ, List.map_append]
  exact atI_last _ _
theorem presR_len (ns : List Int) (n : Nat) : (presR ns n).length = n + 1 := by
  unfold presR
  rw [List.length_map, List.length_range]
/-- a state in the heap -/
structure StO (H : Hp) (t l : Addr) (p : Int) (ps : List (Addr × Int × Int)) : Prop where
  ht : H t = some (.tup [.int p, .ref l])
  sv : Sv H l ps
theorem StO.same {H H' : Hp} {t l : Addr} {p : Int} {ps : List (Addr × Int × Int)} (h : StO H t l p ps) (s : Same H H') : StO H' t l p ps := ⟨s _ _ h.ht, h.sv.same s⟩
def dSt (p : Int) (S : List (Int × Int)) : PyData := .tuple [.int p, dP S]
theorem StO.dp {K : PySem.W.Frag} {H : Hp} {t l : Addr} {p : Int} {ps : List (Addr × Int × Int)} (h : StO H t l p ps) : Dp K H (.ref t) (dSt p (ps.map (·.2))) :=
  .tup (.of h.ht) (.cons (.int _) (.cons (.lst (.of h.sv.h) (dpAll_pairs ps h.sv.q)) .nil))
section
variable {P : Program} {w : World} {K : PySem.W.Frag} {mg : Str → Option Value} {base : Heap}
/-! ### starts_of, running_after, replay, state_after -/
def spStarts (K : PySem.W.Frag) : Sp := fun vs H Q _ => ∃ (a : Addr) (ns : List Int), vs = [.ref a] ∧ SqL K H a (ns.map V.int) ∧ ns.length ≤ 1000 ∧
  ∀ H' p, Same H H' → H' p = some (.lst ((stL ns).map V.int)) → H p = none → Q (.ref p) H'
theorem ok_starts_of {f : Addr} {fd : FuncData} (F : Fun K "starts_of" "starts_of" s_starts_of f fd) : FnOk P w K mg base CX0 1 f fd ["history"] (spStarts K) := by
  refine F.ok sc_starts_of (fun vs H Q E h => ?_) (fun cdv A outer s H vs Q E hr h => ?_)
  · obtain ⟨a, ns, rfl, _⟩ := h
    rfl
  · obtain ⟨a, ns, rfl, hS, hl, q⟩ := h
    refine ⟨_, (pss_one (ps_ret (pe_lc (own := [("event", 1)]) (g := gName 1) (tt := _) rfl sc_starts_of.nd (pi_list (pv 0)) (blkOk_by (own := [("event", 1)]) (N := N_starts_of) (sc := defScope s_starts_of) (by decide +kernel)) (fun _ _ _ _ _ => (pg_name (i := 1) sc_starts_of.nd rfl (Or.inl rfl))) (fun _ _ _ _ _ => (pts_one (pt_cmpR op_gt (pv 1) pe_int (nomark _)))) (fun _ _ _ _ _ => (pv 1))))), ?_⟩
    refine ⟨_, rfl, a, rfl, ⟨_, hS⟩, fun D hD => lc_list (xs := ns.map V.int) (LcP H D fun i => ((ns.take i).filter fun e => decide (0 < e)).map V.int) (.init hD rfl) (fun i H' _ p => p.2.1.seq hS) (fun i x H' hx p => ?_) (fun H1 p => ?_)⟩
    · obtain ⟨e, rfl, he⟩ := get_int hx
      have fs := filt_succ (f := fun e => decide (0 < e)) he
      have fl := filt_len (ns := ns) (f := fun e => decide (0 < e)) i
      have li := lt_get he
      refine ⟨rfl, ?_⟩
      by_cases h0 : 0 < e
      · refine ⟨_, rfl, _, _, rfl, rfl, true, dT h0, ?_⟩
        refine ⟨_, rfl, p.put (Same.refl _) ?_ (by rw [List.length_map]; omega)⟩
        show ((ns.take (i + 1)).filter _).map V.int = _
        rw [fs, if_pos (by simp [h0]), List.map_append]
        rfl
      · refine ⟨_, rfl, _, _, rfl, rfl, false, dF h0, ?_⟩
        refine p.skip (Same.refl _) ?_
        show ((ns.take (i + 1)).filter _).map V.int = _
        rw [fs, if_neg (by simp [h0]), List.append_nil]
    · have hp := p.2.2
      rw [List.length_map] at hp
      have hp : H1 D = some (.lst (((ns.take ns.length).filter fun e => decide (0 < e)).map V.int)) := hp
      rw [List.take_length] at hp
      exact q _ _ p.2.1 hp hD
def spRunA (K : PySem.W.Frag) : Sp := fun vs H Q _ => ∃ (a : Addr) (ns : List Int), vs = [.ref a] ∧ SqL K H a (ns.map V.int) ∧ Hist ns ∧
  ∀ (H' : Hp) (p : Addr) (R : List Int), Same H H' → H p = none → H' p = some (.lst (R.map V.int)) → R.Perm (runL ns) → R.Pairwise (· ≤ ·) → Q (.ref p) H'
theorem ok_running_after {f : Addr} {fd : FuncData} (F : Fun K "running_after" "running_after" s_running_after f fd) (B : NoB mg) (T_check_history : Cal P w K mg base 6 "check_history" (spCheck K)) (T_starts_of : Cal P w K mg base 1 "starts_of" (spStarts K)) : FnOk P w K mg base CX0 7 f fd ["history"] (spRunA K) := by
  refine F.ok sc_running_after (fun vs H Q E h => ?_) (fun cdv A outer s H vs Q E hr h => ?_)
  · obtain ⟨a, ns, rfl, _⟩ := h
    rfl
  · obtain ⟨a, ns, rfl, hS, hh, q⟩ := h
    have hl : ns.length ≤ 1000 := by have := hh.len; omega
    refine ⟨_, (pss_cons (ps_expr (pe_c T_check_history hr (by decide) (by rfl) (pa_cons (pv 0) pa_nil)))
        (pss_one (ps_ret (pe_callB cr_sortedI (by rfl) B.sorted (by decide +kernel) (pa_cons (pe_lc (own := [("patch", 1)]) (g := gName 1) (tt := _) rfl sc_running_after.nd (pi_list (pe_c T_starts_of hr (by decide) (by rfl) (pa_cons (pv 0) pa_nil))) (blkOk_by (own := [("patch", 1)]) (N := N_running_after) (sc := defScope s_running_after) (by decide +kernel)) (fun _ _ _ _ _ => (pg_name (i := 1) sc_running_after.nd rfl (Or.inl rfl))) (fun _ _ _ _ _ => (pts_one (pt_cmpR (k_notin (K := K) rfl) (pe_un un_neg (pv 1)) (pv 0) (by rfl)))) (fun _ _ _ _ _ => (pv 1))) pa_nil))))), ?_⟩
    refine ⟨_, rfl, a, ns, rfl, hS, hh, fun H1 s1 => ?_⟩
    refine ⟨_, rfl, a, ns, rfl, s1.seq hS, hl, fun H2 p s2 hp np => ⟨p, rfl, ⟨_, .of hp⟩, fun D nD => ?_⟩⟩
    have s02 := s1.trans s2
    refine lc_list (xs := (stL ns).map V.int) (LcP H2 D fun i => (((stL ns).take i).filter fun e => decide (-e ∉ ns)).map V.int) (.init nD rfl) (fun i H' _ p => .of (p.2.1 _ _ hp)) (fun i x H' hx p => ?_) (fun H3 p3 => ?_)
    · obtain ⟨k, rfl, hk⟩ := get_int hx
      have fs := filtG (f := fun e => decide (-e ∉ ns)) hk
      have fl := filtG_len (l := stL ns) (f := fun e => decide (-e ∉ ns)) i
      have sl := stL_len ns
      refine ⟨rfl, ?_⟩
      by_cases c : -k ∈ ns
      · refine ⟨_, rfl, k, rfl, _, rfl, a, _, rfl, .inl ((s02.trans p.2.1).seq hS), rfl, flatI _, false, notInF c, p.skip (Same.refl _) ?_⟩
        rw [fs, if_neg (by simp [c]), List.append_nil]
      · refine ⟨_, rfl, k, rfl, _, rfl, a, _, rfl, .inl ((s02.trans p.2.1).seq hS), rfl, flatI _, true, notInT c, _, rfl, p.put (Same.refl _) ?_ (by rw [List.length_map]; omega)⟩
        rw [fs, if_pos (by simp [c]), List.map_append]
        rfl
    · obtain ⟨_, s3, hD⟩ := p3
      rw [List.length_map] at hD
      have hD : H3 D = some (.lst ((((stL ns).take (stL ns).length).filter fun e => decide (-e ∉ ns)).map V.int)) := hD
      rw [List.take_length] at hD
      exact ⟨D, runL ns, rfl, .of hD, fun ns' z pm pw nz => q _ z ns' ((s02.trans s3).trans (same_new nz)) ((s02.trans s3).free nz) upd_same pm pw⟩
def spReplayR (K : PySem.W.Frag) : Sp := fun vs H Q _ => ∃ (a : Addr) (ns : List Int), vs = [.ref a] ∧ SqL K H a (ns.map V.int) ∧ Hist ns ∧
  ∀ H' t p d, Same H H' → H' t = some (.tup [.ref p, .ref d]) → H' p = some (.lst (presR ns ns.length)) → H' d = some (.dK ((runR ns).2.map entI)) → Q (.ref t) H'
theorem ok_replay {f : Addr} {fd : FuncData} (F : Fun K "replay" "replay" s_replay f fd) : FnOk P w K mg base CX0 1 f fd ["history"] (spReplayR K) := by
  refine F.ok sc_replay (fun vs H Q E h => ?_) (fun cdv A outer s H vs Q E hr h => ?_)
  · obtain ⟨a, ns, rfl, _⟩ := h
    rfl
  · obtain ⟨a, ns, rfl, hS, hh, q⟩ := h
    have hu := hu_of hr
    refine ⟨_, (pss_cons (ps_par (i := 1) (j := 2) (by rfl) sc_replay.nd rfl rfl (by decide) rfl rfl (pa_cons (pe_lst (pa_cons pe_int pa_nil)) (pa_cons pe_dnewK pa_nil)) (by rfl))
        (pss_cons (ps_for PassesOwn.never rfl (pi_list (pv 0)) (pg_name (i := 3) sc_replay.nd rfl (Or.inl rfl))
          (pss_one (ps_if (pt_cmpR op_gt (pv 3) pe_int (nomark _)) (pss_cons (ps_dput hu (pv 2) (pv 3) (pe_ix ix_list (pv 1) (pe_un un_neg pe_int) (fun _ _ => rfl)) rfl)
            (pss_one (ps_expr (pe_bm PySem.F.plainAttrs_list PySem.F.slot_list_append PySem.F.type_list_append mt_append (pv 1) (pa_cons (pv 3) pa_nil))))) (pss_one (ps_expr (pe_bm PySem.F.plainAttrs_list PySem.F.slot_list_append PySem.F.type_list_append mt_append (pv 1) (pa_cons (pe_dget hu (pv 2) (pe_un un_neg (pv 3)) (fun _ _ => rfl)) pa_nil)))))))
        (pss_one (ps_ret (pe_tup (pa_cons (pv 1) (pa_cons (pv 2) pa_nil))))))), ?_⟩
    refine ⟨by show 1 ≤ sizeLine; decide, fun p np d nd => ⟨.ref p, .ref d, rfl, ?_⟩⟩
    have npd : p ≠ d := fun e => by
      rw [← e, upd_same] at nd
      cases nd
    have nd0 : H d = none := by rw [upd_ne npd.symm] at nd; exact nd
    have s1 : Same H (upd (upd H p (.lst [.int 0])) d (.dK [])) := (same_new np).trans (same_new nd)
    refine ⟨_, rfl, a, rfl, ⟨_, s1.seq hS⟩, for_list (xs := ns.map V.int) (fun i σ H' => (∃ y, σ = [some (.ref a), some (.ref p), some (.ref d), y]) ∧ Same H H' ∧ H' p = some (.lst (presR ns i)) ∧ H' d = some (.dK ((runR (ns.take i)).2.map entI))) ⟨⟨_, rfl⟩, s1, ?_, upd_same⟩ (fun i σ H' _ h => h.2.1.seq hS) (fun i x σ H' hx h => ?_) (fun σ H' h => ?_)⟩
    · rw [upd_ne npd, upd_same]
      rfl
    · obtain ⟨n, rfl, hn⟩ := get_int hx
      obtain ⟨⟨y, rfl⟩, sm, hp, hd⟩ := h
      obtain ⟨h0, _⟩ := hh.rng n (mem_get hn)
      have hi : i < 200 := Nat.lt_of_lt_of_le (lt_get hn) hh.len
      have hln := runR_len (ns.take i)
      rw [List.length_take] at hln
      by_cases hpos : 0 < n
      · have hk : n ∉ (runR (ns.take i)).2.map (·.1) := fun z => not_mem_take hh.nd hn (keysR_mem.mp z).1
        have eP : runR (ns.take (i + 1)) = (n, (runR (ns.take i)).2 ++ [(n, (runR (ns.take i)).1)]) := by
          rw [take_get hn, runR_snoc]
          exact if_pos hpos
        refine ⟨_, rfl, _, _, rfl, rfl, true, dT hpos, ?_⟩
        refine ⟨_, rfl, 1, rfl, p, _, -1, _, rfl, rfl, .of hp, presR_last ns i, _, rfl, _, rfl, d, _, rfl, DPut.k (k := Sum.inl n) hd (zl (by rw [List.length_map]; omega)), ?_⟩
        have hp2 : (upd H' d (.dK (putK ((runR (ns.take i)).2.map entI) (Sum.inl n) (.int (runR (ns.take i)).1)))) p = some (.lst (presR ns i)) := by rw [upd_ne npd]; exact hp
        refine ⟨_, rfl, .inl ⟨rfl, _, .of hp2⟩, _, rfl, p, _, _, rfl, rfl, hp2, by rw [presR_len]; exact zl (by omega), ⟨_, rfl⟩, fun b o e => ?_, ?_, ?_⟩
        · rw [upd_ne (ne_of_none e np), upd_ne (ne_of_none e nd0)]
          exact sm _ _ e
        · rw [upd_same, presR_succ, eP]
        · rw [upd_ne npd.symm, upd_same, put_ent _ hk, eP]
      · have hneg : n < 0 := by omega
        have hpre := hh.ord i n hn hneg
        obtain ⟨v, hv, _⟩ := lk_some (l := (runR (ns.take i)).2) (k := -n) (keysR_mem.mpr ⟨hpre, by omega⟩)
        have eP : runR (ns.take (i + 1)) = (v, (runR (ns.take i)).2) := by
          rw [take_get hn, runR_snoc]
          have e : stepR (runR (ns.take i)) n = ((lk (runR (ns.take i)).2 (-n)).getD n, (runR (ns.take i)).2) := if_neg hpos
          rw [e, hv]
          rfl
        have g := DGet.k (k := Sum.inl (-n)) hd
        rw [valV_ent, hv] at g
        refine ⟨_, rfl, _, _, rfl, rfl, false, dF hpos, ?_⟩
        refine ⟨_, rfl, .inl ⟨rfl, _, .of hp⟩, _, rfl, _, rfl, n, rfl, d, _, rfl, g, p, _, _, rfl, rfl, hp, by rw [presR_len]; exact zl (by omega), ⟨_, rfl⟩, fun b o e => ?_, ?_, ?_⟩
        · rw [upd_ne (ne_of_none e np)]
          exact sm _ _ e
        · rw [upd_same, presR_succ, eP]
        · rw [upd_ne npd.symm, eP]
          exact hd
    · obtain ⟨⟨y, rfl⟩, sm, hp, hd⟩ := h
      rw [List.length_map] at hp hd
      rw [List.take_length] at hd
      refine ⟨_, rfl, _, rfl, by show 2 ≤ sizeLine; decide, fun t nt => q _ t p d (sm.trans (same_new nt)) upd_same ?_ ?_⟩
      · rw [upd_ne (ne_of_none hp nt)]
        exact hp
      · rw [upd_ne (ne_of_none hd nt)]
        exact hd
def spStAfter (K : PySem.W.Frag) : Sp := fun vs H Q _ => ∃ (a : Addr) (ns : List Int), vs = [.ref a] ∧ SqL K H a (ns.map V.int) ∧ Hist ns ∧
  ∀ H' t l ps, Same H H' → H t = none → H l = none → StO H' t l (runR ns).1 ps → (ps.map (·.2)).Perm (hl ns) → (ps.map (·.2)).Pairwise (fun x y => x.1 ≤ y.1) → Q (.ref t) H'
theorem ok_state_after {f : Addr} {fd : FuncData} (F : Fun K "state_after" "state_after" s_state_after f fd) (T_running_after : Cal P w K mg base 7 "running_after" (spRunA K)) (T_replay : Cal P w K mg base 1 "replay" (spReplayR K)) : FnOk P w K mg base CX0 8 f fd ["history"] (spStAfter K) := by
  refine F.ok sc_state_after (fun vs H Q E h => ?_) (fun cdv A outer s H vs Q E hr h => ?_)
  · obtain ⟨a, ns, rfl, _⟩ := h
    rfl
  · obtain ⟨a, ns, rfl, hS, hh, q⟩ := h
    have hu := hu_of hr
    refine ⟨_, (pss_cons (ps_set (i := 1) sc_state_after.nd rfl (Or.inl rfl) (pe_c T_running_after hr (by decide) (by rfl) (pa_cons (pv 0) pa_nil)))
        (pss_cons (ps_asg (pe_c T_replay hr (by decide) (by rfl) (pa_cons (pv 0) pa_nil)) (pg_tup rfl (pgs_cons (pg_name (i := 2) sc_state_after.nd rfl (Or.inl rfl)) (pgs_cons (pg_name (i := 3) sc_state_after.nd rfl (Or.inr rfl)) pgs_nil))))
        (pss_one (ps_ret (pe_tup (pa_cons (pe_ix ix_list (pv 2) (pe_un un_neg pe_int) (fun _ _ => rfl)) (pa_cons (pe_lc (own := [("patch", 4)]) (g := gName 4) (tt := tYes) rfl sc_state_after.nd (pi_list (pv 1)) (blkOk_by (own := [("patch", 4)]) (N := N_state_after) (sc := defScope s_state_after) (by decide +kernel)) (fun _ _ _ _ _ => (pg_name (i := 4) sc_state_after.nd rfl (Or.inl rfl))) (fun _ _ _ _ _ => pts_nil) (fun _ _ _ _ _ => (pe_tup (pa_cons (pv 4) (pa_cons (pe_dget hu (pv 3) (pv 4) (fun _ _ => rfl)) pa_nil))))) pa_nil))))))), ?_⟩
    refine ⟨_, rfl, a, ns, rfl, hS, hh, fun H1 r R s1 nr hr1 pm pw => ?_⟩
    refine ⟨_, rfl, a, ns, rfl, s1.seq hS, hh, fun H2 t p d s2 ht hp hd => ?_⟩
    refine ⟨t, _, rfl, .of ht, rfl, _, _, rfl, _, _, rfl, rfl, ?_⟩
    have sA := s1.trans s2
    have hr2 := s2 _ _ hr1
    have hlast : atI (presR ns ns.length) (-1) = some (.int (runR ns).1) := by
      have e := presR_last ns ns.length
      rw [List.take_length] at e
      exact e
    refine ⟨_, rfl, 1, rfl, p, _, -1, _, rfl, rfl, .of hp, hlast, ?_⟩
    have Rlen : R.length ≤ 200 := by
      have e := pm.length_eq
      have := hh.len
      have := hl_len ns
      have e2 := congrArg List.length (runL_hl ns)
      rw [List.length_map] at e2
      omega
    refine ⟨_, rfl, r, rfl, ⟨_, .of hr2⟩, fun D nD => lc_list (xs := R.map V.int) (fun i H' => Same H2 H' ∧ ∃ ps : List (Addr × Int × Int), H' D = some (.lst (ps.map fun z => V.ref z.1)) ∧ ps.map (·.2) = (R.take i).map (fun y => (y, (lk (runR ns).2 y).getD 0)) ∧ ∀ z ∈ ps, z.1 ≠ D ∧ H' z.1 = some (.tup [.int z.2.1, .int z.2.2])) ⟨same_new nD, [], upd_same, rfl, fun z hz => nomatch hz⟩ (fun i H' _ p => .of (p.1 _ _ hr2)) (fun i y H' hy p => ?_) (fun H' p => ?_)⟩
    · obtain ⟨n, rfl, hn⟩ := get_int hy
      obtain ⟨sm, ps, hD, eps, hps⟩ := p
      have hi := lt_get hn
      have hm : n ∈ runL ns := pm.mem_iff.mp (mem_get hn)
      have hk : n ∈ (runR ns).2.map (·.1) := by
        rw [keysR]
        exact (List.mem_filter.mp hm).1
      obtain ⟨v, ev, _⟩ := lk_some hk
      have g := DGet.k (k := Sum.inl n) (sm _ _ hd)
      rw [valV_ent, ev] at g
      have l1 := congrArg List.length eps
      rw [List.length_map, List.length_map, List.length_take] at l1
      refine ⟨rfl, ?_⟩
      refine ⟨_, rfl, _, rfl, _, rfl, d, .int v, rfl, g, by show 2 ≤ sizeLine; decide, fun Tt nT => ?_⟩
      have e4 := same_new (o := .tup [.int n, .int v]) nT
      have nD0 : Tt ≠ D := fun z => by
        rw [z, hD] at nT
        cases nT
      refine ⟨ps.map fun z => V.ref z.1, e4 _ _ hD, by rw [List.length_map]; exact zl (by omega), Lp.Same.mut (sm.trans e4) nD, ps ++ [(Tt, n, v)], ?_, ?_, ?_⟩
      · rw [upd_same, List.map_append]
        rfl
      · rw [List.map_append, eps, take_get hn, List.map_append]
        show _ = _ ++ [(n, (lk (runR ns).2 n).getD 0)]
        rw [ev]
        rfl
      · intro z hz
        rcases List.mem_append.mp hz with hz | hz
        · obtain ⟨q1, q2⟩ := hps z hz
          exact ⟨q1, by rw [upd_ne q1]; exact e4 _ _ q2⟩
        · rw [List.mem_singleton.mp hz]
          exact ⟨nD0, by rw [upd_ne nD0]; exact upd_same⟩
    · obtain ⟨sm, ps, hD, eps, hps⟩ := p
      rw [List.length_map, List.take_length] at eps
      refine ⟨by show 2 ≤ sizeLine; decide, fun t2 nt2 => ?_⟩
      have s6 := same_new (o := .tup [.int (runR ns).1, .ref D]) nt2
      have sB := sA.trans sm
      refine q _ t2 D ps (sB.trans s6) (sB.free nt2) (sA.free nD) ⟨upd_same, s6 _ _ hD, fun z hz => s6 _ _ (hps z hz).2⟩ ?_ ?_
      · rw [eps]
        have e2 : ((hl ns).map (·.1)).map (fun y => (y, (lk (runR ns).2 y).getD 0)) = hl ns := by
          rw [List.map_map]
          refine (List.map_congr_left fun z hz => ?_).trans (List.map_id _)
          show (z.1, (lk (runR ns).2 z.1).getD 0) = z
          rw [lk_mem (keysR_nd hh.nd) (List.mem_filter.mp hz).1]
          rfl
        have e3 := pm.map (fun y => (y, (lk (runR ns).2 y).getD 0))
        rw [← runL_hl, e2] at e3
        exact e3
      · rw [eps]
        exact List.pairwise_map.mpr pw
end
open L2.DX
section
variable {P : Program} {w : World} {K : PySem.W.Frag} {mg : Str → Option Value} {base : Heap}
def spSaving : Sp := fun vs H Q _ => ∃ (a : Addr) (k v : Int), vs = [.ref a] ∧ H a = some (.tup [.int k, .int v]) ∧ 1 ≤ k ∧ k ≤ 100 ∧ 0 ≤ v ∧ v ≤ 100 ∧ Q (.bl true) H
theorem ok_is_saving {f : Addr} {fd : FuncData} (F : Fun K "_is_saving" "_is_saving" s_is_saving f fd) (B : NoB mg) {t1 : Tok} (T_g_LAST_PATCH : mg "LAST_PATCH" = some (.int 100 t1)) (T_is_integer_within : Cal P w K mg base 2 "is_integer_within" spWithin) : FnOk P w K mg base CX0 3 f fd ["value"] spSaving := by
  refine F.ok sc_is_saving (fun vs H Q E h => ?_) (fun cdv A outer s H vs Q E hr h => ?_)
  · obtain ⟨a, k, v, rfl, _⟩ := h
    rfl
  · obtain ⟨a, k, v, rfl, ha, h1, h2, h3, h4, q⟩ := h
    have hS : SqT K H a [.int k, .int v] := .of ha
    refine ⟨_, (pss_cons (ps_if (PW.pt (pw_or (pt_cmpR op_neTy (pe_callTy call_type1 (by rfl) B.type (by decide +kernel) (pa_cons (pv 0) pa_nil)) (pe_bltn (v := .ty "tuple") (by rfl) B.tuple boot_tuple rfl) (nomark _)) (pw_or1 (pt_cmpR op_ne (pe_callB call_len_seq (by rfl) B.len PySem.boot_len (pa_cons (pv 0) pa_nil)) pe_int (nomark _))))) (pss_one (ps_ret pe_bl)) pss_nil)
        (pss_one (ps_ret (pe_and (pe_c T_is_integer_within hr (by decide) (by rfl) (pa_cons (pe_ix ix_tup (pv 0) pe_int (fun _ _ => rfl)) (pa_cons pe_int (pa_cons (pe_glob (v := .int 100) (by rfl) T_g_LAST_PATCH ⟨_, rfl⟩) pa_nil)))) (pe_one (pe_c T_is_integer_within hr (by decide) (by rfl) (pa_cons (pe_ix ix_tup (pv 0) pe_int (fun _ _ => rfl)) (pa_cons pe_int (pa_cons (pe_glob (v := .int 100) (by rfl) T_g_LAST_PATCH ⟨_, rfl⟩) pa_nil))))))))), ?_⟩
    refine ⟨_, rfl, _, _, rfl, .tup hS, _, rfl, rfl, PySem.TypeEq.meta_tuple, _, rfl, iteF ?_⟩
    refine ⟨_, rfl, a, _, rfl, .inr hS, rfl, false, nF rfl, iteF ?_⟩
    refine ⟨_, rfl, a, _, 0, _, rfl, rfl, hS, at0, k, 1, 100, rfl, h1, h2, true, rfl, iteT ?_⟩
    exact ⟨_, rfl, a, _, 1, _, rfl, rfl, hS, at1, v, 0, 100, rfl, h3, h4, q⟩
def spIsState : Sp := fun vs H Q _ => ∃ (t l : Addr) (p : Int) (ps : List (Addr × Int × Int)), vs = [.ref t] ∧ StO H t l p ps ∧ St p (ps.map (·.2)) ∧ ∀ H', Same H H' → Q (.bl true) H'
theorem St.len {p : Int} {S : List (Int × Int)} (h : St p S) : S.length ≤ 100 := by
  have nd : (S.map (·.1)).Nodup := h.asc.imp fun a => Int.ne_of_lt a
  have := nodup_len (m := upL 100) nd fun x hx => by
    obtain ⟨z, hz, rfl⟩ := List.mem_map.mp hx
    have := (h.rng z hz).1
    exact List.mem_map.mpr ⟨(z.1 - 1).toNat, List.mem_range.mpr (by omega), by omega⟩
  rw [List.length_map, upL_len] at this
  exact this
theorem ok_is_state {f : Addr} {fd : FuncData} (F : Fun K "is_state" "is_state" s_is_state f fd) (B : NoB mg) {t1 : Tok} (T_g_LAST_PATCH : mg "LAST_PATCH" = some (.int 100 t1)) (T_is_integer_within : Cal P w K mg base 2 "is_integer_within" spWithin) (T_is_saving : Cal P w K mg base 3 "_is_saving" spSaving) : FnOk P w K mg base CX0 4 f fd ["value"] spIsState := by
  refine F.ok sc_is_state (fun vs H Q E h => ?_) (fun cdv A outer s H vs Q E hr h => ?_)
  · obtain ⟨t, l, p, ps, rfl, _⟩ := h
    rfl
  · obtain ⟨t, l, p, ps, rfl, so, st, q⟩ := h
    have hu64 := hr.units
    have hu := hu_of hr
    have hS : SqT K H t [.int p, .ref l] := .of so.ht
    have hl : SqL K H l (ps.map fun z => V.ref z.1) := .of so.sv.h
    have sl := st.len
    rw [List.length_map] at sl
    refine ⟨_, (pss_cons (ps_if (PW.pt (pw_or (pt_cmpR op_neTy (pe_callTy call_type1 (by rfl) B.type (by decide +kernel) (pa_cons (pv 0) pa_nil)) (pe_bltn (v := .ty "tuple") (by rfl) B.tuple boot_tuple rfl) (nomark _)) (pw_or1 (pt_cmpR op_ne (pe_callB call_len_seq (by rfl) B.len PySem.boot_len (pa_cons (pv 0) pa_nil)) pe_int (nomark _))))) (pss_one (ps_ret pe_bl)) pss_nil)
        (pss_cons (ps_asg (pv 0) (pg_tup rfl (pgs_cons (pg_name (i := 1) sc_is_state.nd rfl (Or.inl rfl)) (pgs_cons (pg_name (i := 2) sc_is_state.nd rfl (Or.inl rfl)) pgs_nil))))
        (pss_cons (ps_if (PW.pt (pw_or (pt_not (pt_val (pe_c T_is_integer_within hr (by decide) (by rfl) (pa_cons (pv 1) (pa_cons pe_int (pa_cons (pe_glob (v := .int 100) (by rfl) T_g_LAST_PATCH ⟨_, rfl⟩) pa_nil)))))) (pw_or1 (pt_cmpR op_neTy (pe_callTy call_type1 (by rfl) B.type (by decide +kernel) (pa_cons (pv 2) pa_nil)) (pe_bltn (v := .ty "list") (by rfl) B.list boot_list rfl) (nomark _))))) (pss_one (ps_ret pe_bl)) pss_nil)
        (pss_cons (ps_if (pt_not (pt_val (pe_callB (cr_all rfl) (by rfl) B.all (by decide +kernel) (pa_cons (pe_lc (own := [("item", 5)]) (g := gName 5) (tt := tYes) rfl sc_is_state.nd (pi_list (pv 2)) (blkOk_by (own := [("item", 5)]) (N := N_is_state) (sc := defScope s_is_state) (by decide +kernel)) (fun _ _ _ _ _ => (pg_name (i := 5) sc_is_state.nd rfl (Or.inl rfl))) (fun _ _ _ _ _ => pts_nil) (fun _ _ _ _ _ => (pe_c T_is_saving hr (by decide) (by rfl) (pa_cons (pv 5) pa_nil)))) pa_nil)))) (pss_one (ps_ret pe_bl)) pss_nil)
        (pss_cons (ps_setLc (i := 3) (own := [("patch", 6), ("_", 7)]) (g := _) (tt := tYes) rfl sc_is_state.nd rfl rfl (sw_true rfl rfl rfl (by decide +kernel)) (pi_list (pv 2)) (blkOk_by (own := [("patch", 6), ("_", 7)]) (N := N_is_state) (sc := defScope s_is_state) (by decide +kernel)) (fun _ _ _ _ _ => (k_tup (K := K) (n := 2) rfl rfl (pgs_cons (pg_name (i := 6) sc_is_state.nd rfl (Or.inl rfl)) (pgs_cons (pg_name (i := 7) sc_is_state.nd rfl (Or.inl rfl)) pgs_nil)))) (fun _ _ _ _ _ => pts_nil) (fun _ _ _ _ _ => (pv 6)))
        (pss_cons (ps_set (i := 4) sc_is_state.nd rfl (Or.inl rfl) (pe_op op_cat (pe_lst (pa_cons (pv 1) pa_nil)) (pe_lc (own := [("_", 7), ("number", 8)]) (g := _) (tt := tYes) rfl sc_is_state.nd (pi_list (pv 2)) (blkOk_by (own := [("_", 7), ("number", 8)]) (N := N_is_state) (sc := defScope s_is_state) (by decide +kernel)) (fun _ _ _ _ _ => (k_tup (K := K) (n := 2) rfl rfl (pgs_cons (pg_name (i := 7) sc_is_state.nd rfl (Or.inl rfl)) (pgs_cons (pg_name (i := 8) sc_is_state.nd rfl (Or.inl rfl)) pgs_nil)))) (fun _ _ _ _ _ => pts_nil) (fun _ _ _ _ _ => (pv 8)))))
        (pss_one (ps_ret (pe_and (pe_cmpR (op_eqD hu64) (pv 3) (pe_callB (cr_sortedSetG rfl) (by rfl) B.sorted (by decide +kernel) (pa_cons (pe_callTy (cr_setLG rfl) (by rfl) B.set (by decide +kernel) (pa_cons (pv 3) pa_nil)) pa_nil)) (nomark _)) (pe_one (pe_cmpR op_eq (RZ.pe_lenSetI (by rfl) B.len (by rfl) B.set (pv 4)) (pe_callB call_len_seq (by rfl) B.len PySem.boot_len (pa_cons (pv 4) pa_nil)) (nomark _)))))))))))), ?_⟩
    refine ⟨_, rfl, _, _, rfl, .tup hS, _, rfl, rfl, PySem.TypeEq.meta_tuple, _, rfl, iteF ?_⟩
    refine ⟨_, rfl, t, _, rfl, .inr hS, rfl, false, nF rfl, iteF ?_⟩
    refine ⟨_, rfl, t, _, rfl, hS, rfl, _, _, rfl, _, _, rfl, rfl, ?_⟩
    refine ⟨_, rfl, p, 0, 100, rfl, st.p0.1, st.p0.2, _, rfl, ?_⟩
    refine ⟨_, rfl, _, _, rfl, .lst hl, _, rfl, rfl, PySem.TypeEq.meta_list, false, rfl, iteF ?_⟩
    have gz : ∀ {i : Nat} {x : V}, (ps.map fun z => V.ref z.1)[i]? = some x → ∃ z ∈ ps, x = .ref z.1 ∧ ps[i]? = some z := fun {i x} hx => by
      rw [List.getElem?_map] at hx
      cases e : ps[i]? with
      | none => rw [e] at hx; cases hx
      | some z => rw [e] at hx; cases hx; exact ⟨z, mem_get e, rfl, rfl⟩
    refine ⟨_, rfl, l, rfl, ⟨_, hl⟩, fun D nD => lc_list (xs := ps.map fun z : Addr × Int × Int => V.ref z.1) (LcP H D fun i => (List.replicate i true).map V.bl) (.init nD rfl) (fun i H' _ p => p.2.1.seq hl) (fun i x H' hx p => ?_) (fun H1 p1 => ?_)⟩
    · obtain ⟨z, hz, rfl, hi⟩ := gz hx
      obtain ⟨⟨b1, b2⟩, b3, b4⟩ := st.rng _ (List.mem_map.mpr ⟨z, hz, rfl⟩)
      have li := lt_get hi
      refine ⟨rfl, ?_⟩
      refine ⟨_, rfl, z.1, z.2.1, z.2.2, rfl, p.2.1 _ _ (so.sv.q z hz), b1, b2, b3, b4, ?_⟩
      refine p.put (Same.refl _) ?_ (by rw [List.length_map, List.length_replicate]; omega)
      rw [List.replicate_succ', List.map_append]
      rfl
    refine ⟨D, _, rfl, .of p1.2.2, ?_⟩
    have e : (List.replicate (ps.map fun z => V.ref z.1).length true).all id = true := by
      rw [List.all_eq_true]
      intro b hb
      exact (List.eq_of_mem_replicate hb)
    rw [e]
    refine ⟨_, rfl, iteF ?_⟩
    have so1 := so.same p1.2.1
    refine ⟨_, rfl, l, rfl, ⟨_, .of so1.sv.h⟩, fun D2 nD2 => lc_list (xs := ps.map fun z : Addr × Int × Int => V.ref z.1) (LcP H1 D2 fun i => ((ps.take i).map fun z => z.2.1).map V.int) (.init nD2 rfl) (fun i H' _ p => .of (p.2.1 _ _ so1.sv.h)) (fun i x H' hx p => ?_) (fun H2 p2 => ?_)⟩
    · obtain ⟨z, hz, rfl, hi⟩ := gz hx
      have li := lt_get hi
      refine ⟨z.1, _, rfl, .of (p.2.1 _ _ (so1.sv.q z hz)), rfl, _, _, rfl, _, _, rfl, rfl, rfl, ?_⟩
      refine ⟨_, rfl, p.put (Same.refl _) ?_ (by rw [List.length_map, List.length_map, List.length_take]; omega)⟩
      rw [take_get hi, List.map_append, List.map_append]
      rfl
    have so2 := so1.same p2.2.1
    have h2 : H2 D2 = some (.lst ((ps.map fun z => z.2.1).map V.int)) := by
      have h := p2.2.2
      rw [List.length_map] at h
      rw [h]
      show some (HO.lst (((ps.take ps.length).map fun z => z.2.1).map V.int)) = _
      rw [List.take_length]
    refine ⟨_, rfl, by show 1 ≤ sizeLine; decide, fun a1 na1 => ?_⟩
    have s3 := same_new (o := .lst [.int p]) na1
    have so3 := so2.same s3
    refine ⟨_, rfl, l, rfl, ⟨_, .of so3.sv.h⟩, fun D3 nD3 => lc_list (xs := ps.map fun z : Addr × Int × Int => V.ref z.1) (LcP (upd H2 a1 (.lst [.int p])) D3 fun i => ((ps.take i).map fun z => z.2.2).map V.int) (.init nD3 rfl) (fun i H' _ p => .of (p.2.1 _ _ so3.sv.h)) (fun i x H' hx p => ?_) (fun H4 p4 => ?_)⟩
    · obtain ⟨z, hz, rfl, hi⟩ := gz hx
      have li := lt_get hi
      refine ⟨z.1, _, rfl, .of (p.2.1 _ _ (so3.sv.q z hz)), rfl, _, _, rfl, _, _, rfl, rfl, rfl, ?_⟩
      refine ⟨_, rfl, p.put (Same.refl _) ?_ (by rw [List.length_map, List.length_map, List.length_take]; omega)⟩
      rw [take_get hi, List.map_append, List.map_append]
      rfl
    have h4 : H4 D3 = some (.lst ((ps.map fun z => z.2.2).map V.int)) := by
      have h := p4.2.2
      rw [List.length_map] at h
      rw [h]
      show some (HO.lst (((ps.take ps.length).map fun z => z.2.2).map V.int)) = _
      rw [List.take_length]
    refine ⟨a1, D3, _, _, rfl, rfl, p4.2.1 _ _ upd_same, h4, by rw [List.length_map, List.length_map]; show 1 + ps.length ≤ _; exact zs (by omega), fun vl nvl => ?_⟩
    have s5 := same_new (o := .lst ([V.int p] ++ (ps.map fun z => z.2.2).map V.int)) nvl
    have hD5 := s5 _ _ (p4.2.1 _ _ (s3 _ _ h2))
    have s05 := (((p1.2.1.trans p2.2.1).trans s3).trans p4.2.1).trans s5
    have hv5 : (upd H4 vl (.lst ([V.int p] ++ (ps.map fun z => z.2.2).map V.int))) vl = some (.lst ((p :: ps.map fun z => z.2.2).map V.int)) := upd_same
    generalize upd H4 vl (.lst ([V.int p] ++ (ps.map fun z => z.2.2).map V.int)) = H5 at s05 hD5 hv5 ⊢
    refine ⟨_, rfl, _, rfl, D2, ps.map fun z => z.2.1, rfl, .of hD5, by rw [List.length_map]; omega, fun sp c nsp hc => ⟨sp, _, c, rfl, upd_same, by rw [List.length_map] at hc; omega, fun ms mp pw nd mem nmp => ?_⟩⟩
    have s6 := (same_new (o := SetO w sp (fun j => decide (j ∈ ps.map fun z : Addr × Int × Int => z.2.1)) c) nsp).trans (same_new (o := .lst (ms.map V.int)) nmp)
    have ea : (ps.map (·.2)).map (·.1) = ps.map fun z => z.2.1 := by rw [List.map_map]; rfl
    have eb : (ps.map (·.2)).map (·.2) = ps.map fun z => z.2.2 := by rw [List.map_map]; rfl
    have asc := st.asc
    rw [ea] at asc
    have ems : (ps.map fun z => z.2.1) = ms := by
      refine sorted_uniq ((List.perm_ext_iff_of_nodup (asc.imp fun a => Int.ne_of_lt a) nd).mpr fun x => ?_) (asc.imp fun a => Int.le_of_lt a) pw
      rw [mem x, decide_eq_true_eq]
    refine ⟨dI _, dI ms, dp_ints (.of (s6 _ _ hD5)), dp_ints (.of upd_same), shaped_ints _, shaped_ints _, true, eqvT ems, iteT ?_⟩
    have ndv := st.ndv
    rw [eb] at ndv
    refine ⟨_, rfl, vl, p :: ps.map fun z => z.2.2, rfl, .of (s6 _ _ hv5), ndv, by rw [List.length_cons, List.length_map]; omega, _, rfl, vl, _, rfl, .inl (.of (s6 _ _ hv5)), rfl, ?_⟩
    rw [List.length_map, dT rfl]
    exact q _ (s05.trans s6)
end
end L45
set_option Elab.async false
set_option linter.all false
set_option maxRecDepth 100000
namespace L45
open PySem PySem.Spec PyProof.Rows L2 Lp
/-! ### references below 0 are those of the stopped patches -/
theorem gn_mono {t : List Int} {e k : Int} (h0 : e ≠ 0) (hn : 0 < e → -e ∉ t) (h : k ∈ gn t) : k ∈ gn (t ++ [e]) := by
  by_cases hp : 0 < e
  · rw [(gn_start hp (hn hp)).1]
    exact h
  · rw [(gn_stop (t := t) (show e < 0 by omega)).1]
    exact List.mem_append_left _ h
theorem refs_neg {ns : List Int} (hp : Piece ns) : ∀ i, i ≤ ns.length → ((runR (ns.take i)).1 < 0 → -(runR (ns.take i)).1 ∈ gn (ns.take i)) ∧ ∀ z ∈ (runR (ns.take i)).2, z.2 < 0 → -z.2 ∈ gn (ns.take i)
  | 0, _ => ⟨fun h => absurd h (by rw [List.take_zero]; decide), fun z hz => by rw [List.take_zero] at hz; exact nomatch hz⟩
  | i + 1, h => by
    have he : ns[i]? = some (ns[i]'(by omega)) := List.getElem?_eq_getElem (by omega)
    obtain ⟨i1, i2⟩ := refs_neg hp i (by omega)
    have hnt := not_mem_take hp.nd he
    have ho := hp.ord _ _ he
    have h0 := (hp.rng _ (mem_get he)).1
    rw [take_get he]
    generalize ns[i]'(by omega) = e at *
    generalize ns.take i = t at *
    by_cases hpos : 0 < e
    · have eS : runR (t ++ [e]) = (e, (runR t).2 ++ [(e, (runR t).1)]) := by rw [runR_snoc]; exact if_pos hpos
      rw [eS]
      refine ⟨fun c => absurd c (by show ¬ e < 0; omega), fun z hz hl => ?_⟩
      rcases List.mem_append.mp hz with hz | hz
      · exact gn_mono h0 ho (i2 z hz hl)
      · rw [List.mem_singleton.mp hz] at hl ⊢
        exact gn_mono h0 ho (i1 hl)
    · have eS : runR (t ++ [e]) = ((lk (runR t).2 (-e)).getD e, (runR t).2) := by rw [runR_snoc]; exact if_neg hpos
      rw [eS]
      refine ⟨fun c => ?_, fun z hz hl => gn_mono h0 ho (i2 z hz hl)⟩
      by_cases hk : -e ∈ t
      · obtain ⟨v, hv, hm⟩ := lk_some (l := (runR t).2) (k := -e) (keysR_mem.mpr ⟨hk, by omega⟩)
        have c' : (lk (runR t).2 (-e)).getD e < 0 := c
        show -((lk (runR t).2 (-e)).getD e) ∈ _
        rw [hv] at c' ⊢
        exact gn_mono h0 ho (i2 _ hm c')
      · show -((lk (runR t).2 (-e)).getD e) ∈ _
        rw [lk_none fun z => hk (keysR_mem.mp z).1, (gn_stop (t := t) (show e < 0 by omega)).1, if_neg hk]
        exact List.mem_append_right _ (List.mem_singleton.mpr rfl)
theorem refs_neg1 {ns : List Int} (hp : Piece ns) (h : (runR ns).1 < 0) : -(runR ns).1 ∈ gn ns := by
  have z := (refs_neg hp ns.length (Nat.le_refl _)).1
  rw [List.take_length] at z
  exact z h
theorem refs_neg2 {ns : List Int} (hp : Piece ns) {z : Int × Int} (hz : z ∈ hl ns) (h : z.2 < 0) : -z.2 ∈ gn ns := by
  have w := (refs_neg hp ns.length (Nat.le_refl _)).2
  rw [List.take_length] at w
  exact w z (List.mem_filter.mp hz).1 h
/-- the values that references have -/
def vsL (p : Int) (S : List (Int × Int)) (G : List Int) : List (Int × Int) := (0, p) :: G.map fun k => (-k, (lk S k).getD 0)
theorem lk_vs {p : Int} {S : List (Int × Int)} {G : List Int} (hG : ∀ k ∈ G, 0 < k ∧ k ∈ S.map (·.1)) (hk : ∀ z ∈ S, 0 < z.1) {r : Int} (hr : r < 0 → -r ∈ G) : (lk (vsL p S G) r).getD r = mean p S r := by
  unfold vsL mean
  rw [lk_cons]
  by_cases h0 : r = 0
  · rw [if_pos (show (0, p).1 = r from h0.symm), if_pos h0]
    rfl
  · rw [if_neg (show ¬ (0, p).1 = r from fun z => h0 z.symm), if_neg h0]
    have aux : ∀ l : List Int, lk (l.map fun k => (-k, (lk S k).getD 0)) r = if -r ∈ l then some ((lk S (-r)).getD 0) else none := by
      intro l
      induction l with
      | nil => rfl
      | cons k l ih =>
        rw [List.map_cons, lk_cons, ih]
        by_cases e : -k = r
        · have e' : -r = k := by omega
          rw [if_pos (show (-k, (lk S k).getD 0).1 = r from e), e', if_pos List.mem_cons_self]
        · rw [if_neg (show ¬ (-k, (lk S k).getD 0).1 = r from e)]
          have e' : ¬ -r = k := by omega
          by_cases m : -r ∈ l
          · rw [if_pos m, if_pos (List.mem_cons_of_mem _ m)]
          · rw [if_neg m, if_neg (fun c => (List.mem_cons.mp c).elim e' m)]
    rw [aux]
    by_cases hn : r < 0
    · have hm := hr hn
      rw [if_pos hm]
      obtain ⟨v, hv, _⟩ := lk_some (hG _ hm).2
      rw [hv]
      rfl
    · rw [if_neg (fun c => absurd (hG _ c).1 (by omega)), lk_none]
      intro c
      obtain ⟨z, hz, e⟩ := List.mem_map.mp c
      have := hk z hz
      omega
theorem merge_ent : ∀ (l m : List (Int × Int)), ((m ++ l).map (·.1)).Nodup → mergeK (m.map entI) (l.map entI) = (m ++ l).map entI
  | [], m, _ => by
    rw [List.append_nil]
    rfl
  | z :: l, m, nd => by
    have e : m ++ z :: l = (m ++ [z]) ++ l := by simp
    have hz : z.1 ∉ m.map (·.1) := fun c => by
      rw [List.map_append, List.map_cons] at nd
      exact (List.nodup_append.mp nd).2.2 _ c _ List.mem_cons_self rfl
    show mergeK (putK (m.map entI) (Sum.inl z.1) (.int z.2)) (l.map entI) = _
    rw [put_ent _ hz, e]
    exact merge_ent l (m ++ [(z.1, z.2)]) (by rw [← e]; exact nd)
theorem merge_ent0 {l : List (Int × Int)} (nd : (l.map (·.1)).Nodup) : mergeK [] (l.map entI) = l.map entI := merge_ent l [] nd
theorem St.nd {p : Int} {S : List (Int × Int)} (h : St p S) : (S.map (·.1)).Nodup := h.asc.imp fun a => Int.ne_of_lt a
theorem St.pos {p : Int} {S : List (Int × Int)} (h : St p S) : ∀ z ∈ S, 0 < z.1 := fun z hz => by
  have := (h.rng z hz).1.1
  omega
theorem behL_keys {p : Int} {S : List (Int × Int)} {ns : List Int} (hs : (S.map (·.1)).Nodup) (hp : Piece ns) (fn : ∀ k ∈ ns, 0 < k → k ∉ S.map (·.1)) : ((behL p S ns).2.map (·.1)).Nodup := by
  show (((S.filter fun z => decide (z.1 ∉ gn ns)) ++ (hl ns).map fun z => (z.1, mean p S z.2)).map (·.1)).Nodup
  rw [List.map_append, List.map_map]
  have e : (hl ns).map ((·.1) ∘ fun z => (z.1, mean p S z.2)) = (hl ns).map (·.1) := rfl
  rw [e]
  refine List.nodup_append.mpr ⟨hs.sublist (List.filter_sublist.map _), (keysR_nd hp.nd).sublist (List.filter_sublist.map _), fun a ha b hb q => ?_⟩
  subst q
  obtain ⟨z, hz, rfl⟩ := List.mem_map.mp ha
  obtain ⟨y, hy, e⟩ := List.mem_map.mp hb
  have hy' := hl_mem hy
  rw [e] at hy'
  exact fn _ hy'.1 hy'.2.1 (List.mem_map.mpr ⟨z, (List.mem_filter.mp hz).1, rfl⟩)
theorem lE0 (a1 : Addr) (p : Int) (a3 a4 a5 : Addr) : (fE a1 p a3 a4 a5).lookup ("_piece" : Str) = some (.ref a1) := by rfl
theorem lE1 (a1 : Addr) (p : Int) (a3 a4 a5 : Addr) : (fE a1 p a3 a4 a5).lookup ("_present" : Str) = some (.int p) := by rfl
theorem lE2 (a1 : Addr) (p : Int) (a3 a4 a5 : Addr) : (fE a1 p a3 a4 a5).lookup ("_saved" : Str) = some (.ref a3) := by rfl
theorem lE3 (a1 : Addr) (p : Int) (a3 a4 a5 : Addr) : (fE a1 p a3 a4 a5).lookup ("_stopped" : Str) = some (.ref a4) := by rfl
theorem lE4 (a1 : Addr) (p : Int) (a3 a4 a5 : Addr) : (fE a1 p a3 a4 a5).lookup ("_ended" : Str) = some (.ref a5) := by rfl
section
variable {P : Program} {w : World} {K : PySem.W.Frag} {mg : Str → Option Value} {base : Heap} {CE : Addr}
def spPresent (CE : Addr) : Sp := fun vs H Q _ => ∃ (x dx a1 a3 a4 a5 : Addr) (p : Int), vs = [.ref x] ∧ H x = some (.ins CE dx (fE a1 p a3 a4 a5)) ∧ Q (.int p) H
theorem ok_Effect_present {f : Addr} {fd : FuncData} (F : Fun K "present" "Effect.present" s_Effect_present f fd) (T : Txt K CE) : FnOk P w K mg base CX0 1 f fd ["self"] (spPresent CE) := by
  refine F.ok sc_Effect_present (fun vs H Q E h => ?_) (fun cdv A outer s H vs Q E hr h => ?_)
  · obtain ⟨x, dx, a1, a3, a4, a5, p, rfl, _⟩ := h
    rfl
  · obtain ⟨x, dx, a1, a3, a4, a5, p, rfl, hx, q⟩ := h
    refine ⟨_, (pss_one (ps_ret (pe_fld (pv 0) rfl))), ?_⟩
    exact ⟨_, rfl, x, CE, dx, _, _, rfl, hx, T.cE, T.n1, lE1 .., q⟩
def spSaved (CE : Addr) : Sp := fun vs H Q _ => ∃ (x dx a1 a3 a4 a5 : Addr) (p : Int) (xs : List V), vs = [.ref x] ∧ H x = some (.ins CE dx (fE a1 p a3 a4 a5)) ∧ H a3 = some (.lst xs) ∧ ∀ l, H l = none → Q (.ref l) (upd H l (.lst xs))
theorem ok_Effect_saved {f : Addr} {fd : FuncData} (F : Fun K "saved" "Effect.saved" s_Effect_saved f fd) (B : NoB mg) (T : Txt K CE) : FnOk P w K mg base CX0 1 f fd ["self"] (spSaved CE) := by
  refine F.ok sc_Effect_saved (fun vs H Q E h => ?_) (fun cdv A outer s H vs Q E hr h => ?_)
  · obtain ⟨x, dx, a1, a3, a4, a5, p, xs, rfl, _⟩ := h
    rfl
  · obtain ⟨x, dx, a1, a3, a4, a5, p, xs, rfl, hx, ha, q⟩ := h
    refine ⟨_, (pss_one (ps_ret (pe_callTy call_list_of (by rfl) B.list (by decide +kernel) (pa_cons (pe_fld (pv 0) rfl) pa_nil)))), ?_⟩
    exact ⟨_, rfl, x, CE, dx, _, _, rfl, hx, T.cE, T.n2, lE2 .., a3, xs, rfl, .inl (.of ha), q⟩
def spStopped (CE : Addr) : Sp := fun vs H Q _ => ∃ (x dx a1 a3 a4 a5 : Addr) (p : Int) (xs : List V), vs = [.ref x] ∧ H x = some (.ins CE dx (fE a1 p a3 a4 a5)) ∧ H a4 = some (.lst xs) ∧ ∀ l, H l = none → Q (.ref l) (upd H l (.lst xs))
theorem ok_Effect_stopped {f : Addr} {fd : FuncData} (F : Fun K "stopped" "Effect.stopped" s_Effect_stopped f fd) (B : NoB mg) (T : Txt K CE) : FnOk P w K mg base CX0 1 f fd ["self"] (spStopped CE) := by
  refine F.ok sc_Effect_stopped (fun vs H Q E h => ?_) (fun cdv A outer s H vs Q E hr h => ?_)
  · obtain ⟨x, dx, a1, a3, a4, a5, p, xs, rfl, _⟩ := h
    rfl
  · obtain ⟨x, dx, a1, a3, a4, a5, p, xs, rfl, hx, ha, q⟩ := h
    refine ⟨_, (pss_one (ps_ret (pe_callTy call_list_of (by rfl) B.list (by decide +kernel) (pa_cons (pe_fld (pv 0) rfl) pa_nil)))), ?_⟩
    exact ⟨_, rfl, x, CE, dx, _, _, rfl, hx, T.cE, T.n3, lE3 .., a4, xs, rfl, .inl (.of ha), q⟩
def spEnded (CE : Addr) : Sp := fun vs H Q _ => ∃ (x dx a1 a3 a4 a5 : Addr) (p : Int) (xs : List V), vs = [.ref x] ∧ H x = some (.ins CE dx (fE a1 p a3 a4 a5)) ∧ H a5 = some (.lst xs) ∧ ∀ l, H l = none → Q (.ref l) (upd H l (.lst xs))
theorem ok_Effect_ended {f : Addr} {fd : FuncData} (F : Fun K "ended" "Effect.ended" s_Effect_ended f fd) (B : NoB mg) (T : Txt K CE) : FnOk P w K mg base CX0 1 f fd ["self"] (spEnded CE) := by
  refine F.ok sc_Effect_ended (fun vs H Q E h => ?_) (fun cdv A outer s H vs Q E hr h => ?_)
  · obtain ⟨x, dx, a1, a3, a4, a5, p, xs, rfl, _⟩ := h
    rfl
  · obtain ⟨x, dx, a1, a3, a4, a5, p, xs, rfl, hx, ha, q⟩ := h
    refine ⟨_, (pss_one (ps_ret (pe_callTy call_list_of (by rfl) B.list (by decide +kernel) (pa_cons (pe_fld (pv 0) rfl) pa_nil)))), ?_⟩
    exact ⟨_, rfl, x, CE, dx, _, _, rfl, hx, T.cE, T.n4, lE4 .., a5, xs, rfl, .inl (.of ha), q⟩
def spLenE (CE : Addr) : Sp := fun vs H Q _ => ∃ (x dx a1 a3 a4 a5 : Addr) (p : Int) (xs : List V), vs = [.ref x] ∧ H x = some (.ins CE dx (fE a1 p a3 a4 a5)) ∧ H a1 = some (.lst xs) ∧ Q (.int ((xs.length : Nat) : Int)) H
theorem ok_Effect_len {f : Addr} {fd : FuncData} (F : Fun K "__len__" "Effect.__len__" s_Effect_len f fd) (B : NoB mg) (T : Txt K CE) : FnOk P w K mg base CX0 1 f fd ["self"] (spLenE CE) := by
  refine F.ok sc_Effect_len (fun vs H Q E h => ?_) (fun cdv A outer s H vs Q E hr h => ?_)
  · obtain ⟨x, dx, a1, a3, a4, a5, p, xs, rfl, _⟩ := h
    rfl
  · obtain ⟨x, dx, a1, a3, a4, a5, p, xs, rfl, hx, ha, q⟩ := h
    refine ⟨_, (pss_one (ps_ret (pe_callB call_len_seq (by rfl) B.len PySem.boot_len (pa_cons (pe_fld (pv 0) rfl) pa_nil)))), ?_⟩
    exact ⟨_, rfl, x, CE, dx, _, _, rfl, hx, T.cE, T.n0, lE0 .., a1, xs, rfl, .inl (.of ha), q⟩
end
open L2.DX
section
variable {P : Program} {w : World} {K : PySem.W.Frag} {mg : Str → Option Value} {base : Heap} {CE : Addr}
def spFits (CE : Addr) : Sp := fun vs H Q _ => ∃ (x dx a1 a3 a4 a5 d : Addr) (pr p : Int) (ns G : List Int) (S : List (Int × Int)), vs = [.ref x, .int p, .ref d] ∧ H x = some (.ins CE dx (fE a1 pr a3 a4 a5)) ∧ H a1 = some (.lst (ns.map V.int)) ∧ H a4 = some (.lst (G.map V.int)) ∧ H d = some (.dK (S.map entI)) ∧
  Fits p S ns ∧ (∀ k ∈ G, k ∈ gn ns) ∧ S.length ≤ 100 ∧ ns.length ≤ 200 ∧ G.length ≤ 200 ∧ ∀ H', Same H H' → Q (.bl true) H'
theorem ok_Effect_fits {f : Addr} {fd : FuncData} (F : Fun K "_fits" "Effect._fits" s_Effect_fits f fd) (B : NoB mg) (T_z_any : mg "any" = none) (T : Txt K CE) (T_starts_of : Cal P w K mg base 1 "starts_of" (spStarts K)) : FnOk P w K mg base CX0 2 f fd ["self", "present", "saved"] (spFits CE) := by
  refine F.ok sc_Effect_fits (fun vs H Q E h => ?_) (fun cdv A outer s H vs Q E hr h => ?_)
  · obtain ⟨x, dx, a1, a3, a4, a5, d, pr, p, ns, G, S, rfl, _⟩ := h
    rfl
  · obtain ⟨x, dx, a1, a3, a4, a5, d, pr, p, ns, G, S, rfl, hx, h1, h4, hd, ft, hG, sS, sN, sG, q⟩ := h
    have hu := hu_of hr
    refine ⟨_, (pss_cons (ps_set (i := 3) sc_Effect_fits.nd rfl (Or.inr rfl) (pe_op op_cat (pe_op op_cat (pe_lst (pa_cons (pv 1) pa_nil)) (pe_callTy (call_list_dK rfl) (by rfl) B.list (by decide +kernel) (pa_cons (pv 2) pa_nil))) (pe_callTy (call_listVals rfl) (by rfl) B.list (by decide +kernel) (pa_cons (pe_bm0 PySem.F.plainAttrs_dict PySem.F.slot_dict_values PySem.F.type_dict_values mt_valuesI (pv 2)) pa_nil))))
        (pss_cons (ps_if (pt_val (pe_callB (cr_any rfl) (by rfl) T_z_any (by decide +kernel) (pa_cons (pe_lc (own := [("patch", 4)]) (g := gName 4) (tt := tYes) rfl sc_Effect_fits.nd (pi_list (pe_c T_starts_of hr (by decide) (by rfl) (pa_cons (pe_fld (pv 0) rfl) pa_nil))) (blkOk_by (own := [("patch", 4)]) (N := N_Effect_fits) (sc := defScope s_Effect_fits) (by decide +kernel)) (fun _ _ _ _ _ => (pg_name (i := 4) sc_Effect_fits.nd rfl (Or.inl rfl))) (fun _ _ _ _ _ => pts_nil) (fun _ _ _ _ _ => (pe_cmpR (k_in (K := K) rfl) (pv 4) (pv 3) (by rfl)))) pa_nil))) (pss_one (ps_ret pe_bl)) pss_nil)
        (pss_one (ps_ret (pe_callB (cr_all rfl) (by rfl) B.all (by decide +kernel) (pa_cons (pe_lc (own := [("patch", 4)]) (g := gName 4) (tt := tYes) rfl sc_Effect_fits.nd (pi_list (pe_fld (pv 0) rfl)) (blkOk_by (own := [("patch", 4)]) (N := N_Effect_fits) (sc := defScope s_Effect_fits) (by decide +kernel)) (fun _ _ _ _ _ => (pg_name (i := 4) sc_Effect_fits.nd rfl (Or.inl rfl))) (fun _ _ _ _ _ => pts_nil) (fun _ _ _ _ _ => (pe_cmp (pc_din hu (pv 4) (pv 2)) rfl))) pa_nil)))))), ?_⟩
    refine ⟨_, rfl, by show 1 ≤ sizeLine; decide, fun b1 nb1 => ?_⟩
    have s1 := same_new (o := .lst [.int p]) nb1
    refine ⟨_, rfl, d, S.map entI, rfl, s1 _ _ hd, fun b2 nb2 => ?_⟩
    have s2 := same_new (o := .lst ((S.map entI).map fun kv => kV kv.1)) nb2
    refine ⟨b1, b2, _, _, rfl, rfl, s2 _ _ upd_same, upd_same, by rw [List.length_map, List.length_map]; show 1 + S.length ≤ _; exact zs (by omega), fun b3 nb3 => ?_⟩
    have s3 := same_new (o := .lst ([.int p] ++ (S.map entI).map fun kv => kV kv.1)) nb3
    have s03 := (s1.trans s2).trans s3
    have h3 : (upd (upd (upd H b1 (.lst [.int p])) b2 (.lst ((S.map entI).map fun kv => kV kv.1))) b3 (.lst ([.int p] ++ (S.map entI).map fun kv => kV kv.1))) b3 = some (.lst ([.int p] ++ (S.map entI).map fun kv => kV kv.1)) := upd_same
    generalize upd (upd (upd H b1 (.lst [.int p])) b2 (.lst ((S.map entI).map fun kv => kV kv.1))) b3 (.lst ([.int p] ++ (S.map entI).map fun kv => kV kv.1)) = H3 at s03 h3 ⊢
    have hd3 := s03 _ _ hd
    refine ⟨_, rfl, .inr (.inr (.inl ⟨rfl, .inl ⟨_, hd3⟩⟩)), d, _, rfl, rfl, hd3, fun v nv => ?_⟩
    have s4 := same_new (o := valsO v d) nv
    refine ⟨v, d, S.map entI, rfl, upd_same, s4 _ _ hd3, fun b5 nb5 => ?_⟩
    have s5 := same_new (o := .lst ((S.map entI).map (·.2))) nb5
    refine ⟨b3, b5, _, _, rfl, rfl, s5 _ _ (s4 _ _ h3), upd_same, ?_, fun tk ntk => ?_⟩
    · rw [List.length_append, List.length_map, List.length_map, List.length_map, List.length_map]
      show 1 + S.length + S.length ≤ _
      exact zs (by omega)
    have s6 := same_new (o := .lst (([.int p] ++ (S.map entI).map fun kv => kV kv.1) ++ (S.map entI).map (·.2))) ntk
    have s06 := ((s03.trans s4).trans s5).trans s6
    have etk : ([V.int p] ++ (S.map entI).map fun kv => kV kv.1) ++ (S.map entI).map (·.2) = (p :: S.map (·.1) ++ S.map (·.2)).map V.int := by
      rw [List.map_map, List.map_map, List.map_append, List.map_cons, List.map_map, List.map_map]
      rfl
    have htk : (upd (upd (upd H3 v (valsO v d)) b5 (.lst ((S.map entI).map (·.2)))) tk (.lst (([.int p] ++ (S.map entI).map fun kv => kV kv.1) ++ (S.map entI).map (·.2)))) tk = some (.lst ((p :: S.map (·.1) ++ S.map (·.2)).map V.int)) := by rw [upd_same, etk]
    generalize upd (upd (upd H3 v (valsO v d)) b5 (.lst ((S.map entI).map (·.2)))) tk (.lst (([.int p] ++ (S.map entI).map fun kv => kV kv.1) ++ (S.map entI).map (·.2))) = H6 at s06 htk ⊢
    refine ⟨_, rfl, x, CE, dx, _, _, rfl, s06 _ _ hx, T.cE, T.n0, lE0 .., a1, ns, rfl, .of (s06 _ _ h1), by omega, fun H7 pp s7 hpp npp => ⟨pp, rfl, ⟨_, .of hpp⟩, fun D nD => ?_⟩⟩
    have htk7 := s7 _ _ htk
    have sl := stL_len ns
    refine lc_list (xs := (stL ns).map V.int) (LcP H7 D fun i => (List.replicate i false).map V.bl) (.init nD rfl) (fun i H' _ p => .of (p.2.1 _ _ hpp)) (fun i y H' hy p => ?_) (fun H8 p8 => ?_)
    · obtain ⟨k, rfl, hk⟩ := get_int hy
      have li := lt_get hk
      obtain ⟨m1, m2⟩ := List.mem_filter.mp (mem_get hk)
      have k0 := of_decide_eq_true m2
      have nin : k ∉ _ :: S.map (·.1) ++ S.map (·.2) := fun c => (List.mem_append.mp c).elim (fun c => (List.mem_cons.mp c).elim (fun c => ft.fv k m1 k0 (List.mem_cons.mpr (.inl c))) (ft.fn k m1 k0)) fun c => ft.fv k m1 k0 (List.mem_cons_of_mem _ c)
      refine ⟨rfl, ?_⟩
      refine ⟨_, rfl, _, rfl, tk, _, rfl, .inl (.of (p.2.1 _ _ htk7)), rfl, flatI _, ?_⟩
      rw [inF nin]
      refine p.put (Same.refl _) ?_ (by rw [List.length_map, List.length_replicate]; omega)
      rw [List.replicate_succ', List.map_append]
      rfl
    have e : (List.replicate ((stL ns).map V.int).length false).any id = false := by
      rw [List.any_eq_false]
      intro b hb
      rw [List.eq_of_mem_replicate hb]
      exact Bool.false_ne_true
    refine ⟨D, _, rfl, .of p8.2.2, ?_⟩
    rw [e]
    refine ⟨_, rfl, iteF ?_⟩
    have s08 := (s06.trans s7).trans p8.2.1
    refine ⟨_, rfl, x, CE, dx, _, _, rfl, s08 _ _ hx, T.cE, T.n3, lE3 .., a4, rfl, ⟨_, .of (s08 _ _ h4)⟩, fun D2 nD2 => ?_⟩
    refine lc_list (xs := G.map V.int) (LcP H8 D2 fun i => (List.replicate i true).map V.bl) (.init nD2 rfl) (fun i H' _ p => .of (p.2.1 _ _ (s08 _ _ h4))) (fun i y H' hy p => ?_) (fun H9 p9 => ?_)
    · obtain ⟨k, rfl, hk⟩ := get_int hy
      have li := lt_get hk
      obtain ⟨vv, hv, _⟩ := lk_some (ft.fg _ (hG k (mem_get hk)))
      have g := DGet.k (k := Sum.inl k) (p.2.1 _ _ (s08 _ _ hd))
      rw [valV_ent, hv] at g
      refine ⟨rfl, ?_⟩
      refine ⟨_, rfl, _, rfl, d, _, rfl, g, ?_⟩
      refine p.put (Same.refl _) ?_ (by rw [List.length_map, List.length_replicate]; omega)
      rw [List.replicate_succ', List.map_append]
      rfl
    have e2 : (List.replicate (G.map V.int).length true).all id = true := by
      rw [List.all_eq_true]
      intro b hb
      exact List.eq_of_mem_replicate hb
    refine ⟨D2, _, rfl, .of p9.2.2, ?_⟩
    rw [e2]
    exact q _ (s08.trans p9.2.1)
end
section
variable {P : Program} {w : World} {K : PySem.W.Frag} {mg : Str → Option Value} {base : Heap} {CE : Addr}
theorem paired_pairs {H : Hp} : ∀ qs : List (Addr × Int × Int), (∀ z ∈ qs, H z.1 = some (.tup [.int z.2.1, .int z.2.2])) → Paired (fun p (kv : Key × V) => SqT K H p [kV kv.1, kv.2]) (qs.map (·.1)) ((qs.map (·.2)).map entI)
  | [], _ => .nil
  | z :: qs, h => .cons (.of (h z List.mem_cons_self)) (paired_pairs qs fun y hy => h y (List.mem_cons_of_mem _ hy))
theorem filt_nin_succ {S : List (Int × Int)} {G : List Int} {i : Nat} {k : Int} (h : G[i]? = some k) : (S.filter fun z => decide (z.1 ∉ G.take (i + 1))) = (S.filter fun z => decide (z.1 ∉ G.take i)).filter fun z => decide (z.1 ≠ k) := by
  rw [List.filter_filter]
  refine List.filter_congr fun z _ => ?_
  rw [← Bool.decide_and]
  refine decide_eq_decide.mpr ?_
  rw [take_get h, List.mem_append, List.mem_singleton]
  exact ⟨fun a => ⟨fun c => a (.inr c), fun c => a (.inl c)⟩, fun ⟨a, b⟩ c => c.elim b a⟩
theorem vsL_snoc (p : Int) (S : List (Int × Int)) (t : List Int) (k : Int) : vsL p S (t ++ [k]) = vsL p S t ++ [(-k, (lk S k).getD 0)] := by
  unfold vsL
  rw [List.map_append]
  rfl
def spCallE (CE : Addr) : Sp := fun vs H Q _ => ∃ (x dx a1 a3 a4 a5 t l : Addr) (p : Int) (ns G E : List Int) (ps qs : List (Addr × Int × Int)), vs = [.ref x, .ref t] ∧ Eff CE H x dx a1 a3 a4 a5 ns ps G E ∧ StO H t l p qs ∧ St p (qs.map (·.2)) ∧ Fits p (qs.map (·.2)) ns ∧
  ∀ H' t' l' rs, Same H H' → H t' = none → H l' = none → StO H' t' l' (behL p (qs.map (·.2)) ns).1 rs → (rs.map (·.2)).Perm (behL p (qs.map (·.2)) ns).2 → (rs.map (·.2)).Pairwise (fun x y => x.1 ≤ y.1) → Q (.ref t') H'
theorem ok_Effect_call {f : Addr} {fd : FuncData} (F : Fun K "__call__" "Effect.__call__" s_Effect_call f fd) (T : Txt K CE) (T_z_dict : mg "dict" = none) (B : NoB mg) (T_is_state : Cal P w K mg base 4 "is_state" spIsState) (T_Effect_fits : Met P w K mg base 2 CE "_fits" (spFits CE)) : FnOk P w K mg base CX0 5 f fd ["self", "state"] (spCallE CE) := by
  refine F.ok sc_Effect_call (fun vs H Q E h => ?_) (fun cdv A outer s H vs Q E hr h => ?_)
  · obtain ⟨x, dx, a1, a3, a4, a5, t, l, p, ns, G, E, ps, qs, rfl, _⟩ := h
    rfl
  · obtain ⟨x, dx, a1, a3, a4, a5, t, l, p, ns, G, E, ps, qs, rfl, he, so, st, ft, q⟩ := h
    have hu := hu_of hr
    refine ⟨_, (pss_cons (ps_if (pt_not (pt_val (pe_c T_is_state hr (by decide) (by rfl) (pa_cons (pv 1) pa_nil)))) (pss_one ps_never) pss_nil)
        (pss_cons (ps_asg (pe_tup (pa_cons (pe_ix ix_tup (pv 1) pe_int (fun _ _ => rfl)) (pa_cons (pe_callTy (call_dictP rfl) (by rfl) T_z_dict (by decide +kernel) (pa_cons (pe_ix ix_tup (pv 1) pe_int (fun _ _ => rfl)) pa_nil)) pa_nil))) (pg_tup rfl (pgs_cons (pg_name (i := 2) sc_Effect_call.nd rfl (Or.inl rfl)) (pgs_cons (pg_name (i := 3) sc_Effect_call.nd rfl (Or.inr rfl)) pgs_nil))))
        (pss_cons (ps_if (pt_not (pt_val (pe_mt T_Effect_fits hr (by decide) (pv 0) (pa_cons (pv 2) (pa_cons (pv 3) pa_nil))))) (pss_one ps_never) pss_nil)
        (pss_cons (ps_set (i := 4) sc_Effect_call.nd rfl (Or.inl rfl) (pe_disp (pps_cons pe_int (pv 2) pps_nil) (by rfl) (by rfl) (fun z => by cases z) (by decide)))
        (pss_cons (ps_for PassesOwn.never rfl (pi_list (pe_fld (pv 0) rfl)) (pg_name (i := 5) sc_Effect_call.nd rfl (Or.inl rfl))
          (pss_one (ps_dput hu (pv 4) (pe_un un_neg (pv 5)) (pe_dpop1 (pv 3) (pv 5) (by constructor <;> rfl)) rfl)))
        (pss_cons (ps_for PassesOwn.never rfl (pi_list (pe_fld (pv 0) rfl)) (pg_tup rfl (pgs_cons (pg_name (i := 5) sc_Effect_call.nd rfl (Or.inl rfl)) (pgs_cons (pg_name (i := 6) sc_Effect_call.nd rfl (Or.inl rfl)) pgs_nil)))
          (pss_one (ps_dput hu (pv 3) (pv 5) (pe_dget2 hu (pv 4) (pv 6) (pv 6) (by constructor <;> rfl)) rfl)))
        (pss_one (ps_ret (pe_tup (pa_cons (pe_dget2 hu (pv 4) (pe_fld (pv 0) rfl) (pe_fld (pv 0) rfl) (by constructor <;> rfl)) (pa_cons (pe_lc (own := [("patch", 5)]) (g := gName 5) (tt := tYes) rfl sc_Effect_call.nd (pi_list (pe_callB (call_sortedDIO rfl) (by rfl) B.sorted (by decide +kernel) (pa_cons (pv 3) pa_nil))) (blkOk_by (own := [("patch", 5)]) (N := N_Effect_call) (sc := defScope s_Effect_call) (by decide +kernel)) (fun _ _ _ _ _ => (pg_name (i := 5) sc_Effect_call.nd rfl (Or.inl rfl))) (fun _ _ _ _ _ => pts_nil) (fun _ _ _ _ _ => (pe_tup (pa_cons (pv 5) (pa_cons (pe_dget hu (pv 3) (pv 5) (fun _ _ => rfl)) pa_nil))))) pa_nil))))))))))), ?_⟩
    refine ⟨_, rfl, t, l, p, qs, rfl, so, st, fun H1 s1 => ⟨_, rfl, iteF ?_⟩⟩
    have so1 := so.same s1
    have aS : SqL K H1 l ((qs.map (·.1)).map V.ref) := by
      have e : (qs.map (·.1)).map V.ref = qs.map fun z => V.ref z.1 := by rw [List.map_map]; rfl
      rw [e]
      exact .of so1.sv.h
    refine ⟨_, rfl, t, _, 0, _, rfl, rfl, .of so1.ht, at0, _, rfl, t, _, 1, _, rfl, rfl, .of so1.ht, at1, l, qs.map (fun z : Addr × Int × Int => z.1), (qs.map (fun z : Addr × Int × Int => z.2)).map entI, rfl, aS, paired_pairs qs so1.sv.q, fun d nd => ?_⟩
    rw [merge_ent0 st.nd]
    refine ⟨by show 2 ≤ sizeLine; decide, fun T1 nT1 => ⟨T1, _, rfl, .of upd_same, rfl, _, _, rfl, _, _, rfl, rfl, ?_⟩⟩
    have sd := (same_new (o := .dK ((qs.map (·.2)).map entI)) nd).trans (same_new (o := .tup [.int p, .ref d]) nT1)
    have hd : (upd (upd H1 d (.dK ((qs.map (·.2)).map entI))) T1 (.tup [.int p, .ref d])) d = some (.dK ((qs.map (·.2)).map entI)) := same_new nT1 _ _ upd_same
    have s2 := s1.trans sd
    have nd0 := s1.free nd
    generalize upd (upd H1 d (.dK ((qs.map (·.2)).map entI))) T1 (.tup [.int p, .ref d]) = H2 at s2 hd ⊢
    generalize hS : qs.map (·.2) = S at *
    have he2 := he.same s2
    have Glen : G.length ≤ 200 := by
      have e := he.pt.g1.length_eq
      have := gn_len ns
      have := he.pc.len
      omega
    have Gn : ∀ k ∈ G, k ∈ gn ns := fun k hk => he.pt.g1.mem_iff.mp hk
    have Gnd : G.Nodup := he.pt.g1.nodup_iff.mpr (nodup_map (fun x y e => by omega) (he.pc.nd.sublist List.filter_sublist))
    have Gs : ∀ k ∈ G, 0 < k ∧ k ∈ S.map (·.1) := fun k hk => ⟨(gn_mem.mp (Gn k hk)).1, ft.fg k (Gn k hk)⟩
    refine ⟨_, rfl, x, dx, _, rfl, he2.hx, rfl, _, rfl, _, rfl, x, dx, a1, a3, a4, a5, d, _, p, ns, G, S, rfl, he2.hx, he2.h1, he2.h4, hd, ft, Gn, st.len, he.pc.len, Glen, fun H3 s3 => ⟨_, rfl, iteF ?_⟩⟩
    have hd3 := s3 _ _ hd
    refine fun v nv => ⟨_, rfl, upd_same, [(Sum.inl 0, .int p)], rfl, by show 1 ≤ 15; decide, ?_⟩
    have eV : upd (upd H3 v (.dK [])) v (.dK (mergeK [] [(Sum.inl 0, V.int p)])) = upd H3 v (.dK ((vsL p S []).map entI)) := by
      rw [upd_upd]
      rfl
    rw [eV]
    have s03 := s2.trans s3
    have nv0 := s03.free nv
    have dv : d ≠ v := fun z => by
      rw [← z, hd3] at nv
      cases nv
    have he3 := he.same s03
    have he4 := he3.same (same_new (o := .dK ((vsL p S []).map entI)) nv)
    -- the stopped patches
    refine ⟨_, rfl, x, CE, dx, _, _, rfl, he4.hx, T.cE, T.n3, lE3 .., a4, rfl, ⟨_, .of he4.h4⟩, for_list (xs := G.map V.int) (fun i σ H' => (∃ y5 y6, σ = [some (.ref x), some (.ref t), some (.int p), some (.ref d), some (.ref v), y5, y6]) ∧ Same H H' ∧ H' d = some (.dK ((S.filter fun z => decide (z.1 ∉ G.take i)).map entI)) ∧ H' v = some (.dK ((vsL p S (G.take i)).map entI))) ⟨⟨_, _, rfl⟩, s03.trans (same_new nv), ?_, upd_same⟩ (fun i σ H' _ h => .of (h.2.1 _ _ he.h4)) (fun i y σ H' hy h => ?_) (fun σ H' h => ?_)⟩
    · rw [upd_ne dv, hd3]
      refine congrArg some (congrArg HO.dK (congrArg (List.map entI) (List.filter_eq_self.mpr fun z _ => decide_eq_true (show z.1 ∉ ([] : List Int) from List.not_mem_nil)).symm))
    · obtain ⟨k, rfl, hk⟩ := get_int hy
      obtain ⟨⟨y5, y6, rfl⟩, sm, hd', hv'⟩ := h
      have li := lt_get hk
      obtain ⟨vv, hvv, _⟩ := lk_some (Gs k (mem_get hk)).2
      have hnt := not_mem_take Gnd hk
      have hl1 : lk (S.filter fun z => decide (z.1 ∉ G.take i)) k = some vv := by
        rw [lk_filter fun z _ e => decide_eq_true (by rw [e]; exact hnt), hvv]
      have hv2 : valV ((S.filter fun z => decide (z.1 ∉ G.take i)).map entI) (Sum.inl k) = some (.int vv) := by rw [valV_ent, hl1]; rfl
      have nkv : -k ∉ (vsL p S (G.take i)).map (·.1) := by
        intro c
        have k0 := (Gs k (mem_get hk)).1
        rcases List.mem_cons.mp c with c | c
        · have c' : -k = 0 := c
          omega
        · rw [List.map_map] at c
          obtain ⟨j, hj, e⟩ := List.mem_map.mp c
          have e' : -j = -k := e
          exact hnt (by rw [show k = j by omega]; exact hj)
      have vlen : (vsL p S (G.take i)).length ≤ 201 := by
        unfold vsL
        rw [List.length_cons, List.length_map, List.length_take]
        omega
      refine ⟨_, rfl, d, rfl, .inl ⟨_, .inl hd'⟩, _, rfl, _, Sum.inl k, .int vv, hd', rfl, hv2, ?_⟩
      have hv'' : (upd H' d (.dK (dropK ((S.filter fun z => decide (z.1 ∉ G.take i)).map entI) (Sum.inl k)))) v = some (.dK ((vsL p S (G.take i)).map entI)) := by rw [upd_ne dv.symm]; exact hv'
      refine ⟨_, rfl, _, rfl, k, rfl, v, _, rfl, DPut.k (k := Sum.inl (-k)) hv'' (zl (by rw [List.length_map]; omega)), ⟨_, _, rfl⟩, fun b o e => ?_, ?_, ?_⟩
      · rw [upd_ne (ne_of_none e nv0), upd_ne (ne_of_none e nd0)]
        exact sm _ _ e
      · rw [upd_ne dv, upd_same, drop_ent, filt_nin_succ hk]
      · rw [upd_same, put_ent _ nkv, take_get hk, vsL_snoc, hvv]
        rfl
    · obtain ⟨⟨y5, y6, rfl⟩, sm, hd', hv'⟩ := h
      rw [List.length_map, List.take_length] at hd' hv'
      have eS : (S.filter fun z => decide (z.1 ∉ G)) = S.filter fun z => decide (z.1 ∉ gn ns) := List.filter_congr fun z _ => decide_eq_decide.mpr (not_congr he.pt.g1.mem_iff)
      rw [eS] at hd'
      have heA := he.same sm
      have mR : ∀ z ∈ ps, (lk (vsL p S G) z.2.2).getD z.2.2 = mean p S z.2.2 := fun z hz => lk_vs Gs st.pos fun c => he.pt.g1.mem_iff.mpr (refs_neg2 he.pc (he.pt.s1.mem_iff.mp (List.mem_map.mpr ⟨z, hz, rfl⟩)) c)
      have gz : ∀ {i : Nat} {x : V}, (ps.map fun z => V.ref z.1)[i]? = some x → ∃ z ∈ ps, x = .ref z.1 ∧ ps[i]? = some z := fun {i x} hx => by
        rw [List.getElem?_map] at hx
        cases e : ps[i]? with
        | none => rw [e] at hx; cases hx
        | some z => rw [e] at hx; cases hx; exact ⟨z, mem_get e, rfl, rfl⟩
      have psl : ps.length ≤ 200 := by
        have e := he.pt.s1.length_eq
        rw [List.length_map] at e
        have := hl_len ns
        have := he.pc.len
        omega
      have psn : (ps.map fun z => z.2.1).Nodup := by
        have e : (ps.map fun z => z.2.1) = (ps.map (·.2)).map (·.1) := by rw [List.map_map]; rfl
        rw [e]
        exact (he.pt.s1.map (·.1)).nodup_iff.mpr ((keysR_nd he.pc.nd).sublist (List.filter_sublist.map _))
      have psh : ∀ z ∈ ps, z.2 ∈ hl ns := fun z hz => he.pt.s1.mem_iff.mp (List.mem_map.mpr ⟨z, hz, rfl⟩)
      refine ⟨_, rfl, x, CE, dx, _, _, rfl, heA.hx, T.cE, T.n2, lE2 .., a3, rfl, ⟨_, .of heA.h3⟩, for_list (xs := ps.map fun z : Addr × Int × Int => V.ref z.1) (fun i σ H' => (∃ y5 y6, σ = [some (.ref x), some (.ref t), some (.int p), some (.ref d), some (.ref v), y5, y6]) ∧ Same H H' ∧ H' d = some (.dK (((S.filter fun z => decide (z.1 ∉ gn ns)) ++ (ps.take i).map fun z => (z.2.1, mean p S z.2.2)).map entI)) ∧ H' v = some (.dK ((vsL p S G).map entI))) ⟨⟨_, _, rfl⟩, sm, ?_, hv'⟩ (fun i σ H' _ h => .of (h.2.1 _ _ he.h3)) (fun i y σ H' hy h => ?_) (fun σ H' h => ?_)⟩
      · rw [hd', List.take_zero]
        exact congrArg (fun z => some (HO.dK (List.map entI z))) (List.append_nil _).symm
      · obtain ⟨z, hz, rfl, hi⟩ := gz hy
        obtain ⟨⟨y5, y6, rfl⟩, sm, hd', hv'⟩ := h
        have li := lt_get hi
        refine ⟨z.1, _, rfl, .of (sm _ _ (he.hp z hz)), rfl, _, _, rfl, _, _, rfl, rfl, ?_⟩
        refine ⟨_, rfl, v, rfl, .inl ⟨_, .inl hv'⟩, _, rfl, _, rfl, _, DGet.k (k := Sum.inl z.2.2) hv', ?_⟩
        have ev : ((valV ((vsL p S G).map entI) (Sum.inl z.2.2)).getD (V.int z.2.2)) = V.int (mean p S z.2.2) := by
          rw [valV_ent, ← mR z hz]
          cases lk (vsL p S G) z.2.2 <;> rfl
        rw [ev]
        have nk : z.2.1 ∉ ((S.filter fun z => decide (z.1 ∉ gn ns)) ++ (ps.take i).map fun z => (z.2.1, mean p S z.2.2)).map (·.1) := by
          rw [List.map_append]
          intro c
          rcases List.mem_append.mp c with c | c
          · obtain ⟨w', hw, e⟩ := List.mem_map.mp c
            have hh := hl_mem (psh z hz)
            exact ft.fn _ hh.1 hh.2.1 (List.mem_map.mpr ⟨w', (List.mem_filter.mp hw).1, e⟩)
          · rw [List.map_map] at c
            have e : ((·.1) ∘ fun z : Addr × Int × Int => (z.2.1, mean p S z.2.2)) = fun z : Addr × Int × Int => z.2.1 := rfl
            rw [e, List.map_take] at c
            exact not_mem_take psn (by rw [List.getElem?_map, hi]; rfl) c
        have sfl : (S.filter fun z => decide (z.1 ∉ gn ns)).length ≤ 100 := Nat.le_trans (List.length_filter_le _ _) st.len
        refine ⟨_, rfl, _, rfl, d, _, rfl, DPut.k (k := Sum.inl z.2.1) hd' (zl ?_), ⟨_, _, rfl⟩, fun b o e => ?_, ?_, ?_⟩
        · rw [List.length_map, List.length_append, List.length_map, List.length_take]
          omega
        · rw [upd_ne (ne_of_none e nd0)]
          exact sm _ _ e
        · have e3 : ((S.filter fun z => decide (z.1 ∉ gn ns)) ++ (ps.take (i + 1)).map fun z => (z.2.1, mean p S z.2.2)) = ((S.filter fun z => decide (z.1 ∉ gn ns)) ++ (ps.take i).map fun z => (z.2.1, mean p S z.2.2)) ++ [(z.2.1, mean p S z.2.2)] := by
            rw [take_get hi, List.map_append, List.append_assoc]
            rfl
          rw [upd_same, put_ent _ nk, e3]
        · rw [upd_ne dv.symm]
          exact hv'
      · obtain ⟨⟨y5, y6, rfl⟩, sm, hd', hv'⟩ := h
        rw [List.length_map, List.take_length] at hd'
        have eL : ((S.filter fun z => decide (z.1 ∉ gn ns)) ++ ps.map fun z => (z.2.1, mean p S z.2.2)).Perm (behL p S ns).2 := by
          refine List.Perm.append_left _ ?_
          have e := he.pt.s1.map fun z => (z.1, mean p S z.2)
          rw [List.map_map] at e
          exact e
        generalize hL : ((S.filter fun z => decide (z.1 ∉ gn ns)) ++ ps.map fun z => (z.2.1, mean p S z.2.2)) = L at hd' eL
        have Lnd : (L.map (·.1)).Nodup := (eL.map (·.1)).nodup_iff.mpr (behL_keys st.nd he.pc ft.fn)
        have Ll : L.length ≤ 300 := by
          rw [← hL, List.length_append, List.length_map]
          have : (S.filter fun z => decide (z.1 ∉ gn ns)).length ≤ 100 := Nat.le_trans (List.length_filter_le _ _) st.len
          omega
        have heB := he.same sm
        -- the present value
        refine ⟨_, rfl, v, rfl, .inl ⟨_, .inl hv'⟩, _, rfl, x, CE, dx, _, _, rfl, heB.hx, T.cE, T.n1, lE1 .., _, rfl, x, CE, dx, _, _, rfl, heB.hx, T.cE, T.n1, lE1 .., _, DGet.k (k := Sum.inl (runR ns).1) hv', ?_⟩
        have ev : ((valV ((vsL p S G).map entI) (Sum.inl (runR ns).1)).getD (V.int (runR ns).1)) = V.int (mean p S (runR ns).1) := by
          rw [valV_ent, ← lk_vs Gs st.pos (r := (runR ns).1) fun c => he.pt.g1.mem_iff.mpr (refs_neg1 he.pc c)]
          cases lk (vsL p S G) (runR ns).1 <;> rfl
        rw [ev]
        refine ⟨_, rfl, d, L.map entI, L.map (·.1), rfl, .inl hd', by rw [List.map_map, List.map_map]; rfl, fun ys py yp yw nyp => ?_⟩
        have s4 := same_new (o := .lst (ys.map V.int)) nyp
        have hd4 := s4 _ _ hd'
        have yl : ys.length ≤ 300 := by
          have e := yp.length_eq
          rw [List.length_map] at e
          omega
        have hpy : (upd H' py (.lst (ys.map V.int))) py = some (.lst (ys.map V.int)) := upd_same
        have sC := sm.trans s4
        generalize upd H' py (.lst (ys.map V.int)) = H4 at s4 hd4 hpy sC ⊢
        refine ⟨py, rfl, ⟨_, .of hpy⟩, fun D nD => lc_list (xs := ys.map V.int) (fun i H' => Same H4 H' ∧ ∃ rs : List (Addr × Int × Int), H' D = some (.lst (rs.map fun z => V.ref z.1)) ∧ rs.map (·.2) = (ys.take i).map (fun y => (y, (lk L y).getD 0)) ∧ ∀ z ∈ rs, z.1 ≠ D ∧ H' z.1 = some (.tup [.int z.2.1, .int z.2.2])) ⟨same_new nD, [], upd_same, rfl, fun z hz => nomatch hz⟩ (fun i H' _ p => .of (p.1 _ _ hpy)) (fun i y H' hy p => ?_) (fun H' p => ?_)⟩
        · obtain ⟨n, rfl, hn⟩ := get_int hy
          obtain ⟨sm', rs, hD, ers, hrs⟩ := p
          have hi := lt_get hn
          obtain ⟨vv, ev, _⟩ := lk_some (yp.mem_iff.mp (mem_get hn))
          have g := DGet.k (k := Sum.inl n) (sm' _ _ hd4)
          rw [valV_ent, ev] at g
          have l1 := congrArg List.length ers
          rw [List.length_map, List.length_map, List.length_take] at l1
          refine ⟨rfl, ?_⟩
          refine ⟨_, rfl, _, rfl, _, rfl, d, .int vv, rfl, g, by show 2 ≤ sizeLine; decide, fun Tt nT => ?_⟩
          have e4 := same_new (o := .tup [.int n, .int vv]) nT
          have nD0 : Tt ≠ D := fun z => by
            rw [z, hD] at nT
            cases nT
          refine ⟨rs.map fun z => V.ref z.1, e4 _ _ hD, by rw [List.length_map]; exact zl (by omega), Lp.Same.mut (sm'.trans e4) nD, rs ++ [(Tt, n, vv)], ?_, ?_, ?_⟩
          · rw [upd_same, List.map_append]
            rfl
          · rw [List.map_append, ers, take_get hn, List.map_append]
            show _ = _ ++ [(n, (lk L n).getD 0)]
            rw [ev]
            rfl
          · intro z hz
            rcases List.mem_append.mp hz with hz | hz
            · obtain ⟨q1, q2⟩ := hrs z hz
              exact ⟨q1, by rw [upd_ne q1]; exact e4 _ _ q2⟩
            · rw [List.mem_singleton.mp hz]
              exact ⟨nD0, by rw [upd_ne nD0]; exact upd_same⟩
        · obtain ⟨sm', rs, hD, ers, hrs⟩ := p
          rw [List.length_map, List.take_length] at ers
          refine ⟨by show 2 ≤ sizeLine; decide, fun t2 nt2 => ?_⟩
          have s6 := same_new (o := .tup [.int (mean p S (runR ns).1), .ref D]) nt2
          have sB := sC.trans sm'
          refine q _ t2 D rs (sB.trans s6) (sB.free nt2) (sC.free nD) ⟨upd_same, s6 _ _ hD, fun z hz => s6 _ _ (hrs z hz).2⟩ ?_ ?_
          · rw [ers]
            have e2 : (L.map (·.1)).map (fun y => (y, (lk L y).getD 0)) = L := by
              rw [List.map_map]
              refine (List.map_congr_left fun z hz => ?_).trans (List.map_id _)
              show (z.1, (lk L z.1).getD 0) = z
              rw [lk_mem Lnd hz]
              rfl
            have e3 := yp.map (fun y => (y, (lk L y).getD 0))
            rw [e2] at e3
            exact e3.trans eL
          · rw [ers]
            exact List.pairwise_map.mpr yw
end
end L45
set_option Elab.async false
set_option linter.all false
set_option maxRecDepth 100000
namespace L45
open PySem PySem.Spec PyProof.Rows L2 Lp
/-! ### the text of a state -/
theorem piled_le : ∀ (ts : List Str) (m : Nat), (∀ t ∈ ts, t.length ≤ m) → piled ts ≤ ts.length * (m + 2)
  | [], m, _ => Nat.zero_le _
  | t :: r, m, h => by
    have a := piled_le r m fun x hx => h x (List.mem_cons_of_mem _ hx)
    have b := h t List.mem_cons_self
    show t.length + 2 + piled r ≤ (r.length + 1) * (m + 2)
    rw [Nat.succ_mul]
    omega
theorem tupText_le {ts : List Str} {m : Nat} (h0 : ts ≠ []) (h : ∀ t ∈ ts, t.length ≤ m) : (tupleText ts).length ≤ ts.length * (m + 2) + 1 := by
  have a := piled_le ts m h
  have b := join_length_add ts h0
  show (("(" : Str) ++ Str.join ", " ts ++ (if ts.length == 1 then ",)" else ")" : String)).length ≤ _
  rw [Str.length_append, Str.length_append]
  have e1 : ("(" : Str).length = 1 := rfl
  rw [e1]
  split
  · show 1 + (Str.join ", " ts).length + 2 ≤ _
    omega
  · show 1 + (Str.join ", " ts).length + 1 ≤ _
    omega
theorem pair_len {a b : Int} (h : -100 ≤ a ∧ a ≤ 100) (h' : -100 ≤ b ∧ b ≤ 100) : (PyData.tuple [.int a, .int b]).shown.length ≤ 13 := by
  show (tupleText [Str.ofString (toString a), Str.ofString (toString b)]).length ≤ 13
  refine tupText_le (m := 4) (by simp) fun t ht => ?_
  rcases List.mem_cons.mp ht with rfl | ht
  · exact num_len a h.1 h.2
  rcases List.mem_cons.mp ht with rfl | ht
  · exact num_len b h'.1 h'.2
  · exact nomatch ht
theorem shownPairs_mem : ∀ (S : List (Int × Int)) (t : Str), t ∈ PyData.shownAll (S.map fun z => PyData.tuple [.int z.1, .int z.2]) → ∃ z ∈ S, t = (PyData.tuple [.int z.1, .int z.2]).shown
  | [], t, h => by
    have h' : t ∈ ([] : List Str) := h
    cases h'
  | n :: r, t, h => by
    have h' : t ∈ (PyData.tuple [.int n.1, .int n.2]).shown :: PyData.shownAll (r.map fun z => PyData.tuple [.int z.1, .int z.2]) := h
    rcases List.mem_cons.mp h' with e | e
    · exact ⟨n, List.mem_cons_self, e⟩
    · obtain ⟨m, hm, e⟩ := shownPairs_mem r t e
      exact ⟨m, List.mem_cons_of_mem _ hm, e⟩
theorem shownPairs_len : ∀ S : List (Int × Int), (PyData.shownAll (S.map fun z => PyData.tuple [.int z.1, .int z.2])).length = S.length
  | [] => rfl
  | _ :: r => congrArg (· + 1) (shownPairs_len r)
theorem dP_len {S : List (Int × Int)} (hb : ∀ z ∈ S, (-100 ≤ z.1 ∧ z.1 ≤ 100) ∧ -100 ≤ z.2 ∧ z.2 ≤ 100) (hl : S.length ≤ 1000) : (dP S).shown.length ≤ 15002 := by
  show (textFrom 0 "[" (PyData.shownAll (S.map fun z => PyData.tuple [.int z.1, .int z.2])) ++ ("]" : Str)).length ≤ _
  rw [Str.length_append]
  have z := textFrom_le (PyData.shownAll (S.map fun z => PyData.tuple [.int z.1, .int z.2])) 0 "[" 13 (fun t ht => by
    obtain ⟨n, hn, e⟩ := shownPairs_mem S t ht
    rw [e]
    exact pair_len (hb n hn).1 (hb n hn).2)
  rw [shownPairs_len] at z
  have e1 : ("[" : Str).length = 1 := rfl
  have e2 : ("]" : Str).length = 1 := rfl
  rw [e1] at z
  rw [e2]
  omega
theorem show_pairs : ∀ {S : List (Int × Int)}, (∀ z ∈ S, (-100 ≤ z.1 ∧ z.1 ≤ 100) ∧ -100 ≤ z.2 ∧ z.2 ≤ 100) → PyData.showableAll (S.map fun z => PyData.tuple [.int z.1, .int z.2]) = true
  | [], _ => rfl
  | z :: S, h => by
    have hz := h z List.mem_cons_self
    show ((decide (z.1.natAbs.log2 < 1920) && (decide (z.2.natAbs.log2 < 1920) && true)) && PyData.showableAll (S.map fun z => PyData.tuple [.int z.1, .int z.2])) = true
    rw [show_pairs fun y hy => h y (List.mem_cons_of_mem _ hy), decide_eq_true (log2_small hz.1.1 hz.1.2), decide_eq_true (log2_small hz.2.1 hz.2.2)]
    rfl
theorem noDict_pairs : ∀ S : List (Int × Int), PyData.hasDictAll (S.map fun z => PyData.tuple [.int z.1, .int z.2]) = false
  | [] => rfl
  | z :: S => by
    show (false || PyData.hasDictAll (S.map fun z => PyData.tuple [.int z.1, .int z.2])) = false
    rw [noDict_pairs S]
    rfl
theorem depth_pairs : ∀ S : List (Int × Int), PyData.depthAll (S.map fun z => PyData.tuple [.int z.1, .int z.2]) ≤ 1
  | [] => Nat.zero_le _
  | z :: S => by
    show max 1 (PyData.depthAll (S.map fun z => PyData.tuple [.int z.1, .int z.2])) ≤ 1
    exact Nat.max_le.mpr ⟨Nat.le_refl _, depth_pairs S⟩
theorem lay_pairs : ∀ S : List (Int × Int), PyData.canLayAll0 (S.map fun z => PyData.tuple [.int z.1, .int z.2]) = true
  | [] => rfl
  | z :: S => by
    show (true && PyData.canLayAll0 (S.map fun z => PyData.tuple [.int z.1, .int z.2])) = true
    rw [lay_pairs S]
    rfl
theorem shaped_dSt (p : Int) (S : List (Int × Int)) : SeqAt.shaped (dSt p S) = true := by
  show ((true && (PyData.canLayAll0 (S.map fun z => PyData.tuple [.int z.1, .int z.2]) && true)) && decide (max 0 (max (PyData.depthAll (S.map fun z => PyData.tuple [.int z.1, .int z.2]) + 1) 0) + 1 ≤ 64)) = true
  have := depth_pairs S
  rw [lay_pairs S, decide_eq_true (by omega)]
  rfl
theorem rr_st {p : Int} {S : List (Int × Int)} (st : St p S) : (dSt p S).showable = true ∧ (dSt p S).hasDict = false ∧ (dSt p S).depth ≤ 60 ∧ (dSt p S).shown.length ≤ sizeLine := by
  have hb : ∀ z ∈ S, (-100 ≤ z.1 ∧ z.1 ≤ 100) ∧ -100 ≤ z.2 ∧ z.2 ≤ 100 := fun z hz => by
    have := st.rng z hz
    omega
  have hp : -100 ≤ p ∧ p ≤ 100 := by
    have := st.p0
    omega
  have hl := st.len
  refine ⟨?_, ?_, ?_, ?_⟩
  · show (decide (p.natAbs.log2 < 1920) && (PyData.showableAll (S.map fun z => PyData.tuple [.int z.1, .int z.2]) && true)) = true
    rw [show_pairs hb, decide_eq_true (log2_small hp.1 hp.2)]
    rfl
  · show (false || (PyData.hasDictAll (S.map fun z => PyData.tuple [.int z.1, .int z.2]) || false)) = false
    rw [noDict_pairs]
    rfl
  · have := depth_pairs S
    show max 0 (max (PyData.depthAll (S.map fun z => PyData.tuple [.int z.1, .int z.2]) + 1) 0) + 1 ≤ 60
    omega
  · show (tupleText [Str.ofString (toString p), (dP S).shown]).length ≤ sizeLine
    have a := tupText_le (ts := [Str.ofString (toString p), (dP S).shown]) (m := 15002) (by simp) fun t ht => by
      rcases List.mem_cons.mp ht with rfl | ht
      · exact Nat.le_trans (num_len p hp.1 hp.2) (by decide)
      rcases List.mem_cons.mp ht with rfl | ht
      · exact dP_len hb (by omega)
      · exact nomatch ht
    exact zs (Nat.le_trans a (by show 2 * (15002 + 2) + 1 ≤ 100000; decide))
/-! ### the state at the end of a history -/
theorem hl_keys {t : List Int} {k : Int} : k ∈ (hl t).map (·.1) ↔ k ∈ t ∧ 0 < k ∧ -k ∉ t := by
  constructor
  · intro h
    obtain ⟨z, hz, rfl⟩ := List.mem_map.mp h
    exact hl_mem hz
  · rintro ⟨h1, h2, h3⟩
    rw [runL_hl]
    exact List.mem_filter.mpr ⟨List.mem_filter.mpr ⟨h1, decide_eq_true h2⟩, decide_eq_true h3⟩
theorem filt_perm {L : List (Int × Int)} {k v : Int} (nd : (L.map (·.1)).Nodup) (h : lk L k = some v) : (v :: (L.filter fun z => decide (z.1 ≠ k)).map (·.2)).Perm (L.map (·.2)) := by
  induction L with
  | nil => exact nomatch h
  | cons z L ih =>
    rw [List.map_cons, List.nodup_cons] at nd
    rw [lk_cons] at h
    by_cases e : z.1 = k
    · rw [if_pos e] at h
      have e1 : (L.filter fun z => decide (z.1 ≠ k)) = L := List.filter_eq_self.mpr fun y hy => decide_eq_true fun q => nd.1 (by rw [e, ← q]; exact List.mem_map.mpr ⟨y, hy, rfl⟩)
      rw [List.filter_cons_of_neg (by rw [decide_eq_false (fun q => q e)]; exact Bool.false_ne_true), e1, List.map_cons, Option.some.inj h]
    · rw [if_neg e] at h
      rw [List.filter_cons_of_pos (p := fun z : Int × Int => decide (z.1 ≠ k)) (by exact decide_eq_true e), List.map_cons, List.map_cons]
      exact (List.Perm.swap _ _ _).trans ((ih nd.2 h).cons z.2)
theorem hist_vals {ns : List Int} (hh : Hist ns) : ∀ i, i ≤ ns.length → ((runR (ns.take i)).1 :: (hl (ns.take i)).map (·.2)).Nodup ∧ ∀ v ∈ (runR (ns.take i)).1 :: (hl (ns.take i)).map (·.2), v = 0 ∨ (v ∈ ns.take i ∧ 0 < v)
  | 0, _ => by
    rw [List.take_zero]
    refine ⟨List.nodup_cons.mpr ⟨List.not_mem_nil, List.nodup_nil⟩, fun v hv => .inl ?_⟩
    exact List.mem_singleton.mp hv
  | i + 1, h => by
    have he : ns[i]? = some (ns[i]'(by omega)) := List.getElem?_eq_getElem (by omega)
    obtain ⟨i1, i2⟩ := hist_vals hh i (by omega)
    have hnt := not_mem_take hh.nd he
    have ho := hh.piece.ord _ _ he
    have hr := hh.ord _ _ he
    have h0 := (hh.rng _ (mem_get he)).1
    have nd := hh.nd.sublist (List.take_sublist i ns)
    rw [take_get he]
    generalize ns[i]'(by omega) = e at *
    generalize ns.take i = t at *
    by_cases hpos : 0 < e
    · have eS : runR (t ++ [e]) = (e, (runR t).2 ++ [(e, (runR t).1)]) := by rw [runR_snoc]; exact if_pos hpos
      rw [eS, hl_start hpos (ho hpos), List.map_append]
      have pm : (e :: ((hl t).map (·.2) ++ [(runR t).1])).Perm (e :: (runR t).1 :: (hl t).map (·.2)) := (List.perm_append_singleton _ _).cons e
      refine ⟨pm.nodup_iff.mpr (List.nodup_cons.mpr ⟨fun c => ?_, i1⟩), fun v hv => ?_⟩
      · rcases i2 e c with q | q
        · exact h0 q
        · exact hnt q.1
      · rcases List.mem_cons.mp (pm.mem_iff.mp hv) with rfl | hv
        · exact .inr ⟨List.mem_append_right _ (List.mem_singleton.mpr rfl), hpos⟩
        · rcases i2 v hv with q | q
          · exact .inl q
          · exact .inr ⟨List.mem_append_left _ q.1, q.2⟩
    · have hk := hr (by omega)
      obtain ⟨v, hv, _⟩ := lk_some (l := (runR t).2) (k := -e) (keysR_mem.mpr ⟨hk, by omega⟩)
      have eS : runR (t ++ [e]) = (v, (runR t).2) := by
        rw [runR_snoc]
        have e2 : stepR (runR t) e = ((lk (runR t).2 (-e)).getD e, (runR t).2) := if_neg hpos
        rw [e2, hv]
        rfl
      have hv' : lk (hl t) (-e) = some v := by rw [lk_hl hnt, hv]
      have pm := filt_perm ((keysR_nd nd).sublist (List.filter_sublist.map _)) hv'
      rw [eS, hl_stop (show e < 0 by omega)]
      refine ⟨pm.nodup_iff.mpr (List.nodup_cons.mp i1).2, fun u hu => ?_⟩
      rcases i2 u (List.mem_cons_of_mem _ (pm.mem_iff.mp hu)) with q | q
      · exact .inl q
      · exact .inr ⟨List.mem_append_left _ q.1, q.2⟩
theorem hist_vals1 {ns : List Int} (hh : Hist ns) : ((runR ns).1 :: (hl ns).map (·.2)).Nodup ∧ ∀ v ∈ (runR ns).1 :: (hl ns).map (·.2), v = 0 ∨ (v ∈ ns ∧ 0 < v) := by
  have z := hist_vals hh ns.length (Nat.le_refl _)
  rw [List.take_length] at z
  exact z
theorem hist_st {ns : List Int} {S : List (Int × Int)} (hh : Hist ns) (pm : S.Perm (hl ns)) (pw : S.Pairwise fun x y => x.1 ≤ y.1) : St (runR ns).1 S := by
  obtain ⟨v1, v2⟩ := hist_vals1 hh
  have rv : ∀ v ∈ (runR ns).1 :: (hl ns).map (·.2), 0 ≤ v ∧ v ≤ 100 := fun v hv => by
    rcases v2 v hv with q | q
    · omega
    · have := hh.rng v q.1
      omega
  refine ⟨rv _ List.mem_cons_self, fun z hz => ?_, ?_, ?_⟩
  · have hz' := pm.mem_iff.mp hz
    have a := hl_mem hz'
    have b := hh.rng _ a.1
    exact ⟨by omega, rv _ (List.mem_cons_of_mem _ (List.mem_map.mpr ⟨z, hz', rfl⟩))⟩
  · have nd : (S.map (·.1)).Nodup := (pm.map (·.1)).nodup_iff.mpr ((keysR_nd hh.nd).sublist (List.filter_sublist.map _))
    have nd' : (S.map (·.1)).Pairwise (· ≠ ·) := nd
    exact (List.Pairwise.and (List.pairwise_map.mpr pw) nd').imp fun ⟨a, b⟩ => Int.lt_iff_le_and_ne.mpr ⟨a, b⟩
  · exact ((pm.map (·.2)).cons _).nodup_iff.mpr v1
theorem hist_fits {us vs : List Int} {S : List (Int × Int)} (hh : Hist us) (hv : Hist (us ++ vs)) (pm : S.Perm (hl us)) : Fits (runR us).1 S vs := by
  have nd := (List.nodup_append.mp hv.nd).2.2
  refine ⟨fun k hk h0 c => ?_, fun k hk h0 c => ?_, fun k hk => ?_⟩
  · have a := hl_keys.mp ((pm.map (·.1)).mem_iff.mp c)
    exact nd _ a.1 _ hk rfl
  · rcases (hist_vals1 hh).2 k (((pm.map (·.2)).cons _).mem_iff.mp c) with q | q
    · omega
    · exact nd _ q.1 _ hk rfl
  · obtain ⟨h0, h1, h2⟩ := gn_mem.mp hk
    refine (pm.map (·.1)).mem_iff.mpr (hl_keys.mpr ⟨?_, h0, fun c => nd _ c _ h1 rfl⟩)
    obtain ⟨j, hj, ej⟩ := List.mem_iff_getElem.mp h1
    have he : (us ++ vs)[us.length + j]? = some (-k) := by
      rw [List.getElem?_append_right (by omega), Nat.add_sub_cancel_left, List.getElem?_eq_getElem hj, ej]
    have ho := hv.ord _ _ he (by omega)
    rw [Int.neg_neg, List.take_length_add_append] at ho
    rcases List.mem_append.mp ho with q | q
    · exact q
    · exact absurd (List.mem_of_mem_take q) h2
theorem lk_perm {S S' : List (Int × Int)} (pm : S.Perm S') (nd : (S.map (·.1)).Nodup) (k : Int) : lk S k = lk S' k := by
  have nd' := (pm.map (·.1)).nodup_iff.mp nd
  cases h : lk S k with
  | none =>
    cases h' : lk S' k with
    | none => rfl
    | some v =>
      have hm : k ∈ S'.map (·.1) := Classical.byContradiction fun c => by rw [lk_none c] at h'; cases h'
      obtain ⟨u, hu, _⟩ := lk_some ((pm.map (·.1)).mem_iff.mpr hm)
      rw [h] at hu
      cases hu
  | some v =>
    have hm : k ∈ S.map (·.1) := Classical.byContradiction fun c => by rw [lk_none c] at h; cases h
    obtain ⟨u, hu, hmem⟩ := lk_some hm
    rw [h] at hu
    cases hu
    exact (lk_mem nd' (pm.mem_iff.mp hmem)).symm
theorem behL_perm {S S' : List (Int × Int)} (pm : S.Perm S') (nd : (S.map (·.1)).Nodup) (p : Int) (ns : List Int) : (behL p S ns).1 = (behL p S' ns).1 ∧ (behL p S ns).2.Perm (behL p S' ns).2 := by
  have em : mean p S = mean p S' := funext fun r => by
    unfold mean
    rw [lk_perm pm nd]
  unfold behL
  rw [em]
  exact ⟨rfl, (pm.filter _).append_right _⟩
theorem okD_pairs : ∀ S : List (Int × Int), ∀ x ∈ S.map (fun z => PyData.tuple [.int z.1, .int z.2]), okD 1 x := by
  intro S x hx
  obtain ⟨z, _, rfl⟩ := List.mem_map.mp hx
  refine ⟨by show 2 < 100000; decide, fun y hy => ?_⟩
  rcases List.mem_cons.mp hy with rfl | hy
  · trivial
  · rcases List.mem_cons.mp hy with rfl | hy
    · trivial
    · exact nomatch hy
theorem okD_ints {n : Nat} {l : List Int} (h : l.length < 100000) : okD (n + 1) (dI l) := by
  refine ⟨by rw [List.length_map]; exact h, fun x hx => ?_⟩
  obtain ⟨z, _, rfl⟩ := List.mem_map.mp hx
  cases n <;> trivial
theorem okD_of {p : Int} {S : List (Int × Int)} {G E : List Int} (h1 : S.length < 100000) (h2 : G.length < 100000) (h3 : E.length < 100000) : okD 3 (dOf p S G E) := by
  refine ⟨by show 4 < 100000; decide, fun x hx => ?_⟩
  rcases List.mem_cons.mp hx with rfl | hx
  · trivial
  rcases List.mem_cons.mp hx with rfl | hx
  · exact ⟨by rw [List.length_map]; exact h1, okD_pairs S⟩
  rcases List.mem_cons.mp hx with rfl | hx
  · exact okD_ints h2
  rcases List.mem_cons.mp hx with rfl | hx
  · exact okD_ints h3
  · exact nomatch hx
theorem eqvAll_pairs : ∀ S S' : List (Int × Int), PyData.eqvAll (S.map fun z => PyData.tuple [.int z.1, .int z.2]) (S'.map fun z => PyData.tuple [.int z.1, .int z.2]) = decide (S = S')
  | [], [] => rfl
  | [], _ :: _ => rfl
  | _ :: _, [] => rfl
  | z :: S, y :: S' => by
    show (((z.1 == y.1) && ((z.2 == y.2) && true)) && PyData.eqvAll (S.map fun z => PyData.tuple [.int z.1, .int z.2]) (S'.map fun z => PyData.tuple [.int z.1, .int z.2])) = decide (z :: S = y :: S')
    rw [eqvAll_pairs S S', Bool.and_true]
    obtain ⟨a, b⟩ := z
    obtain ⟨c, d⟩ := y
    by_cases e1 : a = c <;> by_cases e2 : b = d <;> by_cases e3 : S = S' <;> simp [e1, e2, e3]
theorem eqv_dP (S S' : List (Int × Int)) : PyData.eqv (dP S) (dP S') = decide (S = S') := eqvAll_pairs S S'
theorem eqv_st (p : Int) (S : List (Int × Int)) : PyData.eqv (dSt p S) (dSt p S) = true := by
  show ((p == p) && (PyData.eqvAll (S.map fun z => PyData.tuple [.int z.1, .int z.2]) (S.map fun z => PyData.tuple [.int z.1, .int z.2]) && true)) = true
  rw [eqvAll_pairs S S, beq_self_eq_true, decide_eq_true rfl]
  rfl
end L45
set_option Elab.async false
set_option linter.all false
set_option maxRecDepth 100000
namespace L45
open PySem PySem.Spec PyProof.Rows L2 Lp
open L2.DX
/-! ### effects by their pieces -/
def cS (ns : List Int) : List (Int × Int) := (hl ns).mergeSort fun x y => decide (x.1 ≤ y.1)
def cG (ns : List Int) : List Int := (gn ns).mergeSort fun x y => decide (x ≤ y)
def cE (ns : List Int) : List Int := (en ns).mergeSort fun x y => decide (x ≤ y)
theorem msort_i (l : List Int) : (l.mergeSort fun x y => decide (x ≤ y)).Pairwise (· ≤ ·) :=
  (List.pairwise_mergeSort (le := fun x y => decide (x ≤ y)) (fun a b c h1 h2 => decide_eq_true (Int.le_trans (of_decide_eq_true h1) (of_decide_eq_true h2))) (fun a b => by
    rcases Int.le_total a b with h | h
    · rw [decide_eq_true h]; rfl
    · rw [decide_eq_true h, Bool.or_true]) l).imp fun h => of_decide_eq_true h
theorem msort_p (l : List (Int × Int)) : (l.mergeSort fun x y => decide (x.1 ≤ y.1)).Pairwise fun x y => x.1 ≤ y.1 :=
  (List.pairwise_mergeSort (le := fun x y => decide (x.1 ≤ y.1)) (fun a b c h1 h2 => decide_eq_true (Int.le_trans (of_decide_eq_true h1) (of_decide_eq_true h2))) (fun a b => by
    rcases Int.le_total a.1 b.1 with h | h
    · rw [decide_eq_true h]; rfl
    · rw [decide_eq_true h, Bool.or_true]) l).imp fun h => of_decide_eq_true h
theorem parts_c (ns : List Int) : Parts ns (cS ns) (cG ns) (cE ns) := ⟨List.mergeSort_perm _ _, msort_p _, List.mergeSort_perm _ _, msort_i _, List.mergeSort_perm _ _, msort_i _⟩
theorem Parts.eqc {ns : List Int} {S : List (Int × Int)} {G E : List Int} (nd : ns.Nodup) (h : Parts ns S G E) : S = cS ns ∧ G = cG ns ∧ E = cE ns := Parts.uniq nd h (parts_c ns)
theorem cS_len (ns : List Int) : (cS ns).length ≤ ns.length := by
  rw [(parts_c ns).s1.length_eq]
  exact hl_len ns
theorem cG_len (ns : List Int) : (cG ns).length ≤ ns.length := by
  rw [(parts_c ns).g1.length_eq]
  exact gn_len ns
theorem cE_len (ns : List Int) : (cE ns).length ≤ ns.length := by
  rw [(parts_c ns).e1.length_eq]
  exact en_len ns
/-- the parts of an effect as data -/
def dE (ns : List Int) : PyData := dOf (runR ns).1 (cS ns) (cG ns) (cE ns)
def EffX (CE : Addr) (H : Hp) (x : Addr) (ns : List Int) : Prop := ∃ dx a1 a3 a4 a5 ps G E, Eff CE H x dx a1 a3 a4 a5 ns ps G E
theorem EffX.same {CE : Addr} {H H' : Hp} {x : Addr} {ns : List Int} (h : EffX CE H x ns) (s : Same H H') : EffX CE H' x ns := by
  obtain ⟨dx, a1, a3, a4, a5, ps, G, E, he⟩ := h
  exact ⟨dx, a1, a3, a4, a5, ps, G, E, he.same s⟩
theorem EffX.pc {CE : Addr} {H : Hp} {x : Addr} {ns : List Int} (h : EffX CE H x ns) : Piece ns := by
  obtain ⟨dx, a1, a3, a4, a5, ps, G, E, he⟩ := h
  exact he.pc
/-- two effects are equal -/
def EqE (ns ms : List Int) : Prop := (runR ns).1 = (runR ms).1 ∧ cS ns = cS ms ∧ cG ns = cG ms ∧ cE ns = cE ms
instance (ns ms : List Int) : Decidable (EqE ns ms) := by unfold EqE; infer_instance
theorem EqE.refl (ns : List Int) : EqE ns ns := ⟨rfl, rfl, rfl, rfl⟩
section
variable {P : Program} {w : World} {K : PySem.W.Frag} {mg : Str → Option Value} {base : Heap} {CE : Addr}
theorem mkE {H : Hp} {l : Addr} {ns : List Int} {Q : VK} (hl : H l = some (.lst (ns.map V.int))) (pc : Piece ns) (q : ∀ H' x, Same H H' → EffX CE H' x ns → Q (.ref x) H') (x dx : Addr) (nx : H x = none) (ndx : H dx = none) (nex : dx ≠ x) :
    spInit CE (.ref x :: ([.ref l] ++ [])) (upd (upd H dx (.own x)) x (.ins CE dx [])) (fun v H2 => v = .non ∧ Q (.ref x) H2) E0 := by
  refine ⟨x, dx, l, ns, rfl, ?_, pc, upd_same, fun H' a1 a3 a4 a5 ps G E he bt _ _ _ _ => ⟨rfl, q H' x (fun y o e => bt y o (ne_of_none e nx) ?_) ⟨dx, a1, a3, a4, a5, ps, G, E, he⟩⟩⟩
  · rw [upd_ne (ne_of_none hl nx), upd_ne (ne_of_none hl ndx)]
    exact hl
  · rw [upd_ne (ne_of_none e nx), upd_ne (ne_of_none e ndx)]
    exact e
theorem FnG.weaken {k : Nat} {f : Addr} {fd : FuncData} {ps : List Str} {sp sp' : Sp} (F : FnG P w K mg base CX0 k f fd ps sp) (h : ∀ vs H Q E, sp' vs H Q E → sp vs H Q E) : FnG P w K mg base CX0 k f fd ps sp' :=
  ⟨fun vs H Q E q => F.len vs H Q E (h vs H Q E q), fun A out s H ar us vs Q E hG hr en bd rv q => F.runG A out s H ar us vs Q E hG hr en bd rv (h vs H Q E q)⟩
end
open L2.DX
section
variable {P : Program} {w : World} {K : PySem.W.Frag} {mg : Str → Option Value} {base : Heap} {CE : Addr}
theorem kit_self (K : PySem.W.Frag) (C : Addr) : PySem.W.kitOne K (.ref C) (.ref C) = some true := by
  unfold PySem.W.kitOne
  rw [if_pos (beq_self_eq_true _)]
structure TxI (K : PySem.W.Frag) (mg : Str → Option Value) (CE : Addr) : Prop where
  c : mg "Effect" = some (.ref CE)
  ha : PySem.W.findIn K (.ref CE) "__class__" = some (some (.builtin "object.__class__"))
  hn : PySem.W.specialIn K (.builtin "object.__class__") "__get__" = some (some (.builtin "getset_descriptor.__get__"))
  ht : PySem.W.takesIn K (.builtin "object.__class__") = some true
  hm : PySem.W.mroIn K CE (.type "object") = some true
  kt : PySem.W.kitOne K (.ref CE) (.ref CE) = some true
theorem EffX.ty {H : Hp} {x : Addr} {ns : List Int} (h : EffX CE H x ns) (T : Txt K CE) (TI : TxI K mg CE) : TyX K H (.ref x) (.ref CE) := by
  obtain ⟨dx, a1, a3, a4, a5, ps, G, E, he⟩ := h
  exact .base (.ins he.hx T.cE TI.ha TI.hn TI.ht TI.hm)
/-! ### __add__, __eq__ -/
def spAdd (CE : Addr) : Sp := fun vs H Q _ => ∃ (x y : Addr) (ns ms : List Int), vs = [.ref x, .ref y] ∧ EffX CE H x ns ∧ EffX CE H y ms ∧ Piece (ns ++ ms) ∧ ∀ H' z, Same H H' → EffX CE H' z (ns ++ ms) → Q (.ref z) H'
theorem ok_Effect_add {f : Addr} {fd : FuncData} (F : Fun K "__add__" "Effect.__add__" s_Effect_add f fd) (B : NoB mg) (T : Txt K CE) (TI : TxI K mg CE) (T_is_piece : Cal P w K mg base 5 "is_piece" (spIsPiece K)) (T_mk_Effect : Mak P w K mg base 6 "Effect" CE (spInit CE)) : FnOk P w K mg base CX0 8 f fd ["self", "other"] (spAdd CE) := by
  have T_c_Effect := TI.c
  refine F.ok sc_Effect_add (fun vs H Q E h => ?_) (fun cdv A outer s H vs Q E hr h => ?_)
  · obtain ⟨x, y, ns, ms, rfl, _⟩ := h
    rfl
  · obtain ⟨x, y, ns, ms, rfl, hx, hy, pc, q⟩ := h
    have ty := hy.ty T TI
    obtain ⟨dx, a1, a3, a4, a5, ps, G, E, he⟩ := id hx
    obtain ⟨dy, b1, b3, b4, b5, qs, G', E', hf⟩ := id hy
    have pl := pc.len
    rw [List.length_append] at pl
    refine ⟨_, (pss_cons (ps_if (pt_not (pt_val (pe_callB call_isi (by rfl) B.isinstance (by decide +kernel) (pa_cons (pv 1) (pa_cons (pe_glob (v := .ref CE) (by rfl) T_c_Effect rfl) pa_nil))))) (pss_one ps_never) pss_nil)
        (pss_cons (ps_set (i := 2) sc_Effect_add.nd rfl (Or.inl rfl) (pe_op op_cat (pe_fld (pv 0) rfl) (pe_fld (pv 1) rfl)))
        (pss_cons (ps_if (pt_not (pt_val (pe_c T_is_piece hr (by decide) (by rfl) (pa_cons (pv 2) pa_nil)))) (pss_one ps_never) pss_nil)
        (pss_one (ps_ret (pe_mk T_mk_Effect hr (by decide) (by rfl) (pa_cons (pv 2) pa_nil))))))), ?_⟩
    refine ⟨_, rfl, _, _, _, _, true, rfl, .own _, ty, TI.kt, _, rfl, iteF ?_⟩
    refine ⟨_, rfl, x, CE, dx, _, _, rfl, he.hx, T.cE, T.n0, lE0 .., _, rfl, y, CE, dy, _, _, rfl, hf.hx, T.cE, T.n0, lE0 .., a1, b1, _, _, rfl, rfl, he.h1, hf.h1, ?_, fun l nl => ?_⟩
    · rw [List.length_map, List.length_map]
      exact zs (by omega)
    have s1 := same_new (o := .lst (ns.map V.int ++ ms.map V.int)) nl
    have hl : (upd H l (.lst (ns.map V.int ++ ms.map V.int))) l = some (.lst ((ns ++ ms).map V.int)) := by rw [upd_same, List.map_append]
    refine ⟨_, rfl, l, ns ++ ms, rfl, .of hl, pc, fun H2 s2 => ⟨_, rfl, iteF ?_⟩⟩
    exact ⟨_, rfl, mkE (s2 _ _ hl) pc fun H3 z s3 hz => q H3 z ((s1.trans s2).trans s3) hz⟩
def spEqE (CE : Addr) : Sp := fun vs H Q _ => ∃ (x y : Addr) (ns ms : List Int), vs = [.ref x, .ref y] ∧ EffX CE H x ns ∧ EffX CE H y ms ∧ Q (.bl (decide (EqE ns ms))) H
theorem shaped_dP (S : List (Int × Int)) : SeqAt.shaped (dP S) = true := by
  show ((PyData.canLayAll0 (S.map fun z => PyData.tuple [.int z.1, .int z.2])) && decide (PyData.depthAll (S.map fun z => PyData.tuple [.int z.1, .int z.2]) + 1 ≤ 64)) = true
  have := depth_pairs S
  rw [lay_pairs S, decide_eq_true (by omega)]
  rfl
theorem ok_Effect_eq {f : Addr} {fd : FuncData} (F : Fun K "__eq__" "Effect.__eq__" s_Effect_eq f fd) (B : NoB mg) (T : Txt K CE) (TI : TxI K mg CE) : FnOk P w K mg base CX0 1 f fd ["self", "other"] (spEqE CE) := by
  have T_c_Effect := TI.c
  refine F.ok sc_Effect_eq (fun vs H Q E h => ?_) (fun cdv A outer s H vs Q E hr h => ?_)
  · obtain ⟨x, y, ns, ms, rfl, _⟩ := h
    rfl
  · obtain ⟨x, y, ns, ms, rfl, hx, hy, q⟩ := h
    have hu64 := hr.units
    have ty := hy.ty T TI
    obtain ⟨dx, a1, a3, a4, a5, ps, G, E, he⟩ := id hx
    obtain ⟨dy, b1, b3, b4, b5, qs, G', E', hf⟩ := id hy
    obtain ⟨eS, eG, eE⟩ := he.pt.eqc he.pc.nd
    obtain ⟨fS, fG, fE⟩ := hf.pt.eqc hf.pc.nd
    subst eG eE fG fE
    have d3 : Dp K H (.ref a3) (dP (cS ns)) := by
      rw [← eS]
      exact .lst (.of he.h3) (dpAll_pairs ps he.hp)
    have e3 : Dp K H (.ref b3) (dP (cS ms)) := by
      rw [← fS]
      exact .lst (.of hf.h3) (dpAll_pairs qs hf.hp)
    refine ⟨_, (pss_cons (ps_if (pt_not (pt_val (pe_callB call_isi (by rfl) B.isinstance (by decide +kernel) (pa_cons (pv 1) (pa_cons (pe_glob (v := .ref CE) (by rfl) T_c_Effect rfl) pa_nil))))) (pss_one (ps_ret pe_bl)) pss_nil)
        (pss_cons (ps_if (PW.pt (pw_or (pt_cmpR op_ne (pe_fld (pv 0) rfl) (pe_fld (pv 1) rfl) (nomark _)) (pw_or1 (pt_cmpR (op_neD hu64) (pe_fld (pv 0) rfl) (pe_fld (pv 1) rfl) (nomark _))))) (pss_one (ps_ret pe_bl)) pss_nil)
        (pss_one (ps_ret (pe_and (pe_cmpR (op_eqD hu64) (pe_fld (pv 0) rfl) (pe_fld (pv 1) rfl) (nomark _)) (pe_one (pe_cmpR (op_eqD hu64) (pe_fld (pv 0) rfl) (pe_fld (pv 1) rfl) (nomark _)))))))), ?_⟩
    refine ⟨_, rfl, _, _, _, _, true, rfl, .own _, ty, TI.kt, _, rfl, iteF ?_⟩
    by_cases c1 : (runR ns).1 = (runR ms).1
    · refine ⟨_, rfl, x, CE, dx, _, _, rfl, he.hx, T.cE, T.n1, lE1 .., _, rfl, y, CE, dy, _, _, rfl, hf.hx, T.cE, T.n1, lE1 .., rfl, false, nF (congrArg V.int c1), ?_⟩
      by_cases c2 : cS ns = cS ms
      · refine ⟨_, rfl, x, CE, dx, _, _, rfl, he.hx, T.cE, T.n2, lE2 .., _, rfl, y, CE, dy, _, _, rfl, hf.hx, T.cE, T.n2, lE2 .., dP (cS ns), dP (cS ms), d3, e3, shaped_dP _, shaped_dP _, false, ?_, iteF ?_⟩
        · rw [eqv_dP, decide_eq_true c2]
          rfl
        refine ⟨_, rfl, x, CE, dx, _, _, rfl, he.hx, T.cE, T.n3, lE3 .., _, rfl, y, CE, dy, _, _, rfl, hf.hx, T.cE, T.n3, lE3 .., dI (cG ns), dI (cG ms), dp_ints (.of he.h4), dp_ints (.of hf.h4), shaped_ints _, shaped_ints _, ?_⟩
        by_cases c3 : cG ns = cG ms
        · refine ⟨true, eqvT c3, iteT ?_⟩
          refine ⟨_, rfl, x, CE, dx, _, _, rfl, he.hx, T.cE, T.n4, lE4 .., _, rfl, y, CE, dy, _, _, rfl, hf.hx, T.cE, T.n4, lE4 .., dI (cE ns), dI (cE ms), dp_ints (.of he.h5), dp_ints (.of hf.h5), shaped_ints _, shaped_ints _, ?_⟩
          rw [eqv_ints]
          have e : decide (cE ns = cE ms) = decide (EqE ns ms) := decide_eq_decide.mpr ⟨fun h => ⟨c1, c2, c3, h⟩, fun h => h.2.2.2⟩
          rw [e]
          exact q
        · refine ⟨false, eqvF c3, iteF ?_⟩
          rw [decide_eq_false (fun h => c3 h.2.2.1)] at q
          exact q
      · refine ⟨_, rfl, x, CE, dx, _, _, rfl, he.hx, T.cE, T.n2, lE2 .., _, rfl, y, CE, dy, _, _, rfl, hf.hx, T.cE, T.n2, lE2 .., dP (cS ns), dP (cS ms), d3, e3, shaped_dP _, shaped_dP _, true, ?_, iteT ?_⟩
        · rw [eqv_dP, decide_eq_false c2]
          rfl
        rw [decide_eq_false (fun h => c2 h.2.1)] at q
        exact q
    · refine ⟨_, rfl, x, CE, dx, _, _, rfl, he.hx, T.cE, T.n1, lE1 .., _, rfl, y, CE, dy, _, _, rfl, hf.hx, T.cE, T.n1, lE1 .., rfl, true, nT (fun z => c1 (V.int.inj z)), iteT ?_⟩
      rw [decide_eq_false (fun h => c1 h.1)] at q
      exact q
end
section
variable {P : Program} {w : World} {K : PySem.W.Frag} {mg : Str → Option Value} {base : Heap} {CE : Addr}
def spRefsX (K : PySem.W.Frag) : Sp := fun vs H Q _ => ∃ (a : Addr) (ns : List Int), vs = [.ref a] ∧ SqL K H a (ns.map V.int) ∧ Piece ns ∧ ∀ H' r, Same H H' → Dp K H' (.ref r) (dE ns) → Q (.ref r) H'
theorem refs_x (vs : List V) (H : Hp) (Q : VK) (E : XK) (h : spRefsX K vs H Q E) : spRefs K vs H Q E := by
  obtain ⟨a, ns, rfl, hS, pc, q⟩ := h
  refine ⟨a, ns, rfl, hS, pc, fun H' r S G E' s _ hp hd => q H' r s ?_⟩
  obtain ⟨rfl, rfl, rfl⟩ := hp.eqc pc.nd
  exact hd H' fun _ _ _ e => e
theorem okD_dE {ns : List Int} (h : ns.length < 100000) : okD 3 (dE ns) := okD_of (by have := cS_len ns; omega) (by have := cG_len ns; omega) (by have := cE_len ns; omega)
end
section
variable {P : Program} {w : World} {K : PySem.W.Frag} {mg : Str → Option Value} {base : Heap} {CE : Addr}
/-- x + y, x == y, x != y, len(x) -/
theorem addE {H : Hp} {x y : Addr} {ns ms : List Int} {Q : VK} (hx : EffX CE H x ns) (hy : EffX CE H y ms) (pc : Piece (ns ++ ms)) (q : ∀ H' z, Same H H' → EffX CE H' z (ns ++ ms) → Q (.ref z) H') : rAddO CE (spAdd CE) (.ref x) (.ref y) H Q := by
  obtain ⟨dx, a1, a3, a4, a5, ps, G, E, he⟩ := id hx
  obtain ⟨dy, b1, b3, b4, b5, qs, G', E', hf⟩ := id hy
  exact ⟨x, y, dx, dy, _, _, rfl, rfl, he.hx, hf.hx, x, y, ns, ms, rfl, hx, hy, pc, q⟩
theorem eqE {H : Hp} {x y : Addr} {ns ms : List Int} {Q : VK} (hx : EffX CE H x ns) (hy : EffX CE H y ms) (q : Q (.bl (decide (EqE ns ms))) H) : rAddO CE (spEqE CE) (.ref x) (.ref y) H Q := by
  obtain ⟨dx, a1, a3, a4, a5, ps, G, E, he⟩ := id hx
  obtain ⟨dy, b1, b3, b4, b5, qs, G', E', hf⟩ := id hy
  exact ⟨x, y, dx, dy, _, _, rfl, rfl, he.hx, hf.hx, x, y, ns, ms, rfl, hx, hy, q⟩
theorem neE {H : Hp} {x y : Addr} {ns ms : List Int} {Q : VK} (hx : EffX CE H x ns) (hy : EffX CE H y ms) (q : Q (.bl (!decide (EqE ns ms))) H) : rNeO CE (spEqE CE) (.ref x) (.ref y) H Q := by
  obtain ⟨dx, a1, a3, a4, a5, ps, G, E, he⟩ := id hx
  obtain ⟨dy, b1, b3, b4, b5, qs, G', E', hf⟩ := id hy
  exact ⟨x, y, dx, dy, _, _, rfl, rfl, he.hx, hf.hx, x, y, ns, ms, rfl, hx, hy, _, rfl, q⟩
end
open L2.DX
theorem Piece.left {a b : List Int} (h : Piece (a ++ b)) : Piece a := by
  have e := h.cut 0 a.length
  rw [List.take_left, List.drop_zero] at e
  exact e
theorem Piece.right {a b : List Int} (h : Piece (a ++ b)) : Piece b := by
  have e := h.cut a.length (a ++ b).length
  rw [List.take_length, List.drop_left] at e
  exact e
/-- .. apart from the list at D that is being made -/
def EffD (CE D : Addr) (H : Hp) (x : Addr) (ns : List Int) : Prop := ∃ dx a1 a3 a4 a5 ps G E, Eff CE H x dx a1 a3 a4 a5 ns ps G E ∧ a1 ≠ D ∧ a3 ≠ D ∧ a4 ≠ D ∧ a5 ≠ D
section
variable {CE D : Addr} {H H' : Hp} {x r : Addr} {ns : List Int}
theorem EffD.same (h : EffD CE D H x ns) (s : Same H H') : EffD CE D H' x ns := by
  obtain ⟨dx, a1, a3, a4, a5, ps, G, E, he, n⟩ := h
  exact ⟨dx, a1, a3, a4, a5, ps, G, E, he.same s, n⟩
theorem EffD.put {xs ys : List V} (h : EffD CE D H x ns) (hD : H D = some (.lst xs)) : EffD CE D (upd H D (.lst ys)) x ns := by
  obtain ⟨dx, a1, a3, a4, a5, ps, G, E, he, n1, n3, n4, n5⟩ := h
  exact ⟨dx, a1, a3, a4, a5, ps, G, E, he.mut hD n1 n3 n4 n5, n1, n3, n4, n5⟩
theorem EffD.toX (h : EffD CE D H x ns) : EffX CE H x ns := by
  obtain ⟨dx, a1, a3, a4, a5, ps, G, E, he, _⟩ := h
  exact ⟨dx, a1, a3, a4, a5, ps, G, E, he⟩
theorem up2 {dx : Addr} {b : Addr} {o : HO} (nx : H x = none) (ndx : H dx = none) (e : H b = some o) : (upd (upd H dx (.own x)) x (.ins CE dx [])) b = some o := by
  rw [upd_ne (ne_of_none e nx), upd_ne (ne_of_none e ndx)]
  exact e
theorem same2 {dx : Addr} (nx : H x = none) (ndx : H dx = none) (bt : But x (upd (upd H dx (.own x)) x (.ins CE dx [])) H') : Same H H' := fun y o e => bt y o (ne_of_none e nx) (up2 nx ndx e)
theorem EffX.at_ (h : EffX CE H x ns) : ∃ dx fs, H x = some (.ins CE dx fs) := by
  obtain ⟨dx, a1, a3, a4, a5, ps, G, E, he⟩ := h
  exact ⟨dx, _, he.hx⟩
end
def spInitN (CE : Addr) : Sp := fun vs H Q _ => ∃ (x dx a : Addr) (ns : List Int), vs = [.ref x, .ref a] ∧ H a = some (.lst (ns.map V.int)) ∧ Piece ns ∧ H x = some (.ins CE dx []) ∧ ∀ H', But x H H' → (∀ D o, H D = some o → EffD CE D H' x ns) → Q .non H'
theorem init_n {CE : Addr} (vs : List V) (H : Hp) (Q : VK) (E : XK) (h : spInitN CE vs H Q E) : spInit CE vs H Q E := by
  obtain ⟨x, dx, a, ns, rfl, ha, pc, hx, q⟩ := h
  refine ⟨x, dx, a, ns, rfl, ha, pc, hx, fun H' a1 a3 a4 a5 ps G E he bt f1 f3 f4 f5 => q H' bt fun D o hD => ?_⟩
  have nD : ∀ {b : Addr}, H b = none → b ≠ D := fun {b} n e => by
    rw [e, hD] at n
    cases n
  exact ⟨dx, a1, a3, a4, a5, ps, G, E, he, nD f1, nD f3, nD f4, nD f5⟩
section
variable {P : Program} {w : World} {K : PySem.W.Frag} {mg : Str → Option Value} {base : Heap} {k : Nat} {n : Str} {sp sp' : Sp} {C : Addr}
theorem FnOk.weaken {CX : CXT} {f : Addr} {fd : FuncData} {ps : List Str} (F : FnOk P w K mg base CX k f fd ps sp) (h : ∀ vs H Q E, sp' vs H Q E → sp vs H Q E) : FnOk P w K mg base CX k f fd ps sp' :=
  ⟨fun vs H Q E q => F.len vs H Q E (h vs H Q E q), fun A out s H ar us vs Q E hr en bd rv q => F.run A out s H ar us vs Q E hr en bd rv (h vs H Q E q)⟩
theorem gc_weaken (c : Gc P w K mg base k n sp) (h : ∀ vs H Q E, sp' vs H Q E → sp vs H Q E) : Gc P w K mg base k n sp' := by
  obtain ⟨f, fd, ps, F, r⟩ := c.ex
  exact ⟨f, fd, ps, FnG.weaken F h, r⟩
theorem mak_weaken (c : Mak P w K mg base k n C sp) (h : ∀ vs H Q E, sp' vs H Q E → sp vs H Q E) : Mak P w K mg base k n C sp' := by
  obtain ⟨f, fd, ps, M, F, r⟩ := c.ex
  exact ⟨f, fd, ps, M, FnOk.weaken F h, r⟩
end
theorem cutN {log : List Int} {a b : Nat} (h1 : a ≤ b) (h2 : b ≤ log.length) : cutV (log.map V.int) (some (a : Int)) (some (b : Int)) = ((log.take b).drop a).map V.int := by
  have hl : (log.map V.int).length = log.length := List.length_map ..
  unfold cutV
  rw [HT.sIx_nat, HT.sIx_nat, hl, Nat.min_eq_left h2, Nat.min_eq_left (show a ≤ log.length by omega), List.map_drop, List.map_take, List.drop_take]
theorem three {l : List Int} (h : l.length = 3) : ∃ a b c, l = [a, b, c] := by
  match l, h with
  | [a, b, c], _ => exact ⟨a, b, c, rfl⟩
theorem four {α : Type} {l : List α} (h : l.length = 4) : ∃ a b c d, l = [a, b, c, d] := by
  match l, h with
  | [a, b, c, d], _ => exact ⟨a, b, c, d, rfl⟩
theorem cut_dropN {log : List Int} {a : Nat} (h : a ≤ log.length) : cutV (log.map V.int) (some (a : Int)) none = (log.drop a).map V.int := by
  unfold cutV
  rw [HT.sIx_none, HT.sIx_nat, Nat.min_eq_left (by rw [List.length_map]; exact h), List.map_drop]
  exact List.take_of_length_le (by rw [List.length_drop]; omega)
theorem parts4 {log : List Int} {a b c : Nat} (ab : a ≤ b) (bc : b ≤ c) (cl : c ≤ log.length) : log.take a ++ ((log.take b).drop a ++ (log.take c).drop b) = log.take c ∧ log.take a ++ ((log.take b).drop a ++ ((log.take c).drop b ++ log.drop c)) = log := by
  have e1 : (log.take b).drop a ++ (log.take c).drop b = (log.take c).drop a := by
    have eb : log.take b = (log.take c).take b := by rw [List.take_take, Nat.min_eq_left bc]
    rw [eb]
    have hl : (log.take c).length = c := by rw [List.length_take]; omega
    generalize log.take c = L at hl ⊢
    calc (L.take b).drop a ++ L.drop b = (L.take b ++ L.drop b).drop a := (List.drop_append_of_le_length (by rw [List.length_take]; omega)).symm
      _ = L.drop a := by rw [List.take_append_drop]
  have e2 : log.take a ++ (log.take c).drop a = log.take c := by
    have e := List.take_append_drop a (log.take c)
    rw [List.take_take, Nat.min_eq_left (by omega)] at e
    exact e
  refine ⟨by rw [e1, e2], ?_⟩
  rw [← List.append_assoc ((log.take b).drop a), e1, ← List.append_assoc (log.take a), e2, List.take_append_drop]
theorem okD_mono : ∀ {n : Nat} {d : PyData}, okD n d → okD (n + 1) d := by
  intro n
  induction n with
  | zero =>
    intro d h
    cases d with
    | list ds => exact absurd h (fun h => h)
    | tuple ds => exact absurd h (fun h => h)
    | dict ds => exact absurd h (fun h => h)
    | _ => trivial
  | succ n ih =>
    intro d h
    cases d with
    | list ds => exact ⟨h.1, fun x hx => ih (h.2 x hx)⟩
    | tuple ds => exact ⟨h.1, fun x hx => ih (h.2 x hx)⟩
    | dict ds => exact absurd h (fun h => h)
    | _ => trivial
end L45
set_option Elab.async false
set_option linter.all false
set_option maxRecDepth 100000
namespace L45
open PySem PySem.Spec PyProof.Rows L2 Lp
section
variable {P : Program} {w : World} {K : PySem.W.Frag} {mg : Str → Option Value} {base : Heap} {CE : Addr}
theorem kit_no {K : PySem.W.Frag} {C : Addr} {T : String} (hc : ((PySem.W.clsIn K C).isSome && PySem.W.typeIn K (.ref C) == some (.type "type")) = true) (hs : PySem.W.subIn K (.type T) (.ref C) = some false) : PySem.W.kitOne K (.type T) (.ref C) = some false := by
  unfold PySem.W.kitOne
  rw [if_neg (by simp)]
  unfold PySem.W.kitCls
  show (if ((PySem.W.clsIn K C).isSome && PySem.W.typeIn K (.ref C) == some (.type "type")) = true then PySem.W.subIn K (.type T) (.ref C) else none) = some false
  rw [if_pos hc]
  exact hs
theorem not_first {K : PySem.W.Frag} {C : Addr} {T : String} (hs : PySem.W.subIn K (.type T) (.ref C) = some false) : PySem.W.notFirst K C (.type T) = true := by
  unfold PySem.W.notFirst
  rw [hs]
  simp
def spEqV (K : PySem.W.Frag) (CE : Addr) : Sp := fun vs H Q _ => ∃ (x : Addr) (y : V) (t : Value), vs = [.ref x, y] ∧ TyX K H y t ∧ PySem.W.kitOne K t (.ref CE) = some false ∧ Q (.bl false) H
theorem ok_Effect_eqV {f : Addr} {fd : FuncData} (F : Fun K "__eq__" "Effect.__eq__" s_Effect_eq f fd) (B : NoB mg) (TI : TxI K mg CE) : FnOk P w K mg base CX0 1 f fd ["self", "other"] (spEqV K CE) := by
  have T_c_Effect := TI.c
  refine F.ok sc_Effect_eq (fun vs H Q E h => ?_) (fun cdv A outer s H vs Q E hr h => ?_)
  · obtain ⟨x, y, t, rfl, _⟩ := h
    rfl
  · obtain ⟨x, y, t, rfl, ty, hk, q⟩ := h
    have hu64 := hr.units
    refine ⟨_, (pss_cons (ps_if (pt_not (pt_val (pe_callB call_isi (by rfl) B.isinstance (by decide +kernel) (pa_cons (pv 1) (pa_cons (pe_glob (v := .ref CE) (by rfl) T_c_Effect rfl) pa_nil))))) (pss_one (ps_ret pe_bl)) pss_nil)
        (pss_cons (ps_if (PW.pt (pw_or (pt_cmpR op_ne (pe_fld (pv 0) rfl) (pe_fld (pv 1) rfl) (nomark _)) (pw_or1 (pt_cmpR (op_neD hu64) (pe_fld (pv 0) rfl) (pe_fld (pv 1) rfl) (nomark _))))) (pss_one (ps_ret pe_bl)) pss_nil)
        (pss_one (ps_ret (pe_and (pe_cmpR (op_eqD hu64) (pe_fld (pv 0) rfl) (pe_fld (pv 1) rfl) (nomark _)) (pe_one (pe_cmpR (op_eqD hu64) (pe_fld (pv 0) rfl) (pe_fld (pv 1) rfl) (nomark _)))))))), ?_⟩
    exact ⟨_, rfl, _, _, _, _, false, rfl, .own _, ty, hk, _, rfl, iteT q⟩
end
open L2.DX
/-! ### _law_others -/
theorem cutC {xs : List Int} (a b : Nat) : cutV (xs.map V.int) (some (a : Int)) (some (b : Int)) = ((xs.take b).drop a).map V.int := by
  unfold cutV
  rw [HT.sIx_nat, HT.sIx_nat, List.map_drop, List.map_take, List.drop_take]
  generalize hl : xs.map V.int = l
  rcases Nat.lt_or_ge a l.length with h | h
  · rw [Nat.min_eq_left (Nat.le_of_lt h)]
    rcases Nat.lt_or_ge b l.length with h2 | h2
    · rw [Nat.min_eq_left (Nat.le_of_lt h2)]
    · rw [Nat.min_eq_right h2, List.take_of_length_le (by rw [List.length_drop]; exact Nat.le_refl _), List.take_of_length_le (by rw [List.length_drop]; omega)]
  · rw [Nat.min_eq_right h, List.drop_of_length_le (Nat.le_refl _), List.drop_of_length_le h, List.take_nil, List.take_nil]
theorem cutA {xs : List Int} (a : Nat) : cutV (xs.map V.int) (some (a : Int)) none = (xs.drop a).map V.int := by
  unfold cutV
  rw [HT.sIx_none, HT.sIx_nat, List.map_drop]
  generalize hl : xs.map V.int = l
  rcases Nat.lt_or_ge a l.length with h | h
  · rw [Nat.min_eq_left (Nat.le_of_lt h), List.take_of_length_le (by rw [List.length_drop]; exact Nat.le_refl _)]
  · rw [Nat.min_eq_right h, List.drop_of_length_le (Nat.le_refl _), List.drop_of_length_le h, List.take_nil]
theorem cutB {xs : List Int} (a : Nat) : cutV (xs.map V.int) none (some (a : Int)) = (xs.take a).map V.int := by
  unfold cutV
  rw [HT.sIx_none, HT.sIx_nat, List.map_take, List.drop_zero, Nat.sub_zero]
  generalize hl : xs.map V.int = l
  rcases Nat.lt_or_ge a l.length with h | h
  · rw [Nat.min_eq_left (Nat.le_of_lt h)]
  · rw [Nat.min_eq_right h, List.take_of_length_le (Nat.le_refl _), List.take_of_length_le h]
theorem pre_new {part : List Int} {k : Int} (h : Pre part) (k1 : 1 ≤ k ∧ k ≤ 100) (n1 : k ∉ part) (n2 : -k ∉ part) : Pre (part ++ [k, -k]) := by
  refine ⟨fun e he => ?_, List.nodup_append.mpr ⟨h.nd, ?_, fun a ha b hb q => ?_⟩⟩
  · rcases List.mem_append.mp he with he | he
    · exact h.rng e he
    rcases List.mem_cons.mp he with rfl | he
    · omega
    rcases List.mem_cons.mp he with rfl | he
    · omega
    · exact nomatch he
  · refine List.nodup_cons.mpr ⟨fun c => ?_, List.nodup_cons.mpr ⟨List.not_mem_nil, List.nodup_nil⟩⟩
    have := List.mem_singleton.mp c
    omega
  · subst q
    rcases List.mem_cons.mp hb with rfl | hb
    · exact n1 ha
    · rw [List.mem_singleton.mp hb] at ha
      exact n2 ha
theorem Pre.sub {a b : List Int} (h : Pre b) (s : a.Sublist b) : Pre a := ⟨fun e he => h.rng e (s.subset he), h.nd.sublist s⟩
/-- the lists that are made of a part -/
theorem oth1 {part : List Int} (h : Pre part) (a : Nat) : Pre ((part.take a ++ ((part.take (a + 2)).drop a).reverse) ++ part.drop (a + 2)) := by
  refine h.perm ?_
  have e : part = (part.take a ++ (part.take (a + 2)).drop a) ++ part.drop (a + 2) := by
    have e1 : part.take a ++ (part.take (a + 2)).drop a = part.take (a + 2) := by
      have e := List.take_append_drop a (part.take (a + 2))
      rw [List.take_take, Nat.min_eq_left (by omega)] at e
      exact e
    rw [e1, List.take_append_drop]
  conv => rhs; rw [e]
  exact ((List.reverse_perm _).append_left _).append_right _
theorem oth2 {part : List Int} {k : Int} (h : Pre (part ++ [k, -k])) (a : Nat) : Pre ((part.take a ++ [k, -k]) ++ part.drop a) := by
  refine h.perm ?_
  have e : (part.take a ++ [k, -k]) ++ part.drop a = part.take a ++ ([k, -k] ++ part.drop a) := List.append_assoc _ _ _
  rw [e]
  conv => rhs; rw [← List.take_append_drop a part]
  rw [List.append_assoc]
  exact (List.perm_append_comm).append_left _
theorem oth3 {part : List Int} {k : Int} (h : Pre (part ++ [k, -k])) (a : Nat) : Pre ((part.take a ++ [-k]) ++ part.drop a) := by
  have h2 := oth2 h a
  refine h2.sub ?_
  exact ((List.Sublist.refl (part.take a)).append (List.Sublist.cons k (List.Sublist.refl [-k]))).append (List.Sublist.refl _)
theorem oth4 {part : List Int} {k : Int} (h : Pre (part ++ [k, -k])) {a b : Nat} (ab : a ≤ b) : Pre ((part.take a ++ (([k] ++ (part.take b).drop a) ++ [-k])) ++ part.drop b) := by
  refine h.perm ?_
  have e1 : part.take a ++ (part.take b).drop a = part.take b := by
    have e := List.take_append_drop a (part.take b)
    rw [List.take_take, Nat.min_eq_left ab] at e
    exact e
  have e2 : part ++ [k, -k] = (part.take a ++ (part.take b).drop a) ++ part.drop b ++ [k, -k] := by rw [e1, List.take_append_drop]
  rw [e2]
  generalize part.take a = A
  generalize (part.take b).drop a = M
  generalize part.drop b = Z
  refine List.perm_iff_count.mpr fun x => ?_
  simp only [List.count_append, List.count_cons, List.count_nil]
  omega
section
variable {P : Program} {w : World} {K : PySem.W.Frag} {mg : Str → Option Value} {base : Heap}
def spOthers : Sp := fun vs H Q _ => ∃ (src a : Addr) (n : Nat) (ns : List Int), vs = [.ref src, .ref a] ∧ Src H src n ∧ n ≤ 700000 ∧ H a = some (.lst (ns.map V.int)) ∧ a ≠ src ∧ Piece ns ∧
  ∀ H' r (qs : List (Addr × List Int)), Bt src H H' → Src H' src (n + 3) → H' r = some (.lst (qs.map fun z => V.ref z.1)) → r ≠ src → qs.length ≤ 8 → (∀ z ∈ qs, z.1 ≠ src ∧ H' z.1 = some (.lst (z.2.map V.int)) ∧ Piece z.2) → Q (.ref r) H'
/-- found, so far -/
def Fnd (H : Hp) (src fo : Addr) (qs : List (Addr × List Int)) : Prop := H fo = some (.lst (qs.map fun z => V.ref z.1)) ∧ fo ≠ src ∧ ∀ z ∈ qs, z.1 ≠ src ∧ z.1 ≠ fo ∧ H z.1 = some (.lst (z.2.map V.int)) ∧ Pre z.2
theorem Fnd.same {H H' : Hp} {src fo : Addr} {qs : List (Addr × List Int)} (h : Fnd H src fo qs) (s : Same H H') : Fnd H' src fo qs := ⟨s _ _ h.1, h.2.1, fun z hz => ⟨(h.2.2 z hz).1, (h.2.2 z hz).2.1, s _ _ (h.2.2 z hz).2.2.1, (h.2.2 z hz).2.2.2⟩⟩
theorem Fnd.bt {H H' : Hp} {src fo : Addr} {qs : List (Addr × List Int)} (h : Fnd H src fo qs) (s : Bt src H H') : Fnd H' src fo qs := ⟨s _ _ h.2.1 h.1, h.2.1, fun z hz => ⟨(h.2.2 z hz).1, (h.2.2 z hz).2.1, s _ _ (h.2.2 z hz).1 (h.2.2 z hz).2.2.1, (h.2.2 z hz).2.2.2⟩⟩
theorem Fnd.put {H : Hp} {src fo x : Addr} {qs : List (Addr × List Int)} {l : List Int} (h : Fnd H src fo qs) (hx : H x = some (.lst (l.map V.int))) (n1 : x ≠ src) (n2 : x ≠ fo) (p : Pre l) : Fnd (upd H fo (.lst ((qs.map fun z => V.ref z.1) ++ [.ref x]))) src fo (qs ++ [(x, l)]) := by
  refine ⟨by rw [upd_same, List.map_append]; rfl, h.2.1, fun z hz => ?_⟩
  rcases List.mem_append.mp hz with hz | hz
  · obtain ⟨a, b, c, d⟩ := h.2.2 z hz
    exact ⟨a, b, by rw [upd_ne b]; exact c, d⟩
  · rw [List.mem_singleton.mp hz]
    exact ⟨n1, n2, by rw [upd_ne n2]; exact hx, p⟩
end
end L45
set_option Elab.async false
set_option linter.all false
set_option maxRecDepth 100000
namespace L45
open PySem PySem.Spec PyProof.Rows L2 Lp
section
variable {P : Program} {w : World} {K : PySem.W.Frag} {mg : Str → Option Value} {base : Heap}
theorem catM (a b : List Int) : a.map V.int ++ b.map V.int = (a ++ b).map V.int := List.map_append.symm
theorem revM (a : List Int) : (a.map V.int).reverse = a.reverse.map V.int := List.map_reverse.symm
theorem sum_le {a b : List Int} {m : Nat} (h1 : a.length ≤ m) (h2 : b.length ≤ m) (hm : m ≤ 10000) : (a.map V.int).length + (b.map V.int).length ≤ sizeLine := by
  rw [List.length_map, List.length_map]
  exact zs (by omega)
set_option maxHeartbeats 4000000 in
theorem ok_law_others {f : Addr} {fd : FuncData} (F : Fun K "_law_others" "_law_others" s_law_others f fd) (B : NoB mg) (T_law_draw : Gc P w K mg base 1 "_law_draw" spDraw) (T_is_piece : Cal P w K mg base 5 "is_piece" (spIsPieceG K)) : FnG P w K mg base CX0 6 f fd ["source", "part"] spOthers := by
  refine okG F sc_law_others (fun vs H Q E h => ?_) (fun cdv A outer s H vs Q E hG hr h => ?_)
  · obtain ⟨src, a, n, ns, rfl, _⟩ := h
    rfl
  · obtain ⟨src, pa, n, ns, rfl, hs, hn, hpa, pas, pc, q⟩ := h
    have hu64 := hr.units
    have hll := pc.len
    refine ⟨_, (pss_cons (ps_par (i := 2) (j := 3) (by rfl) sc_law_others.nd rfl rfl (by decide) rfl rfl (pa_cons (pe_g T_law_draw hG hr (by decide) (by rfl) (pa_cons (pv 0) (pa_cons (pe_op op_add (pe_callB call_len_seq (by rfl) B.len PySem.boot_len (pa_cons (pv 1) pa_nil)) pe_int) pa_nil))) (pa_cons (pe_g T_law_draw hG hr (by decide) (by rfl) (pa_cons (pv 0) (pa_cons (pe_op op_add (pe_callB call_len_seq (by rfl) B.len PySem.boot_len (pa_cons (pv 1) pa_nil)) pe_int) pa_nil))) pa_nil)) (by rfl))
        (pss_cons (ps_set (i := 4) sc_law_others.nd rfl (Or.inl rfl) (pe_lst (pa_cons (pe_callTy call_list_of (by rfl) B.list (by decide +kernel) (pa_cons (pv 1) pa_nil)) (pa_cons (pe_op op_cat (pe_op op_cat (pe_slice sl_list (pv 1) po_none (po_some (pv 2))) (pe_revL (pe_slice sl_list (pv 1) (po_some (pv 2)) (po_some (pe_op op_add (pv 2) pe_int))))) (pe_slice sl_list (pv 1) (po_some (pe_op op_add (pv 2) pe_int)) po_none)) (pa_cons (pe_slice sl_list (pv 1) po_none (po_some (pv 2))) (pa_cons (pe_revL (pv 1)) pa_nil))))))
        (pss_cons (ps_setLc (i := 5) (own := [("name", 6)]) (g := gName 6) (tt := _) rfl sc_law_others.nd rfl rfl (sw_true rfl rfl rfl (by decide +kernel)) (pi_range2 rfl B.range (pa_cons pe_int (pa_cons pe_int pa_nil))) (blkOk_by (own := [("name", 6)]) (N := N_law_others) (sc := defScope s_law_others) (by decide +kernel)) (fun _ _ _ _ _ => (pg_name (i := 6) sc_law_others.nd rfl (Or.inl rfl))) (fun _ _ _ _ _ => (pts_one (PW.pt (pw_and (pt_cmpR (k_notin (K := K) rfl) (pv 6) (pv 1) (by rfl)) (pw_and1 (pt_cmpR (k_notin (K := K) rfl) (pe_op op_sub pe_int (pv 6)) (pv 1) (by rfl))))))) (fun _ _ _ _ _ => (pv 6)))
        (Evl.pss_cut (ps_if (pt_cmpR (op_neD hu64) (pv 5) (pe_lst pa_nil) (nomark _)) (pss_cons (ps_set (i := 6) sc_law_others.nd rfl (Or.inl rfl) (pe_ix ix_list (pv 5) (pe_g T_law_draw hG hr (by decide) (by rfl) (pa_cons (pv 0) (pa_cons (pe_callB call_len_seq (by rfl) B.len PySem.boot_len (pa_cons (pv 5) pa_nil)) pa_nil))) (fun _ _ => rfl)))
          (pss_cons (ps_set (i := 4) sc_law_others.nd rfl (Or.inl rfl) (pe_op op_cat (pv 4) (pe_lst (pa_cons (pe_op op_cat (pe_op op_cat (pe_slice sl_list (pv 1) po_none (po_some (pv 2))) (pe_lst (pa_cons (pv 6) (pa_cons (pe_op op_sub pe_int (pv 6)) pa_nil)))) (pe_slice sl_list (pv 1) (po_some (pv 2)) po_none)) (pa_cons (pe_op op_cat (pv 1) (pe_lst (pa_cons (pv 6) pa_nil))) pa_nil)))))
          (pss_cons (ps_expr (pe_bm PySem.F.plainAttrs_list PySem.F.slot_list_append PySem.F.type_list_append mt_append (pv 4) (pa_cons (pe_op op_cat (pe_op op_cat (pe_slice sl_list (pv 1) po_none (po_some (pv 2))) (pe_lst (pa_cons (pe_op op_sub pe_int (pv 6)) pa_nil))) (pe_slice sl_list (pv 1) (po_some (pv 2)) po_none)) pa_nil)))
          (pss_cons (ps_par (i := 7) (j := 8) (by rfl) sc_law_others.nd rfl rfl (by decide) rfl rfl (pa_cons (pe_callB (call_min2 rfl) (by rfl) B.min (by decide +kernel) (pa_cons (pv 2) (pa_cons (pv 3) pa_nil))) (pa_cons (pe_callB (call_max2 rfl) (by rfl) B.max (by decide +kernel) (pa_cons (pv 2) (pa_cons (pv 3) pa_nil))) pa_nil)) (by rfl))
          (pss_cons (ps_set (i := 9) sc_law_others.nd rfl (Or.inl rfl) (pe_op op_cat (pe_op op_cat (pe_lst (pa_cons (pv 6) pa_nil)) (pe_slice sl_list (pv 1) (po_some (pv 7)) (po_some (pv 8)))) (pe_lst (pa_cons (pe_op op_sub pe_int (pv 6)) pa_nil))))
          (pss_one (ps_expr (pe_bm PySem.F.plainAttrs_list PySem.F.slot_list_append PySem.F.type_list_append mt_append (pv 4) (pa_cons (pe_op op_cat (pe_op op_cat (pe_slice sl_list (pv 1) po_none (po_some (pv 7))) (pv 9)) (pe_slice sl_list (pv 1) (po_some (pv 8)) po_none)) pa_nil))))))))) pss_nil)
        (pss_one (ps_ret (pe_lc (own := [("other", 10)]) (g := gName 10) (tt := _) rfl sc_law_others.nd (pi_list (pv 4)) (blkOk_by (own := [("other", 10)]) (N := N_law_others) (sc := defScope s_law_others) (by decide +kernel)) (fun _ _ _ _ _ => (pg_name (i := 10) sc_law_others.nd rfl (Or.inl rfl))) (fun _ _ _ _ _ => (pts_one (pt_val (pe_c T_is_piece hr (by decide) (by rfl) (pa_cons (pv 10) pa_nil))))) (fun _ _ _ _ _ => (pv 10))))))))), ?_⟩
    -- at, to
    refine ⟨_, rfl, _, rfl, pa, _, rfl, .inl (.of hpa), _, _, rfl, rfl, src, _, n, rfl, hs, by omega, by rw [List.length_map]; omega, by rw [List.length_map]; omega, fun r1 H1 r10 r11 hs1 b1 => ?_⟩
    have hpa1 := b1 _ _ pas hpa
    refine ⟨_, rfl, _, rfl, pa, _, rfl, .inl (.of hpa1), _, _, rfl, rfl, src, _, n + 1, rfl, hs1, by omega, by rw [List.length_map]; omega, by rw [List.length_map]; omega, fun r2 H2 r20 r21 hs2 b2 => ?_⟩
    have hpa2 := b2 _ _ pas hpa1
    have b02 := b1.trans b2
    rw [List.length_map] at r11 r21
    obtain ⟨at', rfl⟩ := nat_of r10
    obtain ⟨to, rfl⟩ := nat_of r20
    have la : ∀ m : Nat, (ns.take m).length ≤ 200 := fun m => by rw [List.length_take]; omega
    have ld : ∀ m : Nat, (ns.drop m).length ≤ 200 := fun m => by rw [List.length_drop]; omega
    have lad : ∀ m k : Nat, ((ns.take m).drop k).length ≤ 200 := fun m k => by rw [List.length_drop, List.length_take]; omega
    have npa : ∀ {x : Addr} {H' : Hp}, Bt src H H' → H' x = none → x ≠ pa := fun b e z => by
      rw [z, b _ _ pas hpa] at e
      cases e
    -- found
    refine ⟨_, _, rfl, _, rfl, pa, _, rfl, .inl (.of hpa2), fun q0 nq0 => ?_⟩
    have s3 : Same H2 _ := same_new (o := .lst (ns.map V.int)) nq0
    have e0 := upd_same (H := H2) (a := q0) (o := .lst (ns.map V.int))
    generalize upd H2 q0 _ = H3 at s3 e0 ⊢
    have hpa3 := s3 _ _ hpa2
    refine ⟨_, rfl, _, rfl, _, rfl, pa, _, rfl, .of hpa3, fun a1 na1 => ?_⟩
    rw [cutB]
    have s4 : Same H3 _ := same_new (o := .lst ((ns.take at').map V.int)) na1
    have e1 := upd_same (H := H3) (a := a1) (o := .lst ((ns.take at').map V.int))
    generalize upd H3 a1 _ = H4 at s4 e1 ⊢
    have hpa4 := s4 _ _ hpa3
    refine ⟨_, rfl, _, rfl, _, rfl, _, rfl, _, _, rfl, rfl, _, rfl, pa, _, rfl, .of hpa4, fun a2 na2 => ?_⟩
    have ec : cutV (ns.map V.int) (some (at' : Int)) (some ((at' : Int) + 2)) = ((ns.take (at' + 2)).drop at').map V.int := cutC at' (at' + 2)
    rw [ec]
    have s5 : Same H4 _ := same_new (o := .lst (((ns.take (at' + 2)).drop at').map V.int)) na2
    have e2 := upd_same (H := H4) (a := a2) (o := .lst (((ns.take (at' + 2)).drop at').map V.int))
    generalize upd H4 a2 _ = H5 at s5 e2 ⊢
    refine ⟨a2, _, rfl, .of e2, fun a3 na3 => ?_⟩
    rw [revM]
    have s6 : Same H5 _ := same_new (o := .lst (((ns.take (at' + 2)).drop at').reverse.map V.int)) na3
    have e3 := upd_same (H := H5) (a := a3) (o := .lst (((ns.take (at' + 2)).drop at').reverse.map V.int))
    generalize upd H5 a3 _ = H6 at s6 e3 ⊢
    have e1' := s6 _ _ (s5 _ _ e1)
    refine ⟨a1, a3, _, _, rfl, rfl, e1', e3, sum_le (m := 200) (la _) (by rw [List.length_reverse]; exact lad _ _) (by decide), fun a4 na4 => ?_⟩
    rw [catM]
    have s7 : Same H6 _ := same_new (o := .lst ((ns.take at' ++ ((ns.take (at' + 2)).drop at').reverse).map V.int)) na4
    have e4 := upd_same (H := H6) (a := a4) (o := .lst ((ns.take at' ++ ((ns.take (at' + 2)).drop at').reverse).map V.int))
    generalize upd H6 a4 _ = H7 at s7 e4 ⊢
    have hpa7 := s7 _ _ (s6 _ _ (s5 _ _ hpa4))
    refine ⟨_, rfl, _, rfl, _, _, rfl, rfl, _, rfl, pa, _, rfl, .of hpa7, fun a5 na5 => ?_⟩
    have ec : cutV (ns.map V.int) (some ((at' : Int) + 2)) none = (ns.drop (at' + 2)).map V.int := cutA (at' + 2)
    rw [ec]
    have s8 : Same H7 _ := same_new (o := .lst ((ns.drop (at' + 2)).map V.int)) na5
    have e5 := upd_same (H := H7) (a := a5) (o := .lst ((ns.drop (at' + 2)).map V.int))
    generalize upd H7 a5 _ = H8 at s8 e5 ⊢
    refine ⟨a4, a5, _, _, rfl, rfl, s8 _ _ e4, e5, sum_le (m := 400) (by rw [List.length_append, List.length_reverse]; have := la at'; have := lad (at' + 2) at'; omega) (Nat.le_trans (ld _) (by decide)) (by decide), fun q1 nq1 => ?_⟩
    rw [catM]
    have s9 : Same H8 _ := same_new (o := .lst (((ns.take at' ++ ((ns.take (at' + 2)).drop at').reverse) ++ ns.drop (at' + 2)).map V.int)) nq1
    have f1 := upd_same (H := H8) (a := q1) (o := .lst (((ns.take at' ++ ((ns.take (at' + 2)).drop at').reverse) ++ ns.drop (at' + 2)).map V.int))
    generalize upd H8 q1 _ = H9 at s9 f1 ⊢
    have s39 : Same H3 H9 := ((((s4.trans s5).trans s6).trans s7).trans s8).trans s9
    have hpa9 := s39 _ _ hpa3
    refine ⟨_, rfl, _, rfl, _, rfl, pa, _, rfl, .of hpa9, fun q2 nq2 => ?_⟩
    rw [cutB]
    have s10 : Same H9 _ := same_new (o := .lst ((ns.take at').map V.int)) nq2
    have f2 := upd_same (H := H9) (a := q2) (o := .lst ((ns.take at').map V.int))
    generalize upd H9 q2 _ = H10 at s10 f2 ⊢
    have hpa10 := s10 _ _ hpa9
    refine ⟨_, rfl, pa, _, rfl, .of hpa10, fun q3 nq3 => ?_⟩
    rw [revM]
    have s11 : Same H10 _ := same_new (o := .lst (ns.reverse.map V.int)) nq3
    have f3 := upd_same (H := H10) (a := q3) (o := .lst (ns.reverse.map V.int))
    generalize upd H10 q3 _ = H11 at s11 f3 ⊢
    refine ⟨by show 4 ≤ sizeLine; decide, fun fo nfo => ?_⟩
    have s12 : Same H11 _ := same_new (o := .lst [.ref q0, .ref q1, .ref q2, .ref q3]) nfo
    have hfo := upd_same (H := H11) (a := fo) (o := .lst [.ref q0, .ref q1, .ref q2, .ref q3])
    have hs11 : Src H11 src (n + 1 + 1) := hs2.same ((s3.trans s39).trans (s10.trans s11))
    have fos := hs11.ne nfo
    generalize upd H11 fo _ = H12 at s12 hfo ⊢
    have s212 : Same H2 H12 := ((s3.trans s39).trans (s10.trans s11)).trans s12
    have hs12 := hs2.same s212
    have b012 : Bt src H H12 := b02.trans (.of s212)
    have hpa12 := s212 _ _ hpa2
    have g1 := oth1 pc.pre at'
    have F0 : Fnd H12 src fo [(q0, ns), (q1, (ns.take at' ++ ((ns.take (at' + 2)).drop at').reverse) ++ ns.drop (at' + 2)), (q2, ns.take at'), (q3, ns.reverse)] := by
      have k0 := (s39.trans (s10.trans s11)) _ _ e0
      have k1 := (s10.trans s11) _ _ f1
      have k2 := s11 _ _ f2
      refine ⟨hfo, fos, fun z hz => ?_⟩
      simp only [List.mem_cons, List.not_mem_nil, or_false] at hz
      have no : ∀ {x : Addr} {H' : Hp}, Same H2 H' → H' x = none → x ≠ src := fun s e => (hs2.same s).ne e
      rcases hz with rfl | rfl | rfl | rfl
      · exact ⟨hs2.ne nq0, ne_of_none k0 nfo, s12 _ _ k0, pc.pre⟩
      · exact ⟨no (s3.trans ((((s4.trans s5).trans s6).trans s7).trans s8)) nq1, ne_of_none k1 nfo, s12 _ _ k1, g1⟩
      · exact ⟨no (s3.trans s39) nq2, ne_of_none k2 nfo, s12 _ _ k2, pc.pre.sub (List.take_sublist _ _)⟩
      · exact ⟨no ((s3.trans s39).trans s10) nq3, ne_of_none f3 nfo, s12 _ _ f3, pc.pre.perm (List.reverse_perm _)⟩
    clear e0 e1 e2 e3 e1' e4 e5 f1 f2 f3 nq0 nq1 nq2 nq3 na1 na2 na3 na4 na5 nfo hfo hpa3 hpa4 hpa7 hpa9 hpa10 s3 s4 s5 s6 s7 s8 s9 s10 s11 s12 s39 s212 hs11 hs2 hs1 b2 b1 b02 hpa1 hpa2
    -- fresh
    refine ⟨_, _, rfl, ⟨by decide, by decide, by decide, by decide⟩, fun D nD => ?_⟩
    have nDs := hs12.ne nD
    refine lc_range (lo := 1) (n := 100) (fun i H' => ∃ ac : List Int, H' D = some (.lst (ac.map V.int)) ∧ ac.length ≤ i ∧ (∀ k ∈ ac, (1 ≤ k ∧ k ≤ 100) ∧ k ∉ ns ∧ -k ∉ ns) ∧ Same H12 H') ⟨[], upd_same, Nat.le_refl _, (fun k hk => nomatch hk), same_new nD⟩ (fun i H' hi h => ?_) (fun H13 h => ?_)
    · obtain ⟨ac, hD, li, hac, sm⟩ := h
      refine ⟨rfl, ?_⟩
      have hpa' := sm _ _ hpa12
      by_cases c1 : (1 + (i : Int)) ∈ ns
      · refine ⟨_, rfl, _, rfl, pa, _, rfl, .inl (.of hpa'), rfl, flatI ns, false, notInF c1, ?_⟩
        exact ⟨ac, hD, Nat.le_succ_of_le li, hac, sm⟩
      · refine ⟨_, rfl, _, rfl, pa, _, rfl, .inl (.of hpa'), rfl, flatI ns, true, notInT c1, ?_⟩
        have ez : (0 : Int) - (1 + (i : Int)) = -(1 + (i : Int)) := Int.zero_sub _
        by_cases c2 : (0 : Int) - (1 + (i : Int)) ∈ ns
        · refine ⟨_, rfl, _, _, rfl, rfl, _, rfl, pa, _, rfl, .inl (.of hpa'), rfl, flatI ns, false, notInF c2, ?_⟩
          exact ⟨ac, hD, Nat.le_succ_of_le li, hac, sm⟩
        · refine ⟨_, rfl, _, _, rfl, rfl, _, rfl, pa, _, rfl, .inl (.of hpa'), rfl, flatI ns, true, notInT c2, ?_⟩
          refine ⟨_, rfl, _, hD, by rw [List.length_map]; exact zl (by omega), ac ++ [1 + (i : Int)], ?_, ?_, fun k hk => ?_, Lp.Same.mut sm nD⟩
          · rw [upd_same, List.map_append]
            rfl
          · rw [List.length_append]
            exact Nat.succ_le_succ li
          · rcases List.mem_append.mp hk with hk | hk
            · exact hac k hk
            · rw [List.mem_singleton.mp hk]
              exact ⟨by omega, c1, by rw [← ez]; exact c2⟩
    obtain ⟨ac, hD, lac, hac, s13⟩ := h
    have F1 := F0.same s13
    have hs13 := hs12.same s13
    have b13 := b012.trans (.of s13)
    have hpa13 := s13 _ _ hpa12
    refine ⟨fun σ H' => ∃ (y6 y7 y8 y9 y10 : Option V) (fo : Addr) (qs : List (Addr × List Int)), σ = [some (.ref src), some (.ref pa), some (.int at'), some (.int to), some (.ref fo), some (.ref D), y6, y7, y8, y9, y10] ∧ Fnd H' src fo qs ∧ qs.length ≤ 8 ∧ Src H' src (n + 3) ∧ Bt src H H', ?_, fun σ H14 hm => ?_⟩
    · refine ⟨_, rfl, Nat.zero_le _, fun e ne => ?_⟩
      have se : Same H13 _ := same_new (o := .lst []) ne
      have he := upd_same (H := H13) (a := e) (o := .lst [])
      generalize upd H13 e _ = H15 at se he ⊢
      have F2 := F1.same se
      have hD2 := se _ _ hD
      have hs15 := hs13.same se
      have b15 := b13.trans (.of se)
      have hpa15 := se _ _ hpa13
      by_cases c : ac = []
      · refine ⟨dI ac, dI [], dp_ints (.of hD2), dp_ints (ns := []) (.of he), shaped_ints _, shaped_ints _, false, neqF c, ?_⟩
        exact ⟨_, _, _, _, _, _, _, rfl, F2, (by show 4 ≤ 8; decide), hs15.mono (by omega), b15⟩
      · refine ⟨dI ac, dI [], dp_ints (.of hD2), dp_ints (ns := []) (.of he), shaped_ints _, shaped_ints _, true, neqT c, ?_⟩
        have l0 : 0 < ac.length := List.length_pos_iff.mpr c
        refine ⟨_, rfl, _, rfl, _, rfl, D, _, rfl, .inl (.of hD2), src, _, n + 2, rfl, hs15, by omega, by rw [List.length_map]; omega, by rw [List.length_map]; omega, fun r H16 r0 r1 hs16 b16 => ?_⟩
        rw [List.length_map] at r1
        obtain ⟨j, rfl⟩ := nat_of r0
        have hj : j < ac.length := by omega
        have F3 := F2.bt b16
        have hD3 := b16 _ _ nDs hD2
        have hpa16 := b16 _ _ pas hpa15
        have bb := b15.trans b16
        refine ⟨D, _, (j : Int), _, rfl, rfl, .of hD3, atI_nat (get_at hj), ?_⟩
        obtain ⟨hk1, hk2, hk3⟩ := hac ac[j] (List.getElem_mem hj)
        generalize ac[j] = k at hk1 hk2 hk3 ⊢
        have pk := pre_new pc.pre hk1 hk2 hk3
        have ez : (0 : Int) - k = -k := Int.zero_sub _
        have fos := F3.2.1
        have hfo16 := F3.1
        -- two more
        refine ⟨_, rfl, _, rfl, _, rfl, _, rfl, pa, _, rfl, .of hpa16, fun a1 na1 => ?_⟩
        rw [cutB]
        have t1 : Same H16 _ := same_new (o := .lst ((ns.take at').map V.int)) na1
        have e1 := upd_same (H := H16) (a := a1) (o := .lst ((ns.take at').map V.int))
        generalize upd H16 a1 _ = G1 at t1 e1 ⊢
        refine ⟨_, rfl, _, rfl, _, _, rfl, rfl, by show 2 ≤ sizeLine; decide, fun a2 na2 => ?_⟩
        generalize e2' : upd G1 a2 _ = G2 at ⊢
        have t2 : Same G1 G2 := by rw [← e2']; exact same_new na2
        have e2 : G2 a2 = some (.lst ([k, -k].map V.int)) := by
          rw [← e2', upd_same]
          show some (HO.lst [V.int k, V.int (0 - k)]) = _
          rw [ez]
          rfl
        clear e2'
        refine ⟨a1, a2, _, _, rfl, rfl, t2 _ _ e1, e2, sum_le (m := 200) (la _) (by show 2 ≤ 200; decide) (by decide), fun a3 na3 => ?_⟩
        rw [catM]
        have t3 : Same G2 _ := same_new (o := .lst ((ns.take at' ++ [k, -k]).map V.int)) na3
        have e3 := upd_same (H := G2) (a := a3) (o := .lst ((ns.take at' ++ [k, -k]).map V.int))
        generalize upd G2 a3 _ = G3 at t3 e3 ⊢
        have hpa3 := t3 _ _ (t2 _ _ (t1 _ _ hpa16))
        refine ⟨_, rfl, _, rfl, _, rfl, pa, _, rfl, .of hpa3, fun a4 na4 => ?_⟩
        rw [cutA]
        have t4 : Same G3 _ := same_new (o := .lst ((ns.drop at').map V.int)) na4
        have e4 := upd_same (H := G3) (a := a4) (o := .lst ((ns.drop at').map V.int))
        generalize upd G3 a4 _ = G4 at t4 e4 ⊢
        refine ⟨a3, a4, _, _, rfl, rfl, t4 _ _ e3, e4, sum_le (m := 300) (by rw [List.length_append]; have := la at'; show _ + 2 ≤ 300; omega) (Nat.le_trans (ld _) (by decide)) (by decide), fun q4 nq4 => ?_⟩
        rw [catM]
        have t5 : Same G4 _ := same_new (o := .lst (((ns.take at' ++ [k, -k]) ++ ns.drop at').map V.int)) nq4
        have f4 := upd_same (H := G4) (a := q4) (o := .lst (((ns.take at' ++ [k, -k]) ++ ns.drop at').map V.int))
        generalize upd G4 q4 _ = G5 at t5 f4 ⊢
        have hpa5 := t5 _ _ (t4 _ _ hpa3)
        refine ⟨_, rfl, _, rfl, by show 1 ≤ sizeLine; decide, fun a5 na5 => ?_⟩
        generalize e2' : upd G5 a5 _ = G6 at ⊢
        have t6 : Same G5 G6 := by rw [← e2']; exact same_new na5
        have e5 : G6 a5 = some (.lst ([k].map V.int)) := by
          rw [← e2', upd_same]
          rfl
        clear e2'
        refine ⟨pa, a5, _, _, rfl, rfl, t6 _ _ hpa5, e5, sum_le (m := 200) hll (by show 1 ≤ 200; decide) (by decide), fun q5 nq5 => ?_⟩
        rw [catM]
        have t7 : Same G6 _ := same_new (o := .lst ((ns ++ [k]).map V.int)) nq5
        have f5 := upd_same (H := G6) (a := q5) (o := .lst ((ns ++ [k]).map V.int))
        generalize upd G6 q5 _ = G7 at t7 f5 ⊢
        refine ⟨by show 2 ≤ sizeLine; decide, fun l nl => ?_⟩
        have t8 : Same G7 _ := same_new (o := .lst [.ref q4, .ref q5]) nl
        have el := upd_same (H := G7) (a := l) (o := .lst [.ref q4, .ref q5])
        generalize upd G7 l _ = G8 at t8 el ⊢
        have t15 : Same H16 G5 := (((t1.trans t2).trans t3).trans t4).trans t5
        have t18 : Same H16 G8 := ((t15.trans t6).trans t7).trans t8
        have F4 := F3.same t18
        have k4 : G8 q4 = _ := t8 _ _ (t7 _ _ (t6 _ _ f4))
        have k5 : G8 q5 = _ := t8 _ _ f5
        have q4s : q4 ≠ src := (hs16.same (((t1.trans t2).trans t3).trans t4)).ne nq4
        have q5s : q5 ≠ src := (hs16.same (t15.trans t6)).ne nq5
        refine ⟨fo, l, _, _, rfl, rfl, F4.1, el, ?_, fun f2 nf2 => ?_⟩
        · rw [List.length_map]
          show 4 + 2 ≤ sizeLine
          decide
        have hsG8 := hs16.same t18
        have f2s := hsG8.ne nf2
        have t9 : Same G8 _ := same_new (o := .lst ([q0, q1, q2, q3].map V.ref ++ [.ref q4, .ref q5])) nf2
        have F5 : Fnd (upd G8 f2 (.lst ([q0, q1, q2, q3].map V.ref ++ [.ref q4, .ref q5]))) src f2 [(q0, ns), (q1, (ns.take at' ++ ((ns.take (at' + 2)).drop at').reverse) ++ ns.drop (at' + 2)), (q2, ns.take at'), (q3, ns.reverse), (q4, (ns.take at' ++ [k, -k]) ++ ns.drop at'), (q5, ns ++ [k])] := by
          refine ⟨upd_same, f2s, fun z hz => ?_⟩
          have hz' : z ∈ [(q0, ns), (q1, (ns.take at' ++ ((ns.take (at' + 2)).drop at').reverse) ++ ns.drop (at' + 2)), (q2, ns.take at'), (q3, ns.reverse)] ++ [(q4, (ns.take at' ++ [k, -k]) ++ ns.drop at'), (q5, ns ++ [k])] := hz
          rcases List.mem_append.mp hz' with hz | hz
          · obtain ⟨m1, _, m3, m4⟩ := F4.2.2 z hz
            exact ⟨m1, ne_of_none m3 nf2, t9 _ _ m3, m4⟩
          simp only [List.mem_cons, List.not_mem_nil, or_false] at hz
          rcases hz with rfl | rfl
          · exact ⟨q4s, ne_of_none k4 nf2, t9 _ _ k4, oth2 pk at'⟩
          · exact ⟨q5s, ne_of_none k5 nf2, t9 _ _ k5, pk.sub ((List.Sublist.refl _).append ((List.Sublist.refl [k]).append (List.nil_sublist [-k])))⟩
        have t19 := t18.trans t9
        have hpa9 := t19 _ _ hpa16
        have hs9 := hs16.same t19
        have b9 := bb.trans (.of t19)
        have paf : pa ≠ f2 := ne_of_none (t18 _ _ hpa16) nf2
        generalize e2' : upd G8 f2 _ = G9 at ⊢
        have e2'' : upd G8 f2 (.lst ([q0, q1, q2, q3].map V.ref ++ [.ref q4, .ref q5])) = G9 := e2'
        rw [e2''] at t9 F5 t19 hpa9 hs9 b9
        have nfH : H f2 = none := free_of bb f2s (Same.none t18 nf2)
        clear e2' e2'' F4 F3 F2 F1 F0 el f5 f4 e5 e4 e3 e2 e1 k4 k5 t9 t18 t15 t8 t7 t6 t5 t4 t3 t2 t1 na1 na2 na3 na4 na5 nq4 nq5 nl nf2
        -- found.append
        refine ⟨_, rfl, .inl ⟨rfl, _, .of F5.1⟩, _, rfl, _, rfl, _, rfl, pa, _, rfl, .of hpa9, fun a1 na1 => ?_⟩
        rw [cutB]
        have t1 : Same G9 _ := same_new (o := .lst ((ns.take at').map V.int)) na1
        have e1 := upd_same (H := G9) (a := a1) (o := .lst ((ns.take at').map V.int))
        generalize upd G9 a1 _ = I1 at t1 e1 ⊢
        refine ⟨_, rfl, _, _, rfl, rfl, by show 1 ≤ sizeLine; decide, fun a2 na2 => ?_⟩
        generalize e2' : upd I1 a2 _ = I2 at ⊢
        have t2 : Same I1 I2 := by rw [← e2']; exact same_new na2
        have e2 : I2 a2 = some (.lst ([-k].map V.int)) := by
          rw [← e2', upd_same]
          show some (HO.lst [V.int (0 - k)]) = _
          rw [ez]
          rfl
        clear e2'
        refine ⟨a1, a2, _, _, rfl, rfl, t2 _ _ e1, e2, sum_le (m := 200) (la _) (by show 1 ≤ 200; decide) (by decide), fun a3 na3 => ?_⟩
        rw [catM]
        have t3 : Same I2 _ := same_new (o := .lst ((ns.take at' ++ [-k]).map V.int)) na3
        have e3 := upd_same (H := I2) (a := a3) (o := .lst ((ns.take at' ++ [-k]).map V.int))
        generalize upd I2 a3 _ = I3 at t3 e3 ⊢
        have hpa3 := t3 _ _ (t2 _ _ (t1 _ _ hpa9))
        refine ⟨_, rfl, _, rfl, _, rfl, pa, _, rfl, .of hpa3, fun a4 na4 => ?_⟩
        rw [cutA]
        have t4 : Same I3 _ := same_new (o := .lst ((ns.drop at').map V.int)) na4
        have e4 := upd_same (H := I3) (a := a4) (o := .lst ((ns.drop at').map V.int))
        generalize upd I3 a4 _ = I4 at t4 e4 ⊢
        refine ⟨a3, a4, _, _, rfl, rfl, t4 _ _ e3, e4, sum_le (m := 300) (by rw [List.length_append]; have := la at'; show _ + 1 ≤ 300; omega) (Nat.le_trans (ld _) (by decide)) (by decide), fun q6 nq6 => ?_⟩
        rw [catM]
        have t5 : Same I4 _ := same_new (o := .lst (((ns.take at' ++ [-k]) ++ ns.drop at').map V.int)) nq6
        have f6 := upd_same (H := I4) (a := q6) (o := .lst (((ns.take at' ++ [-k]) ++ ns.drop at').map V.int))
        generalize upd I4 q6 _ = I5 at t5 f6 ⊢
        have t04 : Same G9 I4 := ((t1.trans t2).trans t3).trans t4
        have q6s : q6 ≠ src := (hs9.same t04).ne nq6
        have q6f : q6 ≠ f2 := fun z => by
          have := t04 _ _ F5.1
          rw [← z, nq6] at this
          cases this
        have t05 := t04.trans t5
        have F6 := F5.same t05
        have bI := b9.trans (.of t05)
        have nI := fun {x : Addr} {H' : Hp} (s : Same G9 H') (e : H' x = none) => Same.none t19 (Same.none s e)
        refine ⟨f2, _, _, rfl, rfl, F6.1, by show 6 < sizeLine; decide, ?_⟩
        have F7 := F6.put (x := q6) f6 q6s q6f (oth3 pk at')
        have hpa10 : (upd I5 f2 (.lst (([(q0, ns), (q1, (ns.take at' ++ ((ns.take (at' + 2)).drop at').reverse) ++ ns.drop (at' + 2)), (q2, ns.take at'), (q3, ns.reverse), (q4, (ns.take at' ++ [k, -k]) ++ ns.drop at'), (q5, ns ++ [k])].map fun z => V.ref z.1) ++ [.ref q6]))) pa = some (.lst (ns.map V.int)) := by
          rw [upd_ne paf]
          exact t05 _ _ hpa9
        have hs10 : Src (upd I5 f2 (.lst (([(q0, ns), (q1, (ns.take at' ++ ((ns.take (at' + 2)).drop at').reverse) ++ ns.drop (at' + 2)), (q2, ns.take at'), (q3, ns.reverse), (q4, (ns.take at' ++ [k, -k]) ++ ns.drop at'), (q5, ns ++ [k])].map fun z => V.ref z.1) ++ [.ref q6]))) src (n + 2 + 1) := (hs9.same t05).upd f2s
        have b10 : Bt src H (upd I5 f2 (.lst (([(q0, ns), (q1, (ns.take at' ++ ((ns.take (at' + 2)).drop at').reverse) ++ ns.drop (at' + 2)), (q2, ns.take at'), (q3, ns.reverse), (q4, (ns.take at' ++ [k, -k]) ++ ns.drop at'), (q5, ns ++ [k])].map fun z => V.ref z.1) ++ [.ref q6]))) := bI.mut nfH
        generalize e2' : upd I5 f2 _ = J0 at ⊢
        have e2'' : upd I5 f2 (.lst (([(q0, ns), (q1, (ns.take at' ++ ((ns.take (at' + 2)).drop at').reverse) ++ ns.drop (at' + 2)), (q2, ns.take at'), (q3, ns.reverse), (q4, (ns.take at' ++ [k, -k]) ++ ns.drop at'), (q5, ns ++ [k])].map fun z => V.ref z.1) ++ [.ref q6])) = J0 := e2'
        rw [e2''] at F7 hpa10 hs10 b10
        clear e2' e2'' e1 e2 e3 e4 f6 F6 F5 t1 t2 t3 t4 t5 t04 t05 nq6 na1 na2 na3 na4
        -- low, high
        obtain ⟨lo, hi, elo, ehi, lh⟩ : ∃ lo hi : Nat, (if (to : Int) < (at' : Int) then (to : Int) else (at' : Int)) = (lo : Int) ∧ (if (to : Int) > (at' : Int) then (to : Int) else (at' : Int)) = (hi : Int) ∧ lo ≤ hi := by
          rcases Nat.lt_or_ge to at' with h | h
          · exact ⟨to, at', if_pos (by omega), if_neg (by omega), by omega⟩
          · refine ⟨at', to, if_neg (by omega), ?_, h⟩
            rcases Nat.lt_or_ge at' to with h2 | h2
            · exact if_pos (by omega)
            · rw [if_neg (by omega)]
              omega
        refine ⟨_, rfl, _, rfl, _, _, rfl, _, rfl, _, rfl, _, _, rfl, _, _, rfl, ?_⟩
        rw [elo, ehi]
        -- inner
        refine ⟨_, rfl, by show 1 ≤ sizeLine; decide, fun a1 na1 => ?_⟩
        generalize e2' : upd J0 a1 _ = J1 at ⊢
        have t1 : Same J0 J1 := by rw [← e2']; exact same_new na1
        have e1 : J1 a1 = some (.lst ([k].map V.int)) := by
          rw [← e2', upd_same]
          rfl
        clear e2'
        have hpa1 := t1 _ _ hpa10
        refine ⟨_, rfl, _, rfl, _, rfl, _, rfl, _, rfl, pa, _, rfl, .of hpa1, fun a2 na2 => ?_⟩
        rw [cutC]
        have t2 : Same J1 _ := same_new (o := .lst (((ns.take hi).drop lo).map V.int)) na2
        have e2 := upd_same (H := J1) (a := a2) (o := .lst (((ns.take hi).drop lo).map V.int))
        generalize upd J1 a2 _ = J2 at t2 e2 ⊢
        refine ⟨a1, a2, _, _, rfl, rfl, t2 _ _ e1, e2, sum_le (m := 200) (by show 1 ≤ 200; decide) (lad _ _) (by decide), fun a3 na3 => ?_⟩
        rw [catM]
        have t3 : Same J2 _ := same_new (o := .lst (([k] ++ (ns.take hi).drop lo).map V.int)) na3
        have e3 := upd_same (H := J2) (a := a3) (o := .lst (([k] ++ (ns.take hi).drop lo).map V.int))
        generalize upd J2 a3 _ = J3 at t3 e3 ⊢
        refine ⟨_, rfl, _, _, rfl, rfl, by show 1 ≤ sizeLine; decide, fun a4 na4 => ?_⟩
        generalize e2' : upd J3 a4 _ = J4 at ⊢
        have t4 : Same J3 J4 := by rw [← e2']; exact same_new na4
        have e4 : J4 a4 = some (.lst ([-k].map V.int)) := by
          rw [← e2', upd_same]
          show some (HO.lst [V.int (0 - k)]) = _
          rw [ez]
          rfl
        clear e2'
        refine ⟨a3, a4, _, _, rfl, rfl, t4 _ _ e3, e4, sum_le (m := 201) (by rw [List.length_append]; have := lad hi lo; show 1 + _ ≤ 201; omega) (by show 1 ≤ 201; decide) (by decide), fun a5 na5 => ?_⟩
        rw [catM]
        have t5 : Same J4 _ := same_new (o := .lst ((([k] ++ (ns.take hi).drop lo) ++ [-k]).map V.int)) na5
        have e5 := upd_same (H := J4) (a := a5) (o := .lst ((([k] ++ (ns.take hi).drop lo) ++ [-k]).map V.int))
        generalize upd J4 a5 _ = J5 at t5 e5 ⊢
        have t05 := (((t1.trans t2).trans t3).trans t4).trans t5
        have hpa5 := t05 _ _ hpa10
        have F8 := F7.same t05
        refine ⟨_, rfl, .inl ⟨rfl, _, .of F8.1⟩, _, rfl, _, rfl, _, rfl, pa, _, rfl, .of hpa5, fun a6 na6 => ?_⟩
        rw [cutB]
        have t6 : Same J5 _ := same_new (o := .lst ((ns.take lo).map V.int)) na6
        have e6 := upd_same (H := J5) (a := a6) (o := .lst ((ns.take lo).map V.int))
        generalize upd J5 a6 _ = J6 at t6 e6 ⊢
        refine ⟨_, rfl, a6, a5, _, _, rfl, rfl, e6, t6 _ _ e5, sum_le (m := 300) (Nat.le_trans (la _) (by decide)) (by rw [List.length_append, List.length_append]; have := lad hi lo; show 1 + _ + 1 ≤ 300; omega) (by decide), fun a7 na7 => ?_⟩
        rw [catM]
        have t7 : Same J6 _ := same_new (o := .lst ((ns.take lo ++ (([k] ++ (ns.take hi).drop lo) ++ [-k])).map V.int)) na7
        have e7 := upd_same (H := J6) (a := a7) (o := .lst ((ns.take lo ++ (([k] ++ (ns.take hi).drop lo) ++ [-k])).map V.int))
        generalize upd J6 a7 _ = J7 at t7 e7 ⊢
        have hpa7 := t7 _ _ (t6 _ _ hpa5)
        refine ⟨_, rfl, _, rfl, _, rfl, pa, _, rfl, .of hpa7, fun a8 na8 => ?_⟩
        rw [cutA]
        have t8 : Same J7 _ := same_new (o := .lst ((ns.drop hi).map V.int)) na8
        have e8 := upd_same (H := J7) (a := a8) (o := .lst ((ns.drop hi).map V.int))
        generalize upd J7 a8 _ = J8 at t8 e8 ⊢
        refine ⟨a7, a8, _, _, rfl, rfl, t8 _ _ e7, e8, sum_le (m := 600) (by rw [List.length_append, List.length_append, List.length_append]; have := lad hi lo; have := la lo; show _ + (1 + _ + 1) ≤ 600; omega) (Nat.le_trans (ld _) (by decide)) (by decide), fun q7 nq7 => ?_⟩
        rw [catM]
        have t9 : Same J8 _ := same_new (o := .lst (((ns.take lo ++ (([k] ++ (ns.take hi).drop lo) ++ [-k])) ++ ns.drop hi).map V.int)) nq7
        have f7 := upd_same (H := J8) (a := q7) (o := .lst (((ns.take lo ++ (([k] ++ (ns.take hi).drop lo) ++ [-k])) ++ ns.drop hi).map V.int))
        generalize upd J8 q7 _ = J9 at t9 f7 ⊢
        have t58 := (t6.trans t7).trans t8
        have q7s : q7 ≠ src := (hs10.same (t05.trans t58)).ne nq7
        have q7f : q7 ≠ f2 := (ne_of_none (t58 _ _ F8.1) nq7).symm
        have F9 := F8.same (t58.trans t9)
        have t09 := t05.trans (t58.trans t9)
        refine ⟨f2, _, _, rfl, rfl, F9.1, by show 7 < sizeLine; decide, ?_⟩
        exact ⟨_, _, _, _, _, f2, _, rfl, F9.put (x := q7) f7 q7s q7f (oth4 pk lh), (by show 8 ≤ 8; decide), (hs10.same t09).upd f2s, (b10.trans (.of t09)).mut nfH⟩
    · obtain ⟨y6, y7, y8, y9, y10, fo, qs, rfl, F2, l2, hs14, b14⟩ := hm
      have nDs' := fun {x : Addr} (e : H14 x = none) => hs14.ne e
      refine ⟨_, rfl, fo, rfl, ⟨_, .of F2.1⟩, fun R nR => ?_⟩
      refine lc_list (xs := qs.map fun z => V.ref z.1) (fun i H' => Same H14 H' ∧ ∃ ps : List (Addr × List Int), H' R = some (.lst (ps.map fun z => V.ref z.1)) ∧ ps.length ≤ i ∧ ∀ z ∈ ps, z ∈ qs ∧ OrdP z.2) ⟨same_new nR, [], upd_same, Nat.le_refl _, fun z hz => nomatch hz⟩ (fun i H' _ h => .of (h.1 _ _ F2.1)) (fun i y H' hy h => ?_) (fun H17 h => ?_)
      · obtain ⟨sm, ps, hR, lp, hps⟩ := h
        rw [List.getElem?_map] at hy
        obtain ⟨z, hz, rfl⟩ := Option.map_eq_some_iff.mp hy
        have hzm := List.mem_of_getElem? hz
        obtain ⟨m1, m2, m3, m4⟩ := F2.2.2 z hzm
        refine ⟨rfl, ?_⟩
        refine ⟨_, rfl, z.1, z.2, rfl, .of (sm _ _ m3), m4, fun H'' b s hb => ⟨b, rfl, ?_⟩⟩
        have il := lt_get hz
        cases b with
        | false => exact ⟨Same.trans sm s, ps, s _ _ hR, Nat.le_succ_of_le lp, hps⟩
        | true =>
          refine ⟨_, rfl, _, s _ _ hR, by rw [List.length_map]; exact zl (by omega), Lp.Same.mut (Same.trans sm s) nR, ps ++ [z], ?_, ?_, fun x hx => ?_⟩
          · rw [upd_same, List.map_append]
            rfl
          · rw [List.length_append]
            exact Nat.succ_le_succ lp
          · rcases List.mem_append.mp hx with hx | hx
            · exact hps x hx
            · rw [List.mem_singleton.mp hx]
              exact ⟨hzm, hb.mp rfl⟩
      · obtain ⟨sm, ps, hR, lp, hps⟩ := h
        rw [List.length_map] at lp
        exact q _ R ps (b14.trans (.of sm)) (hs14.same sm) hR (hs14.ne nR) (Nat.le_trans lp l2) fun z hz => ⟨(F2.2.2 z (hps z hz).1).1, sm _ _ (F2.2.2 z (hps z hz).1).2.2.1, (F2.2.2 z (hps z hz).1).2.2.2.piece (hps z hz).2⟩
end
end L45
set_option Elab.async false
set_option linter.all false
set_option maxRecDepth 100000
namespace L45
open PySem PySem.Spec PyProof.Rows L2 Lp
section
variable {P : Program} {w : World} {K : PySem.W.Frag} {mg : Str → Option Value} {base : Heap} {CE : Addr}
structure TxO (K : PySem.W.Frag) (CE : Addr) : Prop where
  nf : PySem.W.notFirst K CE (.ref CE) = true
  sf : PySem.W.selfFirst K CE = true
  ne : PySem.W.findIn K (.ref CE) "__ne__" = some (some (.builtin "object.__ne__"))
  ob : PySem.W.subIn K (.ref CE) (.type "object") = some true
theorem eqv_dE (ns ms : List Int) : PyData.eqv (dE ns) (dE ms) = decide (EqE ns ms) := by
  show (((runR ns).1 == (runR ms).1) && (PyData.eqv (dP (cS ns)) (dP (cS ms)) && (PyData.eqv (dI (cG ns)) (dI (cG ms)) && (PyData.eqv (dI (cE ns)) (dI (cE ms)) && true)))) = _
  rw [eqv_dP, eqv_ints, eqv_ints, Bool.and_true]
  by_cases e1 : (runR ns).1 = (runR ms).1 <;> by_cases e2 : cS ns = cS ms <;> by_cases e3 : cG ns = cG ms <;> by_cases e4 : cE ns = cE ms <;> simp [EqE, e1, e2, e3, e4]
theorem shaped_dE (ns : List Int) : SeqAt.shaped (dE ns) = true := by
  show ((true && (PyData.canLayAll0 ((cS ns).map fun z => PyData.tuple [.int z.1, .int z.2]) && (PyData.canLayAll0 ((cG ns).map PyData.int) && (PyData.canLayAll0 ((cE ns).map PyData.int) && true)))) && decide (max 0 (max (PyData.depthAll ((cS ns).map fun z => PyData.tuple [.int z.1, .int z.2]) + 1) (max (PyData.depthAll ((cG ns).map PyData.int) + 1) (max (PyData.depthAll ((cE ns).map PyData.int) + 1) 0))) + 1 ≤ 64)) = true
  have := depth_pairs (cS ns)
  rw [lay_pairs, lay_ints, lay_ints, depth_ints, depth_ints, decide_eq_true (by omega)]
  rfl
theorem EqE.symm {ns ms : List Int} (h : EqE ns ms) : EqE ms ns := ⟨h.1.symm, h.2.1.symm, h.2.2.1.symm, h.2.2.2.symm⟩
theorem eqE_comm (ns ms : List Int) : decide (EqE ms ns) = decide (EqE ns ms) := decide_eq_decide.mpr ⟨EqE.symm, EqE.symm⟩
def spPair : Sp := fun vs H Q _ => ∃ (pa oa : Addr) (ns ms : List Int), vs = [.ref pa, .ref oa] ∧ H pa = some (.lst (ns.map V.int)) ∧ H oa = some (.lst (ms.map V.int)) ∧ Piece ns ∧ Piece ms ∧ ∀ H', Same H H' → Q (.bl true) H'
set_option maxHeartbeats 2000000 in
theorem ok_law_pair_right {f : Addr} {fd : FuncData} (F : Fun K "_law_pair_right" "_law_pair_right" s_law_pair_right f fd) (TO : TxO K CE) (T_mk_Effect : Mak P w K mg base 6 "Effect" CE (spInit CE)) (T_law_refs : Gc P w K mg base 1 "_law_refs" (spRefs K)) (T_law_same : Gc P w K mg base 5 "_law_same" (spEqD K 4)) (T_Effect_eq : Met P w K mg base 1 CE "__eq__" (spEqE CE)) : FnG P w K mg base CX0 9 f fd ["part", "other"] spPair := by
  have T_nf_Effect := TO.nf
  have T_sf_Effect := TO.sf
  have T_ne_Effect := TO.ne
  have T_ob_Effect := TO.ob
  have T_law_refs := gc_weaken T_law_refs refs_x
  have T_mk_Effect := mak_weaken T_mk_Effect init_n
  refine okG F sc_law_pair_right (fun vs H Q E h => ?_) (fun cdv A outer s H vs Q E hG hr h => ?_)
  · obtain ⟨pa, oa, ns, ms, rfl, _⟩ := h
    rfl
  · obtain ⟨pa, oa, ns, ms, rfl, hpa, hoa, p1, p2, q⟩ := h
    have hu64 := hr.units
    have l1 := p1.len
    have l2 := p2.len
    refine ⟨_, (pss_cons (ps_par (i := 2) (j := 3) (by rfl) sc_law_pair_right.nd rfl rfl (by decide) rfl rfl (pa_cons (pe_mk T_mk_Effect hr (by decide) (by rfl) (pa_cons (pv 0) pa_nil)) (pa_cons (pe_mk T_mk_Effect hr (by decide) (by rfl) (pa_cons (pv 1) pa_nil)) pa_nil)) (by rfl))
        (pss_cons (ps_set (i := 4) sc_law_pair_right.nd rfl (Or.inl rfl) (pe_cmpR (op_eqD hu64) (pe_g T_law_refs hG hr (by decide) (by rfl) (pa_cons (pv 0) pa_nil)) (pe_g T_law_refs hG hr (by decide) (by rfl) (pa_cons (pv 1) pa_nil)) (nomark _)))
        (pss_cons (ps_set (i := 5) sc_law_pair_right.nd rfl (Or.inl rfl) (pe_lst (pa_cons (pe_cmpR (op_eqO T_Effect_eq hr (by decide) T_nf_Effect) (pv 2) (pv 3) (nomark _)) (pa_cons (pe_cmpR (op_eqO T_Effect_eq hr (by decide) T_nf_Effect) (pv 3) (pv 2) (nomark _)) (pa_cons (pe_cmpR (op_neO T_Effect_eq hr (by decide) T_nf_Effect T_ne_Effect T_ob_Effect) (pv 2) (pv 3) (nomark _)) (pa_cons (pe_cmpR (op_neO T_Effect_eq hr (by decide) T_nf_Effect T_ne_Effect T_ob_Effect) (pv 3) (pv 2) (nomark _)) pa_nil))))))
        (pss_one (ps_ret (pe_g T_law_same hG hr (by decide) (by rfl) (pa_cons (pv 5) (pa_cons (pe_lst (pa_cons (pv 4) (pa_cons (pv 4) (pa_cons (pe_not (pv 4)) (pa_cons (pe_not (pv 4)) pa_nil))))) pa_nil)))))))), ?_⟩
    refine ⟨_, rfl, fun x dx nx ndx nex => ⟨x, dx, pa, ns, rfl, up2 nx ndx hpa, p1, upd_same, fun H1 bt1 hxN => ⟨rfl, ?_⟩⟩⟩
    have s1 := same2 nx ndx bt1
    have hx := (hxN pa _ (up2 nx ndx hpa)).toX
    refine ⟨_, rfl, fun y dy ny ndy ney => ⟨y, dy, oa, ms, rfl, up2 ny ndy (s1 _ _ hoa), p2, upd_same, fun H2 bt2 hyN => ⟨rfl, ?_⟩⟩⟩
    have s2 := same2 ny ndy bt2
    have hy := (hyN oa _ (up2 ny ndy (s1 _ _ hoa))).toX
    have hx2 := hx.same s2
    have s02 := s1.trans s2
    refine ⟨_, _, rfl, ?_⟩
    -- due
    refine ⟨_, rfl, pa, ns, rfl, .of (s02 _ _ hpa), p1, fun H3 r1 s3 d1 => ?_⟩
    refine ⟨_, rfl, oa, ms, rfl, .of (s3 _ _ (s02 _ _ hoa)), p2, fun H4 r2 s4 d2 => ?_⟩
    refine ⟨dE ns, dE ms, dp_same s4 d1, d2, shaped_dE _, shaped_dE _, ?_⟩
    rw [eqv_dE]
    have s24 := s3.trans s4
    have hx4 := hx2.same s24
    have hy4 := hy.same s24
    -- told
    refine ⟨_, rfl, _, rfl, eqE hx4 hy4 ⟨_, rfl, _, rfl, eqE hy4 hx4 ⟨_, rfl, _, rfl, neE hx4 hy4 ⟨_, rfl, _, rfl, neE hy4 hx4 ?_⟩⟩⟩⟩
    refine ⟨by show 4 ≤ sizeLine; decide, fun td ntd => ?_⟩
    rw [eqE_comm ns ms]
    refine ⟨_, rfl, _, rfl, _, rfl, _, rfl, _, rfl, _, rfl, _, rfl, by show 4 ≤ sizeLine; decide, fun dd ndd => ?_⟩
    have st := same_new (o := .lst [.bl (decide (EqE ns ms)), .bl (decide (EqE ns ms)), .bl (!decide (EqE ns ms)), .bl (!decide (EqE ns ms))]) ntd
    have sd := same_new (o := .lst [.bl (decide (EqE ns ms)), .bl (decide (EqE ns ms)), .bl (!decide (EqE ns ms)), .bl (!decide (EqE ns ms))]) ndd
    refine ⟨.ref td, .ref dd, .list [.bool (decide (EqE ns ms)), .bool (decide (EqE ns ms)), .bool (!decide (EqE ns ms)), .bool (!decide (EqE ns ms))], rfl, .lst (.of (sd _ _ upd_same)) (.cons (.bl _) (.cons (.bl _) (.cons (.bl _) (.cons (.bl _) .nil)))), .lst (.of upd_same) (.cons (.bl _) (.cons (.bl _) (.cons (.bl _) (.cons (.bl _) .nil)))), ?_, fun H' s => q H' (((s02.trans s24).trans (st.trans sd)).trans s)⟩
    refine ⟨by show 4 < 100000; decide, fun x hx => ?_⟩
    simp only [List.mem_cons, List.not_mem_nil, or_false] at hx
    rcases hx with rfl | rfl | rfl | rfl <;> trivial
end
end L45
set_option Elab.async false
set_option linter.all false
set_option maxRecDepth 100000
namespace L45
open PySem PySem.Spec PyProof.Rows L2 Lp
/-! ### a piece that fits behind a history -/
def bgL (ms : List Int) : List Int := ms.filter fun e => decide (e > 0)
def goL (ms : List Int) : List Int := (ms.filter fun e => decide (e < 0 ∧ 0 - e ∉ bgL ms)).map fun e => 0 - e
def alL (us : List Int) : List Int := us.filter fun e => decide (e > 0 ∧ 0 - e ∉ us)
def awL (us ms : List Int) : List Int := (goL ms).filter fun e => decide (e ∉ alL us)
def boL (us ms : List Int) : List Int := (bgL ms).filter fun e => decide (e ∈ us)
theorem fits_hist {us ms : List Int} (hu : Hist us) (pm : Piece ms) (h : awL us ms ++ boL us ms = []) : Hist (us ++ ms) := by
  obtain ⟨h1, h2⟩ := List.append_eq_nil_iff.mp h
  have c1 : ∀ k ∈ ms, 0 < k → k ∉ us := fun k hk h0 hu' => by
    have hb : k ∈ bgL ms := List.mem_filter.mpr ⟨hk, decide_eq_true h0⟩
    have := List.filter_eq_nil_iff.mp h2 k hb
    exact this (decide_eq_true hu')
  have c2 : ∀ e ∈ ms, e < 0 → -e ∉ ms → -e ∈ us ∧ e ∉ us := fun e he h0 hn => by
    have ez : 0 - e = -e := Int.zero_sub e
    have hg : -e ∈ goL ms := List.mem_map.mpr ⟨e, List.mem_filter.mpr ⟨he, decide_eq_true ⟨h0, fun c => hn (by rw [← ez]; exact (List.mem_filter.mp c).1)⟩⟩, ez⟩
    have := List.filter_eq_nil_iff.mp h1 _ hg
    have ha : -e ∈ alL us := Classical.byContradiction fun c => this (decide_eq_true c)
    obtain ⟨a1, a2⟩ := List.mem_filter.mp ha
    have a3 := (of_decide_eq_true a2).2
    rw [Int.zero_sub, Int.neg_neg] at a3
    exact ⟨a1, a3⟩
  have nd : (us ++ ms).Nodup := List.nodup_append.mpr ⟨hu.nd, pm.nd, fun a ha b hb q => by
    subst q
    have := (pm.rng a hb).1
    by_cases h0 : 0 < a
    · exact c1 a hb h0 ha
    · by_cases hn : -a ∈ ms
      · obtain ⟨i, hi, ei⟩ := List.mem_iff_getElem.mp ha
        have ho := hu.ord i a (by rw [List.getElem?_eq_getElem hi, ei]) (by omega)
        exact c1 _ hn (by omega) (List.mem_of_mem_take ho)
      · exact (c2 a hb (by omega) hn).2 ha⟩
  have rng : ∀ e ∈ us ++ ms, e ≠ 0 ∧ -100 ≤ e ∧ e ≤ 100 := fun e he => by
    rcases List.mem_append.mp he with he | he
    · exact hu.rng e he
    · exact pm.rng e he
  refine ⟨rng, nd, fun i e he h0 => ?_, (Pre.mk rng nd).len⟩
  rcases Nat.lt_or_ge i us.length with hi | hi
  · rw [List.getElem?_append_left hi] at he
    rw [List.take_append_of_le_length (by omega)]
    exact hu.ord i e he h0
  · rw [List.getElem?_append_right hi] at he
    have et : (us ++ ms).take i = us ++ ms.take (i - us.length) := by
      have e := List.take_length_add_append (i - us.length) (l₁ := us) (l₂ := ms)
      rw [show us.length + (i - us.length) = i by omega] at e
      exact e
    rw [et]
    generalize i - us.length = j at he ⊢
    by_cases hn : -e ∈ ms
    · obtain ⟨j', hj', ej⟩ := List.mem_iff_getElem.mp hn
      have hj2 : ms[j']? = some (-e) := by rw [List.getElem?_eq_getElem hj', ej]
      have ho := pm.ord j' _ hj2 (by omega)
      rw [Int.neg_neg] at ho
      have lj := lt_get he
      refine List.mem_append_right _ ?_
      rcases Nat.lt_or_ge j' j with h | h
      · exact List.mem_iff_getElem.mpr ⟨j', by rw [List.length_take]; omega, by rw [List.getElem_take]; exact ej⟩
      · have : j ≠ j' := fun q => by
          rw [q, hj2] at he
          have := Option.some.inj he
          omega
        exact absurd (List.mem_iff_getElem.mpr ⟨j, by rw [List.length_take]; omega, by rw [List.getElem_take]; exact (List.getElem?_eq_some_iff.mp he).2⟩) ho
    · exact List.mem_append_left _ (c2 e (mem_get he) h0 hn).1
theorem eqE_gn {ns ms : List Int} (h : EqE ns ms) (k : Int) : k ∈ gn ns ↔ k ∈ gn ms := by
  have e := h.2.2.1
  have a := (List.mergeSort_perm (gn ns) fun x y => decide (x ≤ y)).mem_iff (a := k)
  have b := (List.mergeSort_perm (gn ms) fun x y => decide (x ≤ y)).mem_iff (a := k)
  have e' : ((gn ns).mergeSort fun x y => decide (x ≤ y)) = (gn ms).mergeSort fun x y => decide (x ≤ y) := e
  rw [← a, ← b, e']
theorem beh_eqE {ns ms : List Int} (h : EqE ns ms) (p : Int) (S : List (Int × Int)) : (behL p S ns).1 = (behL p S ms).1 ∧ (behL p S ns).2.Perm (behL p S ms).2 := by
  have eg : (S.filter fun z => decide (z.1 ∉ gn ns)) = S.filter fun z => decide (z.1 ∉ gn ms) := List.filter_congr fun z _ => decide_eq_decide.mpr (not_congr (eqE_gn h z.1))
  have e' : ((hl ns).mergeSort fun x y => decide (x.1 ≤ y.1)) = (hl ms).mergeSort fun x y => decide (x.1 ≤ y.1) := h.2.1
  have ph : (hl ns).Perm (hl ms) := by
    have a := List.mergeSort_perm (hl ns) fun x y => decide (x.1 ≤ y.1)
    have b := List.mergeSort_perm (hl ms) fun x y => decide (x.1 ≤ y.1)
    rw [e'] at a
    exact a.symm.trans b
  unfold behL
  rw [h.1, eg]
  exact ⟨rfl, (ph.map _).append_left _⟩
end L45
set_option Elab.async false
set_option linter.all false
set_option maxRecDepth 100000
namespace L45
open PySem PySem.Spec PyProof.Rows L2 Lp
section
variable {P : Program} {w : World} {K : PySem.W.Frag} {mg : Str → Option Value} {base : Heap} {CE : Addr}
structure TxV (K : PySem.W.Frag) (CE : Addr) : Prop where
  hc : ((PySem.W.clsIn K CE).isSome && PySem.W.typeIn K (.ref CE) == some (.type "type")) = true
  s0 : PySem.W.subIn K (.type "NoneType") (.ref CE) = some false
  s1 : PySem.W.subIn K (.type "list") (.ref CE) = some false
  s2 : PySem.W.subIn K (.type "tuple") (.ref CE) = some false
  s3 : PySem.W.subIn K (.type "int") (.ref CE) = some false
  s4 : PySem.W.subIn K (.type "str") (.ref CE) = some false
  s5 : PySem.W.subIn K (.type "dict") (.ref CE) = some false
  s6 : PySem.W.subIn K (.type "bool") (.ref CE) = some false
theorem Eff.bt {CE : Addr} {H H' : Hp} {x dx a1 a3 a4 a5 src : Addr} {ns : List Int} {ps : List (Addr × Int × Int)} {G E : List Int} {n : Nat} (h : Eff CE H x dx a1 a3 a4 a5 ns ps G E) (b : Bt src H H') (hs : Src H src n) (n1 : a1 ≠ src) (n3 : a3 ≠ src) (n4 : a4 ≠ src) (n5 : a5 ≠ src) : Eff CE H' x dx a1 a3 a4 a5 ns ps G E := by
  obtain ⟨_, _, _, hsrc, _⟩ := hs
  exact ⟨b _ _ (ne_of h.hx hsrc (fun z => nomatch z)) h.hx, b _ _ n1 h.h1, b _ _ n3 h.h3, fun z hz => b _ _ (ne_of (h.hp z hz) hsrc (fun z => nomatch z)) (h.hp z hz), b _ _ n4 h.h4, b _ _ n5 h.h5, h.pt, h.pc⟩
theorem EffD.btX {CE src : Addr} {H H' : Hp} {x : Addr} {ns : List Int} {n : Nat} (h : EffD CE src H x ns) (b : Bt src H H') (hs : Src H src n) : EffX CE H' x ns := by
  obtain ⟨dx, a1, a3, a4, a5, ps, G, E, he, n1, n3, n4, n5⟩ := h
  exact ⟨dx, a1, a3, a4, a5, ps, G, E, he.bt b hs n1 n3 n4 n5⟩
/-- the whole list, and two exchanged -/
def wOther (a : Nat) : List Int := ((upL 100).take a ++ [(a : Int) + 2, (a : Int) + 1]) ++ (upL 100).drop (a + 2)
theorem pos_piece {l : List Int} (r : ∀ e ∈ l, 0 < e ∧ e ≤ 100) (nd : l.Nodup) (len : l.length ≤ 200) : Piece l :=
  ⟨fun e he => by have := r e he; omega, nd, fun i e he h0 c => by
    have := r _ (List.mem_of_mem_take c)
    omega, len⟩
theorem w_whole : Piece (upL 100) := pos_piece (by decide +kernel) (by decide +kernel) (by decide +kernel)
theorem w_facts : ∀ a ∈ [0, 13, 50, 98], ((∀ e ∈ wOther a, 0 < e ∧ e ≤ 100) ∧ (wOther a).Nodup ∧ (wOther a).length ≤ 200) ∧ ((a : Int) + 1, (a : Int)) ∈ hl (upL 100) ∧ ((a : Int) + 1, (a : Int)) ∉ hl (wOther a) := by decide +kernel
theorem w_piece {a : Nat} (h : a ∈ [0, 13, 50, 98]) : Piece (wOther a) := pos_piece (w_facts a h).1.1 (w_facts a h).1.2.1 (w_facts a h).1.2.2
theorem eqE_hl {ns ms : List Int} (h : EqE ns ms) : (hl ns).Perm (hl ms) := by
  have e' : ((hl ns).mergeSort fun x y => decide (x.1 ≤ y.1)) = (hl ms).mergeSort fun x y => decide (x.1 ≤ y.1) := h.2.1
  have a := List.mergeSort_perm (hl ns) fun x y => decide (x.1 ≤ y.1)
  have b := List.mergeSort_perm (hl ms) fun x y => decide (x.1 ≤ y.1)
  rw [e'] at a
  exact a.symm.trans b
theorem w_ne {a : Nat} (h : a ∈ [0, 13, 50, 98]) : ¬ EqE (upL 100) (wOther a) := fun c => (w_facts a h).2.2 ((eqE_hl c).mem_iff.mp (w_facts a h).2.1)
theorem w_p1 : Piece [1, -1] := by
  refine ⟨by decide, by decide, fun i e he h0 => ?_, by decide⟩
  match i, he with
  | 0, he => cases he; decide
  | 1, he => cases he; exact absurd h0 (by decide)
  | i + 2, he => exact nomatch he
theorem w_p2 : Piece [1, 2, -2, -1] := by
  refine ⟨by decide, by decide, fun i e he h0 => ?_, by decide⟩
  match i, he with
  | 0, he => cases he; decide
  | 1, he => cases he; decide
  | 2, he => cases he; exact absurd h0 (by decide)
  | 3, he => cases he; exact absurd h0 (by decide)
  | i + 4, he => exact nomatch he
theorem w_ne2 : ¬ EqE [1, -1] [1, 2, -2, -1] := fun c => by
  have e' : ((en [1, -1]).mergeSort fun x y => decide (x ≤ y)) = (en [1, 2, -2, -1]).mergeSort fun x y => decide (x ≤ y) := c.2.2.2
  have a := (List.mergeSort_perm (en [1, -1]) fun x y => decide (x ≤ y)).length_eq
  have b := (List.mergeSort_perm (en [1, 2, -2, -1]) fun x y => decide (x ≤ y)).length_eq
  rw [e', b] at a
  exact absurd a (by decide +kernel)
theorem fl_put {ns : List Int} {f : Int → Bool} {i : Nat} {e : Int} (h : ns[i]? = some e) (hf : f e = true) (g : Int → V) : ((ns.take (i + 1)).filter f).map g = ((ns.take i).filter f).map g ++ [g e] := by
  rw [filt_succ h, if_pos hf, List.map_append]
  rfl
theorem fl_skip {ns : List Int} {f : Int → Bool} {i : Nat} {e : Int} (h : ns[i]? = some e) (hf : f e = false) (g : Int → V) : ((ns.take (i + 1)).filter f).map g = ((ns.take i).filter f).map g := by
  rw [filt_succ h, if_neg (by rw [hf]; exact Bool.false_ne_true), List.append_nil]
theorem fl_len {ns : List Int} {f : Int → Bool} {i : Nat} {g : Int → V} (h : i ≤ 1000) : (((ns.take i).filter f).map g).length < 100000 := by
  rw [List.length_map]
  have := filt_len (ns := ns) (f := f) i
  omega
theorem fl_end {H : Hp} {D : Addr} {l : List Int} {f : Int → Bool} {g : Int → V} {n : Nat} (hn : n = l.length) (h : H D = some (.lst (((l.take n).filter f).map g))) : H D = some (.lst ((l.filter f).map g)) := by
  subst hn
  rw [List.take_length] at h
  exact h
theorem if_tC {c : Bool} {x y : V} {σ : L2.St} {H : Hp} {Q : VK} (h : ∀ v, (v = x ∨ v = y) → Q v H) : if c = true then tC x σ H Q else tC y σ H Q := by
  cases c with
  | true => exact h x (.inl rfl)
  | false => exact h y (.inr rfl)
def spLaw (K : PySem.W.Frag) : Sp := fun vs H Q _ => ∃ (a : Addr) (ns : List Int), vs = [.ref a] ∧ SqL K H a (ns.map V.int) ∧ ns.length ≤ 63 ∧ ∀ H', Q (.bl true) H'
set_option maxHeartbeats 4000000 in
theorem ok_law {f : Addr} {fd : FuncData} (F : Fun K "law" "law" s_law f fd) (B : NoB mg) (TO : TxO K CE) (TV : TxV K CE) (T_law_open_source : Gc P w K mg base 1 "_law_open_source" (spSource K)) (T_law_piece : Gc P w K mg base 3 "_law_piece" (spPiece K)) (T_law_refs : Gc P w K mg base 1 "_law_refs" (spRefs K)) (T_law_others : Gc P w K mg base 6 "_law_others" spOthers) (T_law_pair_right : Gc P w K mg base 9 "_law_pair_right" spPair) (T_mk_Effect : Mak P w K mg base 6 "Effect" CE (spInit CE)) (T_Effect_present : Prp P w K mg base 1 CE "present" (spPresent CE)) (T_Effect_saved : Prp P w K mg base 1 CE "saved" (spSaved CE)) (T_Effect_stopped : Prp P w K mg base 1 CE "stopped" (spStopped CE)) (T_Effect_ended : Prp P w K mg base 1 CE "ended" (spEnded CE)) (T_Effect_eq : Met P w K mg base 1 CE "__eq__" (spEqE CE)) (T_Effect_eqV : Met P w K mg base 1 CE "__eq__" (spEqV K CE)) (T_state_after : Cal P w K mg base 8 "state_after" (spStAfter K)) (T_Effect_call : Met P w K mg base 5 CE "__call__" (spCallE CE)) (T_fi_Effect : ∀ f, PySem.W.findIn K (.ref CE) "__call__" = some (some (.ref f)) → PySem.W.fnIn K f = true) : FnG P w K mg base CX0 10 f fd ["script"] (spLaw K) := by
  have T_nf_Effect := TO.nf
  have T_sf_Effect := TO.sf
  have T_ne_Effect := TO.ne
  have T_ob_Effect := TO.ob
  have T_law_refs := gc_weaken T_law_refs refs_x
  have T_mk_Effect := mak_weaken T_mk_Effect init_n
  refine okG F sc_law (fun vs H Q E h => ?_) (fun cdv A outer s H vs Q E hG hr h => ?_)
  · obtain ⟨a, ns, rfl, _⟩ := h
    rfl
  · obtain ⟨sc, scr, rfl, hS, hl63, q⟩ := h
    have hu64 := hr.units
    refine ⟨_, (pss_cons (ps_for PassesOwn.never rfl (pi_range1 rfl B.range (pa_cons (pe_callB (call_max2 rfl) (by rfl) B.max (by decide +kernel) (pa_cons pe_int (pa_cons (pe_callB (call_min2 rfl) (by rfl) B.min (by decide +kernel) (pa_cons pe_int (pa_cons (pe_callB call_len_seq (by rfl) B.len PySem.boot_len (pa_cons (pv 0) pa_nil)) pa_nil))) pa_nil))) pa_nil)) (pg_name (i := 1) sc_law.nd rfl (Or.inl rfl))
          (pss_cons (ps_set (i := 2) sc_law.nd rfl (Or.inl rfl) (pe_g T_law_open_source hG hr (by decide) (by rfl) (pa_cons (pv 0) (pa_cons (pv 1) pa_nil))))
          (pss_one (ps_for PassesOwn.never rfl (pi_range1 rfl B.range (pa_cons pe_int pa_nil)) (pg_name (i := 3) sc_law.nd rfl (Or.inl rfl))
            (pss_cons (ps_asg (pe_g T_law_piece hG hr (by decide) (by rfl) (pa_cons (pv 2) (pa_cons (pv 0) (pa_cons (pe_ifExp (pt_cmpR op_eq (pv 3) pe_int (nomark _)) pe_int pe_int) pa_nil)))) (pg_tup rfl (pgs_cons (pg_name (i := 4) sc_law.nd rfl (Or.inr rfl)) (pgs_cons (pg_name (i := 5) sc_law.nd rfl (Or.inl rfl)) pgs_nil))))
            (pss_cons (ps_set (i := 6) sc_law.nd rfl (Or.inr rfl) (pe_mk T_mk_Effect hr (by decide) (by rfl) (pa_cons (pv 5) pa_nil)))
            (pss_cons (ps_for PassesOwn.never rfl (pi_list (pe_g T_law_others hG hr (by decide) (by rfl) (pa_cons (pv 2) (pa_cons (pv 5) pa_nil)))) (pg_name (i := 7) sc_law.nd rfl (Or.inl rfl))
              (pss_cons (ps_if (pt_not (pt_val (pe_g T_law_pair_right hG hr (by decide) (by rfl) (pa_cons (pv 5) (pa_cons (pv 7) pa_nil))))) (pss_one (ps_ret pe_bl)) pss_nil)
              (pss_cons (ps_set (i := 8) sc_law.nd rfl (Or.inr rfl) (pe_lc (own := [("name", 17)]) (g := gName 17) (tt := _) rfl sc_law.nd (pi_list (pv 7)) (blkOk_by (own := [("name", 17)]) (N := N_law) (sc := defScope s_law) (by decide +kernel)) (fun _ _ _ _ _ => (pg_name (i := 17) sc_law.nd rfl (Or.inl rfl))) (fun _ _ _ _ _ => (pts_one (pt_cmpR op_gt (pv 17) pe_int (nomark _)))) (fun _ _ _ _ _ => (pv 17))))
              (pss_cons (ps_setLc (i := 9) (own := [("name", 17)]) (g := gName 17) (tt := _) rfl sc_law.nd rfl rfl (sw_true rfl rfl rfl (by decide +kernel)) (pi_list (pv 7)) (blkOk_by (own := [("name", 17)]) (N := N_law) (sc := defScope s_law) (by decide +kernel)) (fun _ _ _ _ _ => (pg_name (i := 17) sc_law.nd rfl (Or.inl rfl))) (fun _ _ _ _ _ => (pts_one (PW.pt (pw_and (pt_cmpR op_lt (pv 17) pe_int (nomark _)) (pw_and1 (pt_cmpR (k_notin (K := K) rfl) (pe_op op_sub pe_int (pv 17)) (pv 8) (by rfl))))))) (fun _ _ _ _ _ => (pe_op op_sub pe_int (pv 17))))
              (pss_cons (ps_set (i := 10) sc_law.nd rfl (Or.inr rfl) (pe_lc (own := [("name", 17)]) (g := gName 17) (tt := _) rfl sc_law.nd (pi_list (pv 4)) (blkOk_by (own := [("name", 17)]) (N := N_law) (sc := defScope s_law) (by decide +kernel)) (fun _ _ _ _ _ => (pg_name (i := 17) sc_law.nd rfl (Or.inl rfl))) (fun _ _ _ _ _ => (pts_one (PW.pt (pw_and (pt_cmpR op_gt (pv 17) pe_int (nomark _)) (pw_and1 (pt_cmpR (k_notin (K := K) rfl) (pe_op op_sub pe_int (pv 17)) (pv 4) (by rfl))))))) (fun _ _ _ _ _ => (pv 17))))
              (pss_cons (ps_setLc (i := 11) (own := [("name", 17)]) (g := gName 17) (tt := _) rfl sc_law.nd rfl rfl (sw_true rfl rfl rfl (by decide +kernel)) (pi_list (pv 9)) (blkOk_by (own := [("name", 17)]) (N := N_law) (sc := defScope s_law) (by decide +kernel)) (fun _ _ _ _ _ => (pg_name (i := 17) sc_law.nd rfl (Or.inl rfl))) (fun _ _ _ _ _ => (pts_one (pt_cmpR (k_notin (K := K) rfl) (pv 17) (pv 10) (by rfl)))) (fun _ _ _ _ _ => (pv 17)))
              (pss_cons (ps_set (i := 12) sc_law.nd rfl (Or.inl rfl) (pe_cmpR (op_eqD hu64) (pe_op op_cat (pv 11) (pe_lc (own := [("name", 17)]) (g := gName 17) (tt := _) rfl sc_law.nd (pi_list (pv 8)) (blkOk_by (own := [("name", 17)]) (N := N_law) (sc := defScope s_law) (by decide +kernel)) (fun _ _ _ _ _ => (pg_name (i := 17) sc_law.nd rfl (Or.inl rfl))) (fun _ _ _ _ _ => (pts_one (pt_cmpR (k_in (K := K) rfl) (pv 17) (pv 4) (by rfl)))) (fun _ _ _ _ _ => (pv 17)))) (pe_lst pa_nil) (nomark _)))
              (pss_one (ps_if (PW.pt (pw_and (pt_val (pv 12)) (pw_and (pt_cmpR (op_eqO T_Effect_eq hr (by decide) T_nf_Effect) (pe_mk T_mk_Effect hr (by decide) (by rfl) (pa_cons (pv 7) pa_nil)) (pv 6) (nomark _)) (pw_and1 (pt_cmpR (op_neD hu64) (pe_callE T_Effect_call T_fi_Effect hr (by decide) (pv 6) (pa_cons (pe_c T_state_after hr (by decide) (by rfl) (pa_cons (pv 4) pa_nil)) pa_nil)) (pe_c T_state_after hr (by decide) (by rfl) (pa_cons (pe_op op_cat (pv 4) (pv 7)) pa_nil)) (nomark _)))))) (pss_one (ps_ret pe_bl)) pss_nil)))))))))
            (pss_cons (ps_set (i := 13) sc_law.nd rfl (Or.inl rfl) (pe_lst (pa_cons (pe_pr T_Effect_present hr (by decide) (pv 6)) (pa_cons (pe_pr T_Effect_saved hr (by decide) (pv 6)) (pa_cons (pe_pr T_Effect_stopped hr (by decide) (pv 6)) (pa_cons (pe_pr T_Effect_ended hr (by decide) (pv 6)) pa_nil))))))
            (pss_cons (ps_set (i := 14) sc_law.nd rfl (Or.inl rfl) (pe_lst (pa_cons pe_non (pa_cons (pv 5) (pa_cons (pe_callTy call_tuple_of (by rfl) B.tuple (by decide +kernel) (pa_cons (pv 5) pa_nil)) (pa_cons (pv 13) (pa_cons (pe_callTy call_tuple_of (by rfl) B.tuple (by decide +kernel) (pa_cons (pv 13) pa_nil)) (pa_cons (pe_callB call_len_seq (by rfl) B.len PySem.boot_len (pa_cons (pv 5) pa_nil)) (pa_cons (pe_pr T_Effect_present hr (by decide) (pv 6)) (pa_cons pe_str (pa_cons pe_dnewK (pa_cons pe_bl pa_nil))))))))))))
            (pss_one (ps_if (PW.pt (pw_or (pt_cmpR (op_neD hu64) (pe_lc (own := [("one", 18)]) (g := gName 18) (tt := _) rfl sc_law.nd (pi_list (pv 14)) (blkOk_by (own := [("one", 18)]) (N := N_law) (sc := defScope s_law) (by decide +kernel)) (fun _ _ _ _ _ => (pg_name (i := 18) sc_law.nd rfl (Or.inl rfl))) (fun _ _ _ _ _ => (pts_one (pt_cmpR (k_eqOV (K := K) (k := 1) (j := 9) rfl T_Effect_eqV hr (by decide)) (pv 6) (pv 18) (nomark _)))) (fun _ _ _ _ _ => (pv 18))) (pe_lst pa_nil) (nomark _)) (pw_or1 (pt_cmpR (op_neD hu64) (pe_lc (own := [("one", 18)]) (g := gName 18) (tt := _) rfl sc_law.nd (pi_list (pv 14)) (blkOk_by (own := [("one", 18)]) (N := N_law) (sc := defScope s_law) (by decide +kernel)) (fun _ _ _ _ _ => (pg_name (i := 18) sc_law.nd rfl (Or.inl rfl))) (fun _ _ _ _ _ => (pts_one (pt_not (pt_cmpR (k_neOV (K := K) (k := 1) (j := 9) rfl T_Effect_eqV hr (by decide) T_ne_Effect T_ob_Effect) (pv 6) (pv 18) (nomark _))))) (fun _ _ _ _ _ => (pv 18))) (pe_lst pa_nil) (nomark _))))) (pss_one (ps_ret pe_bl)) pss_nil)))))))))))
        (pss_cons (ps_set (i := 15) sc_law.nd rfl (Or.inl rfl) (pe_listRg rfl (by rfl) B.list (prg_2 (by rfl) B.range pe_int pe_int)))
        (pss_cons (ps_for PassesOwn.never rfl (pi_list (pe_lst (pa_cons pe_int (pa_cons pe_int (pa_cons pe_int (pa_cons pe_int pa_nil)))))) (pg_name (i := 16) sc_law.nd rfl (Or.inl rfl))
          (pss_cons (ps_set (i := 7) sc_law.nd rfl (Or.inl rfl) (pe_op op_cat (pe_op op_cat (pe_slice sl_list (pv 15) po_none (po_some (pv 16))) (pe_lst (pa_cons (pe_op op_add (pv 16) pe_int) (pa_cons (pe_op op_add (pv 16) pe_int) pa_nil)))) (pe_slice sl_list (pv 15) (po_some (pe_op op_add (pv 16) pe_int)) po_none)))
          (pss_one (ps_if (PW.pt (pw_or (pt_not (pt_val (pe_g T_law_pair_right hG hr (by decide) (by rfl) (pa_cons (pv 15) (pa_cons (pv 7) pa_nil))))) (pw_or1 (pt_cmpR (op_eqD hu64) (pe_g T_law_refs hG hr (by decide) (by rfl) (pa_cons (pv 15) pa_nil)) (pe_g T_law_refs hG hr (by decide) (by rfl) (pa_cons (pv 7) pa_nil)) (nomark _))))) (pss_one (ps_ret pe_bl)) pss_nil))))
        (pss_one (ps_ret (pe_and (pe_cmpR (op_neO T_Effect_eq hr (by decide) T_nf_Effect T_ne_Effect T_ob_Effect) (pe_mk T_mk_Effect hr (by decide) (by rfl) (pa_cons (pe_lst (pa_cons pe_int (pa_cons (pe_un un_neg pe_int) pa_nil))) pa_nil)) (pe_mk T_mk_Effect hr (by decide) (by rfl) (pa_cons (pe_lst (pa_cons pe_int (pa_cons pe_int (pa_cons (pe_un un_neg pe_int) (pa_cons (pe_un un_neg pe_int) pa_nil))))) pa_nil)) (nomark _)) (pe_one (pe_cmpR (op_eqO T_Effect_eq hr (by decide) T_nf_Effect) (pe_mk T_mk_Effect hr (by decide) (by rfl) (pa_cons (pe_lst pa_nil) pa_nil)) (pe_mk T_mk_Effect hr (by decide) (by rfl) (pa_cons (pe_lst pa_nil) pa_nil)) (nomark _))))))))), ?_⟩
    refine ⟨_, rfl, sc, _, rfl, .inl hS, _, _, rfl, _, _, rfl, ?_⟩
    generalize ec : (if (if (((scr.map V.int).length : Nat) : Int) < 6 then (((scr.map V.int).length : Nat) : Int) else (6 : Int)) > 1 then (if (((scr.map V.int).length : Nat) : Int) < 6 then (((scr.map V.int).length : Nat) : Int) else (6 : Int)) else 1) = c
    have c0 : 1 ≤ c ∧ c ≤ 6 := by
      rw [← ec]
      split <;> split <;> omega
    refine ⟨c, rfl, by omega, by omega, for_range (lo := 0) (n := c.toNat) (fun i σ H' => (∃ y1 y2 y3 y4 y5 y6 y7 y8 y9 y10 y11 y12 y13 y14 y15 y16 y17 y18, σ = [some (.ref sc), y1, y2, y3, y4, y5, y6, y7, y8, y9, y10, y11, y12, y13, y14, y15, y16, y17, y18]) ∧ Same H H') ⟨⟨_, _, _, _, _, _, _, _, _, _, _, _, _, _, _, _, _, _, rfl⟩, Same.refl _⟩ (fun i σ H' hi h => ?_) (fun σ H' h => ?_)⟩
    · obtain ⟨⟨y1, y2, y3, y4, y5, y6, y7, y8, y9, y10, y11, y12, y13, y14, y15, y16, y17, y18, rfl⟩, sm⟩ := h
      refine ⟨_, rfl, _, rfl, sc, scr, i, congrArg (fun z => [V.ref sc, V.int z]) (Int.zero_add _), sm.seq hS, by omega, fun H2 src s2 nsrc hs2 => ?_⟩
      have s02 := sm.trans s2
      have nsrc0 : H src = none := sm.free nsrc
      refine ⟨3, rfl, by decide, by decide, ?_⟩
      refine for_range (lo := 0) (n := 3) (fun j σ H' => (∃ y3 y4 y5 y6 y7 y8 y9 y10 y11 y12 y13 y14 y15 y16 y17 y18, σ = [some (.ref sc), some (.int (0 + (i : Int))), some (.ref src), y3, y4, y5, y6, y7, y8, y9, y10, y11, y12, y13, y14, y15, y16, y17, y18]) ∧ Bt src H2 H' ∧ Src H' src (j * 2000)) ⟨⟨_, _, _, _, _, _, _, _, _, _, _, _, _, _, _, _, rfl⟩, .refl _ _, hs2.mono (by omega)⟩ (fun j σ H' hj h => ?_) (fun σ H' h => ?_)
      · obtain ⟨⟨y3, y4, y5, y6, y7, y8, y9, y10, y11, y12, y13, y14, y15, y16, y17, y18, rfl⟩, bt, hsj⟩ := h
        refine ⟨_, rfl, _, rfl, _, rfl, rfl, _, rfl, if_tC fun v hv => ?_⟩
        obtain ⟨most, rfl, m1, m2⟩ : ∃ most : Int, v = .int most ∧ 1 ≤ most ∧ most ≤ 100 := by
          rcases hv with rfl | rfl
          · exact ⟨100, rfl, by decide, by decide⟩
          · exact ⟨12, rfl, by decide, by decide⟩
        refine ⟨src, sc, most, j * 2000, scr, rfl, hsj, by omega, fun H' b' => seqN hS nsrc0 s02 (bt.trans b'), m1, m2, fun H4 t p1 p2 us ns hu pv huv b4 hs4 n1 n2 n12 ht h1 h2 => ?_⟩
        refine ⟨t, _, rfl, .of ht, rfl, _, _, rfl, _, _, rfl, rfl, ?_⟩
        have b24 := bt.trans b4
        have nes : ∀ {z : Addr}, H' z = none → z ≠ src := fun {z} n e => by
          obtain ⟨_, _, _, h, _⟩ := hsj
          rw [e, h] at n
          cases n
        have p1s := nes n1
        have p2s := nes n2
        obtain ⟨osrc, hosrc⟩ : ∃ o, H4 src = some o := by
          obtain ⟨_, _, _, h, _⟩ := hs4
          exact ⟨_, h⟩
        -- thing
        refine ⟨_, rfl, fun x dx nx ndx nex => ⟨x, dx, p2, ns, rfl, up2 nx ndx h2, pv, upd_same, fun H5 bt5 hxN => ⟨rfl, ?_⟩⟩⟩
        have s45 := same2 nx ndx bt5
        have hxD := hxN src _ (up2 nx ndx hosrc)
        have h15 := s45 _ _ h1
        have h25 := s45 _ _ h2
        have hs5 := hs4.same s45
        -- others
        refine ⟨_, rfl, _, rfl, src, p2, j * 2000 + 1002, ns, rfl, hs5, by omega, h25, p2s, pv, fun H6 ol qs b6 hs6 hol ols lqs hqs => ?_⟩
        have hx6 := hxD.btX b6 hs5
        have h16 := b6 _ _ p1s h15
        have h26 := b6 _ _ p2s h25
        have b26 : Bt src H2 H6 := (b24.trans (.of s45)).trans b6
        refine ⟨ol, rfl, ⟨_, .of hol⟩, ?_⟩
        refine for_list (xs := qs.map fun z => V.ref z.1) (fun m σ H' => (∃ y7 y8 y9 y10 y11 y12 y13 y14 y15 y16 y17 y18, σ = [some (.ref sc), some (.int (0 + (i : Int))), some (.ref src), some (.int (0 + (j : Int))), some (.ref p1), some (.ref p2), some (.ref x), y7, y8, y9, y10, y11, y12, y13, y14, y15, y16, y17, y18]) ∧ Same H6 H') ⟨⟨_, _, _, _, _, _, _, _, _, _, _, _, rfl⟩, .refl _⟩ (fun m σ H' _ h => .of (h.2 _ _ hol)) (fun m y σ H' hy h => ?_) (fun σ H' h => ?_)
        · obtain ⟨⟨y7, y8, y9, y10, y11, y12, y13, y14, y15, y16, y17, y18, rfl⟩, s6⟩ := h
          rw [List.getElem?_map] at hy
          obtain ⟨z, hz, rfl⟩ := Option.map_eq_some_iff.mp hy
          obtain ⟨zs', hz6, pz⟩ := hqs z (List.mem_of_getElem? hz)
          obtain ⟨oa, ms⟩ := z
          have ml : ms.length ≤ 200 := pz.len
          have ul := hu.len
          have hz7 := s6 _ _ hz6
          refine ⟨_, rfl, _, rfl, p2, oa, ns, ms, rfl, s6 _ _ h26, hz7, pv, pz, fun H7 s7 => ⟨_, rfl, iteF ?_⟩⟩
          have s67 := s6.trans s7
          have hz8 := s67 _ _ hz6
          have h17 := s67 _ _ h16
          -- begun
          refine ⟨_, rfl, oa, rfl, ⟨_, .of hz8⟩, fun D1 nD1 => lc_list (xs := ms.map V.int) (LcP H7 D1 fun i => (((ms.take i).filter fun e => decide (e > 0)).map V.int)) (.init nD1 rfl) (fun i H' _ p => .of (p.2.1 _ _ hz8)) (fun i y H' hy p => ?_) (fun H8 pD1 => ?_)⟩
          · obtain ⟨e, rfl, he⟩ := get_int hy
            have il := lt_get he
            refine ⟨rfl, ?_⟩
            by_cases c : e > 0
            · exact ⟨_, rfl, _, _, rfl, rfl, true, dT c, _, rfl, p.put (.refl _) (fl_put he (decide_eq_true c) V.int) (fl_len (by omega))⟩
            · exact ⟨_, rfl, _, _, rfl, rfl, false, dF c, p.skip (.refl _) (fl_skip he (decide_eq_false c) V.int)⟩
          have s8 := s67.trans pD1.2.1
          have hD1 : H8 D1 = some (.lst ((bgL ms).map V.int)) := fl_end (List.length_map ..) pD1.2.2
          have z8 := pD1.2.1 _ _ hz8
          have h18 := pD1.2.1 _ _ h17
          have lb : (bgL ms).length ≤ 200 := Nat.le_trans (List.length_filter_le _ _) ml
          -- gone
          refine ⟨_, rfl, oa, rfl, ⟨_, .of z8⟩, fun D2 nD2 => lc_list (xs := ms.map V.int) (LcP H8 D2 fun i => (((ms.take i).filter fun e => decide (e < 0 ∧ 0 - e ∉ bgL ms)).map fun e => V.int (0 - e))) (.init nD2 rfl) (fun i H' _ p => .of (p.2.1 _ _ z8)) (fun i y H' hy p => ?_) (fun H9 pD2 => ?_)⟩
          · obtain ⟨e, rfl, he⟩ := get_int hy
            have il := lt_get he
            have hb := p.2.1 _ _ hD1
            refine ⟨rfl, ?_⟩
            by_cases c : e < 0
            · by_cases c2 : 0 - e ∈ bgL ms
              · exact ⟨_, rfl, _, _, rfl, rfl, true, dT c, _, rfl, _, _, rfl, rfl, _, rfl, D1, _, rfl, .inl (.of hb), rfl, flatI _, false, notInF c2, p.skip (.refl _) (fl_skip he (decide_eq_false (fun z => z.2 c2)) _)⟩
              · exact ⟨_, rfl, _, _, rfl, rfl, true, dT c, _, rfl, _, _, rfl, rfl, _, rfl, D1, _, rfl, .inl (.of hb), rfl, flatI _, true, notInT c2, _, rfl, _, _, rfl, rfl, p.put (.refl _) (fl_put he (decide_eq_true ⟨c, c2⟩) _) (fl_len (by omega))⟩
            · exact ⟨_, rfl, _, _, rfl, rfl, false, dF c, p.skip (.refl _) (fl_skip he (decide_eq_false (fun z => c z.1)) _)⟩
          have s9 := s8.trans pD2.2.1
          have hD2 : H9 D2 = some (.lst ((goL ms).map V.int)) := by
            rw [fl_end (List.length_map ..) pD2.2.2]
            unfold goL
            rw [List.map_map]
            rfl
          have hD1' := pD2.2.1 _ _ hD1
          have h19 := pD2.2.1 _ _ h18
          have lg : (goL ms).length ≤ 200 := by
            unfold goL
            rw [List.length_map]
            exact Nat.le_trans (List.length_filter_le _ _) ml
          -- alive
          refine ⟨_, rfl, p1, rfl, ⟨_, .of h19⟩, fun D3 nD3 => lc_list (xs := us.map V.int) (LcP H9 D3 fun i => (((us.take i).filter fun e => decide (e > 0 ∧ 0 - e ∉ us)).map V.int)) (.init nD3 rfl) (fun i H' _ p => .of (p.2.1 _ _ h19)) (fun i y H' hy p => ?_) (fun H10 pD3 => ?_)⟩
          · obtain ⟨e, rfl, he⟩ := get_int hy
            have il := lt_get he
            have hb := p.2.1 _ _ h19
            refine ⟨rfl, ?_⟩
            by_cases c : e > 0
            · by_cases c2 : 0 - e ∈ us
              · exact ⟨_, rfl, _, _, rfl, rfl, true, dT c, _, rfl, _, _, rfl, rfl, _, rfl, p1, _, rfl, .inl (.of hb), rfl, flatI _, false, notInF c2, p.skip (.refl _) (fl_skip he (decide_eq_false (fun z => z.2 c2)) _)⟩
              · exact ⟨_, rfl, _, _, rfl, rfl, true, dT c, _, rfl, _, _, rfl, rfl, _, rfl, p1, _, rfl, .inl (.of hb), rfl, flatI _, true, notInT c2, _, rfl, p.put (.refl _) (fl_put he (decide_eq_true ⟨c, c2⟩) _) (fl_len (by omega))⟩
            · exact ⟨_, rfl, _, _, rfl, rfl, false, dF c, p.skip (.refl _) (fl_skip he (decide_eq_false (fun z => c z.1)) _)⟩
          have s10 := s9.trans pD3.2.1
          have hD3 : H10 D3 = some (.lst ((alL us).map V.int)) := fl_end (List.length_map ..) pD3.2.2
          have hD1'' := pD3.2.1 _ _ hD1'
          have hD2' := pD3.2.1 _ _ hD2
          have h110 := pD3.2.1 _ _ h19
          -- away
          refine ⟨_, rfl, D2, rfl, ⟨_, .of hD2'⟩, fun D4 nD4 => lc_list (xs := (goL ms).map V.int) (LcP H10 D4 fun i => ((((goL ms).take i).filter fun e => decide (e ∉ alL us)).map V.int)) (.init nD4 rfl) (fun i H' _ p => .of (p.2.1 _ _ hD2')) (fun i y H' hy p => ?_) (fun H11 pD4 => ?_)⟩
          · obtain ⟨e, rfl, he⟩ := get_int hy
            have il := lt_get he
            have hb := p.2.1 _ _ hD3
            refine ⟨rfl, ?_⟩
            by_cases c2 : e ∈ alL us
            · exact ⟨_, rfl, _, rfl, D3, _, rfl, .inl (.of hb), rfl, flatI _, false, notInF c2, p.skip (.refl _) (fl_skip he (decide_eq_false (fun z => z c2)) _)⟩
            · exact ⟨_, rfl, _, rfl, D3, _, rfl, .inl (.of hb), rfl, flatI _, true, notInT c2, _, rfl, p.put (.refl _) (fl_put he (decide_eq_true c2) _) (fl_len (by omega))⟩
          have s11 := s10.trans pD4.2.1
          have hD4 : H11 D4 = some (.lst ((awL us ms).map V.int)) := fl_end (List.length_map ..) pD4.2.2
          have h111 := pD4.2.1 _ _ h110
          have hD11 := pD4.2.1 _ _ hD1''
          -- fits
          refine ⟨_, rfl, _, rfl, D1, rfl, ⟨_, .of hD11⟩, fun D5 nD5 => lc_list (xs := (bgL ms).map V.int) (LcP H11 D5 fun i => ((((bgL ms).take i).filter fun e => decide (e ∈ us)).map V.int)) (.init nD5 rfl) (fun i H' _ p => .of (p.2.1 _ _ hD11)) (fun i y H' hy p => ?_) (fun H12 pD5 => ?_)⟩
          · obtain ⟨e, rfl, he⟩ := get_int hy
            have il := lt_get he
            have hb := p.2.1 _ _ h111
            refine ⟨rfl, ?_⟩
            by_cases c2 : e ∈ us
            · exact ⟨_, rfl, _, rfl, p1, _, rfl, .inl (.of hb), rfl, flatI _, true, inT c2, _, rfl, p.put (.refl _) (fl_put he (decide_eq_true c2) _) (fl_len (by omega))⟩
            · exact ⟨_, rfl, _, rfl, p1, _, rfl, .inl (.of hb), rfl, flatI _, false, inF c2, p.skip (.refl _) (fl_skip he (decide_eq_false c2) _)⟩
          have s12 := s11.trans pD5.2.1
          have hD5 : H12 D5 = some (.lst ((boL us ms).map V.int)) := fl_end (List.length_map ..) pD5.2.2
          have hD4' := pD5.2.1 _ _ hD4
          have law : (awL us ms).length ≤ 200 := Nat.le_trans (List.length_filter_le _ _) lg
          have lbo : (boL us ms).length ≤ 200 := Nat.le_trans (List.length_filter_le _ _) lb
          refine ⟨D4, D5, _, _, rfl, rfl, hD4', hD5, sum_le law lbo (by decide), fun cc ncc => ?_⟩
          rw [catM]
          have t1 : Same H12 _ := same_new (o := .lst ((awL us ms ++ boL us ms).map V.int)) ncc
          have hcc := upd_same (H := H12) (a := cc) (o := .lst ((awL us ms ++ boL us ms).map V.int))
          generalize upd H12 cc _ = H13 at t1 hcc ⊢
          refine ⟨Nat.zero_le _, fun ee nee => ?_⟩
          have t2 : Same H13 _ := same_new (o := .lst []) nee
          refine ⟨dI (awL us ms ++ boL us ms), dI [], dp_ints (.of (t2 _ _ hcc)), dp_ints (ns := []) (.of upd_same), shaped_ints _, shaped_ints _, ?_⟩
          rw [eqv_ints]
          have s13 := s12.trans (t1.trans t2)
          generalize upd H13 ee _ = H14 at t2 s13 ⊢
          by_cases hf : awL us ms ++ boL us ms = []
          · rw [decide_eq_true hf]
            have huz := fits_hist hu pz hf
            refine ⟨_, rfl, true, rfl, ?_⟩
            refine ⟨_, rfl, fun y dy ny ndy ney => ⟨y, dy, oa, ms, rfl, up2 ny ndy (s13 _ _ hz6), pz, upd_same, fun H15 bt15 hyN => ⟨rfl, ?_⟩⟩⟩
            have s15 := s13.trans (same2 ny ndy bt15)
            have hy15 := (hyN oa _ (up2 ny ndy (s13 _ _ hz6))).toX
            have hx15 := hx6.same s15
            have h115 := s15 _ _ h16
            refine ⟨_, rfl, eqE hy15 hx15 ⟨_, rfl, ?_⟩⟩
            by_cases heq : EqE ms ns
            · rw [decide_eq_true heq]
              refine ⟨_, rfl, x, rfl, _, rfl, p1, us, rfl, .of h115, hu, fun H8' t8 l8 qs8 s8' nt8 nl8 so8 pm8 pw8 => ?_⟩
              have st8 := hist_st hu pm8 pw8
              have ft8 := hist_fits hu huv pm8
              obtain ⟨dx', a1, a3, a4, a5, ps, G, E', he8⟩ := hx15.same s8'
              refine ⟨dx', _, he8.hx, x, dx', a1, a3, a4, a5, t8, l8, _, ns, G, E', ps, qs8, rfl, he8, so8, st8, ft8, fun H9' t9 l9 rs9 s9' nt9 nl9 so9 pm9 pw9 => ?_⟩
              have s159 := s8'.trans s9'
              refine ⟨_, rfl, _, rfl, p1, oa, _, _, rfl, rfl, s159 _ _ h115, s159 _ _ (s15 _ _ hz6), sum_le ul ml (by decide), fun qa nqa => ?_⟩
              rw [catM]
              have sqa := same_new (o := .lst ((us ++ ms).map V.int)) nqa
              refine ⟨qa, us ++ ms, rfl, .of upd_same, huz, fun HA tA lA rsA sA ntA nlA soA pmA pwA => ?_⟩
              have eap := stt_append huz.piece pz
              have bp := behL_perm pm8 st8.nd (runR us).1 ns
              have be := beh_eqE heq (runR us).1 (hl us)
              have e1 : (runR (us ++ ms)).1 = (behL (runR us).1 (qs8.map (·.2)) ns).1 := (congrArg Prod.fst eap).trans (be.1.trans bp.1.symm)
              have bn := behL_keys (p := (runR us).1) st8.nd pv ft8.fn
              have e2 : rs9.map (·.2) = rsA.map (·.2) := by
                have e3 : hl (us ++ ms) = (behL (runR us).1 (hl us) ms).2 := congrArg Prod.snd eap
                rw [e3] at pmA
                have pmB := pmA.trans (be.2.trans bp.2.symm)
                exact pairs_uniq (pm9.trans pmB.symm) ((pmB.map (·.1)).nodup_iff.mpr bn) pw9 pwA
              have dA := soA.dp (K := K)
              rw [e1, ← e2] at dA
              refine ⟨dSt _ (rs9.map fun z : Addr × Int × Int => z.2), dSt _ (rs9.map fun z : Addr × Int × Int => z.2), ((so9.same sqa).same sA).dp, dA, shaped_dSt _ _, shaped_dSt _ _, false, ?_, iteF ?_⟩
              · rw [eqv_st]
                rfl
              exact ⟨⟨_, _, _, _, _, _, _, _, _, _, _, _, rfl⟩, ((s15.trans s159).trans sqa).trans sA⟩
            · rw [decide_eq_false heq]
              exact ⟨⟨_, _, _, _, _, _, _, _, _, _, _, _, rfl⟩, s15⟩
          · rw [decide_eq_false hf]
            exact ⟨_, rfl, false, rfl, ⟨_, _, _, _, _, _, _, _, _, _, _, _, rfl⟩, s13⟩
        · obtain ⟨⟨y7, y8, y9, y10, y11, y12, y13, y14, y15, y16, y17, y18, rfl⟩, s6⟩ := h
          have hxE := hx6.same s6
          obtain ⟨dx', a1, a3, a4, a5, ps, G, E', e⟩ := id hxE
          have hp2 := s6 _ _ h26
          -- told
          refine ⟨_, rfl, x, dx', _, rfl, e.hx, x, dx', a1, a3, a4, a5, (runR ns).1, rfl, e.hx, ?_⟩
          refine ⟨_, rfl, x, dx', _, rfl, e.hx, x, dx', a1, a3, a4, a5, (runR ns).1, _, rfl, e.hx, e.h3, fun b nb => ?_⟩
          have t1 := same_new (o := .lst (ps.map fun z => V.ref z.1)) nb
          have e1 := e.same t1
          refine ⟨_, rfl, x, dx', _, rfl, e1.hx, x, dx', a1, a3, a4, a5, (runR ns).1, _, rfl, e1.hx, e1.h4, fun c nc => ?_⟩
          have t2 := same_new (o := .lst (G.map V.int)) nc
          have e2 := e1.same t2
          refine ⟨_, rfl, x, dx', _, rfl, e2.hx, x, dx', a1, a3, a4, a5, (runR ns).1, _, rfl, e2.hx, e2.h5, fun d nd => ?_⟩
          have t3 := same_new (o := .lst (E'.map V.int)) nd
          refine ⟨by show 4 ≤ sizeLine; decide, fun td ntd => ?_⟩
          have t4 := same_new (o := .lst [.int (runR ns).1, .ref b, .ref c, .ref d]) ntd
          have t04 := ((t1.trans t2).trans t3).trans t4
          have htd := upd_same (H := upd (upd (upd H' b (.lst (ps.map fun z => V.ref z.1))) c (.lst (G.map V.int))) d (.lst (E'.map V.int))) (a := td) (o := .lst [.int (runR ns).1, .ref b, .ref c, .ref d])
          generalize upd (upd (upd (upd H' b (.lst (ps.map fun z => V.ref z.1))) c (.lst (G.map V.int))) d (.lst (E'.map V.int))) td (.lst [.int (runR ns).1, .ref b, .ref c, .ref d]) = H7 at t04 htd ⊢
          clear t1 t2 t3 t4 e1 e2 nb nc nd ntd
          -- odd
          have hp7 := t04 _ _ hp2
          have e7 := e.same t04
          refine ⟨_, rfl, _, rfl, p2, _, rfl, .inl ⟨.of hp7, fun tp ntp => ?_⟩⟩
          have t5 := same_new (o := .tup (ns.map V.int)) ntp
          have htp := upd_same (H := H7) (a := tp) (o := .tup (ns.map V.int))
          generalize upd H7 tp _ = H8 at t5 htp ⊢
          refine ⟨_, rfl, _, rfl, td, _, rfl, .inl ⟨.of (t5 _ _ htd), fun tt ntt => ?_⟩⟩
          have t6 := same_new (o := .tup [.int (runR ns).1, .ref b, .ref c, .ref d]) ntt
          have htt := upd_same (H := H8) (a := tt) (o := .tup [.int (runR ns).1, .ref b, .ref c, .ref d])
          generalize upd H8 tt _ = H9 at t6 htt ⊢
          have t79 := t5.trans t6
          have e9 := e7.same t79
          refine ⟨_, rfl, p2, _, rfl, .inl (.of (t79 _ _ hp7)), ?_⟩
          refine ⟨_, rfl, x, dx', _, rfl, e9.hx, x, dx', a1, a3, a4, a5, (runR ns).1, rfl, e9.hx, ?_⟩
          refine fun dd ndd => ?_
          have t7 := same_new (o := .dK []) ndd
          have hdd := upd_same (H := H9) (a := dd) (o := .dK [])
          generalize upd H9 dd _ = H10 at t7 hdd ⊢
          refine ⟨by show 10 ≤ sizeLine; decide, fun od nod => ?_⟩
          obtain ⟨XS, eXS⟩ : ∃ XS : List V, XS = [.non, .ref p2, .ref tp, .ref td, .ref tt, .int (((ns.map V.int).length : Nat) : Int), .int (runR ns).1, .str "", .ref dd, .bl true] := ⟨_, rfl⟩
          have t8 := same_new (o := .lst XS) nod
          have hod := upd_same (H := H10) (a := od) (o := .lst XS)
          rw [← eXS]
          generalize upd H10 od _ = H11 at t8 hod ⊢
          have t711 := (t79.trans t7).trans t8
          have e11 := e7.same t711
          have k1 := t711 _ _ hp7
          have k2 := t8 _ _ (t7 _ _ (t6 _ _ htp))
          have k3 := t711 _ _ htd
          have k4 := t8 _ _ (t7 _ _ htt)
          have k5 := t8 _ _ hdd
          have okT : ∀ {T : String}, PySem.W.subIn K (.type T) (.ref CE) = some false → PySem.W.kitOne K (.type T) (.ref CE) = some false ∧ PySem.W.notFirst K CE (.type T) = true := fun h => ⟨kit_no TV.hc h, not_first h⟩
          have oddT : ∀ (H' : Hp), Same H11 H' → ∀ v ∈ XS, ∃ t : Value, TyX K H' v t ∧ PySem.W.kitOne K t (.ref CE) = some false ∧ PySem.W.notFirst K CE t = true := fun H' s v hv => by
            rw [eXS] at hv
            simp only [List.mem_cons, List.not_mem_nil, or_false] at hv
            rcases hv with rfl | rfl | rfl | rfl | rfl | rfl | rfl | rfl | rfl | rfl
            · exact ⟨_, .base .non, okT TV.s0⟩
            · exact ⟨_, .base (.lst (s _ _ k1)), okT TV.s1⟩
            · exact ⟨_, .base (.tup (s _ _ k2)), okT TV.s2⟩
            · exact ⟨_, .base (.lst (s _ _ k3)), okT TV.s1⟩
            · exact ⟨_, .base (.tup (s _ _ k4)), okT TV.s2⟩
            · exact ⟨_, .base (.int _), okT TV.s3⟩
            · exact ⟨_, .base (.int _), okT TV.s3⟩
            · exact ⟨_, .base (.str _), okT TV.s4⟩
            · exact ⟨_, .base (.dK (s _ _ k5)), okT TV.s5⟩
            · exact ⟨_, .base (.bl _), okT TV.s6⟩
          have lX : XS.length = 10 := by rw [eXS]; rfl
          have s611 := (s6.trans t04).trans t711
          have s0 : Bt src H2 H11 := b26.trans (.of s611)
          have hs11 := hs6.same s611
          clear t711 t8 t7 t79 t6 t5 t04 k1 k2 k3 k4 k5 hdd htt htp htd hp7 nod ndd ntt ntp e9 e7 eXS
          -- thing == one
          refine ⟨_, rfl, od, rfl, ⟨_, .of hod⟩, fun D6 nD6 => lc_list (xs := XS) (LcP H11 D6 fun _ => []) (.init nD6 rfl) (fun i H' _ p => .of (p.2.1 _ _ hod)) (fun i v H' hy p => ?_) (fun H12 pD6 => ?_)⟩
          · obtain ⟨t, ty, hk, hn⟩ := oddT H' p.2.1 v (List.mem_of_getElem? hy)
            exact ⟨rfl, _, rfl, _, rfl, x, dx', _, t, rfl, p.2.1 _ _ e11.hx, ty, hn, x, v, t, rfl, ty, hk, false, rfl, p.skip (.refl _) rfl⟩
          refine ⟨Nat.zero_le _, fun e1 ne1 => ?_⟩
          have q1 := same_new (o := .lst []) ne1
          refine ⟨dI [], dI [], dp_ints (ns := []) (.of (q1 _ _ pD6.2.2)), dp_ints (ns := []) (.of upd_same), shaped_ints _, shaped_ints _, false, neqF rfl, ?_⟩
          have s12 := pD6.2.1.trans q1
          generalize upd H12 e1 _ = H13 at s12 ⊢
          -- thing != one
          refine ⟨_, rfl, od, rfl, ⟨_, .of (s12 _ _ hod)⟩, fun D7 nD7 => lc_list (xs := XS) (LcP H13 D7 fun _ => []) (.init nD7 rfl) (fun i H' _ p => .of (p.2.1 _ _ (s12 _ _ hod))) (fun i v H' hy p => ?_) (fun H14 pD7 => ?_)⟩
          · obtain ⟨t, ty, hk, hn⟩ := oddT H' (s12.trans p.2.1) v (List.mem_of_getElem? hy)
            exact ⟨rfl, _, rfl, _, rfl, x, dx', _, t, rfl, p.2.1 _ _ (s12 _ _ e11.hx), ty, hn, x, v, t, rfl, ty, hk, false, rfl, true, rfl, p.skip (.refl _) rfl⟩
          refine ⟨Nat.zero_le _, fun e2 ne2 => ?_⟩
          have q2 := same_new (o := .lst []) ne2
          refine ⟨dI [], dI [], dp_ints (ns := []) (.of (q2 _ _ pD7.2.2)), dp_ints (ns := []) (.of upd_same), shaped_ints _, shaped_ints _, false, neqF rfl, ?_⟩
          have s14 := s12.trans (pD7.2.1.trans q2)
          exact ⟨⟨_, _, _, _, _, _, _, _, _, _, _, _, _, _, _, _, rfl⟩, s0.trans (.of s14), (hs11.same s14).mono (by omega)⟩
      · obtain ⟨⟨y3, y4, y5, y6, y7, y8, y9, y10, y11, y12, y13, y14, y15, y16, y17, y18, rfl⟩, bt, _⟩ := h
        exact ⟨⟨_, _, _, _, _, _, _, _, _, _, _, _, _, _, _, _, _, _, rfl⟩, fun b o e => bt _ _ (ne_of_none e nsrc0) (s02 _ _ e)⟩
    · obtain ⟨⟨y1, y2, y3, y4, y5, y6, y7, y8, y9, y10, y11, y12, y13, y14, y15, y16, y17, y18, rfl⟩, sm⟩ := h
      -- whole
      refine ⟨_, _, rfl, rfl, RgOk.of_le (by decide) (by decide) (by decide) (by decide), fun wh nwh => ?_⟩
      have hwh : (upd H' wh (.lst (rgV 1 101))) wh = some (.lst ((upL 100).map V.int)) := by
        rw [upd_same, rgV_up]
        rfl
      generalize upd H' wh (.lst (rgV 1 101)) = H1 at hwh ⊢
      refine ⟨by show 4 ≤ sizeLine; decide, fun al nal => ⟨al, rfl, ⟨_, .of upd_same⟩, ?_⟩⟩
      have hw2 := same_new (o := .lst [.int 0, .int 13, .int 50, .int 98]) nal _ _ hwh
      have hal : (upd H1 al (.lst [.int 0, .int 13, .int 50, .int 98])) al = some (.lst ([0, 13, 50, 98].map V.int)) := upd_same
      generalize upd H1 al (.lst [.int 0, .int 13, .int 50, .int 98]) = H2 at hw2 hal ⊢
      refine for_list (xs := [0, 13, 50, 98].map V.int) (fun m σ H' => (∃ y1 y2 y3 y4 y5 y6 y7 y8 y9 y10 y11 y12 y13 y14 y16 y17 y18, σ = [some (.ref sc), y1, y2, y3, y4, y5, y6, y7, y8, y9, y10, y11, y12, y13, y14, some (.ref wh), y16, y17, y18]) ∧ Same H2 H') ⟨⟨_, _, _, _, _, _, _, _, _, _, _, _, _, _, _, _, _, rfl⟩, .refl _⟩ (fun m σ H' _ h => .of (h.2 _ _ hal)) (fun m y σ H' hy h => ?_) (fun σ H' h => ?_)
      · obtain ⟨⟨y1, y2, y3, y4, y5, y6, y7, y8, y9, y10, y11, y12, y13, y14, y16, y17, y18, rfl⟩, s2⟩ := h
        obtain ⟨v, rfl, hv⟩ := get_int hy
        obtain ⟨a, rfl, ha⟩ : ∃ a : Nat, v = (a : Int) ∧ a ∈ [0, 13, 50, 98] := by
          have := mem_get hv
          simp only [List.mem_cons, List.not_mem_nil, or_false] at this
          rcases this with rfl | rfl | rfl | rfl
          · exact ⟨0, rfl, by decide⟩
          · exact ⟨13, rfl, by decide⟩
          · exact ⟨50, rfl, by decide⟩
          · exact ⟨98, rfl, by decide⟩
        have po := w_piece ha
        have hw3 := s2 _ _ hw2
        refine ⟨_, rfl, _, rfl, _, rfl, wh, _, rfl, .of hw3, fun a1 na1 => ?_⟩
        rw [cutB]
        have t1 : Same H' _ := same_new (o := .lst (((upL 100).take a).map V.int)) na1
        have e1 := upd_same (H := H') (a := a1) (o := .lst (((upL 100).take a).map V.int))
        generalize upd H' a1 _ = G1 at t1 e1 ⊢
        refine ⟨_, rfl, _, _, rfl, rfl, _, rfl, _, _, rfl, rfl, by show 2 ≤ sizeLine; decide, fun a2 na2 => ?_⟩
        generalize e2' : upd G1 a2 _ = G2 at ⊢
        have t2 : Same G1 G2 := by rw [← e2']; exact same_new na2
        have e2 : G2 a2 = some (.lst ([(a : Int) + 2, (a : Int) + 1].map V.int)) := by
          rw [← e2', upd_same]
          rfl
        clear e2'
        refine ⟨a1, a2, _, _, rfl, rfl, t2 _ _ e1, e2, sum_le (m := 200) (by rw [List.length_take, upL_len]; omega) (by show 2 ≤ 200; decide) (by decide), fun a3 na3 => ?_⟩
        rw [catM]
        have t3 : Same G2 _ := same_new (o := .lst (((upL 100).take a ++ [(a : Int) + 2, (a : Int) + 1]).map V.int)) na3
        have e3 := upd_same (H := G2) (a := a3) (o := .lst (((upL 100).take a ++ [(a : Int) + 2, (a : Int) + 1]).map V.int))
        generalize upd G2 a3 _ = G3 at t3 e3 ⊢
        have hw4 := t3 _ _ (t2 _ _ (t1 _ _ hw3))
        refine ⟨_, rfl, _, rfl, _, _, rfl, rfl, _, rfl, wh, _, rfl, .of hw4, fun a4 na4 => ?_⟩
        have ec : cutV ((upL 100).map V.int) (some ((a : Int) + 2)) none = ((upL 100).drop (a + 2)).map V.int := cutA (a + 2)
        rw [ec]
        have t4 : Same G3 _ := same_new (o := .lst (((upL 100).drop (a + 2)).map V.int)) na4
        have e4 := upd_same (H := G3) (a := a4) (o := .lst (((upL 100).drop (a + 2)).map V.int))
        generalize upd G3 a4 _ = G4 at t4 e4 ⊢
        refine ⟨a3, a4, _, _, rfl, rfl, t4 _ _ e3, e4, sum_le (m := 200) (by rw [List.length_append, List.length_take, upL_len]; show _ + 2 ≤ 200; omega) (by rw [List.length_drop, upL_len]; omega) (by decide), fun o no => ?_⟩
        rw [catM]
        have t5 : Same G4 _ := same_new (o := .lst ((wOther a).map V.int)) no
        have ho : (upd G4 o (.lst ((wOther a).map V.int))) o = _ := upd_same
        have e5 : upd G4 o (.lst ((((upL 100).take a ++ [(a : Int) + 2, (a : Int) + 1]) ++ (upL 100).drop (a + 2)).map V.int)) = upd G4 o (.lst ((wOther a).map V.int)) := rfl
        rw [e5]
        generalize upd G4 o _ = G5 at t5 ho ⊢
        have hw5 := t5 _ _ (t4 _ _ hw4)
        refine ⟨_, rfl, _, rfl, wh, o, upL 100, wOther a, rfl, hw5, ho, w_whole, po, fun G6 s6 => ⟨_, rfl, iteF ?_⟩⟩
        refine ⟨_, rfl, wh, upL 100, rfl, .of (s6 _ _ hw5), w_whole, fun G7 r1 s7 d1 => ?_⟩
        refine ⟨_, rfl, o, wOther a, rfl, .of (s7 _ _ (s6 _ _ ho)), po, fun G8 r2 s8 d2 => ?_⟩
        refine ⟨dE _, dE _, dp_same s8 d1, d2, shaped_dE _, shaped_dE _, ?_⟩
        rw [eqv_dE, decide_eq_false (w_ne ha)]
        exact ⟨false, rfl, ⟨_, _, _, _, _, _, _, _, _, _, _, _, _, _, _, _, _, rfl⟩, (((((((s2.trans t1).trans t2).trans t3).trans t4).trans t5).trans s6).trans s7).trans s8⟩
      · obtain ⟨⟨y1, y2, y3, y4, y5, y6, y7, y8, y9, y10, y11, y12, y13, y14, y16, y17, y18, rfl⟩, s2⟩ := h
        refine ⟨1, rfl, by show 2 ≤ sizeLine; decide, fun l nl => ?_⟩
        refine fun x dx nx ndx nex => ⟨x, dx, l, [1, -1], rfl, up2 nx ndx upd_same, w_p1, upd_same, fun G1 bt1 hxN => ⟨rfl, ?_⟩⟩
        have hx := (hxN l _ (up2 nx ndx upd_same)).toX
        refine ⟨2, rfl, 1, rfl, by show 4 ≤ sizeLine; decide, fun l2 nl2 => ?_⟩
        refine fun y dy ny ndy ney => ⟨y, dy, l2, [1, 2, -2, -1], rfl, up2 ny ndy upd_same, w_p2, upd_same, fun G2 bt2 hyN => ⟨rfl, ?_⟩⟩
        have hy := (hyN l2 _ (up2 ny ndy upd_same)).toX
        have hx2 := (hx.same (same_new (o := .lst [.int 1, .int 2, .int (-2), .int (-1)]) nl2)).same (same2 ny ndy bt2)
        refine neE hx2 hy ⟨true, ?_, iteT ?_⟩
        · rw [decide_eq_false w_ne2]
          rfl
        refine ⟨Nat.zero_le _, fun l3 nl3 => ?_⟩
        refine fun x dx nx ndx nex => ⟨x, dx, l3, [], rfl, up2 nx ndx upd_same, Piece.nil, upd_same, fun G3 bt3 hxN => ⟨rfl, ?_⟩⟩
        have hx := (hxN l3 _ (up2 nx ndx upd_same)).toX
        refine ⟨Nat.zero_le _, fun l4 nl4 => ?_⟩
        refine fun y dy ny ndy ney => ⟨y, dy, l4, [], rfl, up2 ny ndy upd_same, Piece.nil, upd_same, fun G4 bt4 hyN => ⟨rfl, ?_⟩⟩
        have hy := (hyN l4 _ (up2 ny ndy upd_same)).toX
        have hx2 := (hx.same (same_new (o := .lst []) nl4)).same (same2 ny ndy bt4)
        refine eqE hx2 hy ?_
        rw [decide_eq_true (EqE.refl _)]
        exact q _
end
end L45
set_option Elab.async false
set_option linter.all false
set_option maxRecDepth 100000
namespace L45
open PySem PySem.Spec PyProof.Rows L2 Lp
set_option maxHeartbeats 0 in
theorem all_mk {l : PySem.W.OpenLaw} {w : World} {K : PySem.W.Frag} {h : Heap} {mg : Str → Option Value} {fa : Addr} (X : K.In h) (G : h.Ns mainGlobals mg) (hfa : mg "law" = some (.ref fa))
    {CE : Addr} (aCCE : PySem.W.nsIn K mainGlobals "Effect" = some (some (.ref CE))) (pgCE : PySem.W.plainGet K CE Str.empty = true) (hdCE : PySem.W.hasDictIn K CE = true) (poCE : PySem.W.plainOver K CE = true) (saCE : PySem.W.findIn K (.ref CE) "__setattr__" = some (some (.builtin "object.__setattr__"))) (mkCE : PySem.W.makesIn K CE = true) (kcCE : PySem.W.keepIn K (.ref CE) = true)
    (nCE0 : PySem.W.findIn K (.ref CE) "_piece" = some none)
    (nCE1 : PySem.W.findIn K (.ref CE) "_present" = some none)
    (nCE2 : PySem.W.findIn K (.ref CE) "_saved" = some none)
    (nCE3 : PySem.W.findIn K (.ref CE) "_stopped" = some none)
    (nCE4 : PySem.W.findIn K (.ref CE) "_ended" = some none)
    {f0 : Addr} {oc0 kV0 dc0 pm0 cd0 ct0 : Value} {od0 an0 : Option Addr} {sl0 : Array (Option Value)}
    (a0 : PySem.W.nsIn K mainGlobals "is_integer" = some (some (.ref f0))) (l0 : K.lookup f0 = some ⟨oc0, od0, .func (PySem.W.fnOf "is_integer" "is_integer" (defArgs s_is_integer) (defBody s_is_integer) (defScope s_is_integer) .none kV0 dc0 pm0 an0 cd0 ct0), sl0⟩) (c0 : PySem.W.codeIn K cd0 "is_integer" = true) (k0 : PySem.W.keepIn K (.ref f0) = true)
    {f1 : Addr} {oc1 kV1 dc1 pm1 cd1 ct1 : Value} {od1 an1 : Option Addr} {sl1 : Array (Option Value)}
    (a1 : PySem.W.nsIn K mainGlobals "is_integer_within" = some (some (.ref f1))) (l1 : K.lookup f1 = some ⟨oc1, od1, .func (PySem.W.fnOf "is_integer_within" "is_integer_within" (defArgs s_is_integer_within) (defBody s_is_integer_within) (defScope s_is_integer_within) .none kV1 dc1 pm1 an1 cd1 ct1), sl1⟩) (c1 : PySem.W.codeIn K cd1 "is_integer_within" = true) (k1 : PySem.W.keepIn K (.ref f1) = true)
    {f2 : Addr} {oc2 kV2 dc2 pm2 cd2 ct2 : Value} {od2 an2 : Option Addr} {sl2 : Array (Option Value)}
    (a2 : PySem.W.nsIn K mainGlobals "are_integers" = some (some (.ref f2))) (l2 : K.lookup f2 = some ⟨oc2, od2, .func (PySem.W.fnOf "are_integers" "are_integers" (defArgs s_are_integers) (defBody s_are_integers) (defScope s_are_integers) .none kV2 dc2 pm2 an2 cd2 ct2), sl2⟩) (c2 : PySem.W.codeIn K cd2 "are_integers" = true) (k2 : PySem.W.keepIn K (.ref f2) = true)
    {f3 : Addr} {oc3 kV3 dc3 pm3 cd3 ct3 : Value} {od3 an3 : Option Addr} {sl3 : Array (Option Value)}
    (a3 : PySem.W.nsIn K mainGlobals "are_events" = some (some (.ref f3))) (l3 : K.lookup f3 = some ⟨oc3, od3, .func (PySem.W.fnOf "are_events" "are_events" (defArgs s_are_events) (defBody s_are_events) (defScope s_are_events) .none kV3 dc3 pm3 an3 cd3 ct3), sl3⟩) (c3 : PySem.W.codeIn K cd3 "are_events" = true) (k3 : PySem.W.keepIn K (.ref f3) = true)
    {f4 : Addr} {oc4 kV4 dc4 pm4 cd4 ct4 : Value} {od4 an4 : Option Addr} {sl4 : Array (Option Value)}
    (a4 : PySem.W.nsIn K mainGlobals "is_history" = some (some (.ref f4))) (l4 : K.lookup f4 = some ⟨oc4, od4, .func (PySem.W.fnOf "is_history" "is_history" (defArgs s_is_history) (defBody s_is_history) (defScope s_is_history) .none kV4 dc4 pm4 an4 cd4 ct4), sl4⟩) (c4 : PySem.W.codeIn K cd4 "is_history" = true) (k4 : PySem.W.keepIn K (.ref f4) = true)
    {f5 : Addr} {oc5 kV5 dc5 pm5 cd5 ct5 : Value} {od5 an5 : Option Addr} {sl5 : Array (Option Value)}
    (a5 : PySem.W.nsIn K mainGlobals "check_history" = some (some (.ref f5))) (l5 : K.lookup f5 = some ⟨oc5, od5, .func (PySem.W.fnOf "check_history" "check_history" (defArgs s_check_history) (defBody s_check_history) (defScope s_check_history) .none kV5 dc5 pm5 an5 cd5 ct5), sl5⟩) (c5 : PySem.W.codeIn K cd5 "check_history" = true) (k5 : PySem.W.keepIn K (.ref f5) = true)
    {f6 : Addr} {oc6 kV6 dc6 pm6 cd6 ct6 : Value} {od6 an6 : Option Addr} {sl6 : Array (Option Value)}
    (a6 : PySem.W.nsIn K mainGlobals "starts_of" = some (some (.ref f6))) (l6 : K.lookup f6 = some ⟨oc6, od6, .func (PySem.W.fnOf "starts_of" "starts_of" (defArgs s_starts_of) (defBody s_starts_of) (defScope s_starts_of) .none kV6 dc6 pm6 an6 cd6 ct6), sl6⟩) (c6 : PySem.W.codeIn K cd6 "starts_of" = true) (k6 : PySem.W.keepIn K (.ref f6) = true)
    {f7 : Addr} {oc7 kV7 dc7 pm7 cd7 ct7 : Value} {od7 an7 : Option Addr} {sl7 : Array (Option Value)}
    (a7 : PySem.W.nsIn K mainGlobals "running_after" = some (some (.ref f7))) (l7 : K.lookup f7 = some ⟨oc7, od7, .func (PySem.W.fnOf "running_after" "running_after" (defArgs s_running_after) (defBody s_running_after) (defScope s_running_after) .none kV7 dc7 pm7 an7 cd7 ct7), sl7⟩) (c7 : PySem.W.codeIn K cd7 "running_after" = true) (k7 : PySem.W.keepIn K (.ref f7) = true)
    {f8 : Addr} {oc8 kV8 dc8 pm8 cd8 ct8 : Value} {od8 an8 : Option Addr} {sl8 : Array (Option Value)}
    (a8 : PySem.W.nsIn K mainGlobals "replay" = some (some (.ref f8))) (l8 : K.lookup f8 = some ⟨oc8, od8, .func (PySem.W.fnOf "replay" "replay" (defArgs s_replay) (defBody s_replay) (defScope s_replay) .none kV8 dc8 pm8 an8 cd8 ct8), sl8⟩) (c8 : PySem.W.codeIn K cd8 "replay" = true) (k8 : PySem.W.keepIn K (.ref f8) = true)
    {f9 : Addr} {oc9 kV9 dc9 pm9 cd9 ct9 : Value} {od9 an9 : Option Addr} {sl9 : Array (Option Value)}
    (a9 : PySem.W.nsIn K mainGlobals "is_piece" = some (some (.ref f9))) (l9 : K.lookup f9 = some ⟨oc9, od9, .func (PySem.W.fnOf "is_piece" "is_piece" (defArgs s_is_piece) (defBody s_is_piece) (defScope s_is_piece) .none kV9 dc9 pm9 an9 cd9 ct9), sl9⟩) (c9 : PySem.W.codeIn K cd9 "is_piece" = true) (k9 : PySem.W.keepIn K (.ref f9) = true)
    {f10 : Addr} {oc10 kV10 dc10 pm10 cd10 ct10 : Value} {od10 an10 : Option Addr} {sl10 : Array (Option Value)}
    (a10 : PySem.W.nsIn K mainGlobals "_is_saving" = some (some (.ref f10))) (l10 : K.lookup f10 = some ⟨oc10, od10, .func (PySem.W.fnOf "_is_saving" "_is_saving" (defArgs s_is_saving) (defBody s_is_saving) (defScope s_is_saving) .none kV10 dc10 pm10 an10 cd10 ct10), sl10⟩) (c10 : PySem.W.codeIn K cd10 "_is_saving" = true) (k10 : PySem.W.keepIn K (.ref f10) = true)
    {f11 : Addr} {oc11 kV11 dc11 pm11 cd11 ct11 : Value} {od11 an11 : Option Addr} {sl11 : Array (Option Value)}
    (a11 : PySem.W.nsIn K mainGlobals "is_state" = some (some (.ref f11))) (l11 : K.lookup f11 = some ⟨oc11, od11, .func (PySem.W.fnOf "is_state" "is_state" (defArgs s_is_state) (defBody s_is_state) (defScope s_is_state) .none kV11 dc11 pm11 an11 cd11 ct11), sl11⟩) (c11 : PySem.W.codeIn K cd11 "is_state" = true) (k11 : PySem.W.keepIn K (.ref f11) = true)
    {f12 : Addr} {oc12 kV12 dc12 pm12 cd12 ct12 : Value} {od12 an12 : Option Addr} {sl12 : Array (Option Value)}
    (a12 : PySem.W.nsIn K mainGlobals "state_after" = some (some (.ref f12))) (l12 : K.lookup f12 = some ⟨oc12, od12, .func (PySem.W.fnOf "state_after" "state_after" (defArgs s_state_after) (defBody s_state_after) (defScope s_state_after) .none kV12 dc12 pm12 an12 cd12 ct12), sl12⟩) (c12 : PySem.W.codeIn K cd12 "state_after" = true) (k12 : PySem.W.keepIn K (.ref f12) = true)
    {f13 : Addr} {oc13 kV13 dc13 pm13 cd13 ct13 : Value} {od13 an13 : Option Addr} {sl13 : Array (Option Value)}
    (a13 : PySem.W.nsIn K mainGlobals "_references_behind" = some (some (.ref f13))) (l13 : K.lookup f13 = some ⟨oc13, od13, .func (PySem.W.fnOf "_references_behind" "_references_behind" (defArgs s_references_behind) (defBody s_references_behind) (defScope s_references_behind) .none kV13 dc13 pm13 an13 cd13 ct13), sl13⟩) (c13 : PySem.W.codeIn K cd13 "_references_behind" = true) (k13 : PySem.W.keepIn K (.ref f13) = true)
    {f14 : Addr} {oc14 kV14 dc14 pm14 cd14 ct14 : Value} {od14 an14 : Option Addr} {sl14 : Array (Option Value)}
    (a14 : PySem.W.findIn K (.ref CE) "__init__" = some (some (.ref f14))) (i14 : PySem.W.isFn K (.ref f14) = true) (l14 : K.lookup f14 = some ⟨oc14, od14, .func (PySem.W.fnOf "__init__" "Effect.__init__" (defArgs s_Effect_init) (defBody s_Effect_init) (defScope s_Effect_init) .none kV14 dc14 pm14 an14 cd14 ct14), sl14⟩) (c14 : PySem.W.codeIn K cd14 "Effect.__init__" = true) (k14 : PySem.W.keepIn K (.ref f14) = true)
    {f15 : Addr} {oc15 kV15 dc15 pm15 cd15 ct15 : Value} {od15 an15 : Option Addr} {sl15 : Array (Option Value)}
    {p15 : Addr} {rest15 : List Value} (a15 : PySem.W.findIn K (.ref CE) "present" = some (some (.ref p15))) (pg15 : PySem.W.specialIn K (.ref p15) "__get__" = some (some (.builtin "property.__get__"))) (pt15 : PySem.W.takesIn K (.ref p15) = some true) (pr15 : PySem.W.recIn K p15 "property" = some (.ref f15 :: rest15)) (l15 : K.lookup f15 = some ⟨oc15, od15, .func (PySem.W.fnOf "present" "Effect.present" (defArgs s_Effect_present) (defBody s_Effect_present) (defScope s_Effect_present) .none kV15 dc15 pm15 an15 cd15 ct15), sl15⟩) (c15 : PySem.W.codeIn K cd15 "Effect.present" = true) (k15 : PySem.W.keepIn K (.ref f15) = true)
    {f16 : Addr} {oc16 kV16 dc16 pm16 cd16 ct16 : Value} {od16 an16 : Option Addr} {sl16 : Array (Option Value)}
    {p16 : Addr} {rest16 : List Value} (a16 : PySem.W.findIn K (.ref CE) "saved" = some (some (.ref p16))) (pg16 : PySem.W.specialIn K (.ref p16) "__get__" = some (some (.builtin "property.__get__"))) (pt16 : PySem.W.takesIn K (.ref p16) = some true) (pr16 : PySem.W.recIn K p16 "property" = some (.ref f16 :: rest16)) (l16 : K.lookup f16 = some ⟨oc16, od16, .func (PySem.W.fnOf "saved" "Effect.saved" (defArgs s_Effect_saved) (defBody s_Effect_saved) (defScope s_Effect_saved) .none kV16 dc16 pm16 an16 cd16 ct16), sl16⟩) (c16 : PySem.W.codeIn K cd16 "Effect.saved" = true) (k16 : PySem.W.keepIn K (.ref f16) = true)
    {f17 : Addr} {oc17 kV17 dc17 pm17 cd17 ct17 : Value} {od17 an17 : Option Addr} {sl17 : Array (Option Value)}
    {p17 : Addr} {rest17 : List Value} (a17 : PySem.W.findIn K (.ref CE) "stopped" = some (some (.ref p17))) (pg17 : PySem.W.specialIn K (.ref p17) "__get__" = some (some (.builtin "property.__get__"))) (pt17 : PySem.W.takesIn K (.ref p17) = some true) (pr17 : PySem.W.recIn K p17 "property" = some (.ref f17 :: rest17)) (l17 : K.lookup f17 = some ⟨oc17, od17, .func (PySem.W.fnOf "stopped" "Effect.stopped" (defArgs s_Effect_stopped) (defBody s_Effect_stopped) (defScope s_Effect_stopped) .none kV17 dc17 pm17 an17 cd17 ct17), sl17⟩) (c17 : PySem.W.codeIn K cd17 "Effect.stopped" = true) (k17 : PySem.W.keepIn K (.ref f17) = true)
    {f18 : Addr} {oc18 kV18 dc18 pm18 cd18 ct18 : Value} {od18 an18 : Option Addr} {sl18 : Array (Option Value)}
    {p18 : Addr} {rest18 : List Value} (a18 : PySem.W.findIn K (.ref CE) "ended" = some (some (.ref p18))) (pg18 : PySem.W.specialIn K (.ref p18) "__get__" = some (some (.builtin "property.__get__"))) (pt18 : PySem.W.takesIn K (.ref p18) = some true) (pr18 : PySem.W.recIn K p18 "property" = some (.ref f18 :: rest18)) (l18 : K.lookup f18 = some ⟨oc18, od18, .func (PySem.W.fnOf "ended" "Effect.ended" (defArgs s_Effect_ended) (defBody s_Effect_ended) (defScope s_Effect_ended) .none kV18 dc18 pm18 an18 cd18 ct18), sl18⟩) (c18 : PySem.W.codeIn K cd18 "Effect.ended" = true) (k18 : PySem.W.keepIn K (.ref f18) = true)
    {f19 : Addr} {oc19 kV19 dc19 pm19 cd19 ct19 : Value} {od19 an19 : Option Addr} {sl19 : Array (Option Value)}
    (a19 : PySem.W.findIn K (.ref CE) "_fits" = some (some (.ref f19))) (i19 : PySem.W.isFn K (.ref f19) = true) (l19 : K.lookup f19 = some ⟨oc19, od19, .func (PySem.W.fnOf "_fits" "Effect._fits" (defArgs s_Effect_fits) (defBody s_Effect_fits) (defScope s_Effect_fits) .none kV19 dc19 pm19 an19 cd19 ct19), sl19⟩) (c19 : PySem.W.codeIn K cd19 "Effect._fits" = true) (k19 : PySem.W.keepIn K (.ref f19) = true)
    {f20 : Addr} {oc20 kV20 dc20 pm20 cd20 ct20 : Value} {od20 an20 : Option Addr} {sl20 : Array (Option Value)}
    (a20 : PySem.W.findIn K (.ref CE) "__call__" = some (some (.ref f20))) (i20 : PySem.W.isFn K (.ref f20) = true) (l20 : K.lookup f20 = some ⟨oc20, od20, .func (PySem.W.fnOf "__call__" "Effect.__call__" (defArgs s_Effect_call) (defBody s_Effect_call) (defScope s_Effect_call) .none kV20 dc20 pm20 an20 cd20 ct20), sl20⟩) (c20 : PySem.W.codeIn K cd20 "Effect.__call__" = true) (k20 : PySem.W.keepIn K (.ref f20) = true)
    {f21 : Addr} {oc21 kV21 dc21 pm21 cd21 ct21 : Value} {od21 an21 : Option Addr} {sl21 : Array (Option Value)}
    (a21 : PySem.W.findIn K (.ref CE) "__eq__" = some (some (.ref f21))) (i21 : PySem.W.isFn K (.ref f21) = true) (l21 : K.lookup f21 = some ⟨oc21, od21, .func (PySem.W.fnOf "__eq__" "Effect.__eq__" (defArgs s_Effect_eq) (defBody s_Effect_eq) (defScope s_Effect_eq) .none kV21 dc21 pm21 an21 cd21 ct21), sl21⟩) (c21 : PySem.W.codeIn K cd21 "Effect.__eq__" = true) (k21 : PySem.W.keepIn K (.ref f21) = true)
    {f22 : Addr} {oc22 kV22 dc22 pm22 cd22 ct22 : Value} {od22 an22 : Option Addr} {sl22 : Array (Option Value)}
    (a22 : PySem.W.nsIn K mainGlobals "_law_open_source" = some (some (.ref f22))) (l22 : K.lookup f22 = some ⟨oc22, od22, .func (PySem.W.fnOf "_law_open_source" "_law_open_source" (defArgs s_law_open_source) (defBody s_law_open_source) (defScope s_law_open_source) .none kV22 dc22 pm22 an22 cd22 ct22), sl22⟩) (c22 : PySem.W.codeIn K cd22 "_law_open_source" = true) (k22 : PySem.W.keepIn K (.ref f22) = true)
    {f23 : Addr} {oc23 kV23 dc23 pm23 cd23 ct23 : Value} {od23 an23 : Option Addr} {sl23 : Array (Option Value)}
    (a23 : PySem.W.nsIn K mainGlobals "_law_draw" = some (some (.ref f23))) (l23 : K.lookup f23 = some ⟨oc23, od23, .func (PySem.W.fnOf "_law_draw" "_law_draw" (defArgs s_law_draw) (defBody s_law_draw) (defScope s_law_draw) .none kV23 dc23 pm23 an23 cd23 ct23), sl23⟩) (c23 : PySem.W.codeIn K cd23 "_law_draw" = true) (k23 : PySem.W.keepIn K (.ref f23) = true)
    {f24 : Addr} {oc24 kV24 dc24 pm24 cd24 ct24 : Value} {od24 an24 : Option Addr} {sl24 : Array (Option Value)}
    (a24 : PySem.W.nsIn K mainGlobals "_law_same" = some (some (.ref f24))) (l24 : K.lookup f24 = some ⟨oc24, od24, .func (PySem.W.fnOf "_law_same" "_law_same" (defArgs s_law_same) (defBody s_law_same) (defScope s_law_same) .none kV24 dc24 pm24 an24 cd24 ct24), sl24⟩) (c24 : PySem.W.codeIn K cd24 "_law_same" = true) (k24 : PySem.W.keepIn K (.ref f24) = true)
    {f25 : Addr} {oc25 kV25 dc25 pm25 cd25 ct25 : Value} {od25 an25 : Option Addr} {sl25 : Array (Option Value)}
    (a25 : PySem.W.nsIn K mainGlobals "_law_log" = some (some (.ref f25))) (l25 : K.lookup f25 = some ⟨oc25, od25, .func (PySem.W.fnOf "_law_log" "_law_log" (defArgs s_law_log) (defBody s_law_log) (defScope s_law_log) .none kV25 dc25 pm25 an25 cd25 ct25), sl25⟩) (c25 : PySem.W.codeIn K cd25 "_law_log" = true) (k25 : PySem.W.keepIn K (.ref f25) = true)
    {f26 : Addr} {oc26 kV26 dc26 pm26 cd26 ct26 : Value} {od26 an26 : Option Addr} {sl26 : Array (Option Value)}
    (a26 : PySem.W.nsIn K mainGlobals "_law_piece" = some (some (.ref f26))) (l26 : K.lookup f26 = some ⟨oc26, od26, .func (PySem.W.fnOf "_law_piece" "_law_piece" (defArgs s_law_piece) (defBody s_law_piece) (defScope s_law_piece) .none kV26 dc26 pm26 an26 cd26 ct26), sl26⟩) (c26 : PySem.W.codeIn K cd26 "_law_piece" = true) (k26 : PySem.W.keepIn K (.ref f26) = true)
    {f27 : Addr} {oc27 kV27 dc27 pm27 cd27 ct27 : Value} {od27 an27 : Option Addr} {sl27 : Array (Option Value)}
    (a27 : PySem.W.nsIn K mainGlobals "_law_refs" = some (some (.ref f27))) (l27 : K.lookup f27 = some ⟨oc27, od27, .func (PySem.W.fnOf "_law_refs" "_law_refs" (defArgs s_law_refs) (defBody s_law_refs) (defScope s_law_refs) .none kV27 dc27 pm27 an27 cd27 ct27), sl27⟩) (c27 : PySem.W.codeIn K cd27 "_law_refs" = true) (k27 : PySem.W.keepIn K (.ref f27) = true)
    {f28 : Addr} {oc28 kV28 dc28 pm28 cd28 ct28 : Value} {od28 an28 : Option Addr} {sl28 : Array (Option Value)}
    (a28 : PySem.W.nsIn K mainGlobals "_law_others" = some (some (.ref f28))) (l28 : K.lookup f28 = some ⟨oc28, od28, .func (PySem.W.fnOf "_law_others" "_law_others" (defArgs s_law_others) (defBody s_law_others) (defScope s_law_others) .none kV28 dc28 pm28 an28 cd28 ct28), sl28⟩) (c28 : PySem.W.codeIn K cd28 "_law_others" = true) (k28 : PySem.W.keepIn K (.ref f28) = true)
    {f29 : Addr} {oc29 kV29 dc29 pm29 cd29 ct29 : Value} {od29 an29 : Option Addr} {sl29 : Array (Option Value)}
    (a29 : PySem.W.nsIn K mainGlobals "_law_pair_right" = some (some (.ref f29))) (l29 : K.lookup f29 = some ⟨oc29, od29, .func (PySem.W.fnOf "_law_pair_right" "_law_pair_right" (defArgs s_law_pair_right) (defBody s_law_pair_right) (defScope s_law_pair_right) .none kV29 dc29 pm29 an29 cd29 ct29), sl29⟩) (c29 : PySem.W.codeIn K cd29 "_law_pair_right" = true) (k29 : PySem.W.keepIn K (.ref f29) = true)
    {f30 : Addr} {oc30 kV30 dc30 pm30 cd30 ct30 : Value} {od30 an30 : Option Addr} {sl30 : Array (Option Value)}
    (a30 : PySem.W.nsIn K mainGlobals "law" = some (some (.ref f30))) (l30 : K.lookup f30 = some ⟨oc30, od30, .func (PySem.W.fnOf "law" "law" (defArgs s_law) (defBody s_law) (defScope s_law) .none kV30 dc30 pm30 an30 cd30 ct30), sl30⟩) (c30 : PySem.W.codeIn K cd30 "law" = true) (k30 : PySem.W.keepIn K (.ref f30) = true)
    {t_LAST_PATCH : Tok} (g_LAST_PATCH : PySem.W.nsIn K mainGlobals "LAST_PATCH" = some (some (.int 100 t_LAST_PATCH)))
    {t_MOST_EVENTS : Tok} (g_MOST_EVENTS : PySem.W.nsIn K mainGlobals "MOST_EVENTS" = some (some (.int 200 t_MOST_EVENTS)))
    (z_len : PySem.W.nsIn K mainGlobals "len" = some none)
    (z_list : PySem.W.nsIn K mainGlobals "list" = some none)
    (z_int : PySem.W.nsIn K mainGlobals "int" = some none)
    (z_bool : PySem.W.nsIn K mainGlobals "bool" = some none)
    (z_str : PySem.W.nsIn K mainGlobals "str" = some none)
    (z_tuple : PySem.W.nsIn K mainGlobals "tuple" = some none)
    (z_max : PySem.W.nsIn K mainGlobals "max" = some none)
    (z_min : PySem.W.nsIn K mainGlobals "min" = some none)
    (z_range : PySem.W.nsIn K mainGlobals "range" = some none)
    (z_repr : PySem.W.nsIn K mainGlobals "repr" = some none)
    (z_isinstance : PySem.W.nsIn K mainGlobals "isinstance" = some none)
    (z_type : PySem.W.nsIn K mainGlobals "type" = some none)
    (z_all : PySem.W.nsIn K mainGlobals "all" = some none)
    (z_set : PySem.W.nsIn K mainGlobals "set" = some none)
    (z_zip : PySem.W.nsIn K mainGlobals "zip" = some none)
    (z_enumerate : PySem.W.nsIn K mainGlobals "enumerate" = some none)
    (z_sorted : PySem.W.nsIn K mainGlobals "sorted" = some none)
    (z_abs : PySem.W.nsIn K mainGlobals "abs" = some none)
    (z_any : PySem.W.nsIn K mainGlobals "any" = some none)
    (z_dict : PySem.W.nsIn K mainGlobals "dict" = some none)
    (fnC : PySem.W.fnIn K f20 = true)
    (ha0 : PySem.W.findIn K (.ref CE) "__class__" = some (some (.builtin "object.__class__")))
    (hN : PySem.W.specialIn K (.builtin "object.__class__") "__get__" = some (some (.builtin "getset_descriptor.__get__")))
    (hTk : PySem.W.takesIn K (.builtin "object.__class__") = some true)
    (hmo : PySem.W.mroIn K CE (.type "object") = some true)
    (hnf : PySem.W.notFirst K CE (.ref CE) = true)
    (hsf : PySem.W.selfFirst K CE = true)
    (hne : PySem.W.findIn K (.ref CE) "__ne__" = some (some (.builtin "object.__ne__")))
    (hob : PySem.W.subIn K (.ref CE) (.type "object") = some true)
    (hcT : ((PySem.W.clsIn K CE).isSome && PySem.W.typeIn K (.ref CE) == some (.type "type")) = true)
    (hs0 : PySem.W.subIn K (.type "NoneType") (.ref CE) = some false)
    (hs1 : PySem.W.subIn K (.type "list") (.ref CE) = some false)
    (hs2 : PySem.W.subIn K (.type "tuple") (.ref CE) = some false)
    (hs3 : PySem.W.subIn K (.type "int") (.ref CE) = some false)
    (hs4 : PySem.W.subIn K (.type "str") (.ref CE) = some false)
    (hs5 : PySem.W.subIn K (.type "dict") (.ref CE) = some false)
    (hs6 : PySem.W.subIn K (.type "bool") (.ref CE) = some false) :
    ∃ fd : FuncData, (∀ (s : Shared) (v : Value), BindsTo s fd ⟨[v], []⟩ [("script", v)]) ∧ ∀ base : Heap, K.In base → base.Ns mainGlobals mg → FnG l.prog w K mg base CX0 10 fa fd ["script"] (spLaw K) := by
  have e := hfa.symm.trans (PySem.W.mg_of X G a30)
  cases e
  have B : NoB mg := ⟨PySem.W.mg_none_of X G z_len, PySem.W.mg_none_of X G z_list, PySem.W.mg_none_of X G z_int, PySem.W.mg_none_of X G z_bool, PySem.W.mg_none_of X G z_str, PySem.W.mg_none_of X G z_tuple, PySem.W.mg_none_of X G z_max, PySem.W.mg_none_of X G z_min, PySem.W.mg_none_of X G z_range, PySem.W.mg_none_of X G z_repr, PySem.W.mg_none_of X G z_isinstance, PySem.W.mg_none_of X G z_type, PySem.W.mg_none_of X G z_all, PySem.W.mg_none_of X G z_set, PySem.W.mg_none_of X G z_zip, PySem.W.mg_none_of X G z_enumerate, PySem.W.mg_none_of X G z_sorted, PySem.W.mg_none_of X G z_abs⟩
  have clCE : Cls K CE := ⟨pgCE, hdCE, poCE, saCE⟩
  have T : Txt K CE := ⟨clCE, nCE0, nCE1, nCE2, nCE3, nCE4⟩
  have F0 := fun_mk (st := s_is_integer) l0 c0 k0
  have b0 := F0.binds (ps := ["value"]) fun _ _ _ _ _ _ us hl => match us, hl with | [_], _ => rfl
  have F1 := fun_mk (st := s_is_integer_within) l1 c1 k1
  have b1 := F1.binds (ps := ["value", "least", "greatest"]) fun _ _ _ _ _ _ us hl => match us, hl with | [_, _, _], _ => rfl
  have F2 := fun_mk (st := s_are_integers) l2 c2 k2
  have b2 := F2.binds (ps := ["value", "least", "greatest", "most"]) fun _ _ _ _ _ _ us hl => match us, hl with | [_, _, _, _], _ => rfl
  have F3 := fun_mk (st := s_are_events) l3 c3 k3
  have b3 := F3.binds (ps := ["value"]) fun _ _ _ _ _ _ us hl => match us, hl with | [_], _ => rfl
  have F4 := fun_mk (st := s_is_history) l4 c4 k4
  have b4 := F4.binds (ps := ["value"]) fun _ _ _ _ _ _ us hl => match us, hl with | [_], _ => rfl
  have F5 := fun_mk (st := s_check_history) l5 c5 k5
  have b5 := F5.binds (ps := ["history"]) fun _ _ _ _ _ _ us hl => match us, hl with | [_], _ => rfl
  have F6 := fun_mk (st := s_starts_of) l6 c6 k6
  have b6 := F6.binds (ps := ["history"]) fun _ _ _ _ _ _ us hl => match us, hl with | [_], _ => rfl
  have F7 := fun_mk (st := s_running_after) l7 c7 k7
  have b7 := F7.binds (ps := ["history"]) fun _ _ _ _ _ _ us hl => match us, hl with | [_], _ => rfl
  have F8 := fun_mk (st := s_replay) l8 c8 k8
  have b8 := F8.binds (ps := ["history"]) fun _ _ _ _ _ _ us hl => match us, hl with | [_], _ => rfl
  have F9 := fun_mk (st := s_is_piece) l9 c9 k9
  have b9 := F9.binds (ps := ["value"]) fun _ _ _ _ _ _ us hl => match us, hl with | [_], _ => rfl
  have F10 := fun_mk (st := s_is_saving) l10 c10 k10
  have b10 := F10.binds (ps := ["value"]) fun _ _ _ _ _ _ us hl => match us, hl with | [_], _ => rfl
  have F11 := fun_mk (st := s_is_state) l11 c11 k11
  have b11 := F11.binds (ps := ["value"]) fun _ _ _ _ _ _ us hl => match us, hl with | [_], _ => rfl
  have F12 := fun_mk (st := s_state_after) l12 c12 k12
  have b12 := F12.binds (ps := ["history"]) fun _ _ _ _ _ _ us hl => match us, hl with | [_], _ => rfl
  have F13 := fun_mk (st := s_references_behind) l13 c13 k13
  have b13 := F13.binds (ps := ["piece"]) fun _ _ _ _ _ _ us hl => match us, hl with | [_], _ => rfl
  have F14 := fun_mk (st := s_Effect_init) l14 c14 k14
  have b14 := F14.binds (ps := ["self", "piece"]) fun _ _ _ _ _ _ us hl => match us, hl with | [_, _], _ => rfl
  have F15 := fun_mk (st := s_Effect_present) l15 c15 k15
  have b15 := F15.binds (ps := ["self"]) fun _ _ _ _ _ _ us hl => match us, hl with | [_], _ => rfl
  have F16 := fun_mk (st := s_Effect_saved) l16 c16 k16
  have b16 := F16.binds (ps := ["self"]) fun _ _ _ _ _ _ us hl => match us, hl with | [_], _ => rfl
  have F17 := fun_mk (st := s_Effect_stopped) l17 c17 k17
  have b17 := F17.binds (ps := ["self"]) fun _ _ _ _ _ _ us hl => match us, hl with | [_], _ => rfl
  have F18 := fun_mk (st := s_Effect_ended) l18 c18 k18
  have b18 := F18.binds (ps := ["self"]) fun _ _ _ _ _ _ us hl => match us, hl with | [_], _ => rfl
  have F19 := fun_mk (st := s_Effect_fits) l19 c19 k19
  have b19 := F19.binds (ps := ["self", "present", "saved"]) fun _ _ _ _ _ _ us hl => match us, hl with | [_, _, _], _ => rfl
  have F20 := fun_mk (st := s_Effect_call) l20 c20 k20
  have b20 := F20.binds (ps := ["self", "state"]) fun _ _ _ _ _ _ us hl => match us, hl with | [_, _], _ => rfl
  have F21 := fun_mk (st := s_Effect_eq) l21 c21 k21
  have b21 := F21.binds (ps := ["self", "other"]) fun _ _ _ _ _ _ us hl => match us, hl with | [_, _], _ => rfl
  have F22 := fun_mk (st := s_law_open_source) l22 c22 k22
  have b22 := F22.binds (ps := ["script", "k"]) fun _ _ _ _ _ _ us hl => match us, hl with | [_, _], _ => rfl
  have F23 := fun_mk (st := s_law_draw) l23 c23 k23
  have b23 := F23.binds (ps := ["source", "limit"]) fun _ _ _ _ _ _ us hl => match us, hl with | [_, _], _ => rfl
  have F24 := fun_mk (st := s_law_same) l24 c24 k24
  have b24 := F24.binds (ps := ["result", "expected"]) fun _ _ _ _ _ _ us hl => match us, hl with | [_, _], _ => rfl
  have F25 := fun_mk (st := s_law_log) l25 c25 k25
  have b25 := F25.binds (ps := ["source", "script", "most"]) fun _ _ _ _ _ _ us hl => match us, hl with | [_, _, _], _ => rfl
  have F26 := fun_mk (st := s_law_piece) l26 c26 k26
  have b26 := F26.binds (ps := ["source", "script", "most"]) fun _ _ _ _ _ _ us hl => match us, hl with | [_, _, _], _ => rfl
  have F27 := fun_mk (st := s_law_refs) l27 c27 k27
  have b27 := F27.binds (ps := ["part"]) fun _ _ _ _ _ _ us hl => match us, hl with | [_], _ => rfl
  have F28 := fun_mk (st := s_law_others) l28 c28 k28
  have b28 := F28.binds (ps := ["source", "part"]) fun _ _ _ _ _ _ us hl => match us, hl with | [_, _], _ => rfl
  have F29 := fun_mk (st := s_law_pair_right) l29 c29 k29
  have b29 := F29.binds (ps := ["part", "other"]) fun _ _ _ _ _ _ us hl => match us, hl with | [_, _], _ => rfl
  have F30 := fun_mk (st := s_law) l30 c30 k30
  refine ⟨PySem.W.fnOf "law" "law" (defArgs s_law) (defBody s_law) (defScope s_law) .none kV30 dc30 pm30 an30 cd30 ct30, fun s v => .of_eq rfl, fun base _ _ => ?_⟩
  have T_is_integer : Cal l.prog w K mg base 1 "is_integer" _ := ⟨f0, _, ["value"], ok_is_integer F0 B, PySem.W.mg_of X G a0, F0.kp, b0⟩
  have TI : TxI K mg CE := ⟨PySem.W.mg_of X G aCCE, ha0, hN, hTk, hmo, kit_self K CE⟩
  have TO : TxO K CE := ⟨hnf, hsf, hne, hob⟩
  have TV : TxV K CE := ⟨hcT, hs0, hs1, hs2, hs3, hs4, hs5, hs6⟩
  have T_is_integer_within : Cal l.prog w K mg base 2 "is_integer_within" _ := ⟨f1, _, ["value", "least", "greatest"], ok_is_integer_within F1 T_is_integer, PySem.W.mg_of X G a1, F1.kp, b1⟩
  have T_are_integers : Cal l.prog w K mg base 3 "are_integers" _ := ⟨f2, _, ["value", "least", "greatest", "most"], ok_are_integers F2 B T_is_integer_within, PySem.W.mg_of X G a2, F2.kp, b2⟩
  have T_are_events : Cal l.prog w K mg base 4 "are_events" _ := ⟨f3, _, ["value"], ok_are_events F3 B (PySem.W.mg_of X G g_LAST_PATCH) (PySem.W.mg_of X G g_MOST_EVENTS) T_are_integers, PySem.W.mg_of X G a3, F3.kp, b3⟩
  have T_is_history : Cal l.prog w K mg base 5 "is_history" _ := ⟨f4, _, ["value"], ok_is_history F4 B T_are_events, PySem.W.mg_of X G a4, F4.kp, b4⟩
  have T_check_history : Cal l.prog w K mg base 6 "check_history" _ := ⟨f5, _, ["history"], ok_check_history F5 T_is_history, PySem.W.mg_of X G a5, F5.kp, b5⟩
  have T_starts_of : Cal l.prog w K mg base 1 "starts_of" _ := ⟨f6, _, ["history"], ok_starts_of F6, PySem.W.mg_of X G a6, F6.kp, b6⟩
  have T_running_after : Cal l.prog w K mg base 7 "running_after" _ := ⟨f7, _, ["history"], ok_running_after F7 B T_check_history T_starts_of, PySem.W.mg_of X G a7, F7.kp, b7⟩
  have T_replay : Cal l.prog w K mg base 1 "replay" _ := ⟨f8, _, ["history"], ok_replay F8, PySem.W.mg_of X G a8, F8.kp, b8⟩
  have T_is_piece : Cal l.prog w K mg base 5 "is_piece" _ := ⟨f9, _, ["value"], ok_is_piece F9 B T_are_events, PySem.W.mg_of X G a9, F9.kp, b9⟩
  have T_is_piece_G : Cal l.prog w K mg base 5 "is_piece" _ := ⟨f9, _, ["value"], ok_is_piece_G F9 B T_are_events, PySem.W.mg_of X G a9, F9.kp, b9⟩
  have T_is_saving : Cal l.prog w K mg base 3 "_is_saving" _ := ⟨f10, _, ["value"], ok_is_saving F10 B (PySem.W.mg_of X G g_LAST_PATCH) T_is_integer_within, PySem.W.mg_of X G a10, F10.kp, b10⟩
  have T_is_state : Cal l.prog w K mg base 4 "is_state" _ := ⟨f11, _, ["value"], ok_is_state F11 B (PySem.W.mg_of X G g_LAST_PATCH) T_is_integer_within T_is_saving, PySem.W.mg_of X G a11, F11.kp, b11⟩
  have T_state_after : Cal l.prog w K mg base 8 "state_after" _ := ⟨f12, _, ["history"], ok_state_after F12 T_running_after T_replay, PySem.W.mg_of X G a12, F12.kp, b12⟩
  have T_references_behind : Cal l.prog w K mg base 1 "_references_behind" _ := ⟨f13, _, ["piece"], ok_references_behind F13, PySem.W.mg_of X G a13, F13.kp, b13⟩
  have T_mk_Effect : Mak l.prog w K mg base 6 "Effect" CE _ := ⟨f14, _, ["self", "piece"], ⟨mkCE, a14, i14, kcCE⟩, ok_Effect_init F14 B T T_is_piece T_references_behind, PySem.W.mg_of X G aCCE, b14⟩
  have T_Effect_present : Prp l.prog w K mg base 1 CE "present" _ := ⟨p15, f15, _, ["self"], clCE, ⟨a15, pg15, pt15, _, pr15⟩, ok_Effect_present F15 T, b15⟩
  have T_Effect_saved : Prp l.prog w K mg base 1 CE "saved" _ := ⟨p16, f16, _, ["self"], clCE, ⟨a16, pg16, pt16, _, pr16⟩, ok_Effect_saved F16 B T, b16⟩
  have T_Effect_stopped : Prp l.prog w K mg base 1 CE "stopped" _ := ⟨p17, f17, _, ["self"], clCE, ⟨a17, pg17, pt17, _, pr17⟩, ok_Effect_stopped F17 B T, b17⟩
  have T_Effect_ended : Prp l.prog w K mg base 1 CE "ended" _ := ⟨p18, f18, _, ["self"], clCE, ⟨a18, pg18, pt18, _, pr18⟩, ok_Effect_ended F18 B T, b18⟩
  have T_Effect_fits : Met l.prog w K mg base 2 CE "_fits" _ := ⟨f19, _, ["self", "present", "saved"], clCE, ⟨a19, i19, k19⟩, ok_Effect_fits F19 B (PySem.W.mg_none_of X G z_any) T T_starts_of, b19⟩
  have T_Effect_call : Met l.prog w K mg base 5 CE "__call__" _ := ⟨f20, _, ["self", "state"], clCE, ⟨a20, i20, k20⟩, ok_Effect_call F20 T (PySem.W.mg_none_of X G z_dict) B T_is_state T_Effect_fits, b20⟩
  have T_fi_Effect : ∀ f, PySem.W.findIn K (.ref CE) "__call__" = some (some (.ref f)) → PySem.W.fnIn K f = true := fun f e => by
    have e2 := a20.symm.trans e
    cases e2
    exact fnC
  have T_Effect_eq : Met l.prog w K mg base 1 CE "__eq__" _ := ⟨f21, _, ["self", "other"], clCE, ⟨a21, i21, k21⟩, ok_Effect_eq F21 B T TI, b21⟩
  have T_Effect_eqV : Met l.prog w K mg base 1 CE "__eq__" _ := ⟨f21, _, ["self", "other"], clCE, ⟨a21, i21, k21⟩, ok_Effect_eqV F21 B TI, b21⟩
  have T_law_open_source : Gc l.prog w K mg base 1 "_law_open_source" _ := ⟨f22, _, ["script", "k"], ok_law_open_source F22 B, PySem.W.mg_of X G a22, F22.kp, b22⟩
  have T_law_draw : Gc l.prog w K mg base 1 "_law_draw" _ := ⟨f23, _, ["source", "limit"], ok_law_draw F23, PySem.W.mg_of X G a23, F23.kp, b23⟩
  have T_law_same : Gc l.prog w K mg base 5 "_law_same" _ := ⟨f24, _, ["result", "expected"], ok_law_same_D F24 B (PySem.W.mg_of X G a24) b24 4, PySem.W.mg_of X G a24, F24.kp, b24⟩
  have T_law_log : Gc l.prog w K mg base 2 "_law_log" _ := ⟨f25, _, ["source", "script", "most"], ok_law_log F25 B T_law_draw, PySem.W.mg_of X G a25, F25.kp, b25⟩
  have T_law_piece : Gc l.prog w K mg base 3 "_law_piece" _ := ⟨f26, _, ["source", "script", "most"], ok_law_piece F26 B T_law_draw T_law_log, PySem.W.mg_of X G a26, F26.kp, b26⟩
  have T_law_refs : Gc l.prog w K mg base 1 "_law_refs" _ := ⟨f27, _, ["part"], ok_law_refs F27 B, PySem.W.mg_of X G a27, F27.kp, b27⟩
  have T_law_others : Gc l.prog w K mg base 6 "_law_others" _ := ⟨f28, _, ["source", "part"], ok_law_others F28 B T_law_draw T_is_piece_G, PySem.W.mg_of X G a28, F28.kp, b28⟩
  have T_law_pair_right : Gc l.prog w K mg base 9 "_law_pair_right" _ := ⟨f29, _, ["part", "other"], ok_law_pair_right F29 TO T_mk_Effect T_law_refs T_law_same T_Effect_eq, PySem.W.mg_of X G a29, F29.kp, b29⟩
  exact ok_law F30 B TO TV T_law_open_source T_law_piece T_law_refs T_law_others T_law_pair_right T_mk_Effect T_Effect_present T_Effect_saved T_Effect_stopped T_Effect_ended T_Effect_eq T_Effect_eqV T_state_after T_Effect_call T_fi_Effect
end L45
open PySem PySem.W PyProof.Rows
set_option maxHeartbeats 0 in
theorem PySem.Challenge.cw_latepatches_k45_equal_effects_holds : PySem.Challenge.rw_latepatches_k45_equal_effects.Holds := by
  w_on; o_law; k_head; (case hw => w_witness2)
  k_fill
  refine Lp.walk_ofG (l := PySem.Challenge.rw_latepatches_k45_equal_effects) (n := 63) (k := 10) (x := "script") (CX := fun _ => L2.CX0) (sp := fun w => L45.spLaw _) rfl (by decide) rfl ⟨rfl, by decide, by decide⟩ (fun w h Y => PySem.W.kIn_of Y) ?F (fun _ _ a ns hl _ hS => ⟨a, ns, rfl, hS, hl, fun _ => rfl⟩) (fun _ _ _ _ _ h => h)
  case F =>
    intro w mg fa h KX G hmg
    refine' L45.all_mk KX G hmg ?aCCE ?pgCE ?hdCE ?poCE ?saCE ?mkCE ?kcCE ?nCE0 ?nCE1 ?nCE2 ?nCE3 ?nCE4 ?a0 ?l0 ?c0 ?k0 ?a1 ?l1 ?c1 ?k1 ?a2 ?l2 ?c2 ?k2 ?a3 ?l3 ?c3 ?k3 ?a4 ?l4 ?c4 ?k4 ?a5 ?l5 ?c5 ?k5 ?a6 ?l6 ?c6 ?k6 ?a7 ?l7 ?c7 ?k7 ?a8 ?l8 ?c8 ?k8 ?a9 ?l9 ?c9 ?k9 ?a10 ?l10 ?c10 ?k10 ?a11 ?l11 ?c11 ?k11 ?a12 ?l12 ?c12 ?k12 ?a13 ?l13 ?c13 ?k13 ?a14 ?i14 ?l14 ?c14 ?k14 ?a15 ?pg15 ?pt15 ?pr15 ?l15 ?c15 ?k15 ?a16 ?pg16 ?pt16 ?pr16 ?l16 ?c16 ?k16 ?a17 ?pg17 ?pt17 ?pr17 ?l17 ?c17 ?k17 ?a18 ?pg18 ?pt18 ?pr18 ?l18 ?c18 ?k18 ?a19 ?i19 ?l19 ?c19 ?k19 ?a20 ?i20 ?l20 ?c20 ?k20 ?a21 ?i21 ?l21 ?c21 ?k21 ?a22 ?l22 ?c22 ?k22 ?a23 ?l23 ?c23 ?k23 ?a24 ?l24 ?c24 ?k24 ?a25 ?l25 ?c25 ?k25 ?a26 ?l26 ?c26 ?k26 ?a27 ?l27 ?c27 ?k27 ?a28 ?l28 ?c28 ?k28 ?a29 ?l29 ?c29 ?k29 ?a30 ?l30 ?c30 ?k30 ?g_LAST_PATCH ?g_MOST_EVENTS ?z_len ?z_list ?z_int ?z_bool ?z_str ?z_tuple ?z_max ?z_min ?z_range ?z_repr ?z_isinstance ?z_type ?z_all ?z_set ?z_zip ?z_enumerate ?z_sorted ?z_abs ?z_any ?z_dict ?fnC ?ha0 ?hN ?hTk ?hmo ?hnf ?hsf ?hne ?hob ?hcT ?hs0 ?hs1 ?hs2 ?hs3 ?hs4 ?hs5 ?hs6
    (case aCCE => k_is); (case pgCE => k_is); (case hdCE => k_is); (case poCE => k_is); (case saCE => k_is); (case mkCE => k_is); (case kcCE => k_is); (case nCE0 => k_is); (case nCE1 => k_is); (case nCE2 => k_is); (case nCE3 => k_is); (case nCE4 => k_is); (case a0 => k_is); (case l0 => k_is); (case c0 => k_is); (case k0 => k_is); (case a1 => k_is); (case l1 => k_is); (case c1 => k_is); (case k1 => k_is); (case a2 => k_is); (case l2 => k_is); (case c2 => k_is); (case k2 => k_is); (case a3 => k_is); (case l3 => k_is); (case c3 => k_is); (case k3 => k_is); (case a4 => k_is); (case l4 => k_is); (case c4 => k_is); (case k4 => k_is); (case a5 => k_is); (case l5 => k_is); (case c5 => k_is); (case k5 => k_is); (case a6 => k_is); (case l6 => k_is); (case c6 => k_is); (case k6 => k_is); (case a7 => k_is); (case l7 => k_is); (case c7 => k_is); (case k7 => k_is); (case a8 => k_is); (case l8 => k_is); (case c8 => k_is); (case k8 => k_is); (case a9 => k_is); (case l9 => k_is); (case c9 => k_is); (case k9 => k_is); (case a10 => k_is); (case l10 => k_is); (case c10 => k_is); (case k10 => k_is); (case a11 => k_is); (case l11 => k_is); (case c11 => k_is); (case k11 => k_is); (case a12 => k_is); (case l12 => k_is); (case c12 => k_is); (case k12 => k_is); (case a13 => k_is); (case l13 => k_is); (case c13 => k_is); (case k13 => k_is); (case a14 => k_is); (case i14 => k_is); (case l14 => k_is); (case c14 => k_is); (case k14 => k_is); (case a15 => k_is); (case pg15 => k_is); (case pt15 => k_is); (case pr15 => k_is); (case l15 => k_is); (case c15 => k_is); (case k15 => k_is); (case a16 => k_is); (case pg16 => k_is); (case pt16 => k_is); (case pr16 => k_is); (case l16 => k_is); (case c16 => k_is); (case k16 => k_is); (case a17 => k_is); (case pg17 => k_is); (case pt17 => k_is); (case pr17 => k_is); (case l17 => k_is); (case c17 => k_is); (case k17 => k_is); (case a18 => k_is); (case pg18 => k_is); (case pt18 => k_is); (case pr18 => k_is); (case l18 => k_is); (case c18 => k_is); (case k18 => k_is); (case a19 => k_is); (case i19 => k_is); (case l19 => k_is); (case c19 => k_is); (case k19 => k_is); (case a20 => k_is); (case i20 => k_is); (case l20 => k_is); (case c20 => k_is); (case k20 => k_is); (case a21 => k_is); (case i21 => k_is); (case l21 => k_is); (case c21 => k_is); (case k21 => k_is); (case a22 => k_is); (case l22 => k_is); (case c22 => k_is); (case k22 => k_is); (case a23 => k_is); (case l23 => k_is); (case c23 => k_is); (case k23 => k_is); (case a24 => k_is); (case l24 => k_is); (case c24 => k_is); (case k24 => k_is); (case a25 => k_is); (case l25 => k_is); (case c25 => k_is); (case k25 => k_is); (case a26 => k_is); (case l26 => k_is); (case c26 => k_is); (case k26 => k_is); (case a27 => k_is); (case l27 => k_is); (case c27 => k_is); (case k27 => k_is); (case a28 => k_is); (case l28 => k_is); (case c28 => k_is); (case k28 => k_is); (case a29 => k_is); (case l29 => k_is); (case c29 => k_is); (case k29 => k_is); (case a30 => k_is); (case l30 => k_is); (case c30 => k_is); (case k30 => k_is); (case g_LAST_PATCH => k_is); (case g_MOST_EVENTS => k_is); (case z_len => k_is); (case z_list => k_is); (case z_int => k_is); (case z_bool => k_is); (case z_str => k_is); (case z_tuple => k_is); (case z_max => k_is); (case z_min => k_is); (case z_range => k_is); (case z_repr => k_is); (case z_isinstance => k_is); (case z_type => k_is); (case z_all => k_is); (case z_set => k_is); (case z_zip => k_is); (case z_enumerate => k_is); (case z_sorted => k_is); (case z_abs => k_is); (case z_any => k_is); (case z_dict => k_is); (case fnC => k_is); (case ha0 => k_is); (case hN => k_is); (case hTk => k_is); (case hmo => k_is); (case hnf => k_is); (case hsf => k_is); (case hne => k_is); (case hob => k_is); (case hcT => kernel_rfl); (case hs0 => k_is); (case hs1 => k_is); (case hs2 => k_is); (case hs3 => k_is); (case hs4 => k_is); (case hs5 => k_is); (case hs6 => k_is)
