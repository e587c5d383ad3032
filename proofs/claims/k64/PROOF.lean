import PyProof.Rows.All
import Wide.All
import OpenK.AllK
import Wide.FinOn
import HandS.ForMost
import HandS.IsInst
import HandS.More
import HandS.Strs
import HandS.Wide
import HandS.SortInts
import HandS.Style
import HandS.Conv
import PyProof.TypeEq
import PyProof.ReprRoads
import HandS.ForExc
import HandS.Evl
import HandS.Zip
import HandS.SetFor
import HandS.Walk
import PyProof.Rows.CountFlat
import HandS.DictComp
import PyProof.Rows.SeqMore
import HandS.Text
import HandS.WideBits
import HandS.Gcd
import HandS.Defaults
import PyProof.Rows.RegReprOcc
import PyProof.StrOps2
import HandS.NamedTupSort
import KE.LtSeq
import KE.KMathG
import PyProof.Walk
import PyProof.WalkLemmas
import PyProof.Pure
import PyProof.TableTree
import PyProof.FactsTree
import HandS.Rev
import HandS.FStr
import KE.KxField
import PyProof.FString3
import PyProof.Rows.StrIntSpec
import PyProof.StrLawsChain
import PyProof.StrLawsTight
import PyProof.Rows.StrItems
import HandS.Property
import HandS.ExcOwn
import HandS.TryMany
import HandS.WordsExc
import HandS.MakeKwOnly
import HandS.GenList
import HandS.ExcIs
import HandS.ExcValue
import HandS.HotCalls
import OpenK.KMeth
import KE.KCallOwn
import HandS.DictTup
import KE.KDictList
import PyProof.InstNe
import HandS.Small
import HandS.ExcField
import PySem.Challenge.RW_latepatches_k64_few_originals_numbered
set_option Elab.async false
set_option linter.all false
set_option maxRecDepth 100000
namespace Lp
open PySem PySem.Spec PyProof.Rows L2

/-! ### operators that the layer lacks -/
def CPowW (i j : Int) : Prop := 0 ≤ j ∧ (Builtin.Int.intBits i : Int) * j ≤ 2 ^ 27
section
variable {X : Cx}
theorem op_powW : OpR X (binaryOp .Pow) (rI CPowW fun i j => .int (i ^ j.toNat)) := opI fun _ _ _ _ _ _ _ hc q => pow_int hc.1 hc.2 q
end
theorem powW_ok {i : Int} {n : Nat} {j : Int} (h : i.natAbs < 2 ^ n) (hj : 0 ≤ j) (hn : (n : Int) * j ≤ 100000000) : CPowW i j := by
  refine ⟨hj, ?_⟩
  have b := PyProof.Rows.intBits_le h
  have e : (2 : Int) ^ 27 = 134217728 := by decide
  rw [e]
  have h1 : (Builtin.Int.intBits i : Int) ≤ (n : Int) := by omega
  have h2 := Int.mul_le_mul_of_nonneg_right h1 hj
  omega

/-! ### repr -/
def rRepr (K : PySem.W.Frag) : List V → Hp → VK → Prop := fun xs H Q => ∃ (a : Addr) (d : PyData), xs = [.ref a] ∧ Dp K H (.ref a) d ∧ d.showable = true ∧ d.hasDict = false ∧ d.depth ≤ 60 ∧ d.shown.length ≤ sizeLine ∧ Q (.str d.shown) H
theorem call_repr {X : Cx} (hg : X.A.guards = some []) (hu : X.A.units + 64 < cLine) : CallR X (.builtin "repr") (rRepr X.K) := by
  intro pins s σ H xs us Q I r h
  obtain ⟨a, d, rfl, hd, h1, h2, h3, h4, q⟩ := h
  obtain ⟨u, rfl, rx⟩ := vals1 r
  obtain ⟨as, hr⟩ := Dp.reads I d _ u hd rx
  cases (show u = Value.ref a from rx)
  exact PySem.repr_of_reads' hr h1 (PyData.noDict_hsm h2) hg (by omega) (fun _ _ e => e) (fun h' t tk hk => ⟨.str d.shown, H, I.kept hk, ⟨t, rfl⟩, q⟩) h4
end Lp
set_option Elab.async false
set_option linter.all false
set_option maxRecDepth 100000
namespace Lp
open PySem PySem.Spec PyProof.Rows L2

/-! ### defs that are called where no repr is under way (guards = some []) -/
structure FnG (P : Program) (w : World) (K : PySem.W.Frag) (mg : Str → Option Value) (base : Heap) (CX : CXT) (k : Nat) (f : Addr) (fd : FuncData) (ps : List Str) (sp : Sp) : Prop where
  len : ∀ vs H Q E, sp vs H Q E → vs.length = ps.length
  runG : ∀ (A : Around) (out : List Env) (s : Shared) (H : Hp) (ar : Args) (us : List Value) (vs : List V) (Q : VK) (E : XK), A.guards = some [] → Room k A → Env0 P w K mg base A out s H →
    BindsTo s fd ar (ps.zip us) → Vals vs us → sp vs H Q E → codeAny (model P w) A (.call (.ref f) ar) (CR CX out P w H s Q E) s
section
variable {P : Program} {w : World} {K : PySem.W.Frag} {mg : Str → Option Value} {base : Heap}
theorem FnG.of {CX : CXT} {k : Nat} {f : Addr} {fd : FuncData} {ps : List Str} {sp : Sp} (F : FnOk P w K mg base CX k f fd ps sp) : FnG P w K mg base CX k f fd ps sp :=
  ⟨F.len, fun A out s H ar us vs Q E _ hr => F.run A out s H ar us vs Q E hr⟩
theorem fnG_of {CX : CXT} {k : Nat} {f : Addr} {name qual : Str} {params : Arguments} {body : List Stmt} {scope : Scope} {dV kV doc pm cdv ct oc : Value} {an od : Option Addr}
    {osl : Array (Option Value)} {N ps : List Str} {sp : Sp} (lk : K.lookup f = some ⟨oc, od, .func (PySem.W.fnOf name qual params body scope dV kV doc pm an cdv ct), osl⟩) (hcd : PySem.W.codeIn K cdv qual = true) (S : FnScope N ps scope)
    (ln : ∀ vs H Q E, sp vs H Q E → vs.length = ps.length)
    (hb : ∀ (A : Around) (out : List Env) (s : Shared) (H : Hp) (vs : List V) (Q : VK) (E : XK), A.guards = some [] → Room k (A.deeper (envOfC qual scope s.heap.objs.size f cdv)) → sp vs H Q E →
      ∃ t, PSs (cxOf CX P w K mg base N qual scope f cdv A out s H E) body t ∧ t { nx := fun _ H' => Q .non H', rt := Q } (start N vs) H) :
    FnG P w K mg base CX (k + 1) f (PySem.W.fnOf name qual params body scope dV kV doc pm an cdv ct) ps sp := by
  refine ⟨ln, fun A out s H ar us vs Q E hG room en bd rv hs => ?_⟩
  have KX : K.In s.heap := en.mod.kin.keeps fun b o e => (en.bs b o e).1
  have nl : s.heap.NoLimit := en.mod.nolimit.keeps fun b o e => (en.bs b o e).1
  have kd : ∀ y ∈ ps.zip us, scope.names.lookup y.1 = some .local ∨ (scope.names.lookup y.1 = some .cell ∧ ((cellsFrom (s.heap.objs.size + 1) scope.names []).lookup y.1).isSome = true) := by
    rintro ⟨n, v⟩ hy
    have hm := (List.of_mem_zip hy).1
    exact (S.par n hm).elim (fun q => .inl q) fun q => .inr ⟨q, PySem.W.cellsFrom_some _ _ _ (.inl q)⟩
  refine codeAny_call_function room.depth (KX _ _ lk) rfl S.co S.gen rfl (PySem.W.codeRec_of KX hcd) (bd _ _ _ _ ?_)
  refine wpAny_newFunctionEnv_cells S.kind kd fun e1 he s1 x => ?_
  subst he
  refine ⟨nl.keeps x.toInCall.keep, codeAny_func ?_⟩
  obtain ⟨t, ht, hq⟩ := hb A out s H vs Q E hG (room.deeper _) hs
  have J0 : Inv (cxOf CX P w K mg base N qual scope f cdv A out s H E) [] (start N vs) H s1 := inv_start S room.hd en (ln _ _ _ _ hs) rv x
  refine wpAny_mono (ht.run [] s1 (start N vs) H _ J0 hq) (fun fl s' h3 => ?_) fun _ _ h3 => h3
  cases fl with
  | ret u => exact let ⟨v, _, H', J, r2, q⟩ := h3; ⟨v, H', J.os, J.bare, J.base, J.hok, r2, q⟩
  | next => exact let ⟨_, H', J, q⟩ := h3; ⟨.non, H', J.os, J.bare, J.base, J.hok, rfl, q⟩
  | brk => exact (let ⟨_, _, _, q⟩ := h3; q : False).elim
  | cont => exact (let ⟨_, _, _, q⟩ := h3; q : False).elim
theorem okG {x qual : Str} {st : Stmt} {f : Addr} {fd : FuncData} {N ps : List Str} {k : Nat} {sp : Sp} (F : Fun K x qual st f fd) (S : FnScope N ps (defScope st)) (ln : ∀ vs H Q E, sp vs H Q E → vs.length = ps.length)
    (hb : ∀ (cdv : Value) (A : Around) (out : List Env) (s : Shared) (H : Hp) (vs : List V) (Q : VK) (E : XK), A.guards = some [] → Room k (A.deeper (envOfC qual (defScope st) s.heap.objs.size f cdv)) → sp vs H Q E →
      ∃ t, PSs (cxOf CX0 P w K mg base N qual (defScope st) f cdv A out s H E).nox (defBody st) t ∧ t { nx := fun _ H' => Q .non H', rt := Q } (start N vs) H) : FnG P w K mg base CX0 (k + 1) f fd ps sp := by
  obtain ⟨oc, od, kV, doc, pm, an, cdv, ct, osl, rfl, lk, hcd⟩ := F.ex
  refine fnG_of lk hcd S ln fun A out s H vs Q E hG room h => ?_
  obtain ⟨t, ht, q⟩ := hb cdv A out s H vs Q E hG room h
  exact ⟨t, ht.nox, q⟩
end
section
variable {X : Cx} {CX : CXT} {k : Nat} {f : Addr} {fd : FuncData} {ps : List Str} {sp : Sp} {dvs : List V} {ds : List Value} {E : XK} {x : Str} {p pos : Pos} {e : Expr} {es : List Expr} {t : TA}
theorem pe_callG (F : FnG X.prog X.w X.K X.mg X.base CX k f fd ps sp) (hG : X.A.guards = some []) (hr : Room k X.A) (hg : Gl X x) (hm : X.mg x = some (.ref f)) (hk : PySem.W.keepIn X.K (.ref f) = true) (hb : Binds X.K fd ps ds) (hd : Vals dvs ds) (hx : Passes CX X E)
    (ha : PA X (e :: es) t) (hdb : (x == ("__debug__" : Str)) = false := by decide) (he : starEach (e :: es) X.env = (false, eval e X.env) :: starEach es X.env := by rfl) (hpl : (backTo pos (starEach es X.env)).any (·.1) = false := by rfl) :
    PE X (.Call (.Name x p) (e :: es) [] pos) (tCall sp dvs E t) := by
  refine ⟨fun pins s σ H Q I h => wpAny_Call_Name_kw (ld_glob I hg hm ?_ hdb)⟩
  refine PySem.W.callWith_K (h₀ := X.base) I.ok.mod.kin hk (thn (ha.run pos pins s σ H _ I h) fun us s1 ⟨vs, H1, I1, r, q⟩ => ⟨I1.kIn, ?_⟩) he hpl
  have rr : Vals (vs ++ dvs) (us ++ ds) := r.append hd
  have hl : (us ++ ds).length = ps.length := rr.length.symm.trans (F.len _ _ _ _ q)
  refine wpAny_call (codeAny_mono (F.runG X.A X.stack s1 H1 ⟨us, []⟩ (us ++ ds) (vs ++ dvs) Q E hG hr I1.env0 (hb s1 us I1.kIn hl) rr q) fun r s' hq => ?_)
  cases r with
  | error e => exact hx pins σ H1 s1 e s' I1 hq
  | ok fl =>
    cases fl with
    | ret u => exact I1.after hq
    | next => exact False.elim hq
    | brk => exact False.elim hq
    | cont => exact False.elim hq
end

/-! ### the end of a law's row, for such a law -/
theorem law_callG {P : Program} {w : World} {K : PySem.W.Frag} {mg mb : Str → Option Value} {CX : CXT} {k : Nat} {fa a : Addr} {fd : FuncData} {x : Str} {sp : Sp} {s₁ : Shared} {vs : List Value} {ns : List Int}
    (KX : K.In s₁.heap) (hns : s₁.heap.Ns mainGlobals mg) (hb : s₁.heap.Ns builtinsNs mb) (hbb : ∀ x : Str, x ≠ "__name__" → mb x = bootBuiltins x) (hlim : s₁.heap.NoLimit) (hg : s₁.gens = #[])
    (ha : s₁.heap.get? a = some { cls := .type "list", data := .seq vs.toArray }) (hi : IntsAre vs ns) (hl : ns.length ≤ sizeLine) (hr : Room k callerA)
    (F : ∀ base : Heap, K.In base → base.Ns mainGlobals mg → FnG P w K mg base CX k fa fd [x] sp) (hbind : ∀ (s : Shared) (u : Value), BindsTo s fd ⟨[u], []⟩ [(x, u)])
    (hsp : ∀ H : Hp, Only H → SqL K H a (ns.map V.int) → sp [.ref a] H (fun v _ => v = .bl true) fun _ _ _ => False)
    (hCX : ∀ H e s', CX [] H s₁ (fun _ _ _ => False) e s' → False) :
    codeAny (model P w) callerA (.call (.ref fa) ⟨[.ref a], []⟩) (fun r s' => r = .ok (.ret (.bool true)) ∧ OldK s₁.heap s'.heap ∧ s'.os = s₁.os ∧ AllBare s'.gens) s₁ := by
  have rv := vals_ints hi
  have szV := hi.length
  have main : ∀ H : Hp, Only H → SqL K H a (ns.map V.int) → HOk P w H s₁.heap → (∀ b, H b ≠ none → b = a) → (H a ≠ none → K.lookup a = none) →
      codeAny (model P w) callerA (.call (.ref fa) ⟨[.ref a], []⟩) (fun r s' => r = .ok (.ret (.bool true)) ∧ OldK s₁.heap s'.heap ∧ s'.os = s₁.os ∧ AllBare s'.gens) s₁ := by
    intro H hO hS ok hA hK
    have free : ∀ {b : Addr}, b ≠ a → H b = none := fun {b} hb => by
      cases q : H b with
      | none => rfl
      | some u => exact absurd (hA b (by rw [q]; simp)) hb
    have nsK : ∀ {b : Addr} {m : Str → Option Value}, s₁.heap.Ns b m → (hidT s₁.heap H).Ns b m := by
      rintro b m ⟨o, es, ep, e, d, r⟩
      refine ⟨o, es, ep, hidT_get e (free fun z => ?_), d, r⟩
      subst z
      rw [ha] at e
      cases e
      exact nomatch (show Data.seq vs.toArray _ = Data.dict es ep from d)
    have hKb : K.In (hidT s₁.heap H) := by
      intro b o e
      refine hidT_get (KX b o e) ?_
      cases q : H b with
      | none => rfl
      | some u =>
        have z := hA b (by rw [q]; simp)
        subst z
        rw [hK (by rw [q]; simp)] at e
        cases e
    have hM : Mod K mg (hidT s₁.heap H) := ⟨hKb, nsK hns, ⟨mb, nsK hb, hbb⟩, let ⟨mc, h1, h2⟩ := hlim; ⟨mc, nsK h1, h2⟩⟩
    have e0 : Env0 P w K mg (hidT s₁.heap H) callerA [] s₁ H := ⟨rfl, hM, fun b o e => of_hidT e, Nat.le_of_eq (hidT_size _ _), trivial, fun b hb => absurd (show b ∈ ([] : List Addr) from hb) (by simp), ok, .of_eq hg⟩
    refine codeAny_mono ((F _ hKb (nsK hns)).runG callerA [] s₁ H ⟨[.ref a], []⟩ [.ref a] [.ref a] _ _ rfl hr e0 (hbind s₁ (.ref a)) (.cons rfl .nil) (hsp H hO hS)) fun r s' h => ?_
    cases r with
    | error e => exact (hCX H e s' h).elim
    | ok fl =>
      cases fl with
      | next => exact False.elim h
      | brk => exact False.elim h
      | cont => exact False.elim h
      | ret u =>
        obtain ⟨v, H', os, bare, un, hok', r', q⟩ := h
        cases (show v = .bl true from q)
        cases (show u = Value.bool true from r')
        refine ⟨rfl, OldK.of_keep fun b o e => ?_, os, bare⟩
        rcases hO b with z | ⟨ob, xs, z⟩
        · exact un.keep b o e z (fun z => absurd (show b ∈ ([] : List Addr) from z) (by simp)) (by simp)
        · obtain ⟨e1, _⟩ := ok b _ z
          obtain ⟨e2, _⟩ := hok' b _ (un.frzs b ob _ z)
          rw [e] at e1; cases e1
          exact e2
  cases hk : K.lookup a with
  | some o =>
    have e := KX a o hk
    rw [ha] at e
    cases e
    exact main (fun _ => none) (fun _ => .inl rfl) (.inr ⟨_, vs.toArray, _, hk, rfl, rfl, rfl, by rw [List.size_toArray, szV]; exact hl, by simpa using rv⟩) (fun b u z => nomatch z) (fun b z => absurd rfl z) fun z => absurd rfl z
  | none =>
    refine main (fun b => if b = a then some (.frz { cls := .type "list", data := .seq vs.toArray } (.lst (ns.map V.int))) else none) (fun b => ?_) (.inl (.inr ⟨{ cls := .type "list", data := .seq vs.toArray }, if_pos rfl⟩)) (fun b u z => ?_) (fun b z => ?_) fun _ => hk
    · by_cases h : b = a
      · exact .inr ⟨_, _, if_pos h⟩
      · exact .inl (if_neg h)
    · by_cases h : b = a
      · cases (if_pos h).symm.trans z
        subst h
        exact ⟨ha, by rw [List.length_map]; exact hl, vs, _, rv, ha⟩
      · cases (if_neg h).symm.trans z
    · by_cases h : b = a
      · exact h
      · exact absurd (if_neg h) z
theorem walk_ofG {l : PySem.W.OpenLaw} {n k : Nat} {q : Program} {loose : List Str} {XP : (Str → Option Value) → Heap → Prop} {YP : World → Heap → Prop} {d : DefRec} {K : Params → PySem.W.Frag} {CX : World → CXT} {sp : World → Sp} {x : Str}
    (hn : l.most = some n) (hn2 : n ≤ sizeLine) (hdf : d.params.defaults = []) (hr : Room k callerA)
    (hY : ∀ (w : World) (h : Heap), YP w h → (K w.params).In h)
    (F : ∀ (w : World) (mg : Str → Option Value) (fa : Addr) (h : Heap), (K w.params).In h → h.Ns mainGlobals mg → mg d.name = some (.ref fa) →
      ∃ fd : FuncData, (∀ (s : Shared) (u : Value), BindsTo s fd ⟨[u], []⟩ [(x, u)]) ∧
        ∀ base : Heap, (K w.params).In base → base.Ns mainGlobals mg → FnG l.prog w (K w.params) mg base (CX w) k fa fd [x] (sp w))
    (hsp : ∀ (w : World) (H : Hp) (a : Addr) (ns : List Int), ns.length ≤ n → Only H → SqL (K w.params) H a (ns.map V.int) → sp w [.ref a] H (fun v _ => v = .bl true) fun _ _ _ => False)
    (hCX : ∀ (w : World) (H : Hp) (s : Shared) (e : Value) (s' : Shared), CX w [] H s (fun _ _ _ => False) e s' → False) :
    PySem.W.WalkO q loose XP YP l.row.toRowW d [] (fun f vs => PySem.call f vs) := by
  refine Att.attach_call hn hdf fun w _ s₁ mg _ fa _ _ _ _ a vs ns G Y _ _ _ hmg hobj hints hlen hg => ?_
  obtain ⟨fd, hb, hF⟩ := F w mg fa _ (hY w _ Y) G.T.g hmg
  exact law_callG (hY w _ Y) G.T.g G.T.b G.T.builtins G.T.nolimit hg hobj hints (Nat.le_trans hlen hn2) hr hF hb (fun H hO hS => hsp w H a ns hlen hO hS) fun H e s' => hCX w H s₁ e s'
end Lp
set_option Elab.async false
set_option linter.all false
set_option maxRecDepth 100000
namespace Lp
open PySem PySem.Spec PyProof.Rows L2

/-- the names of the built-ins that the text leaves alone -/
structure NoB (mg : Str → Option Value) : Prop where
  len : mg "len" = none
  list : mg "list" = none
  int : mg "int" = none
  bool : mg "bool" = none
  str : mg "str" = none
  tuple : mg "tuple" = none
  max : mg "max" = none
  min : mg "min" = none
  range : mg "range" = none
  repr : mg "repr" = none
  isinstance : mg "isinstance" = none
  type : mg "type" = none
  all : mg "all" = none
  set : mg "set" = none
  zip : mg "zip" = none
  enumerate : mg "enumerate" = none
  sorted : mg "sorted" = none
  abs : mg "abs" = none

/-- a def that may be called by its name -/
structure Gc (P : Program) (w : World) (K : PySem.W.Frag) (mg : Str → Option Value) (base : Heap) (k : Nat) (x : Str) (sp : Sp) : Prop where
  ex : ∃ (f : Addr) (fd : FuncData) (ps : List Str), FnG P w K mg base CX0 k f fd ps sp ∧ mg x = some (.ref f) ∧ PySem.W.keepIn K (.ref f) = true ∧ Binds K fd ps []
theorem FnG.mono {P : Program} {w : World} {K : PySem.W.Frag} {mg : Str → Option Value} {base : Heap} {CX : CXT} {j k : Nat} {f : Addr} {fd : FuncData} {ps : List Str} {sp : Sp} (F : FnG P w K mg base CX j f fd ps sp) (h : j ≤ k) : FnG P w K mg base CX k f fd ps sp :=
  ⟨F.len, fun A out s H ar us vs Q E hG hr => F.runG A out s H ar us vs Q E hG (hr.mono h)⟩
section
variable {X : Cx} {k j : Nat} {x : Str} {sp : Sp} {p pos : Pos} {e : Expr} {es : List Expr} {t : TA}
theorem pe_g (c : Gc X.prog X.w X.K X.mg X.base k x sp) (hG : X.A.guards = some []) (hr : Room j X.A) (hk : k ≤ j) (hg : Gl X x) (ha : PA X (e :: es) t)
    (hdb : (x == ("__debug__" : Str)) = false := by decide) (he : starEach (e :: es) X.env = (false, eval e X.env) :: starEach es X.env := by rfl) (hpl : (backTo pos (starEach es X.env)).any (·.1) = false := by rfl) :
    PE X (.Call (.Name x p) (e :: es) [] pos) (tCall sp [] E0 t) := by
  obtain ⟨f, fd, ps, F, hm, kp, b⟩ := c.ex
  exact pe_callG F hG (hr.mono hk) hg hm kp b .nil pass0 ha hdb he hpl
end

/-! ### == and != of types -/
def rEqTy : R2 := fun x y H Q => ∃ a b, x = .ty a ∧ y = .ty b ∧ (∀ s' : Shared, s'.TypeIs (.type a) "type") ∧ (∀ s' : Shared, s'.TypeIs (.type b) "type") ∧ Q (.bl (decide (a = b))) H
def rNeTy : R2 := fun x y H Q => ∃ a b, x = .ty a ∧ y = .ty b ∧ (∀ s' : Shared, s'.TypeIs (.type a) "type") ∧ (∀ s' : Shared, s'.TypeIs (.type b) "type") ∧ Q (.bl (!decide (a = b))) H
section
variable {X : Cx}
theorem op_eqTy : OpR X (compareOp .Eq) rEqTy := by
  intro pins s σ H x y v u Q I rx ry h
  obtain ⟨a, b, rfl, rfl, ha, hb, q⟩ := h
  cases (show v = Value.type a from rx)
  cases (show u = Value.type b from ry)
  by_cases e : a = b
  · subst e
    exact PySem.TypeEq.eq_type_same ha ⟨.bl true, H, I, rfl, by simpa using q⟩
  · exact PySem.TypeEq.eq_type_other ha hb (by rw [ty_beq]; exact decide_eq_false e) ⟨.bl false, H, I, rfl, by simpa [e] using q⟩
end

open PySem.TypeEq
theorem slot_type_ne : Slot "type" (cmpInfo .NotEq).2.1 "object.__ne__" :=
  .of (owner := "object") (n := "__ne__") (by rw [typeLookup_type, builtinLookup_eq_fast]; kernel_rfl) (by decide +kernel) (by decide +kernel) (by decide +kernel)
    (by first | exact .inl (by decide +kernel) | exact .inr (by decide +kernel)) (by rw [isSubtype_type]; kernel_rfl)
section
variable {prog : Program} {w : World} {A : Around} {E : Value → Shared → Prop} {s : Shared} {Q : Value → Shared → Prop}
theorem ne_type_same {X : String} (hX : ∀ s' : Shared, s'.TypeIs (.type X) "type") (h : Q (.bool false) s) : wpAny (model prog w) A (compareOp .NotEq (.type X) (.type X)) Q E s := by
  show wpAny _ A (richCompare .NotEq _ _) Q E s
  refine PySem.wpAny_richCompare_same (T := "type") (hX s) (hX s) slot_type_ne (wpAny_call_entry slot_type_ne (hX s) F.entry_object_ne ?_ (F.args_object_ne_2 _ _))
  unfold Builtin.«object.__ne__»
  refine wpAny_bind (m := slotArgs "__ne__" 1 _) (wpAny_of_eq (a := ((Value.type X : Value), [Value.type X])) (by first | rfl | (simp only [slotArgs]; rfl)) ?_)
  refine wpAny_bind (wpAny_cRoomFor_or (.inl rfl) ?_)
  refine wpAny_bind (m := callSpecialIfBound? (.type X) (Str.ofString "__eq__") [.type X]) (wpAny_callSpecialIfBound?_slot (hX s) slot_type_eq
    (call_gives slot_type_eq (hX s) F.entry_object_eq (F.args_object_eq_2 _ _) (object_eq_same rfl (by simp)) ?_))
  show wpAny (model prog w) A.in1 (truthy (.bool true) >>= fun b => ret (Value.bool !b)) _ E s
  exact wpAny_bind (wpAny_of_eq (a := true) (by first | rfl | simp [truthy]) (wpAny_pure ⟨_, rfl, (by intro e; cases e), h⟩))
end

/-- a != b of the same built-in type -/
def rNeTyS : R2 := fun x y H Q => ∃ a, x = .ty a ∧ y = .ty a ∧ (∀ s' : Shared, s'.TypeIs (.type a) "type") ∧ Q (.bl false) H
theorem op_neTy {X : Cx} : OpR X (compareOp .NotEq) rNeTyS := by
  intro pins s σ H x y v u Q I rx ry h
  obtain ⟨a, rfl, rfl, ha, q⟩ := h
  cases (show v = Value.type a from rx)
  cases (show u = Value.type a from ry)
  exact ne_type_same ha ⟨.bl false, H, I, rfl, q⟩
/-! ### heaps -/
theorem same_new {H : Hp} {p : Addr} {o : HO} (h : H p = none) : Same H (upd H p o) := fun b x e => by
  rw [upd_ne (ne_of_none e h)]
  exact e
/-- all but what stands at a is as it was -/
def But (a : Addr) (H H' : Hp) : Prop := ∀ b, b ≠ a → ∀ o, H b = some o → H' b = some o
end Lp
set_option Elab.async false
set_option linter.all false
set_option maxRecDepth 100000
namespace Lp
open PySem PySem.Spec PyProof.Rows L2

/-! ### comprehensions that only add -/
def LcP (H1 : Hp) (D : Addr) (acc : Nat → List V) (i : Nat) (H : Hp) : Prop := H1 D = none ∧ Same H1 H ∧ H D = some (.lst (acc i))
section
variable {H1 H H4 : Hp} {D : Addr} {acc : Nat → List V} {i : Nat} {y : V}
theorem LcP.init (h : H1 D = none) (e : acc 0 = []) : LcP H1 D acc 0 (upd H1 D (.lst [])) := ⟨h, same_new h, by rw [upd_same, e]⟩
theorem LcP.put (p : LcP H1 D acc i H) (s : Same H H4) (e : acc (i + 1) = acc i ++ [y]) (hz : (acc i).length < 100000) :
    ∃ l, H4 D = some (.lst l) ∧ l.length < sizeLine ∧ LcP H1 D acc (i + 1) (upd H4 D (.lst (l ++ [y]))) := by
  obtain ⟨p1, p2, p3⟩ := p
  refine ⟨acc i, s _ _ p3, Nat.lt_of_lt_of_le hz (by decide), p1, fun b o h => ?_, by rw [upd_same, e]⟩
  rw [upd_ne (ne_of_none h p1)]
  exact s _ _ (p2 _ _ h)
theorem LcP.skip (p : LcP H1 D acc i H) (s : Same H H4) (e : acc (i + 1) = acc i) : LcP H1 D acc (i + 1) H4 := ⟨p.1, p.2.1.trans s, by rw [e]; exact s _ _ p.2.2⟩
end
theorem get_int {ns : List Int} {i : Nat} {x : V} (h : (ns.map V.int)[i]? = some x) : ∃ n, x = .int n ∧ ns[i]? = some n := by
  rw [List.getElem?_map] at h
  cases e : ns[i]? with
  | none => rw [e] at h; cases h
  | some n => rw [e] at h; cases h; exact ⟨n, rfl, rfl⟩
theorem mem_get {α : Type} {l : List α} {i : Nat} {x : α} (h : l[i]? = some x) : x ∈ l := List.mem_of_getElem? h
theorem lt_get {α : Type} {l : List α} {i : Nat} {x : α} (h : l[i]? = some x) : i < l.length := (List.getElem?_eq_some_iff.mp h).1
theorem take_get {α : Type} {l : List α} {i : Nat} {x : α} (h : l[i]? = some x) : l.take (i + 1) = l.take i ++ [x] := by
  rw [List.take_add_one, h]
  rfl
theorem zs {n : Nat} (h : n ≤ 100000) : n ≤ sizeLine := Nat.le_trans h (by decide)
theorem zl {n : Nat} (h : n < 100000) : n < sizeLine := Nat.lt_of_lt_of_le h (by decide)
theorem at0 {x : V} {r : List V} : atI (x :: r) 0 = some x := atI_nat (j := 0) rfl
theorem at1 {x y : V} {r : List V} : atI (x :: y :: r) 1 = some y := atI_nat (j := 1) rfl
theorem at2 {x y z : V} {r : List V} : atI (x :: y :: z :: r) 2 = some z := atI_nat (j := 2) rfl
theorem at_last {xs : List V} {y : V} : atI (xs ++ [y]) (-1) = some y := atI_last _ _
theorem dT {p : Prop} [Decidable p] (h : p) : V.bl (decide p) = V.bl true := congrArg V.bl (decide_eq_true h)
theorem dF {p : Prop} [Decidable p] (h : ¬ p) : V.bl (decide p) = V.bl false := congrArg V.bl (decide_eq_false h)
theorem nT {p : Prop} [Decidable p] (h : ¬ p) : V.bl (!decide p) = V.bl true := by rw [decide_eq_false h]; rfl
theorem nF {p : Prop} [Decidable p] (h : p) : V.bl (!decide p) = V.bl false := by rw [decide_eq_true h]; rfl
theorem vne {i j : Int} (h : i ≠ j) : ¬ V.int i = V.int j := fun e => h (V.int.inj e)

/-! ### a word behind a test, a value -/
def tMid (t : TT) : TT := fun σ H Q => ∃ M : Bool → Hp → Prop, t σ H M ∧ ∀ b H', M b H' → Q b H'
theorem pt_mid {X : Cx} {e : Expr} {t : TT} (h : PT X e t) : PT X e (tMid t) := ⟨fun pins s σ H _ I ⟨M, hm, hq⟩ => thn (h.run pins s σ H M I hm) fun b _ ⟨H', I', m⟩ => ⟨H', I', hq b H' m⟩⟩
def tMidE (t : TE) : TE := fun σ H Q => ∃ M : VK, t σ H M ∧ ∀ v H', M v H' → Q v H'
theorem pe_mid {X : Cx} {e : Expr} {t : TE} (h : PE X e t) : PE X e (tMidE t) := ⟨fun pins s σ H _ I ⟨M, hm, hq⟩ => thn (h.run pins s σ H M I hm) fun _ _ ⟨v, H', I', r, m⟩ => ⟨v, H', I', r, hq v H' m⟩⟩
/-! ### all but what stands at a is as it was -/
def Bt (a : Addr) (H H' : Hp) : Prop := ∀ b o, b ≠ a → H b = some o → H' b = some o
section
variable {a b p : Addr} {H H1 H2 H' : Hp} {o : HO}
theorem Bt.refl (a : Addr) (H : Hp) : Bt a H H := fun _ _ _ e => e
theorem Bt.trans (x : Bt a H H1) (y : Bt a H1 H2) : Bt a H H2 := fun b o n e => y b o n (x b o n e)
theorem Bt.of (x : Same H H') : Bt a H H' := fun b o _ e => x b o e
theorem Bt.at_ (a : Addr) (H : Hp) (o : HO) : Bt a H (upd H a o) := fun b u n e => by rw [upd_ne n]; exact e
theorem Bt.new (h : H p = none) : Bt a H (upd H p o) := .of (same_new h)
theorem Bt.mut (x : Bt a H H') (h : H p = none) : Bt a H (upd H' p o) := fun b u n e => by rw [upd_ne (ne_of_none e h)]; exact x b u n e
theorem Bt.add (x : Bt a H H') (h : H' p = none) : Bt a H (upd H' p o) := x.trans (.new h)
theorem Same.mut (x : Same H H') (h : H p = none) : Same H (upd H' p o) := fun b u e => by rw [upd_ne (ne_of_none e h)]; exact x b u e
theorem Same.add (x : Same H H') (h : H' p = none) : Same H (upd H' p o) := x.trans (same_new h)
theorem Bt.seq {K : PySem.W.Frag} {xs : List V} (x : Bt a H H') (n : b ≠ a) (h : SqL K H b xs) : SqL K H' b xs := by
  rcases h with (h | ⟨o, h⟩) | h
  · exact .inl (.inl (x _ _ n h))
  · exact .inl (.inr ⟨o, x _ _ n h⟩)
  · exact .inr h
end

/-! ### rules that name the written part outright: for the inside of comprehensions -/
section
variable {X : Cx} {K : PySem.W.Frag} {o e : Expr} {es : List Expr} {to : TE} {t : TA} {name : Str} {apos cpos : Pos} {T id : String} {r : V → List V → Hp → VK → Prop}
theorem k_bm (hK : X.K = K) (pa : PlainAttrs T) (slot : Slot T name id) (hty : typeOf (.builtin id) = pure (.type "method_descriptor")) (hm : MtR X id r) (ho : PE X o to) (ha : PA X (e :: es) t)
    (hbase : attributeBase o name X.env (eval o X.env) = eval o X.env := by rfl)
    (hfew : ((backTo cpos (starEach (e :: es) X.env)).all (fun x => !x.1) && (backToKw cpos (keywordEach [] X.env)).all (fun x => x.1.isSome)
      && decide ((e :: es).length + ([] : List Keyword).length + (if ([] : List Keyword).isEmpty then 0 else 1) < 30)) = true := by rfl)
    (hline : (apos.endLine == cpos.line) = true := by rfl) (hs : starEach (e :: es) X.env = (false, eval e X.env) :: starEach es X.env := by rfl) (hplain : (backTo cpos (starEach es X.env)).any (·.1) = false := by rfl) :
    PE X (.Call (.Attribute o name apos) (e :: es) [] cpos) (tBM K T r to t) := by
  subst hK
  exact pe_bm pa slot hty hm ho ha hbase hfew hline hs hplain
def rLenK (K : PySem.W.Frag) : List V → Hp → VK → Prop := fun xs H Q => ∃ p ys, xs = [.ref p] ∧ (SqL K H p ys ∨ SqT K H p ys) ∧ Q (.int ys.length) H
theorem k_len (hK : X.K = K) : CallR X (.builtin "len") (rLenK K) := by
  subst hK
  exact call_len_seq
theorem k_ix (hK : X.K = K) : IxR X (rIxL K) := by
  subst hK
  exact ix_list
theorem k_ixT (hK : X.K = K) : IxR X (rIxT K) := by
  subst hK
  exact ix_tup
theorem k_in (hK : X.K = K) : OpR X (compareOp .In) (rIn K false) := by
  subst hK
  exact op_in_seq
theorem k_notin (hK : X.K = K) : OpR X (compareOp .NotIn) (rIn K true) := by
  subst hK
  exact op_notIn_seq
theorem k_isi (hK : X.K = K) : CallR X (.builtin "isinstance") (rIsi K) := by
  subst hK
  exact call_isi
end
end Lp
set_option Elab.async false
set_option linter.all false
set_option maxRecDepth 100000
namespace Lp
open PySem PySem.Spec PyProof.Rows L2
/-! ### lists of ints as data -/
abbrev dI (ns : List Int) : PyData := .list (ns.map PyData.int)
theorem lay_ints : ∀ ns : List Int, PyData.canLayAll0 (ns.map PyData.int) = true
  | [] => rfl
  | _ :: r => by
    show (PyData.canLay0 (.int _) && PyData.canLayAll0 (r.map PyData.int)) = true
    rw [lay_ints r]
    rfl
theorem depth_ints : ∀ ns : List Int, PyData.depthAll (ns.map PyData.int) = 0
  | [] => rfl
  | _ :: r => by
    show max (PyData.depth (.int _)) (PyData.depthAll (r.map PyData.int)) = 0
    rw [depth_ints r]
    rfl
theorem shaped_ints (ns : List Int) : SeqAt.shaped (dI ns) = true := by
  show (PyData.canLayAll0 (ns.map PyData.int) && decide (PyData.depthAll (ns.map PyData.int) + 1 ≤ 64)) = true
  rw [lay_ints, depth_ints]
  rfl
theorem noDict_ints : ∀ ns : List Int, PyData.hasDictAll (ns.map PyData.int) = false
  | [] => rfl
  | _ :: r => by
    show (PyData.hasDict (.int _) || PyData.hasDictAll (r.map PyData.int)) = false
    rw [noDict_ints r]
    rfl
theorem show_ints : ∀ ns : List Int, (∀ n ∈ ns, n.natAbs.log2 < 1920) → PyData.showableAll (ns.map PyData.int) = true
  | [], _ => rfl
  | n :: r, h => by
    show (decide (n.natAbs.log2 < 1920) && PyData.showableAll (r.map PyData.int)) = true
    rw [show_ints r (fun m hm => h m (List.mem_cons_of_mem _ hm)), decide_eq_true (h n List.mem_cons_self)]
    rfl
theorem dpAll_ints {K : PySem.W.Frag} {H : Hp} : ∀ ns : List Int, DpAll K H (ns.map V.int) (ns.map PyData.int)
  | [] => .nil
  | n :: r => .cons (.int n) (dpAll_ints r)
theorem dp_ints {K : PySem.W.Frag} {H : Hp} {a : Addr} {ns : List Int} (h : SqL K H a (ns.map V.int)) : Dp K H (.ref a) (dI ns) := .lst h (dpAll_ints ns)
theorem eqvAll_ints : ∀ xs ys : List Int, PyData.eqvAll (xs.map PyData.int) (ys.map PyData.int) = decide (xs = ys)
  | [], [] => rfl
  | [], _ :: _ => rfl
  | _ :: _, [] => rfl
  | x :: r, y :: s => by
    show (PyData.eqv (.int x) (.int y) && PyData.eqvAll (r.map PyData.int) (s.map PyData.int)) = decide (x :: r = y :: s)
    rw [eqvAll_ints r s]
    show ((x == y) && decide (r = s)) = decide (x :: r = y :: s)
    by_cases e : x = y <;> by_cases e' : r = s <;> simp [e, e']
theorem eqv_ints (xs ys : List Int) : PyData.eqv (dI xs) (dI ys) = decide (xs = ys) := by
  show PyData.eqvAll (xs.map PyData.int) (ys.map PyData.int) = _
  exact eqvAll_ints xs ys
/-- [] == [], by the reading of == -/
theorem textFrom_le : ∀ (ts : List Str) (k : Nat) (acc : Str) (m : Nat), (∀ t ∈ ts, t.length ≤ m) → (textFrom k acc ts).length ≤ acc.length + ts.length * (m + 2)
  | [], k, acc, m, _ => by
    show acc.length ≤ _
    simp
  | t :: r, k, acc, m, h => by
    have ih := fun k' acc' => textFrom_le r k' acc' m (fun x hx => h x (List.mem_cons_of_mem _ hx))
    have ht := h t List.mem_cons_self
    have z := ih (k + 1) (acc ++ (if k > 0 then ", " else "" : String) ++ t)
    have e : (acc ++ (if k > 0 then ", " else "" : String) ++ t).length ≤ acc.length + 2 + t.length := by
      rw [Str.length_append, Str.length_append]
      by_cases hk : k > 0
      · rw [if_pos hk]
        exact Nat.le_refl _
      · rw [if_neg hk]
        show acc.length + 0 + t.length ≤ _
        omega
    show (textFrom (k + 1) (acc ++ (if k > 0 then ", " else "" : String) ++ t) r).length ≤ acc.length + (r.length + 1) * (m + 2)
    rw [Nat.succ_mul]
    omega
theorem num_len : ∀ n : Int, -100 ≤ n → n ≤ 100 → (Str.ofString (toString n)).length ≤ 4 := by
  intro n h0 h1
  have key : ∀ i : Fin 201, (Str.ofString (toString ((i.val : Int) - 100))).length ≤ 4 := by decide +kernel
  have e := key ⟨(n + 100).toNat, by omega⟩
  have e2 : (((n + 100).toNat : Nat) : Int) - 100 = n := by omega
  rw [e2] at e
  exact e
theorem shownAll_mem : ∀ (ns : List Int) (t : Str), t ∈ PyData.shownAll (ns.map PyData.int) → ∃ n ∈ ns, t = Str.ofString (toString n)
  | [], t, h => by
    have h' : t ∈ ([] : List Str) := h
    cases h'
  | n :: r, t, h => by
    have h' : t ∈ Str.ofString (toString n) :: PyData.shownAll (r.map PyData.int) := h
    rcases List.mem_cons.mp h' with e | e
    · exact ⟨n, List.mem_cons_self, e⟩
    · obtain ⟨m, hm, e⟩ := shownAll_mem r t e
      exact ⟨m, List.mem_cons_of_mem _ hm, e⟩
theorem shownAll_len : ∀ ns : List Int, (PyData.shownAll (ns.map PyData.int)).length = ns.length
  | [] => rfl
  | n :: r => congrArg (· + 1) (shownAll_len r)
theorem shown_ints {ns : List Int} (hb : ∀ n ∈ ns, -100 ≤ n ∧ n ≤ 100) (hl : ns.length ≤ 1000) : (dI ns).shown.length ≤ sizeLine := by
  show (textFrom 0 "[" (PyData.shownAll (ns.map PyData.int)) ++ ("]" : Str)).length ≤ sizeLine
  rw [Str.length_append]
  have z := textFrom_le (PyData.shownAll (ns.map PyData.int)) 0 "[" 4 (fun t ht => by
    obtain ⟨n, hn, e⟩ := shownAll_mem ns t ht
    rw [e]
    exact num_len n (hb n hn).1 (hb n hn).2)
  rw [shownAll_len] at z
  have e1 : ("[" : Str).length = 1 := rfl
  have e2 : ("]" : Str).length = 1 := rfl
  rw [e1] at z
  rw [e2]
  exact zs (by omega)
theorem log2_small {n : Int} (h0 : -100 ≤ n) (h1 : n ≤ 100) : n.natAbs.log2 < 1920 := by
  have h : n.natAbs < 2 ^ 7 := by omega
  exact Nat.lt_trans (PySem.Flt.log2_lt_of (by decide : 0 < 7) h) (by decide)
theorem rrepr_ints {K : PySem.W.Frag} {H : Hp} {a : Addr} {ns : List Int} {Q : VK} (hS : SqL K H a (ns.map V.int)) (hb : ∀ n ∈ ns, -100 ≤ n ∧ n ≤ 100) (hl : ns.length ≤ 1000) (q : Q (.str (dI ns).shown) H) : rRepr K [.ref a] H Q :=
  ⟨a, dI ns, rfl, dp_ints hS, show_ints ns (fun n hn => log2_small (hb n hn).1 (hb n hn).2), noDict_ints ns, by
    show PyData.depthAll (ns.map PyData.int) + 1 ≤ 60
    rw [depth_ints]
    decide, shown_ints hb hl, q⟩

/-! ### places -/
theorem erase_map {α β : Type} (f : α → β) : ∀ (l : List α) (j : Nat), (l.map f).eraseIdx j = (l.eraseIdx j).map f
  | [], _ => by simp
  | x :: r, 0 => rfl
  | x :: r, j + 1 => congrArg (f x :: ·) (erase_map f r j)
theorem get_at {al : List Int} {j : Nat} (h : j < al.length) : (al.map V.int)[j]? = some (.int al[j]) := by
  rw [List.getElem?_map, List.getElem?_eq_getElem h]
  rfl
theorem ix_at {j n : Nat} (h : j < n) : seqIndex? (j : Int) n = some j := (ixN_seq (Evl.ixN_nat h)).1
theorem nat_of {r : Int} (h : 0 ≤ r) : ∃ j : Nat, r = (j : Int) := ⟨r.toNat, by omega⟩
theorem nm {k : Nat} (h : k ≤ 100000) : -(2 ^ 63) ≤ (k : Int) ∧ (k : Int) < 2 ^ 63 := by omega
theorem free_of {a p : Addr} {H H' : Hp} (b : Bt a H H') (n : p ≠ a) (h : H' p = none) : H p = none := by
  cases e : H p with
  | none => rfl
  | some o =>
    rw [b _ _ n e] at h
    cases h
theorem erase_perm : ∀ (l : List Int) (j : Nat) (h : j < l.length), (l[j] :: l.eraseIdx j).Perm l
  | x :: r, 0, _ => .refl _
  | x :: r, j + 1, h => by
    have h' : j < r.length := Nat.lt_of_succ_lt_succ h
    exact (List.Perm.swap x (r[j]'h') (r.eraseIdx j)).trans ((erase_perm r j h').cons x)
end Lp
set_option Elab.async false
set_option linter.all false
set_option maxRecDepth 100000
namespace Lp
open PySem PySem.Spec PyProof.Rows L2
theorem lc_enum {K : PySem.W.Frag} {a : Addr} {xs : List V} {g : TG} {tt : TT} {te : TE} {vs : List Nat} {σ : L2.St} {H1 : Hp} {D : Addr} {Qd : Hp → Prop} (Pv : Nat → Hp → Prop) (h0 : Pv 0 (upd H1 D (.lst []))) (hl : ∀ i H, i ≤ xs.length → Pv i H → SqL K H a xs)
    (hs : ∀ (i : Nat) (x : V) (T : Addr) (H : Hp), xs[i]? = some x → H T = none → Pv i H → g (.ref T) (wipe σ vs) (upd H T (.tup [.int (i : Nat), x])) fun σ2 H2 => wipe σ2 vs = wipe σ vs ∧ tt σ2 H2 fun b H3 =>
      if b = true then te σ2 H3 fun y H4 => ∃ acc, H4 D = some (.lst acc) ∧ acc.length < sizeLine ∧ Pv (i + 1) (upd H4 D (.lst (acc ++ [y]))) else Pv (i + 1) H3) (hd : ∀ H, Pv xs.length H → Qd H) :
    ∃ W : Nat → Nat → Hp → Prop, (∃ m, W 0 m (upd H1 D (.lst []))) ∧ ∀ i m H, W i m H →
      ((Ite K a).stop i H ∧ Qd H) ∨ ((Ite K a).go i H ∧ ∃ Nx : Hp → Prop, (∀ H', Nx H' → ∃ m', m' < m ∧ W (i + 1) m' H') ∧ ∀ x H', (Ite K a).yld i H x H' → g x (wipe σ vs) H' fun σ2 H2 => wipe σ2 vs = wipe σ vs ∧ tt σ2 H2 fun b H3 =>
        if b = true then te σ2 H3 fun y H4 => ∃ acc, H4 D = some (.lst acc) ∧ acc.length < sizeLine ∧ Nx (upd H4 D (.lst (acc ++ [y]))) else Nx H3) := by
  refine ⟨fun i m H => m = xs.length - i ∧ i ≤ xs.length ∧ Pv i H, ⟨xs.length, by simp, Nat.zero_le _, h0⟩, ?_⟩
  rintro i m H ⟨rfl, hi, pv⟩
  have sq := hl i H hi pv
  rcases Nat.lt_or_ge i xs.length with hlt | hge
  · refine .inr ⟨⟨xs, xs[i], sq, List.getElem?_eq_getElem hlt⟩, Pv (i + 1), fun H' p' => ⟨xs.length - (i + 1), by omega, rfl, hlt, p'⟩, fun x H' y => ?_⟩
    obtain ⟨T, z, rfl, nT, rfl, ez⟩ := y
    exact hs i z T H (ez xs sq) nT pv
  · have e : i = xs.length := by omega
    subst e
    exact .inl ⟨⟨xs, sq, Nat.le_refl _⟩, hd H pv⟩
theorem cut_take (xs : List V) (k : Nat) (h : k ≤ xs.length) : cutV xs none (some (k : Int)) = xs.take k := by
  unfold cutV
  rw [HT.sIx_none, HT.sIx_nat, List.drop_zero, Nat.sub_zero, Nat.min_eq_left h]
theorem decV (i j : Int) : decide (V.int i = V.int j) = decide (i = j) := decide_eq_decide.mpr ⟨fun z => V.int.inj z, fun z => congrArg V.int z⟩
theorem k_sl {X : Cx} {K : PySem.W.Frag} (hK : X.K = K) : SlR X (rSlL K) := by
  subst hK
  exact sl_list
theorem k_tup {X : Cx} {K : PySem.W.Frag} {es : List Expr} {k : Nat} {pos : Pos} {t : TGs} {n : Nat} (hK : X.K = K) (hc : X.calm = true) (h : PGs X es t)
    (hn : (assignEach es X.env).length = n := by rfl) (hst : (assignEach es X.env).findIdx? (·.1) = none := by rfl) : PG X (.Tuple es k pos) (gTup K n t) := by
  subst hK
  exact pg_tup hc h hn hst
theorem seqN {K : PySem.W.Frag} {xs : List V} {H H1 H' : Hp} {a b : Addr} (h : SqL K H b xs) (n : H a = none) (s : Same H H1) (x : Bt a H1 H') : SqL K H' b xs := by
  rcases h with (h | ⟨o, h⟩) | h
  · exact .inl (.inl (x _ _ (ne_of_none h n) (s _ _ h)))
  · exact .inl (.inr ⟨o, x _ _ (ne_of_none h n) (s _ _ h)⟩)
  · exact .inr h
theorem rI1 {ns : List Int} (hb : ∀ n ∈ ns, -100 ≤ n ∧ n ≤ 100) : (dI ns).showable = true := show_ints ns (fun n hn => log2_small (hb n hn).1 (hb n hn).2)
theorem rI2 (ns : List Int) : (dI ns).depth ≤ 60 := by
  show PyData.depthAll (ns.map PyData.int) + 1 ≤ 60
  rw [depth_ints]
  decide
end Lp
set_option Elab.async false
set_option linter.all false
set_option maxRecDepth 100000
namespace Lp
open PySem PySem.Spec PyProof.Rows L2
theorem lc_zipL {K : PySem.W.Frag} {a b : Addr} {xs ys : List V} {g : TG} {tt : TT} {te : TE} {vs : List Nat} {σ : L2.St} {H1 : Hp} {D : Addr} {Qd : Hp → Prop} (le : xs.length = ys.length) (Pv : Nat → Hp → Prop) (h0 : Pv 0 (upd H1 D (.lst []))) (hl : ∀ i H, i ≤ xs.length → Pv i H → SqL K H a xs ∧ SqL K H b ys)
    (hs : ∀ (i : Nat) (x y : V) (T : Addr) (H : Hp), xs[i]? = some x → ys[i]? = some y → H T = none → Pv i H → g (.ref T) (wipe σ vs) (upd H T (.tup [x, y])) fun σ2 H2 => wipe σ2 vs = wipe σ vs ∧ tt σ2 H2 fun b H3 =>
      if b = true then te σ2 H3 fun y H4 => ∃ acc, H4 D = some (.lst acc) ∧ acc.length < sizeLine ∧ Pv (i + 1) (upd H4 D (.lst (acc ++ [y]))) else Pv (i + 1) H3) (hd : ∀ H, Pv xs.length H → Qd H) :
    ∃ W : Nat → Nat → Hp → Prop, (∃ m, W 0 m (upd H1 D (.lst []))) ∧ ∀ i m H, W i m H →
      ((Itz K a b).stop i H ∧ Qd H) ∨ ((Itz K a b).go i H ∧ ∃ Nx : Hp → Prop, (∀ H', Nx H' → ∃ m', m' < m ∧ W (i + 1) m' H') ∧ ∀ x H', (Itz K a b).yld i H x H' → g x (wipe σ vs) H' fun σ2 H2 => wipe σ2 vs = wipe σ vs ∧ tt σ2 H2 fun b H3 =>
        if b = true then te σ2 H3 fun y H4 => ∃ acc, H4 D = some (.lst acc) ∧ acc.length < sizeLine ∧ Nx (upd H4 D (.lst (acc ++ [y]))) else Nx H3) := by
  refine ⟨fun i m H => m = xs.length - i ∧ i ≤ xs.length ∧ Pv i H, ⟨xs.length, by simp, Nat.zero_le _, h0⟩, ?_⟩
  rintro i m H ⟨rfl, hi, pv⟩
  obtain ⟨sa, sb⟩ := hl i H hi pv
  rcases Nat.lt_or_ge i xs.length with hlt | hge
  · refine .inr ⟨⟨xs, ys, xs[i], ys[i]'(by omega), sa, sb, List.getElem?_eq_getElem hlt, List.getElem?_eq_getElem (by omega)⟩, Pv (i + 1), fun H' p' => ⟨xs.length - (i + 1), by omega, rfl, hlt, p'⟩, fun x H' y => ?_⟩
    obtain ⟨T, z1, z2, rfl, nT, rfl, e1, e2⟩ := y
    exact hs i z1 z2 T H (e1 xs sa) (e2 ys sb) nT pv
  · have e : i = xs.length := by omega
    subst e
    exact .inl ⟨⟨xs, ys, sa, sb, .inl (Nat.le_refl _)⟩, hd H pv⟩
theorem lc_zipT {K : PySem.W.Frag} {a b : Addr} {xs ys : List V} {g : TG} {tt : TT} {te : TE} {vs : List Nat} {σ : L2.St} {H1 : Hp} {D : Addr} {Qd : Hp → Prop} (le : xs.length = ys.length) (Pv : Nat → Hp → Prop) (h0 : Pv 0 (upd H1 D (.lst []))) (hl : ∀ i H, i ≤ xs.length → Pv i H → SqT K H a xs ∧ SqT K H b ys)
    (hs : ∀ (i : Nat) (x y : V) (T : Addr) (H : Hp), xs[i]? = some x → ys[i]? = some y → H T = none → Pv i H → g (.ref T) (wipe σ vs) (upd H T (.tup [x, y])) fun σ2 H2 => wipe σ2 vs = wipe σ vs ∧ tt σ2 H2 fun b H3 =>
      if b = true then te σ2 H3 fun y H4 => ∃ acc, H4 D = some (.lst acc) ∧ acc.length < sizeLine ∧ Pv (i + 1) (upd H4 D (.lst (acc ++ [y]))) else Pv (i + 1) H3) (hd : ∀ H, Pv xs.length H → Qd H) :
    ∃ W : Nat → Nat → Hp → Prop, (∃ m, W 0 m (upd H1 D (.lst []))) ∧ ∀ i m H, W i m H →
      ((RZ.ItzT K a b).stop i H ∧ Qd H) ∨ ((RZ.ItzT K a b).go i H ∧ ∃ Nx : Hp → Prop, (∀ H', Nx H' → ∃ m', m' < m ∧ W (i + 1) m' H') ∧ ∀ x H', (RZ.ItzT K a b).yld i H x H' → g x (wipe σ vs) H' fun σ2 H2 => wipe σ2 vs = wipe σ vs ∧ tt σ2 H2 fun b H3 =>
        if b = true then te σ2 H3 fun y H4 => ∃ acc, H4 D = some (.lst acc) ∧ acc.length < sizeLine ∧ Nx (upd H4 D (.lst (acc ++ [y]))) else Nx H3) := by
  refine ⟨fun i m H => m = xs.length - i ∧ i ≤ xs.length ∧ Pv i H, ⟨xs.length, by simp, Nat.zero_le _, h0⟩, ?_⟩
  rintro i m H ⟨rfl, hi, pv⟩
  obtain ⟨sa, sb⟩ := hl i H hi pv
  rcases Nat.lt_or_ge i xs.length with hlt | hge
  · refine .inr ⟨⟨xs, ys, xs[i], ys[i]'(by omega), sa, sb, List.getElem?_eq_getElem hlt, List.getElem?_eq_getElem (by omega)⟩, Pv (i + 1), fun H' p' => ⟨xs.length - (i + 1), by omega, rfl, hlt, p'⟩, fun x H' y => ?_⟩
    obtain ⟨T, z1, z2, rfl, nT, rfl, e1, e2⟩ := y
    exact hs i z1 z2 T H (e1 xs sa) (e2 ys sb) nT pv
  · have e : i = xs.length := by omega
    subst e
    exact .inl ⟨⟨xs, ys, sa, sb, .inl (Nat.le_refl _)⟩, hd H pv⟩
theorem tyx_l {K : PySem.W.Frag} {H : Hp} {a : Addr} {xs : List V} (h : SqL K H a xs) : TyX K H (.ref a) (.type "list") := by
  rcases h with (h | ⟨o, h⟩) | ⟨o, its, n, h, c, _⟩
  · exact .base (.lst h)
  · exact .base (.frz h)
  · exact .kList h c
theorem tyx_t {K : PySem.W.Frag} {H : Hp} {a : Addr} {xs : List V} (h : SqT K H a xs) : TyX K H (.ref a) (.type "tuple") := by
  rcases h with (h | ⟨o, h⟩) | ⟨o, its, n, h, c, _⟩
  · exact .base (.tup h)
  · exact .fTuple h
  · exact .kTuple h c
theorem seqT {K : PySem.W.Frag} {H H' : Hp} {a : Addr} {xs : List V} (e : Same H H') (h : SqT K H a xs) : SqT K H' a xs := by
  rcases h with (h | ⟨o, h⟩) | h
  · exact .inl (.inl (e _ _ h))
  · exact .inl (.inr ⟨o, e _ _ h⟩)
  · exact .inr h
mutual
theorem dp_same {K : PySem.W.Frag} {H H' : Hp} (s : Same H H') : ∀ {v : V} {d : PyData}, Dp K H v d → Dp K H' v d
  | _, _, .non => .non
  | _, _, .bl b => .bl b
  | _, _, .int i => .int i
  | _, _, .str x => .str x
  | _, _, .lst h1 h2 => .lst (s.seq h1) (dpAll_same s h2)
  | _, _, .tup h1 h2 => .tup (seqT s h1) (dpAll_same s h2)
theorem dpAll_same {K : PySem.W.Frag} {H H' : Hp} (s : Same H H') : ∀ {vs : List V} {ds : List PyData}, DpAll K H vs ds → DpAll K H' vs ds
  | _, _, .nil => .nil
  | _, _, .cons h1 h2 => .cons (dp_same s h1) (dpAll_same s h2)
end
theorem dpAll_len {K : PySem.W.Frag} {H : Hp} : ∀ {vs : List V} {ds : List PyData}, DpAll K H vs ds → vs.length = ds.length
  | _, _, .nil => rfl
  | _, _, .cons _ h => congrArg (· + 1) (dpAll_len h)
theorem dpAll_get {K : PySem.W.Frag} {H : Hp} : ∀ {vs : List V} {ds : List PyData} {i : Nat} {v : V}, DpAll K H vs ds → vs[i]? = some v → ∃ d, ds[i]? = some d ∧ Dp K H v d
  | _, _, 0, _, .cons h _, e => by cases e; exact ⟨_, rfl, h⟩
  | _, _, i + 1, _, .cons _ h, e => dpAll_get (i := i) h e
theorem depth_get : ∀ {ds : List PyData} {i : Nat} {d : PyData}, ds[i]? = some d → d.depth ≤ PyData.depthAll ds
  | x :: r, 0, d, e => by cases e; exact Nat.le_max_left _ _
  | x :: r, i + 1, d, e => Nat.le_trans (depth_get (ds := r) (i := i) e) (Nat.le_max_right _ _)
theorem kitA {K : PySem.W.Frag} {t c1 c2 : Value} {b : Bool} (h1 : PySem.W.kitOne K t c1 = some false) (h2 : PySem.W.kitOne K t c2 = some b) : PySem.W.kitAny K t [c1, c2] = some b := by
  unfold PySem.W.kitAny
  rw [h1]
  show PySem.W.kitAny K t [c2] = _
  unfold PySem.W.kitAny
  rw [h2]
  cases b <;> rfl
theorem kitT {K : PySem.W.Frag} {t c1 : Value} {cs : List Value} (h1 : PySem.W.kitOne K t c1 = some true) : PySem.W.kitAny K t (c1 :: cs) = some true := by
  unfold PySem.W.kitAny
  rw [h1]
/-! ### list(range(a, b, c)) -/
def tList3 (ta : TA) : TE := fun σ H Q => ta σ H fun vs H1 => ∃ (i j c : Int) (n : Nat), vs = [.int i, .int j, .int c] ∧ RgC i j c n ∧ n ≤ 100000 ∧ ∀ q, H1 q = none → Q (.ref q) (upd H1 q (.lst ((List.range n).map fun k : Nat => V.int (i + (k : Int) * c))))
theorem vals_rg3 {a c : Int} {n : Nat} {acc : Array Value} (h : ItemsOf (fun i v => ∃ t, v = .int (a + i * c) t) acc n) : Vals ((List.range n).map fun k : Nat => V.int (a + (k : Int) * c)) acc.toList := by
  have e : acc.toList.length = n := by rw [Array.length_toList]; exact h.1
  rw [← e]
  refine vals_of_get acc.toList _ fun j u hj => ?_
  obtain ⟨t, rfl⟩ := h.2 j u (by rw [← hj, Array.getElem?_toList])
  exact ⟨t, rfl⟩
theorem pe_list3 {X : Cx} {a b c : Expr} {ta : TA} {p p2 pos pos2 : Pos} (hc : X.calm = true) (hg : Gl X "list") (hm : X.mg "list" = none) (hg2 : Gl X "range") (hm2 : X.mg "range" = none) (ha : PA X [a, b, c] ta)
    (hs : starEach [a, b, c] X.env = (false, eval a X.env) :: starEach [b, c] X.env := by rfl) (hpl : (backTo pos2 (starEach [b, c] X.env)).any (·.1) = false := by rfl)
    (na : starEach [.Call (.Name "range" p2) [a, b, c] [] pos2] X.env = (false, eval (.Call (.Name "range" p2) [a, b, c] [] pos2) X.env) :: starEach [] X.env := by rfl) :
    PE X (.Call (.Name "list" p) [.Call (.Name "range" p2) [a, b, c] [] pos2] [] pos) (tList3 ta) := by
  refine ⟨fun pins s σ H Q I h => ?_⟩
  refine Call_ (ld_blt I hg hm boot_list (PyProof.Rows.callWith_type1 (args_cons (?_) na) na))
  refine Call_ (ld_blt I hg2 hm2 boot_range (PyProof.Rows.callWith_type1 (thn (ha.run pos2 pins s σ H _ I h) fun us s1 ⟨vs, H1, I1, r1, q1⟩ => ?_) hs hpl))
  obtain ⟨i, j, k, n, e, ⟨c0, c1, c2, c3⟩, hn, q⟩ := q1
  subst e
  cases r1 with
  | cons r rr =>
    cases rr with
    | cons r' rr =>
      cases rr with
      | cons r'' rr =>
        cases rr
        obtain ⟨t, rfl⟩ := r
        obtain ⟨t', rfl⟩ := r'
        obtain ⟨t'', rfl⟩ := r''
        refine call_range_3 c0 ?_ (.inl (PyProof.noPylong_small c1))
        refine args_nil ?_
        have I2 : Inv X pins σ H1 { s1 with heap := s1.heap.push { cls := .type "range", data := .fields #[.int i t, .int j t', .int k t''] } } := I1.kept (t' := s1.toks) fun b o e => Heap.get?_push_of_some _ e
        refine call_list_range (n := n) (I2.ok.hd hc) (IsRange.new ..) c2 c3 (by omega) fun h' tk acc c' hk e' hi => ?_
        refine ⟨.ref _, upd H1 _ (.lst ((List.range n).map fun m : Nat => V.int (i + (m : Int) * k))), I2.laid hk (Nat.le_refl _) (show ObjOk X.prog X.w _ _ _ (.lst _) from ⟨?_, acc.toList, c', vals_rg3 hi, ?_⟩), rfl, q _ (I2.hok.fresh (Nat.le_refl _))⟩
        · rw [List.length_map, List.length_range]
          exact zs hn
        · rw [Array.toArray_toList]; exact e'
end Lp
set_option Elab.async false
set_option linter.all false
set_option maxRecDepth 100000
namespace Lp
open PySem PySem.Spec PyProof.Rows L2
/-! ### xs.count(text) -/
theorem strCount {k : Str} : ∀ {us : List Value} {ys : List Str}, StrsAre us ys → us.countP (isStrOf k) = ys.countP (fun y => y == k)
  | _, _, .nil => rfl
  | _, _, .cons n t h => by
    have ih := strCount (k := k) h
    rw [List.countP_cons, List.countP_cons, ih] <;> rfl
def rCntS (K : PySem.W.Frag) : V → List V → Hp → VK → Prop := fun x xs H Q => ∃ (p : Addr) (ys : List Str) (k : Str), x = .ref p ∧ xs = [.str k] ∧ SqL K H p (ys.map V.str) ∧ Q (.int (ys.countP (fun y => y == k) : Nat)) H
theorem mt_lcountS {X : Cx} : MtR X "list.count" (rCntS X.K) := by
  intro pins s σ H x xs v us Q I rx rxs h
  obtain ⟨p, ys, k, rfl, rfl, hs, q⟩ := h
  cases rx
  obtain ⟨u, rfl, ru⟩ := rxs.one
  obtain ⟨t, rfl⟩ := ru
  obtain ⟨its, rv, ⟨⟨cls, dd, data, sl⟩, n, ho, hc, hdn, hd⟩, hlen⟩ := I.list hs
  simp only at hc hd
  subst hc hd
  have hi := Vals.strs rv
  refine call_meets PySem.F.slot_list_count ⟨_, ho, rfl⟩ PySem.F.entry_list_count (PySem.F.args_list_count_2 _ _)
    (SeqAt.list_countAt p its.toArray n dd sl (.str k t) (isStrOf k)) ⟨ho, fun y hy => (eq_isStrOf k t hi y (by simpa using hy)).at _ _, ?_⟩
  have ec : its.toArray.toList.countP (isStrOf k) = ys.countP (fun y => y == k) := strCount hi
  refine ⟨.int (ys.countP (fun y => y == k) : Nat), H, I.tok _, ⟨s.toks, ?_⟩, q⟩
  show Value.int ((its.toArray.toList.countP (isStrOf k) : Nat) : Int) s.toks = Value.int ((ys.countP (fun y => y == k) : Nat) : Int) s.toks
  rw [ec]
end Lp
set_option Elab.async false
set_option linter.all false
set_option maxRecDepth 100000
namespace Lp
open PySem PySem.Spec PyProof.Rows L2
/-! ### dict comprehensions over enumerate -/
theorem dc_enum {K : PySem.W.Frag} {a : Addr} {xs : List V} {g : TG} {tt : TT} {tk tv : TE} {vs : List Nat} {σ : L2.St} {H1 : Hp} {D : Addr} {Qd : Hp → Prop} (Pv : Nat → Hp → Prop) (h0 : Pv 0 (upd H1 D (.dK []))) (hl : ∀ i H, i ≤ xs.length → Pv i H → SqL K H a xs)
    (hs : ∀ (i : Nat) (x : V) (T : Addr) (H : Hp), xs[i]? = some x → H T = none → Pv i H → g (.ref T) (wipe σ vs) (upd H T (.tup [.int (i : Nat), x])) fun σ2 H2 => wipe σ2 vs = wipe σ vs ∧ tt σ2 H2 fun b H3 =>
      if b = true then tk σ2 H3 fun y H4 => tv σ2 H4 fun z H5 => ∃ kvs k, y = kV k ∧ H5 D = some (.dK kvs) ∧ kvs.length < sizeLine ∧ Pv (i + 1) (upd H5 D (.dK (putK kvs k z))) else Pv (i + 1) H3) (hd : ∀ H, Pv xs.length H → Qd H) :
    ∃ W : Nat → Nat → Hp → Prop, (∃ m, W 0 m (upd H1 D (.dK []))) ∧ ∀ i m H, W i m H →
      ((Ite K a).stop i H ∧ Qd H) ∨ ((Ite K a).go i H ∧ ∃ Nx : Hp → Prop, (∀ H', Nx H' → ∃ m', m' < m ∧ W (i + 1) m' H') ∧ ∀ x H', (Ite K a).yld i H x H' → g x (wipe σ vs) H' fun σ2 H2 => wipe σ2 vs = wipe σ vs ∧ tt σ2 H2 fun b H3 =>
        if b = true then tk σ2 H3 fun y H4 => tv σ2 H4 fun z H5 => ∃ kvs k, y = kV k ∧ H5 D = some (.dK kvs) ∧ kvs.length < sizeLine ∧ Nx (upd H5 D (.dK (putK kvs k z))) else Nx H3) := by
  refine ⟨fun i m H => m = xs.length - i ∧ i ≤ xs.length ∧ Pv i H, ⟨xs.length, by simp, Nat.zero_le _, h0⟩, ?_⟩
  rintro i m H ⟨rfl, hi, pv⟩
  have sq := hl i H hi pv
  rcases Nat.lt_or_ge i xs.length with hlt | hge
  · refine .inr ⟨⟨xs, xs[i], sq, List.getElem?_eq_getElem hlt⟩, Pv (i + 1), fun H' p' => ⟨xs.length - (i + 1), by omega, rfl, hlt, p'⟩, fun x H' y => ?_⟩
    obtain ⟨T, z, rfl, nT, rfl, e1⟩ := y
    exact hs i z T H (e1 xs sq) nT pv
  · have e : i = xs.length := by omega
    subst e
    exact .inl ⟨⟨xs, sq, Nat.le_refl _⟩, hd H pv⟩
end Lp
set_option Elab.async false
set_option linter.all false
set_option maxRecDepth 100000
namespace Lp
open PySem PySem.Spec PyProof.Rows L2
/-! ### list + list, the script's own list too -/
def rCatS (K : PySem.W.Frag) : R2 := fun x y H Q => ∃ l b xs zs, x = .ref l ∧ y = .ref b ∧ SqL K H l xs ∧ SqL K H b zs ∧ xs.length + zs.length ≤ sizeLine ∧ ∀ p, H p = none → Q (.ref p) (upd H p (.lst (xs ++ zs)))
theorem op_catS {X : Cx} : OpR X (binaryOp .Add) (rCatS X.K) := by
  intro pins s σ H x y v u Q I rx ry h
  obtain ⟨l, b, xs, zs, rfl, rfl, hl, hb, hz, q⟩ := h
  cases rx
  cases ry
  obtain ⟨its, r, ⟨⟨cls, dd, data, sl⟩, n, ho, hc, hdn, hd⟩, h1⟩ := I.list hl
  obtain ⟨its2, r2, ⟨⟨cls2, dd2, data2, sl2⟩, n2, ho2, hc2, hdn2, hd2⟩, h2⟩ := I.list hb
  simp only at hc hd hc2 hd2
  subst hc hd hc2 hd2
  have e1 := r.length
  have e2 := r2.length
  refine concat_meets ⟨_, ho, rfl⟩ ⟨_, ho2, rfl⟩ noFill_list_add seq_list_add PySem.F.slot_list_add PySem.F.entry_list_add (PySem.F.args_list_add_2 _ _) (list_addW l b its.toArray its2.toArray n n2 dd dd2 sl sl2 (by rw [List.size_toArray, List.size_toArray]; omega)) ⟨ho, ho2, ?_⟩
  have ea : its.toArray ++ its2.toArray = (its ++ its2).toArray := by simp
  rw [ea]
  exact ⟨.ref _, _, I.lnew (t' := s.toks) (r.append r2) (by rw [List.length_append]; omega), rfl, q _ I.fresh⟩
end Lp
set_option Elab.async false
set_option linter.all false
set_option maxRecDepth 100000
namespace Lp
open PySem PySem.Spec PyProof.Rows L2

/-! ### calls by keywords, of defs that are called where no repr is under way -/
structure Gk (P : Program) (w : World) (K : PySem.W.Frag) (mg : Str → Option Value) (base : Heap) (k : Nat) (x : Str) (n : Nat) (ks : List Str) (gV : List V → List V → List V) (sp : Sp) : Prop where
  ex : ∃ (f : Addr) (fd : FuncData) (ps : List Str) (g : List Value → List Value → List Value), FnG P w K mg base CX0 k f fd ps sp ∧ mg x = some (.ref f) ∧ PySem.W.keepIn K (.ref f) = true ∧ KBn K fd ps n ks g gV
theorem kb_of {K : PySem.W.Frag} {x qual : Str} {st : Stmt} {f : Addr} {fd : FuncData} {ps : List Str} (F : Fun K x qual st f fd) (n : Nat) (ks : List Str) (g : {α : Type} → List α → List α → List α)
    (hrel : ∀ {vs : List V} {us : List Value} {zs : List V} {ws : List Value}, Vals vs us → Vals zs ws → Vals (g vs zs) (g us ws))
    (h : ∀ (kV doc pm : Value) (an : Option Addr) (cdv ct : Value) (us ws : List Value), us.length = n → ws.length = ks.length → bindArgs (PySem.W.fnOf x qual (defArgs st) (defBody st) (defScope st) .none kV doc pm an cdv ct) ⟨us, ks.zip ws⟩ = pure (ps.zip (g us ws))) :
    KBn K fd ps n ks g g := by
  obtain ⟨oc, od, kV, doc, pm, an, cdv, ct, osl, rfl, lk, hcd⟩ := F.ex
  exact ⟨fun s us ws _ l1 l2 => .of_eq (h kV doc pm an cdv ct us ws l1 l2), hrel⟩
theorem kb_gApp0 {vs : List V} {us : List Value} {zs : List V} {ws : List Value} (a : Vals vs us) (b : Vals zs ws) : Vals (vs ++ zs) (us ++ ws) := a.append b
def gApp {α : Type} (us ws : List α) : List α := us ++ ws
def gRev {α : Type} (us ws : List α) : List α := us ++ ws.reverse
theorem kb_gApp {vs : List V} {us : List Value} {zs : List V} {ws : List Value} (a : Vals vs us) (b : Vals zs ws) : Vals (gApp vs zs) (gApp us ws) := a.append b
theorem vals_rev2 : ∀ {zs : List V} {ws : List Value}, Vals zs ws → Vals zs.reverse ws.reverse
  | _, _, .nil => .nil
  | _, _, .cons h t => by
    rw [List.reverse_cons, List.reverse_cons]
    exact (vals_rev2 t).append (.cons h .nil)
theorem kb_gRev {vs : List V} {us : List Value} {zs : List V} {ws : List Value} (a : Vals vs us) (b : Vals zs ws) : Vals (gRev vs zs) (gRev us ws) := a.append (vals_rev2 b)
def tCallG (n m : Nat) (sp : Sp) (gV : List V → List V → List V) (t tk : TA) : TE := fun σ H Q => t σ H fun vs H1 => tk σ H1 fun zs H2 => vs.length = n ∧ zs.length = m ∧ sp (gV vs zs) H2 Q E0
section
variable {X : Cx} {CX : CXT} {k n : Nat} {f : Addr} {fd : FuncData} {ps ks : List Str} {sp : Sp} {E : XK} {x : Str} {p pos : Pos} {e : Expr} {es : List Expr} {kws : List Keyword} {t tk : TA} {g : List Value → List Value → List Value} {gV : List V → List V → List V}
theorem run_fnG {pins : List (Addr × Obj)} {σ : L2.St} {H : Hp} {s : Shared} {Q : VK} {us ws : List Value} {vs zs : List V} (F : FnG X.prog X.w X.K X.mg X.base CX k f fd ps sp) (hG : X.A.guards = some []) (hr : Room k X.A) (hb : KBn X.K fd ps n ks g gV) (hx : Passes CX X E)
    (I : Inv X pins σ H s) (r : Vals vs us) (rz : Vals zs ws) (l1 : vs.length = n) (l2 : zs.length = ks.length) (h : sp (gV vs zs) H Q E) : wpAny (model X.prog X.w) X.A (call (.ref f) us (ks.zip ws)) (EP X pins σ Q) X.xe s := by
  have r2 := hb.rel r rz
  refine wpAny_call (codeAny_mono (F.runG X.A X.stack s H ⟨us, ks.zip ws⟩ (g us ws) (gV vs zs) Q E hG hr I.env0 (hb.to s us ws I.kIn (r.length.symm.trans l1) (rz.length.symm.trans l2)) r2 h) fun r s' hq => ?_)
  cases r with
  | error e => exact hx pins σ H s e s' I hq
  | ok fl =>
    cases fl with
    | ret u => exact I.after hq
    | next => exact False.elim hq
    | brk => exact False.elim hq
    | cont => exact False.elim hq
/-- f(k = v, ..) -/
theorem pe_gK0 {j : Nat} (c : Gk X.prog X.w X.K X.mg X.base k x 0 ks gV sp) (hG : X.A.guards = some []) (hr : Room j X.A) (hk : k ≤ j) (hg : Gl X x) (hkw : PK X kws tk)
    (hall : (backToKw pos (keywordEach kws X.env)).all (·.1.isSome) = true := by rfl) (hks : (backToKw pos (keywordEach kws X.env)).filterMap (·.1) = ks := by rfl) (hdb : (x == ("__debug__" : Str)) = false := by decide)
    (hpl : ((backTo pos (starEach [] X.env)).any (·.1) || (backToKw pos (keywordEach kws X.env)).any (·.1.isNone)) = false := by rfl) :
    PE X (.Call (.Name x p) [] kws pos) (tCallG 0 ks.length sp gV tNil tk) := by
  obtain ⟨f, fd, ps, g, F, hm, kp, hb⟩ := c.ex
  refine ⟨fun pins s σ H Q I h => ?_⟩
  refine wpAny_Call_Name_kw (ld_glob I hg hm ?_ hdb)
  refine PySem.W.callWith_KW0 (h₀ := X.base) I.ok.mod.kin kp hall ?_ hpl
  refine thn (hkw.run pos pins s σ H _ I h) fun ws s2 ⟨zs, H2, I2, rz, l1, l2, q2⟩ => ⟨I2.kIn, ?_⟩
  rw [hks]
  exact run_fnG (us := []) (vs := []) F hG (hr.mono hk) hb pass0 I2 .nil rz rfl l2 q2
/-- f(e, .., k = v, ..) -/
theorem pe_gK {j : Nat} (c : Gk X.prog X.w X.K X.mg X.base k x n ks gV sp) (hG : X.A.guards = some []) (hr : Room j X.A) (hk : k ≤ j) (hg : Gl X x) (ha : PA X (e :: es) t) (hkw : PK X kws tk)
    (hall : (backToKw pos (keywordEach kws X.env)).all (·.1.isSome) = true := by rfl) (hks : (backToKw pos (keywordEach kws X.env)).filterMap (·.1) = ks := by rfl) (hdb : (x == ("__debug__" : Str)) = false := by decide)
    (he : starEach (e :: es) X.env = (false, eval e X.env) :: starEach es X.env := by rfl) (hpl : ((backTo pos (starEach (e :: es) X.env)).any (·.1) || (backToKw pos (keywordEach kws X.env)).any (·.1.isNone)) = false := by rfl) :
    PE X (.Call (.Name x p) (e :: es) kws pos) (tCallG n ks.length sp gV t tk) := by
  obtain ⟨f, fd, ps, g, F, hm, kp, hb⟩ := c.ex
  refine ⟨fun pins s σ H Q I h => ?_⟩
  refine wpAny_Call_Name_kw (ld_glob I hg hm ?_ hdb)
  refine PySem.W.callWith_KW (h₀ := X.base) I.ok.mod.kin kp hall (thn (ha.run pos pins s σ H _ I h) fun us s1 ⟨vs, H1, I1, r, q⟩ => ?_) hpl he
  refine thn (hkw.run pos pins s1 σ H1 _ I1 q) fun ws s2 ⟨zs, H2, I2, rz, l1, l2, q2⟩ => ⟨I2.kIn, ?_⟩
  rw [hks]
  exact run_fnG F hG (hr.mono hk) hb pass0 I2 r rz l1 l2 q2
end

/-! ### i *= j of great ints -/
def ipC (C : Int → Int → Prop) (f : Int → Int → Int) : TIp := fun x y H Q => ∃ i j, x = .int i ∧ y = .int j ∧ C i j ∧ Q (.int (f i j)) H
section
variable {X : Cx}
theorem ip_mulW : PIp X .Mult (ipC CMulW fun i j => i * j) := by
  intro pins s σ H x y v u Q I r1 r2 h
  obtain ⟨i, j, e1, e2, hc, q⟩ := h
  subst e1; subst e2
  obtain ⟨t, rfl⟩ := r1
  obtain ⟨t', rfl⟩ := r2
  exact imul_int ⟨.int _, H, I.tok _, ⟨_, rfl⟩, q⟩ hc.ok
/-! ### text * int -/
theorem foldl_repN (l : List Nat) : ∀ (n : Nat) (acc : List Nat), List.foldl (fun x1 x2 => x1 ++ x2) acc.toArray (List.replicate n l.toArray) = (acc ++ (List.replicate n l).flatten).toArray
  | 0, acc => by simp
  | n + 1, acc => by
    rw [List.replicate_succ, List.foldl_cons, List.append_toArray, foldl_repN l n (acc ++ l), List.replicate_succ, List.flatten_cons, List.append_assoc]
theorem op_repS : OpR X (binaryOp .Mult) (fun x y H Q => ∃ (z : Str) (n : Nat), x = .str z ∧ y = .int (n : Int) ∧ 2 ≤ n ∧ z.length ≠ 0 ∧ z.length * n ≤ 100000 ∧ Q (.str ⟨(List.replicate n z.cps.toList).flatten.toArray⟩) H) := by
  intro pins s σ H x y v u Q I r1 r2 h
  obtain ⟨z, n, e1, e2, h1, h3, h4, q⟩ := h
  subst e1; subst e2
  obtain ⟨t, rfl⟩ := r1
  obtain ⟨t', rfl⟩ := r2
  have hn : ¬ (n : Int) < 1 := by omega
  have hz1 : 1 ≤ z.length := Nat.pos_of_ne_zero h3
  have hn2 : n ≤ 100000 := Nat.le_trans (Nat.le_mul_of_pos_left n hz1) h4
  have hb : ((n : Int) == 1 || z.length == 0) = false := by
    have a : ((n : Int) == 1) = false := beq_eq_false_iff_ne.mpr (by omega)
    have b : (z.length == 0) = false := beq_eq_false_iff_ne.mpr h3
    rw [a, b]
    rfl
  have hsz : z.length * n ≤ sizeLine := zs h4
  have f0 : List.foldl (fun x1 x2 => x1 ++ x2) #[] (List.replicate n z.cps) = (List.replicate n z.cps.toList).flatten.toArray := by
    have := foldl_repN z.cps.toList n []
    rw [List.nil_append, Array.toArray_toList] at this
    exact this
  have hl : (⟨(List.replicate n z.cps.toList).flatten.toArray⟩ : Str).length = n * z.length := by
    show ((List.replicate n z.cps.toList).flatten.toArray).size = n * z.length
    rw [List.size_toArray, List.length_flatten, List.map_replicate, List.sum_replicate_nat, Array.length_toList]
    rfl
  refine PySem.P.mul_str ?_ (fun _ _ => ?_) (fun _ _ => ?_) ?_
  · have a : ¬ (n : Int) < -(2 ^ 63 : Int) := by omega
    have b : ¬ (n : Int) ≥ 2 ^ 63 := by omega
    rw [decide_eq_false a, decide_eq_false b]
    rfl
  · have h5 : (z.length : Int) * (n : Int) ≤ 100000 := by
      have := Int.ofNat_le.mpr h4
      rwa [Int.natCast_mul] at this
    have := (Int.le_ediv_iff_mul_le (show (0 : Int) < n by omega)).mpr (show (z.length : Int) * (n : Int) ≤ 2 ^ 63 - 1 by omega)
    omega
  · have e : (n : Int).toNat = n := rfl
    rw [e]
    unfold Builtin.Str.tooLong
    exact decide_eq_false (by omega)
  · rw [if_neg hn, hb, if_neg Bool.false_ne_true]
    have e : (n : Int).toNat = n := rfl
    rw [e, f0]
    exact ⟨by rw [hl]; rw [Nat.mul_comm]; exact hsz, .str _, H, I.tok _, ⟨_, rfl⟩, q⟩
end
/-! ### math.factorial, math.comb -/
def facN : Nat → Nat
  | 0 => 1
  | n + 1 => facN n * (n + 1)
theorem fac_eq : ∀ n : Nat, Builtin.Math.factorialNat n = facN n
  | 0 => rfl
  | n + 1 => by
    have e : Builtin.Math.factorialNat (n + 1) = Builtin.Math.factorialNat n * (n + 1) := by
      unfold Builtin.Math.factorialNat
      rw [List.range_succ, List.foldl_append]
      rfl
    rw [e, fac_eq n]
    rfl
theorem fac_lt : ∀ n : Nat, n ≤ 1000 → facN n < 2 ^ (10 * n + 1)
  | 0, _ => by decide
  | n + 1, h => by
    have z := fac_lt n (by omega)
    have e : 10 * (n + 1) + 1 = (10 * n + 1) + 10 := by omega
    show facN n * (n + 1) < _
    rw [e, Nat.pow_add]
    exact Nat.mul_lt_mul_of_lt_of_le z (by have : (2 : Nat) ^ 10 = 1024 := by decide
                                           omega) (by decide)
def rFac : List V → Hp → VK → Prop := fun vs H Q => ∃ n : Nat, vs = [.int (n : Int)] ∧ n ≤ 1000 ∧ Q (.int ((facN n : Nat) : Int)) H
theorem cr_fac {X : Cx} : CallR X (.builtin "math.factorial") rFac := by
  intro pins s σ H vs us Q I r h
  obtain ⟨n, rfl, hn, q⟩ := h
  obtain ⟨u, rfl, t, rfl⟩ := vals1 r
  have hl := fac_lt n hn
  have e : Builtin.Math.factorialNat (n : Int).toNat = facN n := fac_eq n
  refine PySem.W.mg_factorial (by show ¬ (n : Int) > 2 ^ 63 - 1; omega) (by omega) (by show ¬ (n : Int) > 20000; omega) ?_ ?_
  · rw [e]
    show (facN n).log2 < bitsLine
    have b := PySem.Flt.log2_lt_of (by omega : 0 < 10 * n + 1) hl
    have e2 : bitsLine = 134217728 := by decide
    rw [e2]
    omega
  · rw [e]
    exact ⟨.int _, H, I.tok _, ⟨_, rfl⟩, q⟩
/-! ### lists of great ints as text -/
theorem shown_big {ns : List Int} (hb : ∀ n ∈ ns, n.natAbs.log2 < 1920) (hl : ns.length ≤ 40) : (dI ns).shown.length ≤ sizeLine := by
  show (textFrom 0 "[" (PyData.shownAll (ns.map PyData.int)) ++ ("]" : Str)).length ≤ sizeLine
  rw [Str.length_append]
  have z := textFrom_le (PyData.shownAll (ns.map PyData.int)) 0 "[" 1921 (fun t ht => by
    obtain ⟨n, hn, e⟩ := shownAll_mem ns t ht
    rw [e]
    exact PyProof.Rows.int_text_len_1921 (hb n hn))
  rw [shownAll_len] at z
  have e1 : ("[" : Str).length = 1 := rfl
  have e2 : ("]" : Str).length = 1 := rfl
  rw [e1] at z
  rw [e2]
  exact zs (by omega)
theorem rrepr_big {K : PySem.W.Frag} {H : Hp} {a : Addr} {ns : List Int} {Q : VK} (hS : SqL K H a (ns.map V.int)) (hb : ∀ n ∈ ns, n.natAbs.log2 < 1920) (hl : ns.length ≤ 40) (q : Q (.str (dI ns).shown) H) : rRepr K [.ref a] H Q :=
  ⟨a, dI ns, rfl, dp_ints hS, show_ints ns hb, noDict_ints ns, rI2 ns, shown_big hb hl, q⟩
theorem log_nat {n k : Nat} (h : n < 2 ^ k) (h0 : 0 < k) (hk : k ≤ 1920) : ((n : Nat) : Int).natAbs.log2 < 1920 := Nat.lt_of_lt_of_le (PySem.Flt.log2_lt_of h0 (show ((n : Nat) : Int).natAbs < 2 ^ k from h)) hk
end Lp
set_option Elab.async false
set_option linter.all false
set_option maxRecDepth 100000
namespace Lp
open PySem PySem.Spec PyProof.Rows L2
theorem filtG {α : Type} {l : List α} {f : α → Bool} {i : Nat} {e : α} (he : l[i]? = some e) : (l.take (i + 1)).filter f = (l.take i).filter f ++ (if f e = true then [e] else []) := by
  rw [take_get he, List.filter_append]
  congr 1
  simp only [List.filter_cons, List.filter_nil]
theorem filtG_len {α : Type} {l : List α} {f : α → Bool} (i : Nat) : ((l.take i).filter f).length ≤ l.length := Nat.le_trans (List.length_filter_le _ _) (by rw [List.length_take]; exact Nat.min_le_right _ _)
theorem inVI (x : Int) : ∀ ns : List Int, inV (.int x) (ns.map V.int) = decide (x ∈ ns)
  | [] => rfl
  | n :: r => by
    show (eqV (.int n) (.int x) || inV (.int x) (r.map V.int)) = _
    rw [inVI x r]
    show ((n == x) || decide (x ∈ r)) = _
    by_cases e : n = x
    · subst e
      simp
    · have e' : ¬ x = n := fun z => e z.symm
      simp [e, e']
theorem flatI (ns : List Int) : (ns.map V.int).all flatV = true := by
  rw [List.all_eq_true]
  intro v hv
  obtain ⟨n, _, rfl⟩ := List.mem_map.mp hv
  rfl
theorem notInT {x : Int} {ns : List Int} (h : x ∉ ns) : V.bl (if true = true then !inV (.int x) (ns.map V.int) else inV (.int x) (ns.map V.int)) = V.bl true := by
  rw [if_pos rfl, inVI, decide_eq_false h]
  rfl
theorem notInF {x : Int} {ns : List Int} (h : x ∈ ns) : V.bl (if true = true then !inV (.int x) (ns.map V.int) else inV (.int x) (ns.map V.int)) = V.bl false := by
  rw [if_pos rfl, inVI, decide_eq_true h]
  rfl

/-! ### rows of ints in the heap -/
def RowsR (H : Hp) (rs : List V) (rows : List (List Int)) : Prop := rs.length = rows.length ∧ ∀ (i : Nat) (row : List Int), rows[i]? = some row → ∃ a, rs[i]? = some (.ref a) ∧ H a = some (.lst (row.map V.int))
theorem RowsR.same {H H' : Hp} {rs : List V} {rows : List (List Int)} (h : RowsR H rs rows) (s : Same H H') : RowsR H' rs rows := ⟨h.1, fun i row e => by
  obtain ⟨a, b, c⟩ := h.2 i row e
  exact ⟨a, b, s _ _ c⟩⟩
theorem RowsR.upd {H : Hp} {rs : List V} {rows : List (List Int)} {q : Addr} {o : HO} (h : RowsR H rs rows) (n : V.ref q ∉ rs) : RowsR (upd H q o) rs rows := ⟨h.1, fun i row e => by
  obtain ⟨a, b, c⟩ := h.2 i row e
  have ne : a ≠ q := fun z => n (by rw [← z]; exact List.mem_of_getElem? b)
  refine ⟨a, b, ?_⟩
  rw [upd_ne ne]
  exact c⟩
theorem RowsR.nil (H : Hp) : RowsR H [] [] := ⟨rfl, fun i row e => by simp at e⟩
theorem RowsR.app {H : Hp} {rs ss : List V} {rows sows : List (List Int)} (h : RowsR H rs rows) (g : RowsR H ss sows) : RowsR H (rs ++ ss) (rows ++ sows) := by
  refine ⟨by rw [List.length_append, List.length_append, h.1, g.1], fun i row e => ?_⟩
  by_cases hi : i < rows.length
  · rw [List.getElem?_append_left hi] at e
    rw [List.getElem?_append_left (by rw [h.1]; exact hi)]
    exact h.2 i row e
  · rw [List.getElem?_append_right (by omega)] at e
    rw [List.getElem?_append_right (by rw [h.1]; omega), h.1]
    exact g.2 _ row e
theorem RowsR.one {H : Hp} {a : Addr} {row : List Int} (h : H a = some (.lst (row.map V.int))) : RowsR H [.ref a] [row] := ⟨rfl, fun i r e => by
  cases i with
  | zero => cases e; exact ⟨a, rfl, h⟩
  | succ i => simp at e⟩
theorem RowsR.dp {K : PySem.W.Frag} {H : Hp} : ∀ {rs : List V} {rows : List (List Int)}, RowsR H rs rows → DpAll K H rs (rows.map dI)
  | [], [], _ => .nil
  | [], _ :: _, h => absurd h.1 (by simp)
  | _ :: _, [], h => absurd h.1 (by simp)
  | v :: rs, r :: rows, h => by
    obtain ⟨a, b, c⟩ := h.2 0 r rfl
    have e : v = .ref a := Option.some.inj b
    subst e
    exact .cons (dp_ints (.of c)) (RowsR.dp ⟨Nat.succ.inj h.1, fun i row e => h.2 (i + 1) row e⟩)
theorem flatMap_take_len {α β : Type} {f : α → List β} (l : List α) (j : Nat) : ((l.take j).flatMap f).length ≤ (l.flatMap f).length := by
  have e : l.flatMap f = (l.take j).flatMap f ++ (l.drop j).flatMap f := by rw [← List.flatMap_append, List.take_append_drop]
  rw [e, List.length_append]
  omega
theorem flatMap_take_succ {α β : Type} {f : α → List β} {l : List α} {j : Nat} {x : α} (h : l[j]? = some x) : (l.take (j + 1)).flatMap f = (l.take j).flatMap f ++ f x := by
  rw [take_get h, List.flatMap_append]
  simp
end Lp
set_option Elab.async false
set_option linter.all false
set_option maxRecDepth 100000
namespace Lp
open PySem PySem.Spec PyProof.Rows L2
theorem rgc_two (n : Nat) (h : n ≤ 1000) : RgC 1 (2 * (n : Int)) 2 n := by
  have hs : Builtin.Range.rangeSize 1 (2 * (n : Int)) 2 = (n : Int) := by
    unfold Builtin.Range.rangeSize
    rw [if_pos (by decide)]
    by_cases h0 : n = 0
    · subst h0
      rw [if_neg (by omega)]
      rfl
    · rw [if_pos (by omega)]
      omega
  refine ⟨by decide, by decide, ?_, hs⟩
  unfold Builtin.Range.small
  rw [hs]
  have f : ∀ z : Int, -1000000 ≤ z → z ≤ 1000000 → Builtin.Range.rangeFitsLong z = true := fun z a b => by
    unfold Builtin.Range.rangeFitsLong
    rw [decide_eq_true (show -2 ^ 63 ≤ z by omega), decide_eq_true (show z < 2 ^ 63 by omega)]
    rfl
  rw [f 1 (by decide) (by decide), f (2 * (n : Int)) (by omega) (by omega), f 2 (by decide) (by decide), f (n : Int) (by omega) (by omega), if_pos (by decide), f (2 * (n : Int) + (2 - 1)) (by omega) (by omega), Bool.or_true]
  rfl
/-! ### lists of objects in the heap -/
def ObjR {α : Type} (o : α → HO) (H : Hp) (rs : List V) (l : List α) : Prop := rs.length = l.length ∧ ∀ (i : Nat) (x : α), l[i]? = some x → ∃ a, rs[i]? = some (.ref a) ∧ H a = some (o x)
section
variable {α : Type} {o : α → HO} {H H' : Hp} {rs ss : List V} {l m : List α}
theorem ObjR.same (h : ObjR o H rs l) (s : Same H H') : ObjR o H' rs l := ⟨h.1, fun i x e => by
  obtain ⟨a, b, c⟩ := h.2 i x e
  exact ⟨a, b, s _ _ c⟩⟩
theorem ObjR.upd {q : Addr} {u : HO} (h : ObjR o H rs l) (n : V.ref q ∉ rs) : ObjR o (upd H q u) rs l := ⟨h.1, fun i x e => by
  obtain ⟨a, b, c⟩ := h.2 i x e
  have ne : a ≠ q := fun z => n (by rw [← z]; exact List.mem_of_getElem? b)
  refine ⟨a, b, ?_⟩
  rw [upd_ne ne]
  exact c⟩
theorem ObjR.nil : ObjR o H [] [] := ⟨rfl, fun i x e => by simp at e⟩
theorem ObjR.app (h : ObjR o H rs l) (g : ObjR o H ss m) : ObjR o H (rs ++ ss) (l ++ m) := by
  refine ⟨by rw [List.length_append, List.length_append, h.1, g.1], fun i x e => ?_⟩
  by_cases hi : i < l.length
  · rw [List.getElem?_append_left hi] at e
    rw [List.getElem?_append_left (by rw [h.1]; exact hi)]
    exact h.2 i x e
  · rw [List.getElem?_append_right (by omega)] at e
    rw [List.getElem?_append_right (by rw [h.1]; omega), h.1]
    exact g.2 _ x e
theorem ObjR.one {a : Addr} {x : α} (h : H a = some (o x)) : ObjR o H [.ref a] [x] := ⟨rfl, fun i r e => by
  cases i with
  | zero => cases e; exact ⟨a, rfl, h⟩
  | succ i => simp at e⟩
end
theorem rep_one (b : Bool) (v : V) : (List.replicate (if b = true then (1 : Int) else 0).toNat [v]).flatten = if b = true then [v] else [] := by cases b <;> rfl
theorem rep_sz (b : Bool) (v : V) : [v].length * (if b = true then (1 : Int) else 0).toNat ≤ sizeLine := by
  cases b
  · exact Nat.zero_le _
  · exact Lp.zs (show 1 * 1 ≤ 100000 by decide)
theorem ifs_len (b : Bool) (v : V) : (if b = true then [v] else []).length ≤ 1 := by
  cases b
  · exact Nat.zero_le _
  · exact Nat.le_refl _
theorem ints_get {ns : List Int} {i : Nat} {n : Int} (h : ns[i]? = some n) : (ns.map V.int)[i]? = some (.int n) := by rw [List.getElem?_map, h]; rfl
end Lp
set_option Elab.async false
set_option linter.all false
set_option maxRecDepth 100000
namespace Lp
open PySem PySem.Spec PyProof.Rows L2
/-! ### lists of ints, by < -/
theorem firstLt_map (e r : Nat → Bool) (fin : Bool) (f : Nat → Nat) : ∀ l : List Nat, SeqAt.firstLt e r fin (l.map f) = SeqAt.firstLt (fun j => e (f j)) (fun j => r (f j)) fin l
  | [] => rfl
  | j :: t => by
    show (if e (f j) = true then SeqAt.firstLt e r fin (t.map f) else r (f j)) = (if e (f j) = true then SeqAt.firstLt (fun j => e (f j)) (fun j => r (f j)) fin t else r (f j))
    rw [firstLt_map e r fin f t]
theorem first_lex : ∀ ns ms : List Int, SeqAt.firstLt (fun j => ns.getD j 0 == ms.getD j 0) (fun j => decide (ns.getD j 0 < ms.getD j 0)) (decide (ns.length < ms.length)) (List.range (min ns.length ms.length)) = HT.lexLt ns ms
  | [], [] => rfl
  | [], _ :: _ => rfl
  | _ :: _, [] => rfl
  | n :: ns, m :: ms => by
    have e : min (n :: ns).length (m :: ms).length = min ns.length ms.length + 1 := by
      simp only [List.length_cons]
      omega
    have e2 : decide ((n :: ns).length < (m :: ms).length) = decide (ns.length < ms.length) := decide_eq_decide.mpr (by simp only [List.length_cons]; omega)
    rw [e, e2, List.range_succ_eq_map]
    show (if (n == m) = true then SeqAt.firstLt _ _ _ ((List.range (min ns.length ms.length)).map Nat.succ) else decide (n < m)) = if n = m then HT.lexLt ns ms else decide (n < m)
    rw [firstLt_map]
    by_cases h : n = m
    · rw [if_pos (beq_iff_eq.mpr h), if_pos h]
      exact first_lex ns ms
    · rw [if_neg (fun z => h (beq_iff_eq.mp z)), if_neg h]
def IsLs (h : Heap) (v : Value) (ns : List Int) : Prop := ∃ (a : Addr) (items : List Value), v = .ref a ∧ h.IsList a items.toArray ∧ IntsAre items ns
theorem IsLs.keeps {h h' : Heap} {v : Value} {ns : List Int} (x : IsLs h v ns) (k : ∀ b o, v = .ref b → h.get? b = some o → h'.get? b = some o) : IsLs h' v ns := by
  obtain ⟨a, its, rfl, ⟨o, ho, hc, n, hd⟩, hi⟩ := x
  exact ⟨a, its, rfl, ⟨o, k a o rfl ho, hc, n, hd⟩, hi⟩
theorem ints_at : ∀ {us : List Value} {ns : List Int}, IntsAre us ns → ∀ j (h : j < us.length), ∃ t, us[j] = .int (ns.getD j 0) t
  | _, _, .cons n t r, 0, _ => ⟨t, rfl⟩
  | _, _, .cons n t r, j + 1, h => by
    obtain ⟨u, e⟩ := ints_at r j (Nat.lt_of_succ_lt_succ h)
    exact ⟨u, e⟩
section
variable {prog : Program} {w : World} {A : Around} {E : Value → Shared → Prop} {s : Shared}
theorem rcLt_int (A : Around) (s : Shared) (a : Int) (t : Tok) (b : Int) (u : Tok) : SeqAt.RcLt A s (.int a t) (.int b u) (decide (a < b)) := fun prog w E Q h => by
  have z : wpAny (model prog w) A (compareOp .Lt (.int a t) (.int b u)) Q E s := lt_int h
  exact z
theorem lt_ls {v u : Value} {ns ms : List Int} {Q : Bool → Shared → Prop} (hu : A.units < cLine) (hv : IsLs s.heap v ns) (hw : IsLs s.heap u ms) (h : Q (HT.lexLt ns ms) s) : wpAny (model prog w) A (keyLt' oneType' v u) Q E s := by
  obtain ⟨a, its, rfl, la, ia⟩ := hv
  obtain ⟨b, its2, rfl, lb, ib⟩ := hw
  have l1 := ia.length
  have l2 := ib.length
  rw [keyLt'_oneType, oneLt'_eq]
  simp only [if_true]
  refine wpAny_bind (wpAny_cRoomFor hu ?_)
  refine wpAny_bind (wpAny_callSpecialIfBound?_slot la.typeIs PySem.F.slot_list_lt (SeqAt.call_list_lt (e := fun j => ns.getD j 0 == ms.getD j 0) (r := fun j => decide (ns.getD j 0 < ms.getD j 0)) la lb (fun j h1 h2 => ?_) (fun j h1 h2 _ => ?_) ?_))
  · obtain ⟨t, e⟩ := ints_at ia j (by simpa using h1)
    obtain ⟨t', e'⟩ := ints_at ib j (by simpa using h2)
    rw [List.getElem_toArray, List.getElem_toArray, e, e']
    exact SeqAt.EqAt.int_int _ t _ t'
  · obtain ⟨t, e⟩ := ints_at ia j (by simpa using h1)
    obtain ⟨t', e'⟩ := ints_at ib j (by simpa using h2)
    rw [List.getElem_toArray, List.getElem_toArray, e, e']
    exact rcLt_int _ _ _ t _ t'
  · rw [List.size_toArray, List.size_toArray, l1, l2, first_lex]
    exact wpAny_truthy_bool h
theorem ls_cmp {vs : List Value} {k : Value → List Int} (hu : A.units < cLine) (hv : ∀ v ∈ vs, IsLs s.heap v (k v)) : SrtO.Cmp prog w A s oneType' (fun p => p.1 ∈ vs) (SrtO.lt2 fun v u => HT.lexLt (k v) (k u)) := by
  intro p q hp hq
  exact lt_ls (Q := fun r s' => s' = s ∧ r = HT.lexLt (k p.1) (k q.1)) (E := fun _ _ => False) hu (hv p.1 hp) (hv q.1 hq) ⟨rfl, rfl⟩
theorem ls_sortable {a : Addr} {vs : List Value} {k : Value → List Int} (h2 : 2 ≤ vs.length) (hu : A.units < cLine) (hv : ∀ v ∈ vs, IsLs s.heap v (k v)) (ha : ∀ v ∈ vs, v ≠ .ref a) :
    SrtO.SortableO prog w A s a vs fun v u => HT.lexLt (k v) (k u) := by
  intro h' keep
  have hv' : ∀ v ∈ vs, IsLs h' v (k v) := fun v hm => (hv v hm).keeps fun b o e g => keep b o (fun z => ha v hm (by rw [e, z])) g
  refine ⟨oneType', fun Q E hq => ?_, ls_cmp (s := { s with heap := h' }) hu hv'⟩
  refine PySem.W.kas_kind (s := { s with heap := h' }) (T := .type "list") h2 (fun v hm => ?_) (by rfl) (by simp) hq
  obtain ⟨a, its, rfl, ⟨o, ho, hc, n, hd⟩, hi⟩ := hv' v hm
  rw [← hc]
  exact (PySem.W.Looks.ld ho).andThen .now
end
/-- sorted(xs), xs a list of lists of ints of any length (k says which) -/
def rSortedLL (K : PySem.W.Frag) : List V → Hp → VK → Prop := fun vs H Q => ∃ (a : Addr) (xs : List V) (k : V → List Int), vs = [V.ref a] ∧ SqL K H a xs ∧ (∀ x ∈ xs, ∃ t, x = V.ref t ∧ SqL K H t ((k x).map V.int)) ∧
  ∀ ys p, ys.Perm xs → ys.Pairwise (fun x y => HT.lexLt (k y) (k x) = false) → H p = none → Q (.ref p) (upd H p (.lst ys))
theorem cr_sortedLL {X : Cx} (hu : X.A.units + 64 < cLine) : CallR X (.builtin "sorted") (rSortedLL X.K) := by
  intro pins s σ H vs us Q I r h
  obtain ⟨a, xs, k, rfl, hs, hx, q⟩ := h
  obtain ⟨its, rv, hl, hz⟩ := I.list hs
  obtain ⟨u, rfl, ru⟩ := vals1 r
  obtain rfl : u = Value.ref a := ru
  obtain ⟨e1, e2⟩ := refs_back rv fun x m => by
    obtain ⟨t, e, _⟩ := hx x m
    exact ⟨t, e⟩
  have hv : ∀ v ∈ its, IsLs s.heap v (k (backV v)) := fun v hv => by
    obtain ⟨t, rfl⟩ := e2 v hv
    have hm : V.ref t ∈ xs := by rw [e1]; exact List.mem_map.mpr ⟨_, hv, rfl⟩
    obtain ⟨t', e, ht⟩ := hx _ hm
    cases e
    obtain ⟨its2, r2, l2, _⟩ := I.list ht
    exact ⟨t, its2, rfl, l2.isList, r2.ints⟩
  refine SrtO.sorted_ord (NtL.swo_lexL fun u => k (backV u)) hl.isList (by rw [← rv.length]; exact hz) (fun h2 h₁ a' g keep => ls_sortable h2 (by show X.A.units + 1 + 1 < cLine; omega) (fun v hm => (hv v hm).keeps fun b o _ g => (keep b o g).2) fun v hm z => ?_) fun out h1 h2 => ?_
  · obtain ⟨b, its3, e, ⟨o, ho, _⟩, _⟩ := hv v hm
    rw [z] at e
    cases e
    exact (keep _ o ho).1 rfl
  · have h3 : ∀ u ∈ out, ∃ a, u = Value.ref a := fun u hu => e2 u (h2.perm.mem_iff.mp hu)
    obtain ⟨ep, he'⟩ := PyProof.Rows.sortedAll_at s.heap its out.toArray
    have hp : (out.map backV).Perm xs := by
      rw [e1]
      exact h2.perm.map backV
    have hlen : (out.map backV).length ≤ sizeLine := by
      rw [hp.length_eq]
      exact hz
    exact ⟨.ref _, upd H (s.heap.objs.size + 1) (.lst (out.map backV)), I.laid (t' := s.toks) (fun _ _ => PyProof.Rows.sortedAll_old) (Nat.le_succ _) ⟨hlen, out, ep, vals_back h3, he'⟩, rfl, q _ _ hp (List.pairwise_map.mpr (h1.imp fun {x y} z => z)) (I.hok.fresh (Nat.le_succ _))⟩
end Lp
set_option Elab.async false
set_option linter.all false
set_option maxRecDepth 100000
namespace Lp
open PySem PySem.Spec PyProof.Rows L2
theorem all_bounds (n : Nat) : PySem.sliceBounds none none none n = (0, (n : Int), 1) := by
  simp [PySem.sliceBounds]
section
variable {prog : Program} {w : World} {A : Around} {E : Value → Shared → Prop} {s : Shared}
/-- xs[:] = ys -/
theorem whole_set {p q z : Addr} {old new : Array Value} {n1 n2 : Nat} {R : Unit → Shared → Prop} (hp : s.heap.get? p = some { cls := .type "list", data := .seq old n1 }) (hq : s.heap.get? q = some { cls := .type "list", data := .seq new n2 })
    (npq : p ≠ q) (hz : s.heap.IsSliceOf z .none .none .none) (fit : old.size + new.size ≤ sizeLine) (h : R () { s with heap := s.heap.update p (Obj.mapSeq fun xs => xs.extract 0 0 ++ new ++ xs.extract old.size xs.size) }) :
    wpAny (model prog w) A (setItem (.ref p) (.ref z) (.ref q)) R E s := by
  have tp : s.heap.IsList p old := PySem.IsL.isList hp
  have tq : s.heap.IsList q new := PySem.IsL.isList hq
  obtain ⟨oz, goz, coz, doz⟩ := id hz
  have tz : s.TypeIs (.ref z) "slice" := ⟨oz, goz, coz⟩
  have noZero : ¬ ((rawPart none == rawInt 0) = true) := Bool.false_ne_true
  have two : Builtin.List.listSameRef (.ref p) (.ref q) = false := by unfold Builtin.List.listSameRef; exact beq_eq_false_iff_ne.mpr npq
  have upper : (max (0 : Int) (old.size : Int)).toNat = old.size := by omega
  have fit' : ((fun xs : Array Value => xs.extract 0 0 ++ new ++ xs.extract old.size xs.size) old).size ≤ sizeLine + 1 := by simp only [Array.size_append, Array.size_extract]; omega
  unfold setItem; try with_reducible refine wpAny_holding ?_
  first | refine wpAny_bind (wpAny_pure ?_) | skip
  refine wpAny_bind (wpAny_sequenceKey tp.typeIs (by decide) (wpAny_bind (wpAny_callSpecial?_slot (name := Str.ofString "__setitem__") tp.typeIs slot_list_setitem (wpAny_call_entry slot_list_setitem tp.typeIs entry_list_setitem ?_ (args_list_setitem _ _ _)))))
  show wpAny _ _ (Builtin.List.listSubscript? (.ref z) >>= _) _ _ s
  refine wpAny_bind ?_
  unfold Builtin.List.listSubscript?
  refine wpAny_bind (wpAny_specialOf tz slice_no_index ?_)
  simp only [Option.isNone_none, if_true]
  refine wpAny_pure (?_ : wpAny _ _ (typeOf (.ref z) >>= _) _ _ s)
  refine wpAny_bind (wpAny_typeOf tz ?_)
  first | rw [if_neg (by decide)] | refine PySem.W.KFB.if_not (by decide) ?_
  rw [listSliceParts_eq]
  refine wpAny_bind (wpAny_bind (wpAny_field goz doz (x := .none) rfl (wpAny_bind (wpAny_listPart .none (?_ : wpAny _ _ _ _ _ _)))))
  rw [if_neg noZero]
  refine wpAny_bind (wpAny_field goz doz (x := .none) rfl (wpAny_bind (wpAny_listPart .none (wpAny_bind (wpAny_field goz doz (x := .none) rfl (wpAny_bind (wpAny_listPart .none (wpAny_pure ?_))))))))
  first | simp only [two, Bool.false_eq_true, if_false] | refine PySem.W.KFB.if_not two ?_ | (dsimp only; rw [if_neg (by rw [two]; exact Bool.false_ne_true)])
  refine wpAny_bind (m := Builtin.List.listAllItems (.ref q) "must assign iterable to extended slice") ?_
  unfold Builtin.List.listAllItems; refine wpAny_bind (wpAny_typeOf tq.typeIs ?_)
  first | refine PySem.W.KFB.if_so (by decide) ?_ | rw [if_pos (by decide)] | simp only [beq_self_eq_true, Bool.true_or, if_true]
  unfold Builtin.List.listItems; refine wpAny_bind (wpAny_seqItems hq rfl (wpAny_pure (wpAny_bind (wpAny_bind (wpAny_seqItems hp rfl (wpAny_pure ?_))))))
  refine wpAny_bind (wpAny_of_eq ((sliceIndices_raw none none none old.size (by simp)).trans (congrArg (pure : Int × Int × Int → Sem (Int × Int × Int)) (all_bounds old.size))) ?_)
  show wpAny _ _ (if ((1 : Int) == 1) = true then _ else _) _ _ s
  rw [if_pos (by decide)]; refine wpAny_bind (wpAny_rule ?_)
  first | simp only [notLongL fit, Bool.false_eq_true, if_false] | refine PySem.W.KFB.if_not (notLongL fit) ?_
  first | refine wpAny_bind (wpAny_pure ?_) | skip
  show wpAny _ _ (updateSeq p (fun xs => xs.extract 0 ((0 : Int)).toNat ++ new ++ xs.extract (max (0 : Int) (old.size : Int)).toNat xs.size) >>= _) _ _ s
  rw [upper]; refine wpAny_bind (wpAny_updateSeq (hz := Nat.le_trans (Nat.le_add_right _ _) fit) (_hz' := fit') hp rfl (wpAny_bind (wpAny_letGo ?_)))
  first | exact wpAny_bind (wpAny_pure (wpAny_pure ⟨.none, rfl, wpAny_pure h⟩)) | exact wpAny_pure ⟨.none, rfl, wpAny_pure h⟩
end
/-- the slice object of [:] -/
def SlO (a : Addr) : HO := .ext fun h => h.IsSliceOf a .none .none .none
section
variable {X : Cx} {pos : Pos}
def tSlAll : TE := fun _ H Q => ∀ p, H p = none → Q (.ref p) (upd H p (SlO p))
theorem pe_slAll : PE X (.Slice none none none pos) tSlAll := by
  refine ⟨fun pins s σ H Q I h => ?_⟩
  refine wpAny_Slice ?_
  rw [evalPart_none]
  refine wpAny_pure (wpAny_pure (wpAny_pure ?_))
  refine ⟨.ref s.heap.objs.size, upd H s.heap.objs.size (SlO s.heap.objs.size), I.laid (t' := s.toks) (fun b ob q => Heap.get?_push_of_some _ q) (Nat.le_refl _) ⟨Heap.IsSliceOf.new .., ⟨_, Heap.get?_push_size s.heap rfl⟩, fun h1 h2 x k => ?_⟩, rfl, h _ (I.hok.fresh (Nat.le_refl _))⟩
  obtain ⟨o, e, c, d⟩ := x
  exact ⟨o, k o e, c, d⟩
def sAll : TSet := fun x y z H Q => ∃ (l b sl : Addr) (xs ys : List V), x = .ref l ∧ y = .ref sl ∧ z = .ref b ∧ H sl = some (SlO sl) ∧ H l = some (.lst xs) ∧ H b = some (.lst ys) ∧ l ≠ b ∧ xs.length + ys.length ≤ sizeLine ∧ Q (upd H l (.lst ys))
theorem set_all : PSet X sAll := by
  intro pins s σ H o i v ov iv u Q I r1 r2 r3 h
  obtain ⟨l, b, sl, xs, ys, rfl, rfl, rfl, hsl, hl, hb, ne, hz, q⟩ := h
  cases r1
  cases r2
  cases r3
  obtain ⟨z, its, n, r, el, e⟩ := I.lstM hl
  obtain ⟨z2, its2, n2, r', el2, e2⟩ := I.lstM hb
  have os : ObjOk X.prog X.w H s.heap sl (SlO sl) := I.hok sl _ hsl
  refine whole_set e e2 ne os.1 (by rw [List.size_toArray, List.size_toArray]; omega) ⟨_, I.lset (its' := its2) (t' := s.toks) hl e ?_ r' (by omega), q⟩
  apply Array.toList_inj.mp
  simp
/-- xs[..] = as a target, a slice without a step -/
theorem pg_slAll {o i : Expr} {to ti : TE} {t : TSet} (ho : PE X o to) (hi : PE X i ti) (hs : PSet X t)
    (ha : ∀ v, assign (.Subscript o i pos) X.env v = (holding [v] (eval o X.env) >>= fun ov => holding [v, ov] (eval i X.env) >>= fun iv => standAt pos >>= fun _ => holding [v, ov, iv] (setItem ov iv v) >>= fun _ => release [iv, v, ov] []) := by intro _; rfl) : PG X (.Subscript o i pos) (gSub to ti t) := by
  refine ⟨fun pins s σ H v u Q I r h => ?_⟩
  rw [ha u]
  refine wpAny_bind (wpAny_holding (thn (ho.run pins s σ H _ I h) fun ov sA ⟨x, HA, IA, rA, qA⟩ => wpAny_bind (wpAny_holding (thn (hi.run pins sA σ HA _ IA qA) fun iv sB ⟨y, HB, IB, rB, qB⟩ =>
    wpAny_bind (wpAny_standAt (wpAny_bind (wpAny_holding (thn (hs pins sB σ HB x y v ov iv u _ IB rA rB r qB) fun _ sC ⟨HC, IC, qC⟩ => wpAny_release ⟨σ, HC, IC, qC⟩))))))))
end
end Lp
set_option Elab.async false
set_option linter.all false
set_option maxRecDepth 100000
namespace Lp
open PySem PySem.Calls
theorem comb_entry : entryFor table "math.comb" = some Builtin.«math.comb» := entryFor_of_tree (by kernel_rfl)
theorem comb_kind : builtinKind "math.comb" = none := by kernel_rfl
theorem comb_plain : plainId "math.comb" = true := by decide +kernel
theorem comb_args (a b : Value) : argsOk "math.comb" ⟨[a, b], []⟩ := by unfold argsOk; kernel_rfl
theorem comb_run (a : Int) (t : Tok) (b : Int) (u : Tok) (h0 : ¬ a < 0) (h1 : ¬ b < 0) (h2 : ¬ b > a) (h3 : ¬ min b (a - b) > Builtin.Math.maxSsize) (h4 : ¬ min b (a - b) > Builtin.Math.manyFactors) (h5 : ¬ min b (a - b) > 9000)
    (hs : (Builtin.Math.fallingProduct a (min b (a - b)).toNat / Builtin.Math.fallingProduct (min b (a - b)) (min b (a - b)).toNat).natAbs.log2 < bitsLine) :
    Gives (Builtin.«math.comb» ⟨[.int a t, .int b u], []⟩) (.int (Builtin.Math.fallingProduct a (min b (a - b)).toNat / Builtin.Math.fallingProduct (min b (a - b)) (min b (a - b)).toNat)) :=
  .of_wp fun M A E s Q h => by obtain ⟨hp, g, d, tk, os⟩ := s; wp_walk; (try (refine wpAny_ite_false (decide_eq_false (Nat.not_le.mpr hs)) ?_; wp_walk)); exact ⟨_, rfl, h⟩
end Lp
namespace Lp
open PySem PySem.Spec PySem.Calls PyProof.Rows L2
/-! ### binomial coefficients -/
theorem facN_pos' : ∀ n, 0 < facN n
  | 0 => by decide
  | n + 1 => Nat.mul_pos (facN_pos' n) (Nat.succ_pos n)
def chN (n k : Nat) : Nat := facN n / (facN k * facN (n - k))
def chP : Nat → Nat → Nat
  | _, 0 => 1
  | 0, _ + 1 => 0
  | n + 1, k + 1 => chP n k + chP n (k + 1)
theorem chP_zero (n : Nat) : chP n 0 = 1 := by cases n <;> rfl
theorem chP_gt : ∀ n k, n < k → chP n k = 0
  | 0, k + 1, _ => rfl
  | n + 1, k + 1, h => by
    show chP n k + chP n (k + 1) = 0
    rw [chP_gt n k (by omega), chP_gt n (k + 1) (by omega)]
theorem chP_self : ∀ n, chP n n = 1
  | 0 => rfl
  | n + 1 => by
    show chP n n + chP n (n + 1) = 1
    rw [chP_self n, chP_gt n (n + 1) (by omega)]
theorem chP_fac : ∀ n k, k ≤ n → chP n k * (facN k * facN (n - k)) = facN n
  | n, 0, _ => by
    rw [chP_zero, Nat.sub_zero]
    show 1 * (1 * facN n) = facN n
    rw [Nat.one_mul, Nat.one_mul]
  | n + 1, k + 1, h => by
    show (chP n k + chP n (k + 1)) * (facN k * (k + 1) * facN (n + 1 - (k + 1))) = facN n * (n + 1)
    have e : n + 1 - (k + 1) = n - k := by omega
    rw [e]
    have a := chP_fac n k (by omega)
    rcases Nat.lt_or_ge k n with hk | hk
    · have b := chP_fac n (k + 1) (by omega)
      have b2 : facN (n - k) = facN (n - (k + 1)) * (n - k) := by
        have e2 : n - k = (n - (k + 1)) + 1 := by omega
        rw [e2]
        rfl
      have x1 : chP n k * (facN k * (k + 1) * facN (n - k)) = facN n * (k + 1) := by
        rw [← a]
        simp only [Nat.mul_assoc, Nat.mul_comm, Nat.mul_left_comm]
      have x2 : chP n (k + 1) * (facN k * (k + 1) * facN (n - k)) = facN n * (n - k) := by
        rw [← b, b2]
        show _ = chP n (k + 1) * (facN k * (k + 1) * facN (n - (k + 1))) * (n - k)
        simp only [Nat.mul_assoc, Nat.mul_comm, Nat.mul_left_comm]
      rw [Nat.add_mul, x1, x2, ← Nat.mul_add]
      congr 1
      omega
    · have ek : k = n := by omega
      subst ek
      have x : chP k k * (facN k * (k + 1) * facN (k - k)) = chP k k * (facN k * facN (k - k)) * (k + 1) := by
        simp only [Nat.mul_assoc, Nat.mul_comm, Nat.mul_left_comm]
      rw [chP_gt k (k + 1) (by omega), Nat.add_zero, x, a]
theorem ch_eq {n k : Nat} (h : k ≤ n) : chN n k = chP n k := by
  unfold chN
  rw [← chP_fac n k h]
  exact Nat.mul_div_cancel _ (Nat.mul_pos (facN_pos' k) (facN_pos' _))
theorem ch_sym {n k : Nat} (h : k ≤ n) : chN n (n - k) = chN n k := by
  unfold chN
  have e : n - (n - k) = k := by omega
  rw [e, Nat.mul_comm]
theorem ch_le (n k : Nat) : chN n k ≤ facN n := Nat.div_le_self _ _
theorem fall_fac (n : Nat) : ∀ k, k ≤ n → Builtin.Math.fallingProduct (n : Int) k * ((facN (n - k) : Nat) : Int) = ((facN n : Nat) : Int)
  | 0, _ => by
    show 1 * _ = _
    rw [Int.one_mul, Nat.sub_zero]
  | k + 1, h => by
    have e : Builtin.Math.fallingProduct (n : Int) (k + 1) = Builtin.Math.fallingProduct (n : Int) k * ((n : Int) - (k : Int)) := by
      unfold Builtin.Math.fallingProduct
      rw [List.range_succ, List.foldl_append]
      rfl
    have ih := fall_fac n k (by omega)
    have e2 : facN (n - k) = facN (n - (k + 1)) * (n - k) := by
      have e3 : n - k = (n - (k + 1)) + 1 := by omega
      rw [e3]
      rfl
    rw [← ih, e, e2, Int.natCast_mul, Int.mul_assoc]
    congr 1
    rw [Int.mul_comm]
    congr 1
    omega
theorem comb_val {n k : Nat} (h : k ≤ n) : Builtin.Math.fallingProduct (n : Int) k / Builtin.Math.fallingProduct (k : Int) k = ((chN n k : Nat) : Int) := by
  have a := fall_fac n k h
  have b := fall_fac k k (Nat.le_refl k)
  have c := chP_fac n k h
  rw [Nat.sub_self] at b
  have b' : Builtin.Math.fallingProduct (k : Int) k = ((facN k : Nat) : Int) := by
    rw [← b]
    exact (Int.mul_one _).symm
  have fp : ((facN (n - k) : Nat) : Int) ≠ 0 := by
    have := facN_pos' (n - k)
    omega
  have a' : Builtin.Math.fallingProduct (n : Int) k = ((chP n k * facN k : Nat) : Int) := by
    refine Int.eq_of_mul_eq_mul_right fp ?_
    rw [a, ← c, ← Int.natCast_mul, Nat.mul_assoc]
  rw [a', b', ← Int.natCast_ediv, Nat.mul_div_cancel _ (facN_pos' k), ch_eq h]
def rComb : List V → Hp → VK → Prop := fun vs H Q => ∃ n k : Nat, vs = [.int (n : Int), .int (k : Int)] ∧ k ≤ n ∧ n ≤ 1000 ∧ Q (.int ((chN n k : Nat) : Int)) H
theorem cr_comb {X : Cx} : CallR X (.builtin "math.comb") rComb := by
  intro pins s σ H vs us Q I r h
  obtain ⟨n, k, rfl, hk, hn, q⟩ := h
  obtain ⟨t, u, rfl⟩ := Vals.int2 r
  obtain ⟨m, em, hm, ech⟩ : ∃ m : Nat, min (k : Int) ((n : Int) - (k : Int)) = (m : Int) ∧ m ≤ n ∧ chN n m = chN n k := by
    rcases Nat.le_total k (n - k) with c | c
    · exact ⟨k, by omega, hk, rfl⟩
    · exact ⟨n - k, by omega, by omega, ch_sym hk⟩
  have v : Builtin.Math.fallingProduct (n : Int) (min (k : Int) ((n : Int) - (k : Int))).toNat / Builtin.Math.fallingProduct (min (k : Int) ((n : Int) - (k : Int))) (min (k : Int) ((n : Int) - (k : Int))).toNat = ((chN n k : Nat) : Int) := by
    rw [em, Int.toNat_natCast, comb_val hm, ech]
  have fl := fac_lt n hn
  refine call_function_meets comb_kind comb_plain comb_entry (comb_args _ _) (comb_run (n : Int) t (k : Int) u (by omega) (by omega) (by omega) (by rw [em]; show ¬ (m : Int) > 2 ^ 63 - 1; omega) (by rw [em]; show ¬ (m : Int) > 20000; omega) (by omega) ?_).meets ?_
  · rw [v]
    show (chN n k).log2 < bitsLine
    have b := PySem.Flt.log2_lt_of (by omega : 0 < 10 * n + 1) (Nat.lt_of_le_of_lt (ch_le n k) fl)
    have e2 : bitsLine = 134217728 := by decide
    rw [e2]
    omega
  · rw [v]
    exact ⟨.int _, H, I.tok _, ⟨_, rfl⟩, q⟩
end Lp
set_option Elab.async false
set_option linter.all false
set_option maxRecDepth 100000
namespace Lp
open PySem PySem.Spec PyProof.Rows L2
/-! ### a text read from its end -/
theorem fm_all {α : Type} : ∀ m : List α, List.filterMap (fun k => m[k]?) (List.range m.length) = m
  | [] => rfl
  | a :: m => by
    rw [List.length_cons, List.range_succ_eq_map, List.filterMap_cons]
    show a :: List.filterMap (fun k => (a :: m)[k]?) (List.map Nat.succ (List.range m.length)) = a :: m
    rw [List.filterMap_map]
    exact congrArg (a :: ·) (fm_all m)
theorem fm_congr {α β : Type} {f g : α → Option β} : ∀ {l : List α}, (∀ x ∈ l, f x = g x) → l.filterMap f = l.filterMap g
  | [], _ => rfl
  | a :: l, h => by
    rw [List.filterMap_cons, List.filterMap_cons, h a (List.mem_cons_self ..), fm_congr fun x hx => h x (List.mem_cons_of_mem _ hx)]
theorem fm_rev {α : Type} (l : List α) : List.filterMap (fun k => l[l.length - 1 - k]?) (List.range l.length) = l.reverse := by
  refine Eq.trans (fm_congr (g := fun k => l.reverse[k]?) fun k hk => ?_) ((congrArg (fun n => List.filterMap (fun k => l.reverse[k]?) (List.range n)) (List.length_reverse (as := l)).symm).trans (fm_all l.reverse))
  rw [List.getElem?_reverse (List.mem_range.mp hk)]
theorem rev_idx (n : Nat) : Builtin.Str.strSliceIndices none none (-1) n = (List.range n).map fun k => n - 1 - k := by
  show sliceRange ((n : Int) - 1) (-1) (-1) = _
  have e : sliceRange ((n : Int) - 1) (-1) (-1) = List.map (fun k : Nat => ((n : Int) - 1 + (-1) * (k : Int)).toNat) (List.range (if (n : Int) - 1 > -1 then ((n : Int) - 1 - (-1) - (-1) - 1) / 1 else (0 : Int)).toNat) := rfl
  rw [e]
  have c : (if (n : Int) - 1 > -1 then ((n : Int) - 1 - (-1) - (-1) - 1) / 1 else (0 : Int)).toNat = n := by
    split <;> omega
  rw [c]
  exact List.map_congr_left fun k hk => by omega
def revS (x : Str) : Str := ⟨x.cps.toList.reverse.toArray⟩
theorem rev_made (x : Str) (t q : Tok) : sliceMade x t none none (some (-1, q)) = .str (revS x) := by
  show (if ((-1 : Int) == 1 && _) = true then _ else _) = _
  rw [if_neg (by simp)]
  show Made.str ⟨(List.filterMap (fun i => x.cps[i]?) (Builtin.Str.strSliceIndices none none (-1) x.length)).toArray⟩ = _
  rw [rev_idx, List.filterMap_map]
  have := fm_rev x.cps.toList
  simp only [Array.getElem?_toList, Array.length_toList] at this
  exact congrArg (fun l => Made.str ⟨List.toArray l⟩) this
section
variable {X : Cx}
def tRevS (te : TE) : TE := fun σ H Q => te σ H fun x H1 => ∃ z, x = .str z ∧ z.cps.size ≤ sizeLine ∧ Q (.str (revS z)) H1
theorem pe_revS {e : Expr} {te : TE} {k : Nat} {p1 p2 p3 pos : Pos} (he : PE X e te) : PE X (e.Subscript (Expr.Slice none none (some (Expr.UnaryOp UnaryOp.USub (Expr.Constant (Const.int 1) k p1) p2)) p3) pos) (tRevS te) := by
  refine ⟨fun pins s σ H Q I h => ?_⟩
  refine Subscript_ (thn (he.run pins s σ H _ I h) fun o s1 ⟨v, H1, I1, r1, q1⟩ => ?_)
  obtain ⟨z, rfl, hz, q⟩ := q1
  obtain ⟨t, rfl⟩ := r1
  refine wpAny_Slice ?_
  rw [evalPart_none]
  refine wpAny_pure (wpAny_pure ?_)
  refine thn ((po_some (pe_un un_neg pe_int)).run pins s1 σ H1 (fun o H2 => o = some (-1) ∧ H2 = H1) I1 ⟨1, rfl, _, rfl, rfl, rfl⟩) fun u s2 ⟨o, H2, I2, ip, eo, eh⟩ => ?_
  subst eo
  subst eh
  cases ip with
  | int i tk =>
    refine tail_any (typeIs_str _ _ _) F.slot_str_getitem.lookup ?_ rfl
    refine wpAny_getItem_str_slice (l := none) (u := none) (st := some (-1, tk)) (Heap.IsSliceOf.new ..) rfl ?_
    rw [rev_made]
    have I3 : Inv X pins σ H2 { s2 with heap := s2.heap.push { cls := .type "slice", data := .fields #[.none, .none, .int (-1) tk] } } := I2.kept (t' := s2.toks) fun b o e => Heap.get?_push_of_some _ e
    have hl : (revS z).length ≤ sizeLine := by
      show (z.cps.toList.reverse.toArray).size ≤ sizeLine
      rw [List.size_toArray, List.length_reverse, Array.length_toList]
      exact hz
    exact ⟨hl, .str (revS z), H2, I3.tok _, ⟨_, rfl⟩, q⟩
/-! ### list and tuple of a text -/
def chL (z : Str) : List V := z.cps.toList.map fun c => V.str ⟨#[c]⟩
theorem vals_ch {z : Str} {acc : Array Value} (h : ItemsOf (SignAt z) acc z.cps.size) : Vals (chL z) acc.toList := by
  have e : chL z = (List.range acc.toList.length).map fun j => V.str ⟨#[z.cps.toList.getD j 0]⟩ := by
    unfold chL
    rw [Array.length_toList, h.1]
    apply List.ext_getElem?
    intro i
    rw [List.getElem?_map, List.getElem?_map]
    by_cases c : i < z.cps.size
    · rw [List.getElem?_range (by omega), List.getElem?_eq_getElem (by rw [Array.length_toList]; exact c)]
      simp [c]
    · rw [List.getElem?_eq_none (by rw [Array.length_toList]; omega), List.getElem?_eq_none (by rw [List.length_range]; omega)]
      rfl
  rw [e]
  refine vals_of_get acc.toList _ fun j u hj => ?_
  obtain ⟨c, t, hc, rfl⟩ := h.2 j u (by rw [← hj, Array.getElem?_toList])
  refine ⟨t, ?_⟩
  have : z.cps.toList.getD j 0 = c := by
    rw [List.getD_eq_getElem?_getD, Array.getElem?_toList, hc]
    rfl
  rw [this]
def rLStr : List V → Hp → VK → Prop := fun xs H Q => ∃ z, xs = [.str z] ∧ z.cps.size ≤ sizeLine ∧ ∀ p, H p = none → Q (.ref p) (upd H p (.lst (chL z)))
theorem cr_listStr (hc : X.calm = true) : CallR X (.type "list") rLStr := by
  intro pins s σ H xs us Q I r h
  obtain ⟨z, rfl, hz, q⟩ := h
  cases r with
  | cons r rr =>
    cases rr
    obtain ⟨t, rfl⟩ := r
    refine call_list_str (I.ok.hd hc) z t (fun h' tk acc' c' hk e hi => ?_) hz
    refine ⟨.ref _, upd H _ (.lst (chL z)), I.laid hk (Nat.le_refl _) (show ObjOk X.prog X.w _ _ _ (.lst _) from ⟨?_, acc'.toList, c', vals_ch hi, ?_⟩), rfl, q _ (I.hok.fresh (Nat.le_refl _))⟩
    · unfold chL
      rw [List.length_map, Array.length_toList]
      exact hz
    · rw [Array.toArray_toList]; exact e
def rTStr : List V → Hp → VK → Prop := fun xs H Q => ∃ z, xs = [.str z] ∧ z.cps.size ≤ sizeLine ∧ ∀ p, H p = none → Q (.ref p) (upd H p (.tup (chL z)))
theorem cr_tupStr (hc : X.calm = true) : CallR X (.type "tuple") rTStr := by
  intro pins s σ H xs us Q I r h
  obtain ⟨z, rfl, hz, q⟩ := h
  cases r with
  | cons r rr =>
    cases rr
    obtain ⟨t, rfl⟩ := r
    refine call_tuple_str (I.ok.hd hc) z t (fun h' tk acc hk hi => ?_) hz
    have I2 : Inv X pins σ H { s with heap := h', toks := tk } := I.kept (t' := tk) hk
    refine ⟨.ref _, upd H _ (.tup (chL z)), I2.laid (fun b o e => Heap.get?_push_of_some _ e) (Nat.le_refl _) (show ObjOk X.prog X.w _ _ _ (.tup _) from ?_), rfl, q _ (I2.hok.fresh (Nat.le_refl _))⟩
    simp only [ObjOk]
    refine ⟨by unfold chL; rw [List.length_map, Array.length_toList]; exact hz, acc.toList, vals_ch hi, ?_⟩
    rw [Array.toArray_toList]
    exact ⟨_, Heap.get?_push_size _ rfl, rfl, _, rfl⟩
end
end Lp
set_option Elab.async false
set_option linter.all false
set_option maxRecDepth 100000
namespace Lp
open PySem PySem.Spec PyProof.Rows L2
section
variable {prog : Program} {w : World} {A : Around} {E : Value → Shared → Prop} {s : Shared}
theorem zipS_next_item {z TI TO i1 i2 l1 : Addr} {k1 k2 : Nat} {xs : Array Value} {ty : String} {t : Str} {tk : Tok} {x a b : Value} {c : Nat} {Q : Value → Shared → Prop}
    (nx : ∀ (s : Shared) (Q : Value → Shared → Prop) (E : Value → Shared → Prop), s.heap.IsStrIter i2 ty t tk k2 → (∀ h', h'.IsStrIter i2 ty t tk (k2 + 1) → Heap.SameBut i2 s.heap h' → Q (.str ⟨#[c]⟩ s.toks) { heap := h', gens := s.gens, drawn := s.drawn, toks := s.toks + 1, os := s.os }) → wpAny (model prog w) A (Builtin.SmallTypes.nextOf (.ref i2)) Q E s)
    (TIz : TI ≠ z) (TOz : TO ≠ z) (i1z : i1 ≠ z) (i2z : i2 ≠ z) (TITO : TI ≠ TO) (TOi1 : TO ≠ i1) (TOi2 : TO ≠ i2) (i12 : i1 ≠ i2) (l1z : l1 ≠ z)
    (hz : IsZip s.heap z TI TO .none) (hTI : IsPair s.heap TI (.ref i1) (.ref i2)) (hTO : IsPair s.heap TO a b) (h1 : s.heap.IsListIter i1 l1 k1) (h2 : s.heap.IsStrIter i2 ty t tk k2) (hl : s.heap.IsList l1 xs) (hx : xs[k1]? = some x)
    (q : ∀ h' : Heap, IsZip h' z TI TO (rawInt ↑s.heap.objs.size) → IsPair h' TO x (.str ⟨#[c]⟩ s.toks) → h'.IsListIter i1 l1 (k1 + 1) → h'.IsStrIter i2 ty t tk (k2 + 1) → IsPair h' s.heap.objs.size x (.str ⟨#[c]⟩ s.toks) → h'.objs.size = s.heap.objs.size + 1 →
      (∀ (e : Addr) (o : Obj), e ≠ z → e ≠ TO → e ≠ i1 → e ≠ i2 → s.heap.get? e = some o → h'.get? e = some o) → Q (.ref s.heap.objs.size) { heap := h', gens := s.gens, drawn := s.drawn, toks := s.toks + 1, os := s.os }) :
    wpAny (model prog w) A (Builtin.«zip.__next__» { pos := [.ref z] }) (fun fin s' => ∃ v, fin = Fin.done (Flow.ret v) ∧ Q v s') E s := by
  unfold Builtin.«zip.__next__»
  refine wpAny_bind (m := slotArgs "__next__" 0 _) (wpAny_of_eq (a := ((Value.ref z : Value), ([] : List Value))) (by first | rfl | (simp only [slotArgs]; rfl)) ?_)
  refine wpAny_bind (wpAny_field hz rfl rfl ?_)
  refine wpAny_bind (wpAny_field hz rfl rfl ?_)
  refine wpAny_bind (wpAny_seqItems hTI rfl ?_)
  refine wpAny_bind (m := Builtin.SmallTypes.ownedTupleIsFree (.ref z)) ?_
  unfold Builtin.SmallTypes.ownedTupleIsFree
  refine wpAny_bind (wpAny_field hz rfl rfl (wpAny_pure ?_))
  show wpAny _ _ (rule _ >>= _) _ _ _
  refine wpAny_bind (wpAny_rule ?_)
  refine wpAny_bind (wpAny_field hz rfl rfl ?_)
  refine wpAny_bind (wpAny_setField_rec hz (by show 0 < 5; decide) fun g1 gz1 sb1 => ?_)
  refine wpAny_bind ?_
  rw [show (#[Value.ref i1, Value.ref i2] : Array Value).toList.zipIdx = [(Value.ref i1, 0), (Value.ref i2, 1)] from rfl, List.forIn_cons]
  refine wpAny_bind (wpAny_bind (wpAny_onRaise ?_))
  show wpAny _ _ (Builtin.SmallTypes.nextOf (.ref i1) >>= fun v => pure (some v)) _ _ _
  have x1 := sb1.extBut
  have hl1 : g1.IsList l1 xs := hl.extBut x1 l1z
  refine wpAny_bind (wpAny_nextOf_list_item (h1.extBut x1 i1z) hl1 hx fun g2 it2 sb2 => ?_)
  refine wpAny_pure ?_
  have TO2 : IsPair g2 TO a b := by
    show g2.get? TO = _
    rw [sb2.2 TO TOi1, sb1.2 TO TOz]
    exact hTO
  refine wpAny_bind (wpAny_seqItems TO2 rfl ?_)
  refine wpAny_bind (wpAny_updateSeq_pair TO2 fun g3 gt3 sb3 => ?_)
  refine wpAny_bind (wpAny_letGo ?_)
  refine wpAny_pure ?_
  show wpAny _ _ (forIn [((Value.ref i2 : Value), 1)] ((none : Option PySem.Fin), ()) _) _ _ _
  rw [List.forIn_cons]
  refine wpAny_bind (wpAny_bind (wpAny_onRaise ?_))
  show wpAny _ _ (Builtin.SmallTypes.nextOf (.ref i2) >>= fun v => pure (some v)) _ _ _
  have h23 : g3.IsStrIter i2 ty t tk k2 := ((h2.extBut x1 i2z).extBut sb2.extBut i12.symm).extBut sb3.extBut TOi2.symm
  refine wpAny_bind (nx _ _ _ h23 fun g4 it4 sb4 => ?_)
  refine wpAny_pure ?_
  have TO4 : IsPair g4 TO x b := by
    show g4.get? TO = _
    rw [sb4.2 TO TOi2]
    exact gt3
  refine wpAny_bind (wpAny_seqItems TO4 rfl ?_)
  refine wpAny_bind (wpAny_updateSeq_pair TO4 fun g5 gt5 sb5 => ?_)
  refine wpAny_bind (wpAny_letGo ?_)
  refine wpAny_pure ?_
  show wpAny _ _ (forIn [] ((none : Option PySem.Fin), ()) _) _ _ _
  rw [List.forIn_nil]
  refine wpAny_pure ?_
  refine wpAny_bind (wpAny_seqItems gt5 rfl ?_)
  refine wpAny_bind (wpAny_newTuple ?_ (by show 2 ≤ sizeLine; decide))
  refine wpAny_bind ?_
  unfold Builtin.SmallTypes.ownedTupleHandOut
  have gz5 : g5.get? z = some { cls := Value.type "zip", data := Data.fields #[Value.ellipsis, Value.bool false, Value.bool false, Value.ref TI, Value.ref TO] } := by
    rw [sb5.2 z TOz.symm, sb4.2 z i2z.symm, sb3.2 z TOz.symm, sb2.2 z i1z.symm]
    exact gz1
  show wpAny _ _ (setField (.ref z) 0 (rawInt ↑g5.objs.size) >>= fun _ => setField (.ref z) 1 (.bool false)) _ _ _
  have zlt : z < g5.objs.size := Heap.lt_size gz5
  refine wpAny_bind (wpAny_setField_rec (Heap.get?_push_of_some _ gz5) (by show 0 < 5; decide) fun g6 gz6 sb6 => ?_)
  refine wpAny_setField_rec gz6 (by show 1 < 5; decide) fun g7 gz7 sb7 => ?_
  refine wpAny_pure ⟨_, rfl, ?_⟩
  have sz : g5.objs.size = s.heap.objs.size := by rw [sb5.1, sb4.1, sb3.1, sb2.1, sb1.1]
  rw [← sz] at q
  have at7 : ∀ e : Addr, e ≠ z → g7.get? e = (g5.push { cls := Value.type "tuple", data := Data.seq (#[x, b].setIfInBounds 1 (.str ⟨#[c]⟩ s.toks)).toList.toArray }).get? e := fun e he => by
    rw [sb7.2 e he, sb6.2 e he]
  refine q g7 gz7 ?_ ?_ ?_ ?_ ?_ ?_
  · show g7.get? TO = _
    rw [at7 TO TOz]
    exact Heap.get?_push_of_some _ gt5
  · have y := ((it2.extBut sb3.extBut TOi1.symm).extBut sb4.extBut i12).extBut sb5.extBut TOi1.symm
    obtain ⟨o, h, c1, c2⟩ := y
    exact ⟨o, by rw [at7 i1 i1z]; exact Heap.get?_push_of_some _ h, c1, c2⟩
  · obtain ⟨o, h, c1, c2⟩ := it4.extBut sb5.extBut TOi2.symm
    exact ⟨o, by rw [at7 i2 i2z]; exact Heap.get?_push_of_some _ h, c1, c2⟩
  · show g7.get? g5.objs.size = _
    rw [at7 _ (Nat.ne_of_gt zlt)]
    exact Heap.get?_push_size _ rfl
  · rw [sb7.1, sb6.1]
    exact Heap.size_push ..
  · intro e o n1 n2 n3 n4 he
    rw [at7 e n1]
    refine Heap.get?_push_of_some _ ?_
    rw [sb5.2 e n2, sb4.2 e n4, sb3.2 e n2, sb2.2 e n3, sb1.2 e n1]
    exact he
theorem zipS_next_end {z TI TO i1 i2 l1 : Addr} {k1 : Nat} {xs : Array Value} {Q : PySem.Fin → Shared → Prop} (hh : A.handled = none)
    (i1z : i1 ≠ z) (l1z : l1 ≠ z)
    (hz : IsZip s.heap z TI TO .none) (hTI : IsPair s.heap TI (.ref i1) (.ref i2)) (h1 : s.heap.IsListIter i1 l1 k1) (hl : s.heap.IsList l1 xs) (hx : xs[k1]? = none)
    (q : ∀ (h' : Heap) (e : Addr), (∀ (c : Addr) (o : Obj), c ≠ z → c ≠ TO → c ≠ i1 → c ≠ i2 → s.heap.get? c = some o → h'.get? c = some o) → (∃ o, h'.get? e = some o ∧ o.cls = Value.type "StopIteration") → E (.ref e) { heap := h', gens := s.gens, drawn := s.drawn, toks := s.toks, os := s.os }) :
    wpAny (model prog w) A (Builtin.«zip.__next__» { pos := [.ref z] }) Q E s := by
  unfold Builtin.«zip.__next__»
  refine wpAny_bind (m := slotArgs "__next__" 0 _) (wpAny_of_eq (a := ((Value.ref z : Value), ([] : List Value))) (by first | rfl | (simp only [slotArgs]; rfl)) ?_)
  refine wpAny_bind (wpAny_field hz rfl rfl ?_)
  refine wpAny_bind (wpAny_field hz rfl rfl ?_)
  refine wpAny_bind (wpAny_seqItems hTI rfl ?_)
  refine wpAny_bind (m := Builtin.SmallTypes.ownedTupleIsFree (.ref z)) ?_
  unfold Builtin.SmallTypes.ownedTupleIsFree
  refine wpAny_bind (wpAny_field hz rfl rfl (wpAny_pure ?_))
  show wpAny _ _ (rule _ >>= _) _ _ _
  refine wpAny_bind (wpAny_rule ?_)
  refine wpAny_bind (wpAny_field hz rfl rfl ?_)
  refine wpAny_bind (wpAny_setField_rec hz (by show 0 < 5; decide) fun g1 gz1 sb1 => ?_)
  refine wpAny_bind ?_
  rw [show (#[Value.ref i1, Value.ref i2] : Array Value).toList.zipIdx = [(Value.ref i1, 0), (Value.ref i2, 1)] from rfl, List.forIn_cons]
  refine wpAny_bind (wpAny_bind (wpAny_onRaise ?_))
  show wpAny _ _ (Builtin.SmallTypes.nextOf (.ref i1) >>= fun v => pure (some v)) _ _ _
  have x1 := sb1.extBut
  have hl1 : g1.IsList l1 xs := hl.extBut x1 l1z
  refine wpAny_bind (wpAny_nextOf_list_end hh (h1.extBut x1 i1z) hl1 hx fun g2 e x2 so => ?_)
  refine wpAny_setField_rec (x2 z _ i1z.symm gz1) (by show 0 < 5; decide) fun g3 gz3 sb3 => ?_
  refine q g3 e (fun c o n1 n2 n3 n4 hc => ?_) ?_
  · rw [sb3.2 c n1]
    refine x2 c o n3 ?_
    rw [sb1.2 c n1]
    exact hc
  · obtain ⟨o, ho, hc⟩ := so
    by_cases ez : e = z
    · subst ez
      rw [x2 e _ i1z.symm gz1] at ho
      cases ho
      exact absurd (show Value.type "zip" = Value.type "StopIteration" from hc) (by decide)
    · exact ⟨o, by rw [sb3.2 e ez]; exact ho, hc⟩
/-- how an iterator of a text goes on -/
def NxS (prog : Program) (w : World) (ty : String) : Prop := ∀ (A : Around) (E : Value → Shared → Prop) (s : Shared) (it : Addr) (x : Str) (t : Tok) (i c : Nat) (Q : Value → Shared → Prop), s.heap.IsStrIter it ty x t i → x.cps[i]? = some c →
  (∀ h' : Heap, h'.IsStrIter it ty x t (i + 1) → Heap.SameBut it s.heap h' → Q (.str ⟨#[c]⟩ s.toks) { heap := h', gens := s.gens, drawn := s.drawn, toks := s.toks + 1, os := s.os }) → wpAny (model prog w) A (Builtin.SmallTypes.nextOf (.ref it)) Q E s
theorem nxs_ascii : NxS prog w "str_ascii_iterator" := fun _ _ _ _ _ _ _ _ _ h1 h2 h3 => wpAny_nextOf_ascii_item h1 h2 h3
theorem nxs_wide : NxS prog w "str_iterator" := fun _ _ _ _ _ _ _ _ _ h1 h2 h3 => wpAny_nextOf_wide_item h1 h2 h3
theorem pyNext_zipS_item {z TI TO i1 i2 l1 : Addr} {k1 : Nat} {xs : Array Value} {ty : String} {t : Str} {tk : Tok} {x a b : Value} {c : Nat} {Q : Option Value → Shared → Prop}
    (nx : NxS prog w ty) (D : ZipApart z TI TO i1 i2 l1 l1)
    (hz : IsZip s.heap z TI TO .none) (hTI : IsPair s.heap TI (.ref i1) (.ref i2)) (hTO : IsPair s.heap TO a b) (h1 : s.heap.IsListIter i1 l1 k1) (h2 : s.heap.IsStrIter i2 ty t tk k1) (hl : s.heap.IsList l1 xs) (hx : xs[k1]? = some x) (hc : t.cps[k1]? = some c)
    (q : ∀ h' : Heap, IsZip h' z TI TO (rawInt ↑s.heap.objs.size) → IsPair h' TO x (.str ⟨#[c]⟩ s.toks) → h'.IsListIter i1 l1 (k1 + 1) → h'.IsStrIter i2 ty t tk (k1 + 1) → IsPair h' s.heap.objs.size x (.str ⟨#[c]⟩ s.toks) → h'.objs.size = s.heap.objs.size + 1 →
      (∀ (e : Addr) (o : Obj), e ≠ z → e ≠ TO → e ≠ i1 → e ≠ i2 → s.heap.get? e = some o → h'.get? e = some o) → Q (some (.ref s.heap.objs.size)) { heap := h', gens := s.gens, drawn := s.drawn, toks := s.toks + 1, os := s.os }) :
    wpAny (model prog w) A (pyNext (.ref z)) Q E s := by
  have hT : s.TypeIs (.ref z) "zip" := ⟨_, hz, rfl⟩
  unfold pyNext
  exact wpAny_bind (wpAny_attempt (wpAny_callSpecial?_slot hT F.slot_zip_next (wpAny_call_entry F.slot_zip_next hT F.entry_zip_next
    (zipS_next_item (fun s Q E h k => nx _ E s i2 t tk k1 c Q h hc k) D.TIz D.TOz D.i1z D.i2z D.TITO D.TOi1 D.TOi2 D.i12 D.l1z hz hTI hTO h1 h2 hl hx fun h' a1 a2 a3 a4 a5 a6 a7 => wpAny_pure (q h' a1 a2 a3 a4 a5 a6 a7)) (F.args_zip_next_1 (.ref z)))))
theorem pyNext_zipS_end {z TI TO i1 i2 l1 : Addr} {k1 : Nat} {xs : Array Value} {Q : Option Value → Shared → Prop} (hh : A.handled = none) (D : ZipApart z TI TO i1 i2 l1 l1)
    (hz : IsZip s.heap z TI TO .none) (hTI : IsPair s.heap TI (.ref i1) (.ref i2)) (h1 : s.heap.IsListIter i1 l1 k1) (hl : s.heap.IsList l1 xs) (hx : xs[k1]? = none)
    (q : ∀ h' : Heap, (∀ (c : Addr) (o : Obj), c ≠ z → c ≠ TO → c ≠ i1 → c ≠ i2 → s.heap.get? c = some o → h'.get? c = some o) → Q none { heap := h', gens := s.gens, drawn := s.drawn, toks := s.toks, os := s.os }) :
    wpAny (model prog w) A (pyNext (.ref z)) Q E s := by
  have hT : s.TypeIs (.ref z) "zip" := ⟨_, hz, rfl⟩
  unfold pyNext
  exact wpAny_bind (wpAny_attempt (wpAny_callSpecial?_slot hT F.slot_zip_next (wpAny_call_entry F.slot_zip_next hT F.entry_zip_next
    (zipS_next_end hh D.i1z D.l1z hz hTI h1 hl hx fun h' e hk he => by
      obtain ⟨o, ho, hc⟩ := he
      exact wpAny_bind (wpAny_isInstance ⟨o, ho, hc⟩ isSubtype_stop (wpAny_pure (q h' hk)))) (F.args_zip_next_1 (.ref z)))))
def zsH1 (h : Heap) (l1 : Addr) : Heap := h.push { cls := .type "list_iterator", data := .fields #[.ref l1, .int 0 0] }
def zsH2 (h : Heap) (l1 : Addr) (x : Str) (t : Tok) : Heap := (zsH1 h l1).push { cls := .type "str_ascii_iterator", data := .fields #[.str x t, .int 0 0] }
def zsH3 (h : Heap) (l1 : Addr) (x : Str) (t : Tok) : Heap := (zsH2 h l1 x t).push { cls := .type "tuple", data := .seq #[.ref h.objs.size, .ref (zsH1 h l1).objs.size] }
def zsH4 (h : Heap) (l1 : Addr) (x : Str) (t : Tok) : Heap := (zsH3 h l1 x t).push { cls := .type "tuple", data := .seq #[.none, .none] }
def zsH5 (h : Heap) (l1 : Addr) (x : Str) (t : Tok) : Heap := (zsH4 h l1 x t).push { cls := .type "zip", data := .fields #[.none, .bool false, .bool false, .ref (zsH2 h l1 x t).objs.size, .ref (zsH3 h l1 x t).objs.size] }
end
theorem meets_zipS_new (l1 : Addr) (x : Str) (t : Tok) (xs : Array Value) (ha : (x.cps.all fun c => decide (c < 128)) = true) : Meets (Builtin.«zip.__new__» { pos := [.type "zip", .ref l1, .str x t] }) fun _ R s =>
    s.heap.IsList l1 xs ∧ R (Except.ok (Flow.ret (.ref (zsH4 s.heap l1 x t).objs.size))) { heap := zsH5 s.heap l1 x t, gens := s.gens, drawn := s.drawn, toks := s.toks, os := s.os } :=
  Meets.of_wp fun prog w A R s h => by
    obtain ⟨hp, g, d, tk, os⟩ := s
    obtain ⟨hl1, hR⟩ := h
    unfold Builtin.«zip.__new__»
    refine wpAny_bind ?_
    unfold Builtin.SmallTypes.newClass
    refine wpAny_bind (m := isType _) (wpAny_pure ?_)
    refine wpAny_ite_false rfl ?_
    refine wpAny_bind (wpAny_of_eq sub_zip (wpAny_ite_false rfl (wpAny_pure ?_)))
    refine wpAny_ite_false rfl ?_
    refine wpAny_bind (m := Builtin.SmallTypes.iterAll _) ?_
    unfold Builtin.SmallTypes.iterAll
    refine wpAny_bind ?_
    rw [List.forIn_cons]
    refine wpAny_bind (wpAny_bind (wpAny_holding (wpAny_pyIter_list hl1 (wpAny_pure ?_))))
    show wpAny _ _ (forIn [Value.str x t] _ _) _ _ _
    rw [List.forIn_cons]
    refine wpAny_bind (wpAny_bind (wpAny_holding (wpAny_pyIter_ascii ha (wpAny_pure ?_))))
    show wpAny _ _ (forIn [] _ _) _ _ _
    rw [List.forIn_nil]
    refine wpAny_pure (wpAny_pure ?_)
    refine wpAny_bind (wpAny_newTuple ?_ (by show 2 ≤ sizeLine; decide))
    refine wpAny_bind (wpAny_newTuple ?_ (by show 2 ≤ sizeLine; decide))
    refine wpAny_bind ?_
    unfold Builtin.SmallTypes.newRecord
    show wpAny _ _ (newObj _ _) _ _ _
    unfold newObj
    refine wpAny_bind (wpAny_alloc' ?_)
    refine wpAny_pure ?_
    exact wpAny_pure ⟨_, rfl, hR⟩
theorem call_zipS {prog : Program} {w : World} {A : Around} {E : Value → Shared → Prop} {s : Shared} {l1 : Addr} {xs : Array Value} {x : Str} {t : Tok} {Q : Value → Shared → Prop} (ha : (x.cps.all fun c => decide (c < 128)) = true) (hl1 : s.heap.IsList l1 xs)
    (h : ∀ h' : Heap, IsZip h' (s.heap.objs.size + 4) (s.heap.objs.size + 2) (s.heap.objs.size + 3) .none → IsPair h' (s.heap.objs.size + 2) (.ref s.heap.objs.size) (.ref (s.heap.objs.size + 1)) → IsPair h' (s.heap.objs.size + 3) .none .none → h'.IsListIter s.heap.objs.size l1 0 →
      h'.IsStrIter (s.heap.objs.size + 1) "str_ascii_iterator" x t 0 → h'.objs.size = s.heap.objs.size + 5 → (∀ (c : Addr) (o : Obj), s.heap.get? c = some o → h'.get? c = some o) → Q (.ref (s.heap.objs.size + 4)) { heap := h', gens := s.gens, drawn := s.drawn, toks := s.toks, os := s.os }) :
    wpAny (model prog w) A (call (.type "zip") [.ref l1, .str x t]) Q E s := by
  have z1 : (zsH1 s.heap l1).objs.size = s.heap.objs.size + 1 := Heap.size_push ..
  have z2 : (zsH2 s.heap l1 x t).objs.size = s.heap.objs.size + 2 := (Heap.size_push ..).trans (by rw [z1])
  have z3 : (zsH3 s.heap l1 x t).objs.size = s.heap.objs.size + 3 := (Heap.size_push ..).trans (by rw [z2])
  have z4 : (zsH4 s.heap l1 x t).objs.size = s.heap.objs.size + 4 := (Heap.size_push ..).trans (by rw [z3])
  have z5 : (zsH5 s.heap l1 x t).objs.size = s.heap.objs.size + 5 := (Heap.size_push ..).trans (by rw [z4])
  have g5 : (zsH5 s.heap l1 x t).get? (zsH4 s.heap l1 x t).objs.size = _ := Heap.get?_push_size _ rfl
  have g4 : (zsH5 s.heap l1 x t).get? (zsH3 s.heap l1 x t).objs.size = _ := Heap.get?_push_of_some _ (Heap.get?_push_size _ rfl)
  have g3 : (zsH5 s.heap l1 x t).get? (zsH2 s.heap l1 x t).objs.size = _ := Heap.get?_push_of_some _ (Heap.get?_push_of_some _ (Heap.get?_push_size _ rfl))
  have g2 : (zsH5 s.heap l1 x t).get? (zsH1 s.heap l1).objs.size = _ := Heap.get?_push_of_some _ (Heap.get?_push_of_some _ (Heap.get?_push_of_some _ (Heap.get?_push_size _ rfl)))
  have g1 : (zsH5 s.heap l1 x t).get? s.heap.objs.size = _ := Heap.get?_push_of_some _ (Heap.get?_push_of_some _ (Heap.get?_push_of_some _ (Heap.get?_push_of_some _ (Heap.get?_push_size _ rfl))))
  have gk : ∀ (c : Addr) (o : Obj), s.heap.get? c = some o → (zsH5 s.heap l1 x t).get? c = some o := fun c o e => Heap.get?_push_of_some _ (Heap.get?_push_of_some _ (Heap.get?_push_of_some _ (Heap.get?_push_of_some _ (Heap.get?_push_of_some _ e))))
  rw [z1] at g2 g3
  rw [z2] at g3 g5
  rw [z3] at g4 g5
  rw [z4] at g5
  refine callType_new F.called_zip (by decide) (F.typeCall_zip_2 (.ref l1) (.str x t)) (F.newCall_zip_2 (.ref l1) (.str x t)) (fun obj => F.args_object_init_3 obj (.ref l1) (.str x t)) F.entry_zip_new (meets_zipS_new l1 x t xs ha) ⟨hl1, ?_⟩
  show Shared.TypeIs _ (.ref (zsH4 s.heap l1 x t).objs.size) "zip" ∧ Q (.ref (zsH4 s.heap l1 x t).objs.size) _
  rw [z4]
  exact ⟨⟨_, g5, rfl⟩, h _ g5 g3 g4 ⟨_, g1, rfl, rfl⟩ ⟨_, g2, rfl, rfl⟩ z5 gk⟩
/-! ### for one, sign in zip(a list, a text) -/
def ItzS (K : PySem.W.Frag) (a : Addr) (z : Str) : It where
  go i H := ∃ xs x c, SqL K H a xs ∧ xs[i]? = some x ∧ z.cps[i]? = some c
  yld i H v H' := ∃ T x c, v = V.ref T ∧ H T = none ∧ H' = upd H T (.tup [x, .str ⟨#[c]⟩]) ∧ (∀ xs, SqL K H a xs → xs[i]? = some x) ∧ z.cps[i]? = some c
  stop i H := ∃ xs, SqL K H a xs ∧ xs.length ≤ i
theorem walk_zipS {K : PySem.W.Frag} {a : Addr} {xs : List V} {z : Str} (le : xs.length = z.cps.size) :
    Walk (ItzS K a z) xs.length (fun H => SqL K H a xs) (fun i H v H' => ∃ T x c, v = V.ref T ∧ H T = none ∧ H' = upd H T (.tup [x, .str ⟨#[c]⟩]) ∧ xs[i]? = some x ∧ z.cps[i]? = some c) where
  goes i H hi h := ⟨xs, _, _, h, List.getElem?_eq_getElem hi, Array.getElem?_eq_getElem (by omega)⟩
  stops H h := ⟨xs, h, Nat.le_refl _⟩
  yields i H v H' hi h y := by
    obtain ⟨T, x, c, e1, e2, e3, e4, e5⟩ := y
    exact ⟨T, x, c, e1, e2, e3, e4 xs h, e5⟩
theorem turn_zipS {P : Program} {w : World} {K : PySem.W.Frag} {elts : List Expr} {kk : Nat} {tpos : Pos} {a z TI TO i1 i2 : Addr} {x : Str} {t : Tok} (D : ZipApart z TI TO i1 i2 a a) :
    Turn P w K (Expr.Tuple elts kk tpos) (ItzS K a x) [z, TI, TO, i1, i2] z fun i h => IsZip h z TI TO .none ∧ IsPair h TI (.ref i1) (.ref i2) ∧ (∃ x y, IsPair h TO x y) ∧ h.IsListIter i1 a i ∧ h.IsStrIter i2 "str_ascii_iterator" x t i where
  mem := by simp
  obj i h st c hc := by
    obtain ⟨hz, hTI, ⟨u, v, hTO⟩, ⟨o1, e1, _, d1⟩, ⟨o2, e2, _, d2⟩⟩ := st
    simp only [List.mem_cons, List.not_mem_nil, or_false] at hc
    rcases hc with rfl | rfl | rfl | rfl | rfl
    · exact ⟨_, hz, fun v q => nomatch q⟩
    · exact ⟨_, hTI, fun v q => nomatch q⟩
    · exact ⟨_, hTO, fun v q => nomatch q⟩
    · exact ⟨_, e1, fun v q => by rw [d1] at q; cases q⟩
    · exact ⟨_, e2, fun v q => by rw [d2] at q; cases q⟩
  keep i h h' st k := by
    obtain ⟨hz, hTI, ⟨u, v, hTO⟩, ⟨o1, e1, c1, d1⟩, ⟨o2, e2, c2, d2⟩⟩ := st
    exact ⟨k z (by simp) _ hz, k TI (by simp) _ hTI, ⟨u, v, k TO (by simp) _ hTO⟩, ⟨o1, k i1 (by simp) _ e1, c1, d1⟩, ⟨o2, k i2 (by simp) _ e2, c2, d2⟩⟩
  item X hP hw hK hc i pins s σ H E I hf st hg := by
    subst hP
    subst hw
    subst hK
    obtain ⟨hz, hTI, ⟨x0, y0, hTO⟩, h1, h2⟩ := st
    obtain ⟨xs, v, c, hq, hx, hcx⟩ := hg
    obtain ⟨its, rv, p, _⟩ := I.list hq
    obtain ⟨u, hu, ru⟩ := rv.get hx
    have hzl := Heap.lt_size hz
    refine pyNext_zipS_item nxs_ascii D hz hTI hTO h1 h2 p.isList (by rw [List.getElem?_toArray]; exact hu) hcx fun h' z' TO' h1' h2' hT hsz hk => ?_
    refine ⟨.ref s.heap.objs.size, rfl, wpAny_letOwnedTupleGo_zip z' fun h'' z'' sb => ?_⟩
    have hT2 : h''.get? s.heap.objs.size = _ := (sb.2 s.heap.objs.size (Nat.ne_of_gt hzl)).trans hT
    have new : ObjOk X.prog X.w (upd H s.heap.objs.size (.tup [v, .str ⟨#[c]⟩])) h'' s.heap.objs.size (.tup [v, .str ⟨#[c]⟩]) := ⟨by show 2 ≤ sizeLine; decide, [u, .str ⟨#[c]⟩ s.toks], .cons ru (.cons ⟨_, rfl⟩ .nil), ⟨_, hT2, rfl, 0, rfl⟩⟩
    have I1 := I.turnedNew (h' := h'') (t' := s.toks + 1) (ch := [z, TI, TO, i1, i2]) (T := s.heap.objs.size) (ob := .tup [v, .str ⟨#[c]⟩]) (fun e o hb q => by
      simp only [List.mem_cons, List.not_mem_nil, or_false, not_or] at hb
      rw [sb.2 e hb.1]
      exact hk e o hb.1 hb.2.2.1 hb.2.2.2.1 hb.2.2.2.2 q) hf (Nat.le_refl _) new
    have fr : H s.heap.objs.size = none := I.hok.fresh (Nat.le_refl _)
    have lt : ∀ b : Addr, b ∈ [z, TI, TO, i1, i2] → b ≠ s.heap.objs.size := fun b hb => by
      simp only [List.mem_cons, List.not_mem_nil, or_false] at hb
      obtain ⟨o1, e1, _⟩ := h1
      obtain ⟨o2, e2, _⟩ := h2
      rcases hb with rfl | rfl | rfl | rfl | rfl
      · exact Nat.ne_of_lt hzl
      · exact Nat.ne_of_lt (Heap.lt_size hTI)
      · exact Nat.ne_of_lt (Heap.lt_size hTO)
      · exact Nat.ne_of_lt (Heap.lt_size e1)
      · exact Nat.ne_of_lt (Heap.lt_size e2)
    refine ⟨.ref _, _, I1, rfl, ⟨_, v, c, rfl, fr, rfl, fun xs2 q2 => by rw [I.list_inj q2 hq]; exact hx, hcx⟩, ⟨z'', (sb.2 TI D.TIz).trans (hk TI _ D.TIz D.TITO D.TIi1 D.TIi2 hTI), ⟨_, _, (sb.2 TO D.TOz).trans TO'⟩, h1'.extBut sb.extBut D.i1z, h2'.extBut sb.extBut D.i2z⟩, fun b hb => ?_⟩
    rw [upd_ne (lt b hb)]
    exact (hf b hb).1
  done X hP hw hK hc i pins s σ H E I hf st hg := by
    subst hP
    subst hw
    subst hK
    obtain ⟨hz, hTI, _, h1, h2⟩ := st
    obtain ⟨xs, hq, hle⟩ := hg
    obtain ⟨its, rv, p, _⟩ := I.list hq
    have hl := rv.length
    refine pyNext_zipS_end (I.ok.hd hc) D hz hTI h1 p.isList (by rw [List.getElem?_toArray]; exact List.getElem?_eq_none (by omega)) fun h' hk => ⟨rfl, I.turnedL (ch := [z, TI, TO, i1, i2]) (fun e o hb q => ?_) hf⟩
    simp only [List.mem_cons, List.not_mem_nil, or_false, not_or] at hb
    exact hk e o hb.1 hb.2.2.1 hb.2.2.2.1 hb.2.2.2.2 q
  self A i s Q E st h := wpAny_pyIter_zip st.1 h
def iZipS (K : PySem.W.Frag) (ta : TA) : TI := fun σ H R => ta σ H fun vs H1 => ∃ a xs z, vs = [V.ref a, .str z] ∧ SqL K H1 a xs ∧ (z.cps.all fun c => decide (c < 128)) = true ∧ R (ItzS K a z) H1
theorem pi_zipS {X : Cx} {e e2 : Expr} {ta : TA} {p pos tpos : Pos} {elts : List Expr} {kk : Nat} (hg : Gl X "zip") (hm : X.mg "zip" = none) (ha : PA X [e, e2] ta)
    (hs : starEach [e, e2] X.env = (false, eval e X.env) :: starEach [e2] X.env := by rfl) (hpl : (backTo pos (starEach [e2] X.env)).any (·.1) = false := by rfl) :
    PI X (.Tuple elts kk tpos) (.Call (.Name "zip" p) [e, e2] [] pos) (iZipS X.K ta) := by
  refine ⟨fun pins s σ H R I h => ?_⟩
  refine Call_ (ld_blt I hg hm boot_zip (PyProof.Rows.callWith_type1 (thn (ha.run pos pins s σ H _ I h) fun us s1 ⟨vs, H1, I1, r1, q1⟩ => ?_) hs hpl))
  obtain ⟨a, xs, z, ev, hq, hz, q⟩ := q1
  subst ev
  cases r1 with
  | cons r rr =>
    cases rr with
    | cons r' rr =>
      cases rr
      obtain ⟨t', rfl⟩ := r'
      cases (show _ = Value.ref a from r)
      obtain ⟨its, rv, pl, _⟩ := I1.list hq
      refine call_zipS hz pl.isList fun h' a1 a2 a3 a4 a5 a6 a7 => wpAny_pyIter_zip a1 ?_
      have fp : ∀ b : Addr, b ∈ [s1.heap.objs.size + 4, s1.heap.objs.size + 2, s1.heap.objs.size + 3, s1.heap.objs.size, s1.heap.objs.size + 1] → s1.heap.objs.size ≤ b := fun b hb => by
        simp only [List.mem_cons, List.not_mem_nil, or_false] at hb
        rcases hb with rfl | rfl | rfl | rfl | rfl <;> omega
      exact ⟨_, _, _, ItzS X.K a z, H1, rfl, I1.kept (t' := s1.toks) a7, turn_zipS (W.ktu_apart _ a a pl.lt pl.lt), ⟨a1, a2, ⟨_, _, a3⟩, a4, a5⟩, fun b hb => I1.fpOk (fp b hb) (I1.hok.fresh (fp b hb)), q⟩
end Lp
set_option Elab.async false
set_option linter.all false
set_option maxRecDepth 100000
namespace Lp
open PySem PySem.Spec PyProof.Rows L2
/-! ### set(a list of ints) -/
theorem call_set_listI {P : Program} {w : World} {A : Around} {E : Value → Shared → Prop} {s : Shared} {l : Addr} {items : Array Value} (ns : List Int) {Q : Value → Shared → Prop} (hh : A.handled = none) (hl : s.heap.IsList l items) (hit : IntsAre items.toList ns) (hb : ns.length + 1 < scanBound)
    (h : ∀ (h' : Heap) (tk c : Nat), SetR w h' s.heap.objs.size (fun j => decide (j ∈ ns)) c → c ≤ ns.length → (∀ (b : Addr) (o : Obj), s.heap.get? b = some o → h'.get? b = some o) → Q (.ref s.heap.objs.size) { heap := h', gens := s.gens, drawn := s.drawn, toks := tk, os := s.os }) :
    wpAny (model P w) A (call (.type "set") [.ref l]) Q E s := by
  have hisz : items.size = ns.length := by
    have q := hit.length
    rwa [Array.length_toList] at q
  obtain ⟨c, tl, hmro⟩ := F.called_set.mro
  have hmade := F.called_set.made
  have hsub := F.called_set.sub
  refine wpAny_call (codeAny_of_tree ?_)
  refine wpAny_pure ⟨Code.quiet_builtin _ (by decide +kernel), codeAny_builtin F.entry_type_call ?_⟩
  rw [Around.under_plain (weight_type_call_type "set" [.ref l] []) rfl]
  have h1 := F.called_set.notType
  have h2 := F.called_set.canCreate
  have hct := F.typeCall_set_1 (.ref l)
  unfold Builtin.«type.__call__»
  refine wpAny_ite_false rfl (wpAny_ite_false rfl ?_)
  refine wpAny_bind (wpAny_of_eq hct ?_)
  refine wpAny_bind (wpAny_of_eq hmro (wpAny_ite_false rfl ?_))
  refine wpAny_bind (wpAny_of_eq hmade ?_)
  refine wpAny_bind (wpAny_pure (wpAny_bind (wpAny_holding (wpAny_call (codeAny_mono (code_set_led1 (.ref l) (Q₁ := fun obj s₁ => obj = .ref s.heap.objs.size ∧ s₁ = { heap := s.heap.push { cls := .type "set", data := .set #[] 0 (SetTable.fresh 0 0 !w.params.followText "set-order") }, gens := s.gens, drawn := s.drawn, toks := s.toks, os := s.os }) (E := E) ⟨rfl, rfl⟩) fun r s₁ hr => ?_)))))
  cases r with
  | error e => exact hr
  | ok fl =>
    cases fl with
    | next => exact hr.elim
    | brk => exact hr.elim
    | cont => exact hr.elim
    | ret v =>
      obtain ⟨rfl, rfl⟩ := hr
      have hS : (s.heap.push { cls := .type "set", data := .set #[] 0 (SetTable.fresh 0 0 !w.params.followText "set-order") }).get? s.heap.objs.size = _ := Heap.get?_push_size s.heap rfl
      have hT : Shared.TypeIs { heap := s.heap.push { cls := .type "set", data := .set #[] 0 (SetTable.fresh 0 0 !w.params.followText "set-order") }, gens := s.gens, drawn := s.drawn, toks := s.toks, os := s.os } (.ref s.heap.objs.size) "set" := ⟨_, hS, rfl⟩
      have hli := F.called_set.init.lookup
      have hbi := F.called_set.init.bind (.ref s.heap.objs.size)
      refine wpAny_bind (wpAny_isInstance hT hsub (wpAny_ite_false rfl (wpAny_bind (wpAny_holding ?_))))
      unfold callSpecial?
      refine wpAny_bind (wpAny_specialOf hT hli (wpAny_holding (wpAny_bind (wpAny_of_eq hbi (wpAny_bind (wpAny_call (codeAny_mono (R := wants (fun r s₂ => r = Value.none ∧ ∃ h' tk c, s₂ = { heap := h', gens := s.gens, drawn := s.drawn, toks := tk, os := s.os } ∧ SetR w h' s.heap.objs.size (fun j => decide (j ∈ ns)) c ∧ c ≤ ns.length ∧ ∀ (b : Addr) (o : Obj), s.heap.get? b = some o → h'.get? b = some o) E) (codeAny_call_builtin F.called_set.init.plain F.entry_set_init (check_set_init_1 hT ?_)) fun r s₂ hr => ?_)))))))
      · obtain ⟨ol, hol, hcl, nl, hdl⟩ := hl
        obtain ⟨ocls, odict, odata, oslots⟩ := ol
        cases (show ocls = Value.type "list" from hcl)
        cases (show odata = Data.seq items nl from hdl)
        have hol' := Heap.get?_push_of_some { cls := .type "set", data := .set #[] 0 (SetTable.fresh 0 0 !w.params.followText "set-order") } hol
        have hsls := F.sub_list_set
        have hslf := F.sub_list_frozenset
        have hl1 : (s.heap.push { cls := .type "set", data := .set #[] 0 (SetTable.fresh 0 0 !w.params.followText "set-order") }).IsList l items := ⟨_, hol', rfl, nl, rfl⟩
        unfold Builtin.«set.__init__»
        refine wpAny_bind (wpAny_ite_true rfl (wpAny_pure ?_))
        refine wpAny_bind (wpAny_bind (wpAny_bind (wpAny_typeOf hT (wpAny_ite_false rfl (wpAny_pure (wpAny_pure ?_))))))
        refine wpAny_bind ?_
        unfold checkCount
        refine wpAny_ite_false rfl (wpAny_ite_false rfl (wpAny_ite_false rfl (wpAny_pure ?_)))
        refine wpAny_bind ?_
        unfold Builtin.Frozenset.addrOf
        refine wpAny_pure ?_
        refine wpAny_bind ?_
        unfold setUsed
        refine wpAny_bind ?_
        unfold setState
        refine wpAny_bind (wpAny_load' hS (wpAny_ite_false rfl (wpAny_pure (wpAny_pure (wpAny_ite_false rfl ?_)))))
        refine wpAny_bind ?_
        unfold Builtin.Frozenset.updateFrom
        refine wpAny_bind ?_
        unfold Builtin.Frozenset.isAnySet
        refine wpAny_bind (m := isInstance (.ref l) (.type "set")) (wpAny_isInstance hl1.typeIs hsls ?_)
        show wpAny _ _ (isInstance (.ref l) (.type "frozenset")) _ _ _
        refine wpAny_isInstance hl1.typeIs hslf ?_
        refine wpAny_ite_false rfl ?_
        refine wpAny_bind (wpAny_typeOf hl1.typeIs (wpAny_ite_false rfl ?_))
        refine wpAny_bind (wpAny_pyIter_list hl1 ?_)
        refine wpAny_bind (wpAny_runValue ?_)
        have hlS := Heap.lt_size hol
        have hneI : l ≠ (s.heap.push { cls := .type "set", data := .set #[] 0 (SetTable.fresh 0 0 !w.params.followText "set-order") }).objs.size := by
          rw [Heap.size_push]
          exact Nat.ne_of_lt (Nat.lt_succ_of_lt hlS)
        have hSf : ¬ s.heap.objs.size ∈ [(s.heap.push { cls := .type "set", data := .set #[] 0 (SetTable.fresh 0 0 !w.params.followText "set-order") }).objs.size, l] := by
          rw [Heap.size_push]
          intro hm
          rcases List.mem_cons.mp hm with e | e
          · exact Nat.ne_of_lt (Nat.lt_succ_self _) e
          · exact Nat.ne_of_gt hlS (List.mem_singleton.mp e)
        have hval : ∀ (i : Nat) (v : Value), items[i]? = some v → ∃ k t, ns[i]? = some k ∧ v = Value.int k t := fun i v hv => by
          have hi : i < ns.length := by
            rw [← hisz]
            exact (Array.getElem?_eq_some_iff.mp hv).1
          obtain ⟨t, e⟩ := hit.int_at i v (by rw [Array.getElem?_toList]; exact hv)
          exact ⟨ns[i], t, List.getElem?_eq_getElem hi, by rw [e, List.getD_eq_getElem?_getD, List.getElem?_eq_getElem hi]; rfl⟩
        refine set_update_ints (Walks.toS (Walks.list (A := A.in1.in1.in1) (show A.in1.in1.in1.handled = none from hh) _ l hneI items)) s.heap.objs.size hSf ns hisz hb hval (items.size - 0) 0 _ rfl (Nat.zero_le _) ⟨⟨_, Heap.get?_push_size _ rfl, rfl, rfl⟩, hl1.push _⟩ ⟨0, Nat.le_refl 0, setR_new_at (Heap.get?_push_of_some _ hS)⟩ fun s' c' hm hc' hS' => ?_
        obtain ⟨h', g2, d', tk', os'⟩ := s'
        have eg := hm.gens
        have ed := hm.drawn
        have eo := hm.os
        cases eg
        cases ed
        cases eo
        have hk : ∀ (b : Addr) (o : Obj), s.heap.get? b = some o → h'.get? b = some o := fun b o e => by
          have hlt := Heap.lt_size e
          refine hm.heap b o ?_ (Heap.get?_push_of_some _ (Heap.get?_push_of_some _ e))
          intro hb'
          rcases List.mem_cons.mp hb' with e1 | e1
          · exact Nat.ne_of_lt hlt e1
          · rw [List.mem_singleton] at e1
            have e2 : b = s.heap.objs.size + 1 := e1.trans (Heap.size_push ..)
            rw [e2] at hlt
            exact absurd hlt (Nat.not_lt_of_le (Nat.le_succ _))
        exact wpAny_pure (wpAny_pure ⟨rfl, h', tk', c', rfl, hS', by rw [← hisz]; exact hc', hk⟩)
      · cases r with
        | error e => exact hr
        | ok fl =>
          cases fl with
          | next => exact hr.elim
          | brk => exact hr.elim
          | cont => exact hr.elim
          | ret v =>
            obtain ⟨rfl, h', tk, c', rfl, hs, hc, hk⟩ := hr
            exact wpAny_pure (wpAny_ite_false rfl (wpAny_pure (h h' tk c' hs hc hk)))
def rSetL (K : PySem.W.Frag) (w : World) : List V → Hp → VK → Prop := fun xs H Q => ∃ (a : Addr) (ns : List Int), xs = [V.ref a] ∧ SqL K H a (ns.map V.int) ∧ ns.length ≤ 60 ∧ ∀ (p : Addr) (c : Nat), H p = none → c ≤ ns.length → Q (.ref p) (upd H p (SetO w p (fun j => decide (j ∈ ns)) c))
theorem cr_setL {X : Cx} (hc : X.calm = true) : CallR X (.type "set") (rSetL X.K X.w) := by
  intro pins s σ H xs us Q I r h
  obtain ⟨a, ns, rfl, hq, hl, q⟩ := h
  cases r with
  | cons r rr =>
    cases rr
    cases (show _ = Value.ref a from r)
    obtain ⟨its, rv, p, _⟩ := I.list hq
    refine call_set_listI ns (I.ok.hd hc) p.isList (RZ.intsAre_vals rv) (Nat.lt_of_le_of_lt (Nat.succ_le_succ hl) (by decide)) fun h' tk c hs hcn hk => ?_
    refine ⟨.ref _, upd H _ (SetO X.w s.heap.objs.size (fun j => decide (j ∈ ns)) c), I.laid hk (Nat.le_refl _) ⟨hs, ?_, fun h1 h2 x k => ?_⟩, rfl, q _ c (I.hok.fresh (Nat.le_refl _)) hcn⟩
    · obtain ⟨o, _, _, _, e, _⟩ := hs
      exact ⟨o, e⟩
    · obtain ⟨o, es, ep, t, e, r⟩ := x
      exact ⟨o, es, ep, t, k o e, r⟩
theorem op_ltLL {X : Cx} (hu : X.A.units + 64 < cLine) : OpR X (compareOp .Lt) (fun x y H Q => ∃ (a b : Addr) (xs ys : List Int), x = V.ref a ∧ y = V.ref b ∧ SqL X.K H a (xs.map V.int) ∧ SqL X.K H b (ys.map V.int) ∧ Q (.bl (HT.lexLt xs ys)) H) := by
  intro pins s σ H x y v u Q I r1 r2 h
  obtain ⟨a, b, xs, ys, rfl, rfl, h1, h2, q⟩ := h
  cases (show v = Value.ref a from r1)
  cases (show u = Value.ref b from r2)
  obtain ⟨its, rv, p, _⟩ := I.list h1
  obtain ⟨its2, rv2, p2, _⟩ := I.list h2
  have ia := RZ.intsAre_vals rv
  have ib := RZ.intsAre_vals rv2
  have l1 := ia.length
  have l2 := ib.length
  show wpAny _ _ (richCompare .Lt _ _) _ _ s
  refine SeqAt.RcLt.lists (e := fun j => xs.getD j 0 == ys.getD j 0) (r := fun j => decide (xs.getD j 0 < ys.getD j 0)) p.isList p2.isList (by omega) (fun j h1 h2 => ?_) (fun j h1 h2 _ => ?_) _ _ _ _ ?_
  · obtain ⟨t, e⟩ := ints_at ia j (by simpa using h1)
    obtain ⟨t', e'⟩ := ints_at ib j (by simpa using h2)
    rw [List.getElem_toArray, List.getElem_toArray, e, e']
    exact SeqAt.EqAt.int_int _ t _ t'
  · obtain ⟨t, e⟩ := ints_at ia j (by simpa using h1)
    obtain ⟨t', e'⟩ := ints_at ib j (by simpa using h2)
    rw [List.getElem_toArray, List.getElem_toArray, e, e']
    exact rcLt_int _ _ _ t _ t'
  · rw [List.size_toArray, List.size_toArray, l1, l2, first_lex]
    exact ⟨.bl _, H, I, rfl, q⟩
end Lp
set_option Elab.async false
set_option linter.all false
set_option maxRecDepth 100000
namespace Lp
open PySem PySem.Spec PyProof.Rows L2
/-! ### a space, so many times -/
def spc (n : Nat) : Str := ⟨(List.replicate n 32).toArray⟩
theorem spc1 : spc 1 = (" " : Str) := by decide +kernel
theorem spc_len (n : Nat) : (spc n).length = n := by
  show ((List.replicate n 32).toArray).size = n
  rw [List.size_toArray, List.length_replicate]
section
variable {X : Cx}
theorem op_repB : OpR X (binaryOp .Mult) (fun x y H Q => ∃ n : Nat, x = .str (" " : Str) ∧ y = .int (n : Int) ∧ n ≤ 1000 ∧ Q (.str (spc n)) H) := by
  intro pins s σ H x y v u Q I r1 r2 h
  obtain ⟨n, e1, e2, hn, q⟩ := h
  subst e1; subst e2
  obtain ⟨t, rfl⟩ := r1
  obtain ⟨t', rfl⟩ := r2
  have hz : (" " : Str).length = 1 := by decide +kernel
  have hc : (" " : Str).cps = [32].toArray := by decide +kernel
  refine PySem.P.mul_str ?_ (fun c _ => ?_) (fun _ _ => ?_) ?_
  · rw [decide_eq_false (show ¬ (n : Int) < -(2 ^ 63 : Int) by omega), decide_eq_false (show ¬ (n : Int) ≥ 2 ^ 63 by omega)]
    rfl
  · rw [hz]
    have := (Int.le_ediv_iff_mul_le (show (0 : Int) < n by omega)).mpr (show ((1 : Nat) : Int) * (n : Int) ≤ 2 ^ 63 - 1 by omega)
    omega
  · rw [hz]
    unfold Builtin.Str.tooLong
    refine decide_eq_false ?_
    have e : (n : Int).toNat = n := rfl
    have z := zs (show n ≤ 100000 by omega)
    omega
  · by_cases h0 : n = 0
    · subst h0
      rw [if_pos (by decide)]
      exact ⟨by decide, .str _, H, I.tok _, ⟨_, rfl⟩, q⟩
    · rw [if_neg (show ¬ (n : Int) < 1 by omega), hz]
      by_cases h1 : n = 1
      · subst h1
        rw [if_pos (by rfl)]
        rw [spc1] at q
        exact ⟨.str _, H, I, ⟨_, rfl⟩, q⟩
      · have hb : ((n : Int) == 1 || (1 : Nat) == 0) = false := by
          rw [beq_eq_false_iff_ne.mpr (show (n : Int) ≠ 1 by omega)]
          rfl
        rw [hb, if_neg Bool.false_ne_true]
        have e : (n : Int).toNat = n := rfl
        have f0 : List.foldl (fun x1 x2 => x1 ++ x2) #[] (List.replicate n [32].toArray) = (List.replicate n 32).toArray := by
          have := foldl_repN [32] n []
          rw [List.nil_append] at this
          rw [this]
          congr 1
          clear this hb h1 h0 q
          induction n with
          | zero => rfl
          | succ m ih => rw [List.replicate_succ, List.flatten_cons, ih (by omega) rfl, List.replicate_succ]; rfl
        rw [e, hc, f0]
        exact ⟨by rw [show (⟨(List.replicate n 32).toArray⟩ : Str).length = n from spc_len n]; exact zs (by omega), .str _, H, I.tok _, ⟨_, rfl⟩, q⟩
/-! ### an int, written in a form -/
def FmtI (i : Int) (sp y : Str) : Prop := ∀ (prog : Program) (w : World) (A : Around) (E : Value → Shared → Prop) (s : Shared) (t : Tok) (Q : Value → Shared → Prop), (∀ t' k, Q (.str y t') { s with toks := k }) → wpAny (model prog w) A (formatField (.int i t) sp) Q E s
def tFmtS (te ts : TE) : TE := fun σ H Q => te σ H fun x H1 => ts σ H1 fun y H2 => ∃ (i : Int) (f z : Str), x = .int i ∧ y = .str f ∧ FmtI i f z ∧ Q (.str z) H2
theorem pe_fmtS {e sp : Expr} {te ts : TE} {pos : Pos} (he : PE X e te) (hs : PE X sp ts) : PE X (.FormattedValue e (-1) (some sp) pos) (tFmtS te ts) := by
  refine ⟨fun pins s σ H Q I h => ?_⟩
  refine wpAny_FormattedValue_spec (thn (he.run pins s σ H _ I h) fun v s1 ⟨x, H1, I1, r1, q1⟩ => thn (hs.run pins s1 σ H1 _ I1 q1) fun u s2 ⟨y, H2, I2, r2, i, f, z, e1, e2, hf, q⟩ => ?_)
  subst e1
  subst e2
  obtain ⟨t, rfl⟩ := r1
  obtain ⟨t', rfl⟩ := r2
  exact ⟨f, t', rfl, hf _ _ _ _ _ _ _ fun _ _ => ⟨.str z, H2, I2.tok _, ⟨_, rfl⟩, q⟩⟩
end
open Builtin Builtin.Int Builtin.Float in
def fmF (f : FormatSpec) (i : Int) : Str := intField' f (decide (i < 0)) [] ((Nat.toDigits 10 i.natAbs).map fun c => (if (100 : Nat) == 88 then c.toUpper else c).toNat) [] 3
abbrev fs3 : Builtin.Float.FormatSpec := { align := 62, width := some 3 }
abbrev fs4 : Builtin.Float.FormatSpec := { align := 62, width := some 4 }
abbrev fs5 : Builtin.Float.FormatSpec := { align := 62, width := some 5, sign := some 43 }
abbrev fsD : Builtin.Float.FormatSpec := { align := 62, sign := some 43, type := some 100 }
section
open Builtin Builtin.Int Builtin.Float PySem.W
theorem par3 : parseFormatSpec (">3" : Str).cps.toList "int" 62 = .ok fs3 := by kernel_rfl
theorem par4 : parseFormatSpec (">4" : Str).cps.toList "int" 62 = .ok fs4 := by kernel_rfl
theorem par5 : parseFormatSpec (">+5" : Str).cps.toList "int" 62 = .ok fs5 := by kernel_rfl
theorem parD : parseFormatSpec ("+d" : Str).cps.toList "int" 62 = .ok fsD := by kernel_rfl
theorem fmt_3 {i : Int} (hi : i.natAbs.log2 < 1920) (hl : (fmF fs3 i).length ≤ sizeLine) : FmtI i (">3" : Str) (fmF fs3 i) := by
  intro prog w A E s t Q h
  refine KXf.field_int rfl (by decide +kernel) (by decide +kernel) (fun u => KPc.meets_of ?_) h
  intro _ _ _ _ _ _ hh
  unfold Builtin.«int.__format__»; refine wpAny_bind (wpAny_of_eq (a := (_, _)) rfl (wpAny_bind (wpAny_of_eq (a := _) rfl ?_)))
  kxf_if; refine wpAny_bind (wpAny_typeNameOf (T := "str") (typeIs_str _ _ _) (by decide) fun _ => wpAny_bind (wpAny_of_eq (a := some _) rfl ?_))
  kxf_if; kxf_if; refine wpAny_bind (wpAny_typeNameOfCut_int ?_); rw [par3]
  have e100 : (none : Option Nat).getD (if ((">3" : Str).cps.back? == some 0) = true then 0 else 100) = 100 := by decide +kernel
  dsimp only
  rw [e100]
  refine wpAny_ite (KPc.ite_yes (by decide +kernel) ?_)
  refine wpAny_bind (m := Builtin.overDigitLimit? i) (wpAny_of_eq (PySem.overDigitLimit_small hi) (KXf.ret_text (T := fmF fs3 i) rfl hl ?_))
  assumption
theorem fmt_4 {i : Int} (hi : i.natAbs.log2 < 1920) (hl : (fmF fs4 i).length ≤ sizeLine) : FmtI i (">4" : Str) (fmF fs4 i) := by
  intro prog w A E s t Q h
  refine KXf.field_int rfl (by decide +kernel) (by decide +kernel) (fun u => KPc.meets_of ?_) h
  intro _ _ _ _ _ _ hh
  unfold Builtin.«int.__format__»; refine wpAny_bind (wpAny_of_eq (a := (_, _)) rfl (wpAny_bind (wpAny_of_eq (a := _) rfl ?_)))
  kxf_if; refine wpAny_bind (wpAny_typeNameOf (T := "str") (typeIs_str _ _ _) (by decide) fun _ => wpAny_bind (wpAny_of_eq (a := some _) rfl ?_))
  kxf_if; kxf_if; refine wpAny_bind (wpAny_typeNameOfCut_int ?_); rw [par4]
  have e100 : (none : Option Nat).getD (if ((">4" : Str).cps.back? == some 0) = true then 0 else 100) = 100 := by decide +kernel
  dsimp only
  rw [e100]
  refine wpAny_ite (KPc.ite_yes (by decide +kernel) ?_)
  refine wpAny_bind (m := Builtin.overDigitLimit? i) (wpAny_of_eq (PySem.overDigitLimit_small hi) (KXf.ret_text (T := fmF fs4 i) rfl hl ?_))
  assumption
theorem fmt_5 {i : Int} (hi : i.natAbs.log2 < 1920) (hl : (fmF fs5 i).length ≤ sizeLine) : FmtI i (">+5" : Str) (fmF fs5 i) := by
  intro prog w A E s t Q h
  refine KXf.field_int rfl (by decide +kernel) (by decide +kernel) (fun u => KPc.meets_of ?_) h
  intro _ _ _ _ _ _ hh
  unfold Builtin.«int.__format__»; refine wpAny_bind (wpAny_of_eq (a := (_, _)) rfl (wpAny_bind (wpAny_of_eq (a := _) rfl ?_)))
  kxf_if; refine wpAny_bind (wpAny_typeNameOf (T := "str") (typeIs_str _ _ _) (by decide) fun _ => wpAny_bind (wpAny_of_eq (a := some _) rfl ?_))
  kxf_if; kxf_if; refine wpAny_bind (wpAny_typeNameOfCut_int ?_); rw [par5]
  have e100 : (none : Option Nat).getD (if ((">+5" : Str).cps.back? == some 0) = true then 0 else 100) = 100 := by decide +kernel
  dsimp only
  rw [e100]
  refine wpAny_ite (KPc.ite_yes (by decide +kernel) ?_)
  refine wpAny_bind (m := Builtin.overDigitLimit? i) (wpAny_of_eq (PySem.overDigitLimit_small hi) (KXf.ret_text (T := fmF fs5 i) rfl hl ?_))
  assumption
theorem fmt_D {i : Int} (hi : i.natAbs.log2 < 1920) (hl : (fmF fsD i).length ≤ sizeLine) : FmtI i ("+d" : Str) (fmF fsD i) := by
  intro prog w A E s t Q h
  refine KXf.field_int rfl (by decide +kernel) (by decide +kernel) (fun u => KPc.meets_of ?_) h
  intro _ _ _ _ _ _ hh
  unfold Builtin.«int.__format__»; refine wpAny_bind (wpAny_of_eq (a := (_, _)) rfl (wpAny_bind (wpAny_of_eq (a := _) rfl ?_)))
  kxf_if; refine wpAny_bind (wpAny_typeNameOf (T := "str") (typeIs_str _ _ _) (by decide) fun _ => wpAny_bind (wpAny_of_eq (a := some _) rfl ?_))
  kxf_if; kxf_if; refine wpAny_bind (wpAny_typeNameOfCut_int ?_); rw [parD]
  have e100 : (some 100 : Option Nat).getD (if (("+d" : Str).cps.back? == some 0) = true then 0 else 100) = 100 := by decide +kernel
  dsimp only
  rw [e100]
  refine wpAny_ite (KPc.ite_yes (by decide +kernel) ?_)
  refine wpAny_bind (m := Builtin.overDigitLimit? i) (wpAny_of_eq (PySem.overDigitLimit_small hi) (KXf.ret_text (T := fmF fsD i) rfl hl ?_))
  assumption
end
end Lp
set_option Elab.async false
set_option linter.all false
set_option maxRecDepth 100000
namespace Lp
open PySem PySem.Spec PyProof.Rows L2
/-! ### dict comprehensions over a range -/
theorem dc_range {lo : Int} {n : Nat} {g : TG} {tt : TT} {tk tv : TE} {vs : List Nat} {σ : L2.St} {H1 : Hp} {D : Addr} {Qd : Hp → Prop} (Pv : Nat → Hp → Prop) (h0 : Pv 0 (upd H1 D (.dK [])))
    (hs : ∀ (i : Nat) (H : Hp), i < n → Pv i H → g (.int (lo + i)) (wipe σ vs) H fun σ2 H2 => wipe σ2 vs = wipe σ vs ∧ tt σ2 H2 fun b H3 =>
      if b = true then tk σ2 H3 fun y H4 => tv σ2 H4 fun z H5 => ∃ kvs k, y = kV k ∧ H5 D = some (.dK kvs) ∧ kvs.length < sizeLine ∧ Pv (i + 1) (upd H5 D (.dK (putK kvs k z))) else Pv (i + 1) H3) (hd : ∀ H, Pv n H → Qd H) :
    ∃ W : Nat → Nat → Hp → Prop, (∃ m, W 0 m (upd H1 D (.dK []))) ∧ ∀ i m H, W i m H →
      ((Itr lo n).stop i H ∧ Qd H) ∨ ((Itr lo n).go i H ∧ ∃ Nx : Hp → Prop, (∀ H', Nx H' → ∃ m', m' < m ∧ W (i + 1) m' H') ∧ ∀ x H', (Itr lo n).yld i H x H' → g x (wipe σ vs) H' fun σ2 H2 => wipe σ2 vs = wipe σ vs ∧ tt σ2 H2 fun b H3 =>
        if b = true then tk σ2 H3 fun y H4 => tv σ2 H4 fun z H5 => ∃ kvs k, y = kV k ∧ H5 D = some (.dK kvs) ∧ kvs.length < sizeLine ∧ Nx (upd H5 D (.dK (putK kvs k z))) else Nx H3) := by
  refine ⟨fun i m H => m = n - i ∧ i ≤ n ∧ Pv i H, ⟨n, by simp, Nat.zero_le _, h0⟩, ?_⟩
  rintro i m H ⟨rfl, hi, pv⟩
  rcases Nat.lt_or_ge i n with hlt | hge
  · refine .inr ⟨hlt, Pv (i + 1), fun H' p' => ⟨n - (i + 1), by omega, rfl, hlt, p'⟩, fun x H' y => ?_⟩
    obtain ⟨rfl, rfl⟩ := y
    exact hs i _ hlt pv
  · have e : i = n := by omega
    subst e
    exact .inl ⟨Nat.le_refl _, hd H pv⟩
/-! ### words with single spaces between -/
abbrev jn (l : List Str) : Str := Str.join (" " : Str) l
theorem jn_snoc (x : Str) : ∀ l : List Str, jn (l ++ [x]) = if l = [] then x else jn l ++ (" " : Str) ++ x
  | [] => rfl
  | [y] => rfl
  | y :: z :: r => by
    have ih := jn_snoc x (z :: r)
    rw [if_neg (by simp)] at ih
    rw [if_neg (by simp)]
    show y ++ (" " : Str) ++ jn (z :: r ++ [x]) = y ++ (" " : Str) ++ jn (z :: r) ++ (" " : Str) ++ x
    rw [ih]
    simp only [Str.append_assoc]
theorem space1 : (" " : Str) = ⟨#[32]⟩ := by decide +kernel
def jc : List (List Nat) → List Nat
  | [] => []
  | [x] => x
  | x :: y :: r => x ++ 32 :: jc (y :: r)
theorem jn_jc : ∀ l : List Str, (jn l).cps.toList = jc (l.map fun x => x.cps.toList)
  | [] => rfl
  | [x] => rfl
  | x :: y :: r => by
    have ih := jn_jc (y :: r)
    show (x ++ (" " : Str) ++ jn (y :: r)).cps.toList = x.cps.toList ++ 32 :: jc ((y :: r).map fun x => x.cps.toList)
    rw [← ih, space1, Str.cps_append, Str.cps_append]
    simp
theorem cut32 : ∀ {x y a b : List Nat}, 32 ∉ x → 32 ∉ y → x ++ 32 :: a = y ++ 32 :: b → x = y ∧ a = b
  | [], [], a, b, _, _, h => ⟨rfl, (List.cons.inj h).2⟩
  | [], c :: y, a, b, _, hy, h => absurd ((List.cons.inj h).1 ▸ List.mem_cons_self) hy
  | c :: x, [], a, b, hx, _, h => absurd ((List.cons.inj h).1 ▸ List.mem_cons_self) hx
  | c :: x, d :: y, a, b, hx, hy, h => by
    obtain ⟨e1, e2⟩ := List.cons.inj h
    obtain ⟨e3, e4⟩ := cut32 (fun z => hx (List.mem_cons_of_mem _ z)) (fun z => hy (List.mem_cons_of_mem _ z)) e2
    exact ⟨by rw [e1, e3], e4⟩
theorem jc_inj : ∀ {l m : List (List Nat)}, l ≠ [] → m ≠ [] → (∀ x ∈ l, 32 ∉ x) → (∀ x ∈ m, 32 ∉ x) → jc l = jc m → l = m
  | [], _, h, _, _, _, _ => absurd rfl h
  | _ :: _, [], _, h, _, _, _ => absurd rfl h
  | [x], [y], _, _, _, _, h => by rw [show x = y from h]
  | [x], y :: z :: r, _, _, hx, _, h => absurd (show 32 ∈ x by rw [show x = y ++ 32 :: jc (z :: r) from h]; simp) (hx x List.mem_cons_self)
  | x :: z :: r, [y], _, _, _, hy, h => absurd (show 32 ∈ y by rw [← show x ++ 32 :: jc (z :: r) = y from h]; simp) (hy y List.mem_cons_self)
  | x :: z :: r, y :: u :: s, _, _, hx, hy, h => by
    obtain ⟨e1, e2⟩ := cut32 (hx x List.mem_cons_self) (hy y List.mem_cons_self) (show x ++ 32 :: jc (z :: r) = y ++ 32 :: jc (u :: s) from h)
    rw [e1, jc_inj (l := z :: r) (m := u :: s) (by simp) (by simp) (fun q hq => hx q (List.mem_cons_of_mem _ hq)) (fun q hq => hy q (List.mem_cons_of_mem _ hq)) e2]
theorem map_cps_inj : ∀ {l m : List Str}, (l.map fun x => x.cps.toList) = (m.map fun x => x.cps.toList) → l = m
  | [], [], _ => rfl
  | [], _ :: _, h => nomatch h
  | _ :: _, [], h => nomatch h
  | x :: l, y :: m, h => by
    obtain ⟨e1, e2⟩ := List.cons.inj h
    have e3 : x = y := Str.ext' (Array.toList_inj.mp e1)
    rw [e3, map_cps_inj e2]
theorem split_jn {l : List Str} (h : l ≠ []) (hf : ∀ x ∈ l, 32 ∉ x.cps.toList) : Txt.split (jn l) (" " : Str) = l := by
  have e1 : jn (Txt.split (jn l) (" " : Str)) = jn l := StrLaws.join_split _ _
  have e2 : ∀ p ∈ Txt.split (jn l) (" " : Str), 32 ∉ p.cps.toList := by
    rw [space1]
    exact StrLaws.split_free _ 32
  have e3 : Txt.split (jn l) (" " : Str) ≠ [] := fun z => by
    have := split_pos (jn l) (" " : Str)
    rw [z] at this
    simp at this
  refine map_cps_inj (jc_inj (by simpa using e3) (by simpa using h) ?_ ?_ ?_)
  · intro x hx
    obtain ⟨p, hp, rfl⟩ := List.mem_map.mp hx
    exact e2 p hp
  · intro x hx
    obtain ⟨p, hp, rfl⟩ := List.mem_map.mp hx
    exact hf p hp
  · rw [← jn_jc, ← jn_jc, e1]
end Lp
set_option Elab.async false
set_option linter.all false
set_option maxRecDepth 100000
namespace Lp
open PySem PySem.Spec PyProof.Rows L2
/-! ### defs, methods, classes, properties that may be used by their names -/
structure Cal (P : Program) (w : World) (K : PySem.W.Frag) (mg : Str → Option Value) (base : Heap) (k : Nat) (x : Str) (sp : Sp) : Prop where
  ex : ∃ (f : Addr) (fd : FuncData) (ps : List Str), FnOk P w K mg base CX0 k f fd ps sp ∧ mg x = some (.ref f) ∧ PySem.W.keepIn K (.ref f) = true ∧ Binds K fd ps []
structure Met (P : Program) (w : World) (K : PySem.W.Frag) (mg : Str → Option Value) (base : Heap) (k : Nat) (C : Addr) (m : Str) (sp : Sp) : Prop where
  ex : ∃ (f : Addr) (fd : FuncData) (ps : List Str), Cls K C ∧ Meth K C m f ∧ FnOk P w K mg base CX0 k f fd ps sp ∧ Binds K fd ps []
structure Mak (P : Program) (w : World) (K : PySem.W.Frag) (mg : Str → Option Value) (base : Heap) (k : Nat) (x : Str) (C : Addr) (sp : Sp) : Prop where
  ex : ∃ (f : Addr) (fd : FuncData) (ps : List Str), Mk K C f ∧ FnOk P w K mg base CX0 k f fd ps sp ∧ mg x = some (.ref C) ∧ Binds K fd ps []
structure Prp (P : Program) (w : World) (K : PySem.W.Frag) (mg : Str → Option Value) (base : Heap) (k : Nat) (C : Addr) (f : Str) (sp : Sp) : Prop where
  ex : ∃ (p g : Addr) (fd : FuncData) (ps : List Str), Cls K C ∧ PropOf K C f p g ∧ FnOk P w K mg base CX0 k g fd ps sp ∧ Binds K fd ps []
theorem Cal.gc {P : Program} {w : World} {K : PySem.W.Frag} {mg : Str → Option Value} {base : Heap} {k : Nat} {x : Str} {sp : Sp} (c : Cal P w K mg base k x sp) : Gc P w K mg base k x sp := by
  obtain ⟨f, fd, ps, F, h⟩ := c.ex
  exact ⟨f, fd, ps, .of F, h⟩
section
variable {X : Cx} {k j : Nat} {C : Addr} {x m f : Str} {sp : Sp} {p pos apos : Pos} {e o : Expr} {es : List Expr} {ta : TE} {t : TA}
theorem pe_c (c : Cal X.prog X.w X.K X.mg X.base k x sp) (hr : Room j X.A) (hk : k ≤ j) (hg : Gl X x) (ha : PA X (e :: es) t)
    (hdb : (x == ("__debug__" : Str)) = false := by decide) (he : starEach (e :: es) X.env = (false, eval e X.env) :: starEach es X.env := by rfl) (hpl : (backTo pos (starEach es X.env)).any (·.1) = false := by rfl) :
    PE X (.Call (.Name x p) (e :: es) [] pos) (tCall sp [] E0 t) := by
  obtain ⟨g, fd, ps, F, hm, kp, b⟩ := c.ex
  exact pe_call F (hr.mono hk) hg hm kp b .nil pass0 ha hdb he hpl
theorem pe_mk (c : Mak X.prog X.w X.K X.mg X.base k x C sp) (hr : Room j X.A) (hk : k + 1 ≤ j) (hg : Gl X x) (ha : PA X (e :: es) t)
    (hdb : (x == ("__debug__" : Str)) = false := by decide) (he : starEach (e :: es) X.env = (false, eval e X.env) :: starEach es X.env := by rfl) (hpl : (backTo pos (starEach es X.env)).any (·.1) = false := by rfl) :
    PE X (.Call (.Name x p) (e :: es) [] pos) (tMake C sp [] E0 t) := by
  obtain ⟨g, fd, ps, M, F, hm, b⟩ := c.ex
  exact pe_make M F (hr.mono hk) hg hm b .nil pass0 ha hdb he hpl
theorem pe_mt {pl : Sem Bool} (c : Met X.prog X.w X.K X.mg X.base k C m sp) (hr : Room j X.A) (hk : k ≤ j) (he : PE X o ta) (ha : PA X (e :: es) t)
    (hst : starEach (e :: es) X.env = (false, eval e X.env) :: starEach es X.env := by rfl) (hpl : (backTo pos (starEach es X.env)).any (·.1) = false := by rfl)
    (ht : eval (.Call (.Attribute o m apos) (e :: es) [] pos) X.env = (eval o X.env >>= fun ov => standAt apos.atName >>= fun _ => holding [ov] (getMethod ov m pl) >>= fun r => callWith pos r.1 r.2 (backTo pos (starEach (e :: es) X.env)) (backToKw pos (keywordEach [] X.env))) := by rfl) :
    PE X (.Call (.Attribute o m apos) (e :: es) [] pos) (tMeth C m sp [] E0 ta t) := by
  obtain ⟨g, fd, ps, hc, hm, F, b⟩ := c.ex
  exact pe_meth (pl := pl) he hc hm F (hr.mono hk) b .nil pass0 ha hst hpl ht
theorem pe_mt0 {pl : Sem Bool} (c : Met X.prog X.w X.K X.mg X.base k C m sp) (hr : Room j X.A) (hk : k ≤ j) (he : PE X o ta)
    (ht : eval (.Call (.Attribute o m apos) [] [] pos) X.env = (eval o X.env >>= fun ov => standAt apos.atName >>= fun _ => holding [ov] (getMethod ov m pl) >>= fun r => callWith pos r.1 r.2 (backTo pos (starEach [] X.env)) (backToKw pos (keywordEach [] X.env))) := by rfl) :
    PE X (.Call (.Attribute o m apos) [] [] pos) (tMeth C m sp [] E0 ta tNil) := by
  obtain ⟨g, fd, ps, hc, hm, F, b⟩ := c.ex
  exact pe_meth0 (pl := pl) he hc hm F (hr.mono hk) b .nil pass0 ht
theorem pe_pr (c : Prp X.prog X.w X.K X.mg X.base k C f sp) (hr : Room j X.A) (hk : k + 1 ≤ j) (he : PE X e ta) (hab : attributeBase e f X.env (eval e X.env) = eval e X.env := by rfl) : PE X (.Attribute e f pos) (tProp C sp [] E0 ta) := by
  obtain ⟨p, g, fd, ps, hc, hp, F, b⟩ := c.ex
  exact pe_prop he hc hp F (hr.mono hk) b .nil pass0 hab
end
/-! ### slices that end one before the end -/
theorem cut_init (xs : List V) : cutV xs none (some (-1)) = xs.dropLast := by
  have e : HT.sIx xs.length xs.length (some (-1)) = xs.length - 1 := by
    show (if (-1 : Int) < 0 then ((-1 : Int) + (xs.length : Int)).toNat else min (-1 : Int).toNat xs.length) = _
    rw [if_pos (by decide)]
    omega
  unfold cutV
  rw [HT.sIx_none, e, List.drop_zero, Nat.sub_zero, List.dropLast_eq_take]
end Lp
set_option Elab.async false
set_option linter.all false
set_option maxRecDepth 100000
namespace Lp
open PySem PySem.Spec PyProof.Rows L2
/-! ### methods that may raise, called where it is caught -/
structure MetX (P : Program) (w : World) (K : PySem.W.Frag) (mg : Str → Option Value) (base : Heap) (k : Nat) (C : Addr) (m : Str) (sp : Sp) : Prop where
  ex : ∃ (f : Addr) (fd : FuncData) (ps : List Str), Cls K C ∧ Meth K C m f ∧ FnOk P w K mg base (L2.CX P w) k f fd ps sp ∧ Binds K fd ps []
def tMtX0 (C : Addr) (m : Str) (sp : Sp) (W : WX) (ta : TE) : TE := fun σ H Q => ta σ H fun x H1 => ∃ a dx fs, x = .ref a ∧ H1 a = some (.ins C dx fs) ∧ fs.lookup m = none ∧ sp [x] H1 Q (WE W σ)
/-- classes made by keywords alone -/
structure MakK (P : Program) (w : World) (K : PySem.W.Frag) (mg : Str → Option Value) (base : Heap) (k : Nat) (x : Str) (C : Addr) (ks : List Str) (gV : List V → List V → List V) (sp : Sp) : Prop where
  ex : ∃ (f : Addr) (fd : FuncData) (ps : List Str) (g : List Value → List Value → List Value), Mk K C f ∧ FnOk P w K mg base CX0 k f fd ps sp ∧ mg x = some (.ref C) ∧ KBn K fd ps 1 ks g gV
section
variable {X : Cx} {k j : Nat} {C : Addr} {x m : Str} {sp : Sp} {p pos apos : Pos} {o : Expr} {ta : TE} {tk' : TA} {kws : List Keyword} {ks : List Str} {gV : List V → List V → List V}
theorem pe_mtX0 {pl : Sem Bool} {W : WX} (c : MetX X.prog X.w X.K X.mg X.base k C m sp) (hr : Room j X.A) (hk : k ≤ j) (tk : Takes X W) (he : PE X o ta)
    (ht : eval (.Call (.Attribute o m apos) [] [] pos) X.env = (eval o X.env >>= fun ov => standAt apos.atName >>= fun _ => holding [ov] (getMethod ov m pl) >>= fun r => callWith pos r.1 r.2 (backTo pos (starEach [] X.env)) (backToKw pos (keywordEach [] X.env))) := by rfl) :
    PE X (.Call (.Attribute o m apos) [] [] pos) (tMtX0 C m sp W ta) := by
  obtain ⟨g, fd, ps, hc, hm, F, b⟩ := c.ex
  refine ⟨fun pins s σ H Q I h => ?_⟩
  refine PySem.W.methodCall_KW (pl := pl) (thn (he.run pins s σ H _ I h) fun u s1 ⟨y, H1, I1, rx, a, dx, fs, ex, ea, l, q⟩ => ?_) ht
  subst ex
  obtain rfl : u = Value.ref a := rx
  refine getmeth_ok I1 ea hc hm l (PySem.W.callWith_K0 (first := [.ref a]) I1.kIn hm.kp ?_)
  exact run_fnS (us := [.ref a]) (vs := [.ref a]) F (hr.mono hk) b (passAt tk σ) I1 (.cons rfl .nil) q
theorem pe_mkK (c : MakK X.prog X.w X.K X.mg X.base k x C ks gV sp) (hr : Room j X.A) (hk : k + 1 ≤ j) (hg : Gl X x) (hkw : PK X kws tk')
    (hall : (backToKw pos (keywordEach kws X.env)).all (·.1.isSome) = true := by rfl) (hks : (backToKw pos (keywordEach kws X.env)).filterMap (·.1) = ks := by rfl) (hdb : (x == ("__debug__" : Str)) = false := by decide)
    (hpl : ((backTo pos (starEach [] X.env)).any (·.1) || (backToKw pos (keywordEach kws X.env)).any (·.1.isNone)) = false := by rfl) : PE X (.Call (.Name x p) [] kws pos) (tMakeK C 0 ks.length sp gV E0 tNil tk') := by
  obtain ⟨f, fd, ps, g, M, F, hm, hb⟩ := c.ex
  exact pe_makeK0 M F (hr.mono hk) hg hm hb pass0 hkw hall hks hdb hpl
end
end Lp
set_option Elab.async false
set_option linter.all false
set_option maxRecDepth 100000
set_option maxHeartbeats 1000000
namespace Lp
open PySem PySem.Spec PyProof.Rows L2 GenW
/-! ### yield from a list -/
section
variable {prog : Program} {w : World} {A : Around} {E : Value → Shared → Prop} {s : Shared}
theorem special_lst_item {it l : Addr} {i : Nat} {items : Array Value} {x : Value} {Q : Option Value → Shared → Prop} (hit : s.heap.IsListIter it l i)
    (hl : s.heap.IsList l items) (hx : items[i]? = some x)
    (hQ : ∀ h', h'.IsListIter it l (i + 1) → Heap.SameBut it s.heap h' → Q (some x) { s with heap := h' }) :
    wpAny (model prog w) A (callSpecial? (.ref it) "__next__") Q E s := by
  obtain ⟨o, ho, hc, hd⟩ := id hit
  obtain ⟨ol, hol, _, nl, hdl⟩ := hl
  refine wpAny_callSpecial?_slot (name := Str.ofString "__next__") hit.typeIs slot_listiter_next (wpAny_call_entry slot_listiter_next hit.typeIs entry_listiter_next ?_ (args_listiter_next _))
  show wpAny _ _ (field (.ref it) 0 >>= _) _ _ s
  refine wpAny_bind (wpAny_field ho hd (x := .ref l) rfl ?_)
  show wpAny _ _ (if (Value.ref l == Value.none) = true then _ else _) _ _ s
  rw [if_neg (show ¬ ((Value.ref l == Value.none) = true) from Bool.false_ne_true)]
  show wpAny _ _ (field (.ref it) 1 >>= _) _ _ s
  refine wpAny_bind (wpAny_field ho hd (x := .int i 0) rfl ?_)
  show wpAny _ _ (seqItems? (.ref l) >>= _) _ _ s
  refine wpAny_bind (wpAny_seqItems hol hdl ?_)
  simp only [Int.toNat_natCast, hx]
  refine wpAny_bind (wpAny_setField ho hd (by simp) (wpAny_pure ⟨x, rfl, hQ _ ?_ (Heap.SameBut.update ..)⟩))
  exact ⟨_, Heap.get?_update_self _ ho (Obj.isFreed_of_fields (Obj.data_mapFields hd _)), (Obj.cls_mapFields ..).trans hc, by
    rw [Obj.data_mapFields hd]; simp [rawInt]⟩
theorem special_lst_end {it l : Addr} {i : Nat} {items : Array Value} {Q : Option Value → Shared → Prop} (hh : A.handled = none) (hit : s.heap.IsListIter it l i) (hl : s.heap.IsList l items) (hx : items[i]? = none)
    (hE : ∀ e h', StopX e h' → Heap.ExtBut it s.heap h' → E e { s with heap := h' }) : wpAny (model prog w) A (callSpecial? (.ref it) "__next__") Q E s := by
  obtain ⟨o, ho, hc, hd⟩ := id hit
  obtain ⟨ol, hol, _, nl, hdl⟩ := hl
  refine wpAny_callSpecial?_slot (name := Str.ofString "__next__") hit.typeIs slot_listiter_next (wpAny_call_entry slot_listiter_next hit.typeIs entry_listiter_next ?_ (args_listiter_next _))
  show wpAny _ _ (field (.ref it) 0 >>= _) _ _ s
  refine wpAny_bind (wpAny_field ho hd (x := .ref l) rfl ?_)
  show wpAny _ _ (if (Value.ref l == Value.none) = true then _ else _) _ _ s
  rw [if_neg (show ¬ ((Value.ref l == Value.none) = true) from Bool.false_ne_true)]
  show wpAny _ _ (field (.ref it) 1 >>= _) _ _ s
  refine wpAny_bind (wpAny_field ho hd (x := .int i 0) rfl ?_)
  show wpAny _ _ (seqItems? (.ref l) >>= _) _ _ s
  refine wpAny_bind (wpAny_seqItems hol hdl ?_)
  simp only [Int.toNat_natCast, hx]
  refine wpAny_bind (wpAny_rule (wpAny_bind (wpAny_setField ho hd (by simp) ?_)))
  show wpAny _ _ (newExc (.type "StopIteration") [] >>= _) _ _ _
  refine wpAny_bind ?_
  simp only [newExc, newTuple]
  refine wpAny_bind (wpAny_newObj_type ?_ (by size_fits))
  refine wpAny_bind (m := firstArgMember _ _) (wpAny_of_eq (a := Value.none) (by first | rfl | (simp only [firstArgMember]; rfl)) ?_)
  refine wpAny_newObj_type ?_ (by size_fits)
  simp only [raiseNew]
  refine wpAny_bind (wpAny_handled ?_)
  first | rw [show A.in1.handled = none from hh] | rw [hh]
  refine wpAny_bind (wpAny_pure (wpAny_throw ?_))
  refine hE _ _ ⟨_, _, _, rfl, Heap.get?_push_size _ rfl, rfl, rfl, ?_⟩ (((Heap.SameBut.update ..).extBut.push _).push _)
  first
    | rfl
    | (rw [Array.getElem?_append_left (by decide)]; rfl)
    | kernel_rfl
end
section
variable {X : Cx} {e : Expr} {te : TE}
def tYfLst (te : TE) : TYf := fun σ H Q => te σ H fun x H1 => ∃ a xs, x = .ref a ∧ H1 a = some (.lst xs) ∧ Q xs H1
theorem close_lst : typeLookup (.type "list_iterator") "close" = pure none := by rw [typeLookup_type, builtinLookup_eq_fast]; kernel_rfl
theorem yf_lst (he : PE X e te) : YfE X e (tYfLst te) := by
  refine ⟨fun pins s σ H Q I h => ?_⟩
  refine thn (he.run pins s σ H _ I h) fun v s1 ⟨x, H1, I1, r1, a, xs, ex, ha, hq⟩ => ?_
  subst ex
  obtain rfl : v = Value.ref a := r1
  obtain ⟨hlen, its, c, rits, hg⟩ := I1.hok a _ ha
  have ht : s1.heap.IsList a its.toArray := ⟨_, hg, rfl, _, rfl⟩
  refine ⟨"list", ht.typeIs, by decide, wpAny_pyIter_list ht ?_⟩
  have ksz : ∀ b o, s1.heap.get? b = some o → b ≠ s1.heap.objs.size := fun b o e => Nat.ne_of_lt (Heap.lt_size e)
  have kp : ∀ b o, s1.heap.get? b = some o → (s1.heap.push { cls := .type "list_iterator", data := .fields #[.ref a, .int 0 0] }).get? b = some o := fun b o e => Heap.get?_push_of_some _ e
  refine ⟨s1.heap.objs.size, H1, xs, fun j h => h.IsListIter s1.heap.objs.size a j ∧ h.IsList a its.toArray, rfl, I1.kept (t' := s1.toks) kp, .inr I1.sz, Nat.ne_of_gt I1.lt, fun y c hy => ?_, I1.hok.fresh (Nat.le_refl _), fun p hp => ?_,
    ⟨⟨_, Heap.get?_push_size _ rfl, rfl, rfl⟩, ⟨_, kp _ _ hg, rfl, _, rfl⟩⟩, ⟨⟨"list_iterator", fun j h q => ?_, close_lst, by decide⟩, fun j h h' q hk => ?_, fun A' j x s2 Q' E' hA hx q hQ => ?_, fun A' s2 Q' E' hA q hE => ?_⟩, hq⟩
  · obtain ⟨v, o, ho, _⟩ := I1.cell y c hy
    exact ksz c o ho
  · exact ksz p.1 _ (I1.pin p hp).1
  · obtain ⟨⟨o, ho, hc, _⟩, _⟩ := q
    exact ⟨o, ho, hc⟩
  · obtain ⟨⟨o, ho, r⟩, o2, ho2, r2⟩ := q
    exact ⟨⟨o, hk _ o (.inl rfl) ho, r⟩, o2, hk _ o2 (.inr (by rw [ha]; exact fun z => by cases z)) ho2, r2⟩
  · obtain ⟨q1, q2⟩ := q
    obtain ⟨u, hu, ru⟩ := rits.get hx
    have hne : a ≠ s1.heap.objs.size := Nat.ne_of_lt (Heap.lt_size hg)
    exact special_lst_item q1 q2 (x := u) (by simpa using hu) fun h' q1' hs => hQ u h' s2.toks ru ⟨q1', (by obtain ⟨o2, ho2, r2⟩ := q2; exact ⟨o2, hs.extBut _ _ hne ho2, r2⟩)⟩ fun b o hb eb => hs.extBut b o hb eb
  · obtain ⟨q1, q2⟩ := q
    have hnone : its.toArray[xs.length]? = none := by
      have e := rits.length
      have e2 : its[xs.length]? = none := List.getElem?_eq_none_iff.mpr (by omega)
      simpa using e2
    exact special_lst_end hA q1 q2 hnone fun e h' hS hk => hE e h' s2.toks hS fun b o hb eb => hk b o hb eb
end
/-! ### generator defs by their names -/
section
variable {P : Program} {w : World} {K : PySem.W.Frag} {mg : Str → Option Value} {base : Heap}
theorem okGen {x qual : Str} {st : Stmt} {f : Addr} {fd : FuncData} {N ps : List Str} {k : Nat} {sp : SpG} (F : Fun K x qual st f fd) (S : GScope N ps (defScope st)) (ln : ∀ vs H Q E, sp vs H Q E → vs.length = ps.length)
    (hb : ∀ (cdv : Value) (A : Around) (outer : List Env) (s : Shared) (H : Hp) (vs : List V) (Q : List V → Hp → Prop) (E : XK) (pn : List (Addr × Obj)), Room k (A.deeper (envOfC qual (defScope st) s.heap.objs.size f cdv)) → sp vs H Q E →
      ∃ t, GSs (gcxOf P w K mg base N qual (defScope st) f cdv A outer s H E pn) (defBody st) t ∧ t { nx := fun ys _ H' => Q ys H', rt := fun ys v H' => v = .non ∧ Q ys H' } [] (start N vs) H) : GFn P w K mg base (k + 1) f fd ps sp := by
  obtain ⟨oc, od, kV, doc, pm, an, cdv, ct, osl, rfl, lk, hcd⟩ := F.ex
  exact gfn_of lk hcd S ln (hb cdv)
structure Gnr (P : Program) (w : World) (K : PySem.W.Frag) (mg : Str → Option Value) (base : Heap) (k : Nat) (x : Str) (sp : SpG) : Prop where
  ex : ∃ (f : Addr) (fd : FuncData) (ps : List Str), GFn P w K mg base k f fd ps sp ∧ mg x = some (.ref f) ∧ PySem.W.keepIn K (.ref f) = true ∧ Binds K fd ps []
end
section
variable {X : Cx} {k j : Nat} {x nm : Str} {sp : SpG} {p p2 pos pos' : Pos} {e : Expr} {es : List Expr} {t : TA}
theorem noStop0 {K : PySem.W.Frag} : NoStop K E0 := fun _ _ _ h => h.elim
theorem passes0 : Passes (CX X.prog X.w) X E0 := fun pins σ H s1 e s' I h => by
  obtain ⟨a, B, H', cls, d, _, _, _, _, _, _, _, z⟩ := h
  exact z.elim
/-- list(f(e, ..)) of a generator def -/
theorem pe_lg (c : Gnr X.prog X.w X.K X.mg X.base k x sp) (hr : Room j X.A) (hk : k + 3 ≤ j) (hg : Gl X x) (ha : PA X (e :: es) t) (hg2 : Gl X nm) (hmg : X.mg nm = none) (hv : bootBuiltins nm = some (.type "list")) (hnm : nm ≠ "__name__" := by decide) (hdb2 : (nm == ("__debug__" : Str)) = false := by decide)
    (hdb : (x == ("__debug__" : Str)) = false := by decide) (he : starEach (e :: es) X.env = (false, eval e X.env) :: starEach es X.env := by rfl) (hpl : (backTo pos' (starEach es X.env)).any (·.1) = false := by rfl)
    (he2 : starEach [.Call (.Name x p2) (e :: es) [] pos'] X.env = (false, eval (.Call (.Name x p2) (e :: es) [] pos') X.env) :: starEach [] X.env := by rfl) :
    PE X (.Call (.Name nm p) [.Call (.Name x p2) (e :: es) [] pos'] [] pos) (tListG (L2.tCallG sp [] E0 t)) := by
  obtain ⟨g, fd, ps, F, hm, kp, b⟩ := c.ex
  exact pe_listG (pgen_call F (hr.mono (by omega)) hg hm kp b .nil ha hdb he hpl) passes0 noStop0 (hr.mono hk) hg2 hmg hv hnm hdb2 he2
end
end Lp
set_option Elab.async false
set_option linter.all false
set_option maxRecDepth 100000
set_option maxHeartbeats 1000000
namespace Lp
open PySem PySem.Spec PyProof.Rows L2
/-! ### isinstance of an exception that is a value, or that an outer suite holds -/
def rIsX (K : PySem.W.Frag) : List V → Hp → VK → Prop := fun xs H Q => ∃ (a D : Addr) (c : V) (cv : Value) (b : Bool), xs = [.ref a, c] ∧ H a = some (ExO (.ref D) a) ∧ ExcC K D ∧ (∀ u, RelV c u → u = cv) ∧ PySem.W.kitOne K (.ref D) cv = some b ∧ Q (.bl b) H
theorem call_isX {X : Cx} : CallR X (.builtin "isinstance") (rIsX X.K) := by
  intro pins s σ H xs us Q I r h
  obtain ⟨a, D, c, cv, b, rfl, ha, C, hcv, e, q⟩ := h
  cases r with
  | cons rx rr =>
    cases rr with
    | cons rt rr =>
      cases rr
      cases rx
      cases hcv _ rt
      obtain ⟨⟨oe, vs, hget, hz, hv, _⟩, _, _⟩ := I.hok a _ ha
      have J : PySem.W.InstAt s.heap a oe D none := by
        obtain ⟨oc, od, oda, osl⟩ := oe
        obtain ⟨h1, h2⟩ := hz
        dsimp only at h1 h2 hv
        subst h1 h2 hv
        exact ⟨hget, rfl, rfl, trivial⟩
      exact PySem.W.kia_one (PySem.W.handS_kitx_exc C.hg C.hk C.hs C.hd C.ha C.hn C.ht C.hm) I.kIn J e (fun z => nomatch z) fun tk => ⟨.bl b, H, I.kept (t' := tk) fun _ _ z => z, rfl, q⟩
def rIsP (K : PySem.W.Frag) (p : Addr × Obj) : List V → Hp → VK → Prop := fun xs H Q => ∃ (D : Addr) (c : V) (cv : Value) (b : Bool), xs = [.ref p.1, c] ∧ Zc (.ref D) none p.2 ∧ (∃ vs, p.2.data = .fields vs) ∧ ExcC K D ∧ (∀ u, RelV c u → u = cv) ∧ PySem.W.kitOne K (.ref D) cv = some b ∧ Q (.bl b) H
theorem call_isP {X : Cx} {p : Addr × Obj} (hp : p ∈ X.pn) : CallR X (.builtin "isinstance") (rIsP X.K p) := by
  intro pins s σ H xs us Q I r h
  obtain ⟨D, c, cv, b, rfl, hz, ⟨vs, hv⟩, C, hcv, e, q⟩ := h
  cases r with
  | cons rx rr =>
    cases rr with
    | cons rt rr =>
      cases rr
      cases rx
      cases hcv _ rt
      have hget := (I.pin p (List.mem_append_left _ hp)).1
      obtain ⟨a, oe⟩ := p
      have J : PySem.W.InstAt s.heap a oe D none := by
        obtain ⟨oc, od, oda, osl⟩ := oe
        obtain ⟨h1, h2⟩ := hz
        dsimp only at h1 h2 hv
        subst h1 h2 hv
        exact ⟨hget, rfl, rfl, trivial⟩
      exact PySem.W.kia_one (PySem.W.handS_kitx_exc C.hg C.hk C.hs C.hd C.ha C.hn C.ht C.hm) I.kIn J e (fun z => nomatch z) fun tk => ⟨.bl b, H, I.kept (t' := tk) fun _ _ z => z, rfl, q⟩
/-! ### defs that are given the exception that is held -/
structure FnE (P : Program) (w : World) (K : PySem.W.Frag) (mg : Str → Option Value) (base : Heap) (k : Nat) (f : Addr) (fd : FuncData) (ps : List Str) (sp : Addr × Obj → Sp) : Prop where
  len : ∀ p vs H Q E, sp p vs H Q E → vs.length = ps.length
  run : ∀ (p : Addr × Obj) (A : Around) (out : List Env) (s : Shared) (H : Hp) (ar : Args) (us : List Value) (vs : List V) (Q : VK) (E : XK), L2H.RoomH k A → L2H.PinOk out H s p → Env0 P w K mg base A out s H →
    BindsTo s fd ar (ps.zip us) → Vals vs us → sp p vs H Q E → codeAny (model P w) A (.call (.ref f) ar) (CR CX0 out P w H s Q E) s
section
variable {P : Program} {w : World} {K : PySem.W.Frag} {mg : Str → Option Value} {base : Heap}
theorem okE {x qual : Str} {st : Stmt} {f : Addr} {fd : FuncData} {N ps : List Str} {k : Nat} {sp : Addr × Obj → Sp} (F : Fun K x qual st f fd) (S : FnScope N ps (defScope st)) (ln : ∀ p vs H Q E, sp p vs H Q E → vs.length = ps.length)
    (hb : ∀ (cdv : Value) (p : Addr × Obj) (A : Around) (out : List Env) (s : Shared) (H : Hp) (vs : List V) (Q : VK) (E : XK), L2H.RoomH k (A.deeper (envOfC qual (defScope st) s.heap.objs.size f cdv)) → sp p vs H Q E →
      ∃ t, PSs (L2H.cxH CX0 P w K mg base N qual (defScope st) f cdv A out s H E p) (defBody st) t ∧ t { nx := fun _ H' => Q .non H', rt := Q } (start N vs) H) : FnE P w K mg base (k + 1) f fd ps sp := by
  obtain ⟨oc, od, kV, doc, pm, an, cdv, ct, osl, rfl, lk, hcd⟩ := F.ex
  refine ⟨ln, fun p A out s H ar us vs Q E room hpin en bd rv hs => ?_⟩
  have KX : K.In s.heap := en.mod.kin.keeps fun b o e => (en.bs b o e).1
  have nl : s.heap.NoLimit := en.mod.nolimit.keeps fun b o e => (en.bs b o e).1
  have kd : ∀ y ∈ ps.zip us, (defScope st).names.lookup y.1 = some .local ∨ ((defScope st).names.lookup y.1 = some .cell ∧ ((cellsFrom (s.heap.objs.size + 1) (defScope st).names []).lookup y.1).isSome = true) := by
    rintro ⟨n, v⟩ hy
    have hm := (List.of_mem_zip hy).1
    exact (S.par n hm).elim (fun q => .inl q) fun q => .inr ⟨q, PySem.W.cellsFrom_some _ _ _ (.inl q)⟩
  refine codeAny_call_function room.depth (KX _ _ lk) rfl S.co S.gen rfl (PySem.W.codeRec_of KX hcd) (bd _ _ _ _ ?_)
  refine wpAny_newFunctionEnv_cells S.kind kd fun e1 he s1 x => ?_
  subst he
  refine ⟨nl.keeps x.toInCall.keep, codeAny_func ?_⟩
  obtain ⟨t, ht, hq⟩ := hb cdv p A out s H vs Q E (room.deeper _) hs
  have J0 : Inv (L2H.cxH CX0 P w K mg base N qual (defScope st) f cdv A out s H E p) [] (start N vs) H s1 := L2H.inv_startH S hpin en (ln _ _ _ _ _ hs) rv x
  refine wpAny_mono (ht.run [] s1 (start N vs) H _ J0 hq) (fun fl s' h3 => ?_) fun _ _ h3 => h3
  cases fl with
  | ret u => exact let ⟨v, _, H', J, r2, q⟩ := h3; ⟨v, H', J.os, J.bare, J.base, J.hok, r2, q⟩
  | next => exact let ⟨_, H', J, q⟩ := h3; ⟨.non, H', J.os, J.bare, J.base, J.hok, rfl, q⟩
  | brk => exact (let ⟨_, _, _, q⟩ := h3; q : False).elim
  | cont => exact (let ⟨_, _, _, q⟩ := h3; q : False).elim
structure CalE (P : Program) (w : World) (K : PySem.W.Frag) (mg : Str → Option Value) (base : Heap) (k : Nat) (x : Str) (sp : Addr × Obj → Sp) : Prop where
  ex : ∃ (f : Addr) (fd : FuncData) (ps : List Str), FnE P w K mg base k f fd ps sp ∧ mg x = some (.ref f) ∧ PySem.W.keepIn K (.ref f) = true ∧ Binds K fd ps []
structure CalX (P : Program) (w : World) (K : PySem.W.Frag) (mg : Str → Option Value) (base : Heap) (k : Nat) (x : Str) (sp : Sp) : Prop where
  ex : ∃ (f : Addr) (fd : FuncData) (ps : List Str), FnOk P w K mg base (L2.CX P w) k f fd ps sp ∧ mg x = some (.ref f) ∧ PySem.W.keepIn K (.ref f) = true ∧ Binds K fd ps []
end
section
variable {X : Cx} {k j : Nat} {x : Str} {p pos : Pos} {e : Expr} {es : List Expr} {t : TA}
def tCe (sp : Addr × Obj → Sp) (pr : Addr × Obj) (t : TA) : TE := fun σ H Q => t σ H fun vs H1 => sp pr vs H1 Q E0
theorem pe_ce {sp : Addr × Obj → Sp} {pr : Addr × Obj} (c : CalE X.prog X.w X.K X.mg X.base k x sp) (hr : L2H.RoomH k X.A) (hp : pr ∈ X.pn) (hg : Gl X x) (ha : PA X (e :: es) t)
    (hdb : (x == ("__debug__" : Str)) = false := by decide) (he : starEach (e :: es) X.env = (false, eval e X.env) :: starEach es X.env := by rfl) (hpl : (backTo pos (starEach es X.env)).any (·.1) = false := by rfl) :
    PE X (.Call (.Name x p) (e :: es) [] pos) (tCe sp pr t) := by
  obtain ⟨f, fd, ps, F, hm, kp, hb⟩ := c.ex
  refine ⟨fun pins s σ H Q I h => ?_⟩
  refine wpAny_Call_Name_kw (ld_glob I hg hm ?_ hdb)
  refine PySem.W.callWith_K (h₀ := X.base) I.ok.mod.kin kp (thn (ha.run pos pins s σ H _ I h) fun us s1 ⟨vs, H1, I1, r, q⟩ => ⟨I1.kIn, ?_⟩) he hpl
  have hl : us.length = ps.length := by rw [← r.length]; exact F.len _ _ _ _ _ q
  have b := hb s1 us I1.kIn (by rw [List.append_nil]; exact hl)
  rw [List.append_nil] at b
  have P1 := I1.pin pr (List.mem_append_left _ hp)
  have hpin : L2H.PinOk X.stack H1 s1 pr := ⟨P1.1, P1.2.1, fun hm => (List.mem_cons.mp (I1.stkSub pr.1 hm)).elim P1.2.2.1 P1.2.2.2.1, P1.2.2.2.2⟩
  refine wpAny_call (codeAny_mono (F.run pr X.A X.stack s1 H1 ⟨us, []⟩ us vs Q E0 hr hpin I1.env0 b r q) fun r s' hq => ?_)
  cases r with
  | error e => exact pass0 pins σ H1 s1 e s' I1 hq
  | ok fl =>
    cases fl with
    | ret u => exact I1.after hq
    | next => exact False.elim hq
    | brk => exact False.elim hq
    | cont => exact False.elim hq
def tCx (sp : Sp) (W : WX) (t : TA) : TE := fun σ H Q => t σ H fun vs H1 => sp vs H1 Q (WE W σ)
theorem pe_cx {sp : Sp} {W : WX} (c : CalX X.prog X.w X.K X.mg X.base k x sp) (hr : Room j X.A) (hk : k ≤ j) (tk : Takes X W) (hg : Gl X x) (ha : PA X (e :: es) t)
    (hdb : (x == ("__debug__" : Str)) = false := by decide) (he : starEach (e :: es) X.env = (false, eval e X.env) :: starEach es X.env := by rfl) (hpl : (backTo pos (starEach es X.env)).any (·.1) = false := by rfl) :
    PE X (.Call (.Name x p) (e :: es) [] pos) (tCx sp W t) := by
  obtain ⟨f, fd, ps, F, hm, kp, hb⟩ := c.ex
  refine ⟨fun pins s σ H Q I h => ?_⟩
  refine wpAny_Call_Name_kw (ld_glob I hg hm ?_ hdb)
  refine PySem.W.callWith_K (h₀ := X.base) I.ok.mod.kin kp (thn (ha.run pos pins s σ H _ I h) fun us s1 ⟨vs, H1, I1, r, q⟩ => ⟨I1.kIn, ?_⟩) he hpl
  exact run_fnS F (hr.mono hk) hb (passAt tk σ) I1 r q
end
/-! ### != of two built-in types -/
section
variable {M : Model} {A : Around} {E : Value → Shared → Prop} {s : Shared}
theorem richNe_decline {a b : Value} {T id : String} {k : Bool} {Q : Value → Shared → Prop} (ha : ∀ s' : Shared, s'.TypeIs a T) (hb : ∀ s' : Shared, s'.TypeIs b T)
    (h1 : Slot T (cmpInfo .NotEq).2.1 id) (h2 : Slot T (cmpInfo .NotEq).2.2 id) (hv : [a, b].any Value.onHeap = false) (hk : isSame a b = pure k)
    (hc : wpAny M A (call (.builtin id) [a, b]) (fun v s₁ => v = .notImplemented ∧ wpAny M A (call (.builtin id) [b, a]) (fun v s₂ => v = .notImplemented ∧ Q (.bool !k) s₂) E s₁) E s) :
    wpAny M A (richCompare .NotEq a b) Q E s := by
  rcases hi : cmpInfo CmpOp.NotEq with ⟨sym, f, r⟩
  rw [hi] at h1 h2
  simp only [richCompare, hi, (ha s).oneThing_none]
  try with_reducible refine wpAny_holding ?_
  refine wpAny_bind (wpAny_cRoomFor_or (.inl hv) ?_)
  refine wpAny_bind (wpAny_typeOf (ha s) (wpAny_bind (wpAny_typeOf (hb s) ?_)))
  simp only [bne_self_eq_false, Bool.false_eq_true, if_false, pure_bind, Bool.not_false, if_true]
  refine wpAny_bind (m := tryCompare a _ b) (wpAny_tryCompare_declines (ha s) h1 (wpAny_mono hc (fun v s₁ h₁ => ⟨h₁.1, ?_⟩) fun _ _ x => x))
  refine wpAny_bind (m := tryCompare b _ a) (wpAny_tryCompare_declines (hb s₁) h2 (wpAny_mono h₁.2 (fun v s₂ h₂ => ⟨h₂.1, ?_⟩) fun _ _ x => x))
  first
    | exact wpAny_bind (wpAny_rule (wpAny_bind (wpAny_of_eq hk (wpAny_pure h₂.2))))
    | exact wpAny_bind (wpAny_of_eq hk (wpAny_pure h₂.2))
end
section
variable {prog : Program} {w : World} {A : Around} {E : Value → Shared → Prop} {s : Shared} {Q : Value → Shared → Prop}
theorem slot_type_ne2 : Slot "type" (cmpInfo .NotEq).2.2 "object.__ne__" := slot_type_ne
theorem call_object_ne {X Y : String} (hX : ∀ s' : Shared, s'.TypeIs (.type X) "type") (hne : (Value.type X == Value.type Y) = false) (h : Q .notImplemented s) : wpAny (model prog w) A (call (.builtin "object.__ne__") [.type X, .type Y]) Q E s := by
  refine wpAny_call_entry slot_type_ne (hX s) F.entry_object_ne ?_ (F.args_object_ne_2 _ _)
  unfold Builtin.«object.__ne__»
  refine wpAny_bind (m := slotArgs "__ne__" 1 _) (wpAny_of_eq (a := ((Value.type X : Value), [Value.type Y])) (by first | rfl | (simp only [slotArgs]; rfl)) ?_)
  refine wpAny_bind (wpAny_cRoomFor_or (.inl rfl) ?_)
  refine wpAny_bind (m := callSpecialIfBound? (.type X) (Str.ofString "__eq__") [.type Y]) (wpAny_callSpecialIfBound?_slot (hX s) PySem.TypeEq.slot_type_eq
    (call_gives PySem.TypeEq.slot_type_eq (hX s) F.entry_object_eq (F.args_object_eq_2 _ _) (PySem.TypeEq.object_eq_other rfl hne) ?_))
  first
    | exact wpAny_pure ⟨_, rfl, h⟩
    | exact wpAny_pure h
    | exact wpAny_pure ⟨_, rfl, rfl, h⟩
theorem ne_type_other {X Y : String} (hX : ∀ s' : Shared, s'.TypeIs (.type X) "type") (hY : ∀ s' : Shared, s'.TypeIs (.type Y) "type") (hne : (Value.type X == Value.type Y) = false) (hne' : (Value.type Y == Value.type X) = false) (h : Q (.bool true) s) : wpAny (model prog w) A (compareOp .NotEq (.type X) (.type Y)) Q E s := by
  show wpAny _ A (richCompare .NotEq _ _) Q E s
  exact richNe_decline (T := "type") (k := false) hX hY slot_type_ne slot_type_ne2 rfl (by rw [isSame_plain rfl, hne]) (call_object_ne hX hne ⟨rfl, call_object_ne hY hne' ⟨rfl, h⟩⟩)
end
def rNeTyG : R2 := fun x y H Q => (∃ a, x = .ty a ∧ y = .ty a ∧ (∀ s' : Shared, s'.TypeIs (.type a) "type") ∧ Q (.bl false) H) ∨ ∃ a b, x = .ty a ∧ y = .ty b ∧ (∀ s' : Shared, s'.TypeIs (.type a) "type") ∧ (∀ s' : Shared, s'.TypeIs (.type b) "type") ∧ (Value.type a == Value.type b) = false ∧ (Value.type b == Value.type a) = false ∧ Q (.bl true) H
theorem op_neTyG {X : Cx} : OpR X (compareOp .NotEq) rNeTyG := by
  intro pins s σ H x y v u Q I rx ry h
  rcases h with ⟨a, rfl, rfl, ha, q⟩ | ⟨a, b, rfl, rfl, ha, hb, n1, n2, q⟩
  · cases (show v = Value.type a from rx)
    cases (show u = Value.type a from ry)
    exact ne_type_same ha ⟨.bl false, H, I, rfl, q⟩
  · cases (show v = Value.type a from rx)
    cases (show u = Value.type b from ry)
    exact ne_type_other ha hb n1 n2 ⟨.bl true, H, I, rfl, q⟩
/-! ### xs[i] op= e; one sign * n -/
def rGetL (K : PySem.W.Frag) : V → V → Hp → VK → Prop := fun o i H Q => ∃ p xs j v, o = .ref p ∧ i = .int j ∧ SqL K H p xs ∧ 0 ≤ j ∧ atI xs j = some v ∧ Q v H
theorem get_list {X : Cx} : PGet X (rGetL X.K) := by
  intro pins s σ H o i ov iv Q I ro ri h
  obtain ⟨p, xs, k, z, rfl, rfl, hq, h0, he, q⟩ := h
  cases ro
  obtain ⟨t, rfl⟩ := ri
  obtain ⟨its, r, pl, hz⟩ := I.list hq
  obtain ⟨j, h1, h2, h3, h4, h5⟩ := atI_get he
  obtain ⟨w, ew, rw'⟩ := r.get h2
  have hj : k.toNat = j := by
    rw [seqIndex_of h0 h5] at h1
    exact Option.some.inj h1
  have hl := r.length
  have hn := line63
  exact wpAny_getItem_list pl.isList h0 (by omega) (by rw [hj]; simpa using ew) ⟨z, H, I, rw', q⟩
theorem op_repA {X : Cx} : OpR X (binaryOp .Mult) (fun x y H Q => ∃ (z : Str) (n : Nat), x = .str z ∧ y = .int (n : Int) ∧ z.length = 1 ∧ n ≤ 1000 ∧ ∀ y, Q (.str y) H) := by
  intro pins s σ H x y v u Q I r1 r2 h
  obtain ⟨z, n, e1, e2, hz, hn, q⟩ := h
  subst e1; subst e2
  obtain ⟨t, rfl⟩ := r1
  obtain ⟨t', rfl⟩ := r2
  refine PySem.P.mul_str ?_ (fun c _ => ?_) (fun _ _ => ?_) ?_
  · rw [decide_eq_false (show ¬ (n : Int) < -(2 ^ 63 : Int) by omega), decide_eq_false (show ¬ (n : Int) ≥ 2 ^ 63 by omega)]
    rfl
  · rw [hz]
    have := (Int.le_ediv_iff_mul_le (show (0 : Int) < n by omega)).mpr (show ((1 : Nat) : Int) * (n : Int) ≤ 2 ^ 63 - 1 by omega)
    omega
  · rw [hz]
    unfold Builtin.Str.tooLong
    refine decide_eq_false ?_
    have e : (n : Int).toNat = n := rfl
    have z := zs (show n ≤ 100000 by omega)
    omega
  · by_cases h0 : n = 0
    · subst h0
      rw [if_pos (by decide)]
      exact ⟨by decide, .str _, H, I.tok _, ⟨_, rfl⟩, q _⟩
    · rw [if_neg (show ¬ (n : Int) < 1 by omega), hz]
      by_cases h1 : n = 1
      · subst h1
        rw [if_pos (by rfl)]
        exact ⟨.str _, H, I, ⟨_, rfl⟩, q _⟩
      · have hb : ((n : Int) == 1 || (1 : Nat) == 0) = false := by
          rw [beq_eq_false_iff_ne.mpr (show (n : Int) ≠ 1 by omega)]
          rfl
        rw [hb, if_neg Bool.false_ne_true]
        refine ⟨?_, .str _, H, I.tok _, ⟨_, rfl⟩, q _⟩
        have f0 := foldl_repN z.cps.toList n []
        rw [List.nil_append] at f0
        have e : (n : Int).toNat = n := rfl
        have e3 : z.cps = z.cps.toList.toArray := rfl
        rw [e]
        have f1 : List.foldl (fun x1 x2 => x1 ++ x2) #[] (List.replicate n z.cps) = ((List.replicate n z.cps.toList).flatten).toArray := f0
        show (List.foldl (fun (x1 x2 : Array Nat) => x1 ++ x2) #[] (List.replicate n z.cps)).size ≤ _
        rw [f1, List.size_toArray]
        have : ∀ m : Nat, ((List.replicate m z.cps.toList).flatten).length = m := fun m => by
          induction m with
          | zero => rfl
          | succ m ih =>
            rw [List.replicate_succ, List.flatten_cons, List.length_append, ih]
            have : z.cps.toList.length = 1 := hz
            omega
        rw [this]
        exact zs (by omega)
end Lp
set_option Elab.async false
set_option linter.all false
set_option maxRecDepth 100000
set_option maxHeartbeats 1000000
namespace Lp
open PySem PySem.Spec PyProof.Rows L2
/-! ### len(x), y in x: by a method of an own class -/
section
variable {X : Cx} {k j : Nat} {C : Addr} {sp : Sp}
theorem inst_of {pins : List (Addr × Obj)} {σ : L2.St} {H : Hp} {s : Shared} {a dx : Addr} {fs : List (Str × V)} (I : Inv X pins σ H s) (e : H a = some (.ins C dx fs)) : ∃ ox od, PySem.W.InstAt s.heap a ox C od := by
  obtain ⟨mA, O, _⟩ := ins_get I.hok e
  obtain ⟨od, J, _⟩ := O.look
  exact ⟨_, _, J⟩
/-- a call of a method's def, wherever the machine stands -/
theorem run_at {A : Around} {pins : List (Addr × Obj)} {σ : L2.St} {H : Hp} {s : Shared} {f : Addr} {fd : FuncData} {ps : List Str} {us : List Value} {vs : List V} {Q : VK} {E1 : Value → Shared → Prop} (F : FnOk X.prog X.w X.K X.mg X.base CX0 k f fd ps sp) (hr : Room k A) (b : Binds X.K fd ps []) (I : Inv X pins σ H s) (en : Env0 X.prog X.w X.K X.mg X.base A X.stack s H)
    (r : Vals vs us) (q : sp vs H Q E0) : wpAny (model X.prog X.w) A (call (.ref f) us) (EP X pins σ Q) E1 s := by
  have hl : us.length = ps.length := by rw [← r.length]; exact F.len _ _ _ _ q
  have bd := b s us I.kIn (by rw [List.append_nil]; exact hl)
  rw [List.append_nil] at bd
  refine wpAny_call (codeAny_mono (F.run A X.stack s H ⟨us, []⟩ us vs Q E0 hr en bd r q) fun r s' hq => ?_)
  cases r with
  | error e => exact hq.elim
  | ok fl =>
    cases fl with
    | ret u => exact I.after hq
    | next => exact False.elim hq
    | brk => exact False.elim hq
    | cont => exact False.elim hq
def rLenO (C : Addr) (sp : Sp) : List V → Hp → VK → Prop := fun xs H Q => ∃ (a dx : Addr) (fs : List (Str × V)), xs = [.ref a] ∧ H a = some (.ins C dx fs) ∧ sp [.ref a] H (fun v H' => ∃ n : Int, v = .int n ∧ 0 ≤ n ∧ n < 2 ^ 63 ∧ Q (.int n) H') E0
theorem call_lenO (c : Met X.prog X.w X.K X.mg X.base k C "__len__" sp) (hr : Room j X.A) (hk : k + 1 ≤ j) : CallR X (.builtin "len") (rLenO C sp) := by
  intro pins s σ H xs us Q I r h
  obtain ⟨a, dx, fs, rfl, ha, q⟩ := h
  obtain ⟨f, fd, ps, hc, hm, F, b⟩ := c.ex
  obtain ⟨u, rfl, ru⟩ := vals1 r
  cases (show u = Value.ref a from ru)
  obtain ⟨ox, od, J⟩ := inst_of I ha
  refine Calls.call_function_entry PySem.kind_len PySem.plain_len PySem.entry_len (PySem.args_len1 _) ?_
  unfold Builtin.«len»
  refine wpAny_bind (m := oneArg "len" _) (wpAny_pure ?_)
  refine wpAny_bind (m := callSpecial? (.ref a) (Str.ofString "__len__")) (PySem.W.special_fn I.kIn J hm.at_ (beq_iff_eq.mp hm.fn) (wpAny_mono (run_at (A := X.A.in1) (vs := [.ref a]) F (hr.mono hk).in1 b I I.env0.in1 (.cons rfl .nil) q) (fun v s' hv => ?_) fun _ _ z => z))
  obtain ⟨v, H', I', rv, n, rfl, h0, h1, hq⟩ := hv
  obtain ⟨t, rfl⟩ := rv
  refine wpAny_bind (wpAny_holding (wpAny_pure ?_))
  refine wpAny_bind (wpAny_letGo ?_)
  show wpAny _ _ (if n < 0 then _ else _) _ _ _
  rw [if_neg (by omega)]
  show wpAny _ _ (if n ≥ 2 ^ 63 then _ else _) _ _ _
  rw [if_neg (by omega)]
  exact wpAny_bind (wpAny_mkInt (wpAny_pure ⟨_, rfl, .int n, H', I'.tok _, ⟨_, rfl⟩, hq⟩))
def tInO (C : Addr) (sp : Sp) (ty td : TE) (neg : Bool) : TE := fun σ H Q => ty σ H fun y H1 => td σ H1 fun x H2 => ∃ (a dx : Addr) (fs : List (Str × V)), x = .ref a ∧ H2 a = some (.ins C dx fs) ∧ sp [.ref a, y] H2 (fun v H' => ∃ b : Bool, v = .bl b ∧ Q (.bl (if neg then !b else b)) H') E0
theorem pc_inO {i o : Expr} {ty td : TE} (c : Met X.prog X.w X.K X.mg X.base k C "__contains__" sp) (hr : Room j X.A) (hk : k ≤ j) (hi : PE X i ty) (ho : PE X o td) : PC X .In i o (tInO C sp ty td false) := by
  obtain ⟨f, fd, ps, hc, hm, F, b⟩ := c.ex
  refine ⟨fun pins s σ H Q I h => ?_⟩
  refine thn (hi.run pins s σ H _ I h) fun iv s1 ⟨y, H1, I1, ry, q1⟩ => thn (ho.run pins s1 σ H1 _ I1 q1) fun u s2 ⟨x, H2, I2, rx, a, dx, fs, ex, ea, q2⟩ => ?_
  subst ex
  cases (show u = Value.ref a from rx)
  obtain ⟨ox, od, J⟩ := inst_of I2 ea
  refine wpAny_bind ?_
  unfold contains
  refine wpAny_holding (wpAny_bind (wpAny_bind (J.type.here ((PySem.W.looks_findIn I2.kIn hm.at_).here ?_))))
  rw [if_neg (by simp)]
  refine wpAny_bind (PySem.W.unlessNone_K I2.kIn J hm.at_ hm.fn (wpAny_mono (run_at (vs := [.ref a, y]) F (hr.mono hk) b I2 I2.env0 (.cons rfl (.cons ry .nil)) q2) (fun v s' hv => ?_) fun _ _ z => z))
  obtain ⟨v, H', I', rv, b', rfl, hq⟩ := hv
  cases rv
  refine wpAny_of_eq (a := b') (by first | rfl | simp [truthy]) ?_
  exact wpAny_pure ⟨.bl b', H', I', rfl, hq⟩
end
end Lp
namespace Lp
open PySem PySem.Spec PyProof.Rows L2
/-! ### a + b of two instances, by __add__ -/
theorem binop_own {prog : Program} {w : World} {A : Around} {E : Value → Shared → Prop} {s : Shared} {K : PySem.W.Frag} {x C f : Addr} {ox : Obj} {od : Option Obj} {op : Operator} {b : Value} {Q : Value → Shared → Prop} (kin : K.In s.heap) (J : PySem.W.InstAt s.heap x ox C od) (tb : PySem.W.Looks (model prog w) s.heap (typeOf b) (.ref C)) (sf : PySem.W.selfFirst K C = true)
    (at_ : PySem.W.findIn K (.ref C) (PySem.dunder op.info.2) = some (some (.ref f))) (isf : PySem.W.isFn K (.ref f) = true) (go : wpAny (model prog w) A (call (.ref f) [.ref x, b]) (fun v s' => v ≠ .notImplemented ∧ Q v s') E s) : wpAny (model prog w) A (binaryOp op (.ref x) b) Q E s := by
  obtain ⟨cd, e1, e2⟩ := PySem.W.any_some sf
  have e3 : ∃ rest, cd.mro = .ref C :: rest := by
    cases hq : cd.mro with
    | nil =>
      rw [hq] at e2
      cases e2
    | cons u r =>
      rw [hq, List.head?_cons] at e2
      cases (beq_iff_eq.mp e2)
      exact ⟨r, rfl⟩
  obtain ⟨rest, e3⟩ := e3
  unfold binaryOp
  refine wpAny_holding (wpAny_bind ?_)
  unfold binaryOp1
  refine wpAny_bind (J.type.here (wpAny_bind (tb.here (wpAny_bind ((PySem.W.fills_K kin e1 e3 at_).here ?_)))))
  simp only [beq_self_eq_true, if_true]
  refine wpAny_bind (wpAny_pure ?_)
  simp only [Bool.and_false, Bool.false_eq_true, if_false, Bool.false_and]
  refine wpAny_bind (wpAny_pure ?_)
  simp only [Bool.false_eq_true, if_false]
  refine wpAny_bind (m := tryMethod (.ref x) _ b) ?_
  unfold tryMethod
  refine wpAny_bind (PySem.W.special_fn kin J at_ (beq_iff_eq.mp isf) (wpAny_mono go (fun v s' hv => ?_) fun _ _ z => z))
  obtain ⟨nv, hv⟩ := hv
  cases v <;> first | exact absurd rfl nv | exact wpAny_pure (wpAny_pure (wpAny_pure hv))
section
variable {X : Cx} {k j : Nat} {C : Addr} {sp : Sp}
theorem relV_ni {v : V} {u : Value} (r : RelV v u) : u ≠ .notImplemented := by
  intro e
  subst e
  cases v <;> first | (obtain ⟨_, h⟩ := r; cases h) | cases r | (exact nomatch r)
def rAddO (C : Addr) (sp : Sp) : R2 := fun x y H Q => ∃ (a b dx dy : Addr) (fs gs : List (Str × V)), x = .ref a ∧ y = .ref b ∧ H a = some (.ins C dx fs) ∧ H b = some (.ins C dy gs) ∧ sp [.ref a, .ref b] H Q E0
theorem op_addO (c : Met X.prog X.w X.K X.mg X.base k C "__add__" sp) (hr : Room j X.A) (hk : k ≤ j) (sf : PySem.W.selfFirst X.K C = true) : OpR X (binaryOp .Add) (rAddO C sp) := by
  intro pins s σ H x y v u Q I rx ry h
  obtain ⟨a, b, dx, dy, fs, gs, rfl, rfl, ha, hb, q⟩ := h
  obtain ⟨f, fd, ps, hc, hm, F, bd⟩ := c.ex
  cases (show v = Value.ref a from rx)
  cases (show u = Value.ref b from ry)
  obtain ⟨ox, od, J⟩ := inst_of I ha
  obtain ⟨ox2, od2, J2⟩ := inst_of I hb
  refine binop_own I.kIn J J2.type sf hm.at_ hm.fn (wpAny_mono (run_at (vs := [.ref a, .ref b]) F (hr.mono hk) bd I I.env0 (.cons rfl (.cons rfl .nil)) q) (fun w s' hw => ?_) fun _ _ z => z)
  exact ⟨by obtain ⟨z, _, _, r, _⟩ := hw; exact relV_ni r, hw⟩
end
end Lp
namespace Lp
open PySem PySem.Spec PyProof.Rows L2
/-! ### a == b of two instances, by __eq__ -/
theorem eq_own {prog : Program} {w : World} {A : Around} {E : Value → Shared → Prop} {s : Shared} {K : PySem.W.Frag} {x C f : Addr} {ox : Obj} {od : Option Obj} {op : CmpOp} {b tb : Value} {Q : Value → Shared → Prop} (hu : A.units < cLine) (kin : K.In s.heap) (J : PySem.W.InstAt s.heap x ox C od) (tyb : PySem.W.Looks (model prog w) s.heap (typeOf b) tb)
    (nf : PySem.W.notFirst K C tb = true) (at_ : PySem.W.findIn K (.ref C) (cmpInfo op).2.1 = some (some (.ref f))) (isf : PySem.W.isFn K (.ref f) = true) (go : wpAny (model prog w) A (call (.ref f) [.ref x, b]) (fun v s' => v ≠ .notImplemented ∧ Q v s') E s) : wpAny (model prog w) A (richCompare op (.ref x) b) Q E s := by
  have mine : wpAny (model prog w) A (tryCompare (.ref x) (cmpInfo op).2.1 b) (fun r s' => ∃ v, r = some v ∧ Q v s') E s := by
    unfold tryCompare
    refine wpAny_bind (PySem.W.ifBound_K kin J at_ isf (wpAny_mono go (fun v s' hv => ?_) fun _ _ z => z))
    obtain ⟨nv, hv⟩ := hv
    cases v <;> first | exact absurd rfl nv | exact wpAny_pure ⟨_, rfl, hv⟩
  have last : ∀ {g : Option Value → Sem Value}, (∀ v, g (some v) = pure v) → wpAny (model prog w) A (tryCompare (.ref x) (cmpInfo op).2.1 b >>= g) Q E s := fun {g} hg => wpAny_bind (wpAny_mono mine (fun r s' ⟨v, er, hq⟩ => by rw [er, hg]; exact wpAny_pure hq) fun _ _ z => z)
  unfold richCompare
  simp only [oneThing_ref]
  refine wpAny_holding (wpAny_bind (wpAny_cRoomFor hu ?_))
  refine wpAny_bind (J.type.here (wpAny_bind (tyb.here ?_)))
  split
  · rename_i q
    have sb : PySem.W.subIn K tb (.ref C) = some false := by
      rcases Bool.or_eq_true_iff.mp nf with z | z
      · rw [beq_iff_eq.mp z] at q
        simp at q
      · exact beq_iff_eq.mp z
    refine wpAny_bind ((PySem.W.looks_subIn kin sb).here ?_)
    simp only [Bool.false_eq_true, if_false]
    exact last fun v => rfl
  · refine wpAny_bind (wpAny_pure ?_)
    simp only [Bool.false_eq_true, if_false]
    exact last fun v => rfl
section
variable {X : Cx} {k j : Nat} {C : Addr} {sp : Sp}
theorem op_eqO (c : Met X.prog X.w X.K X.mg X.base k C "__eq__" sp) (hr : Room j X.A) (hk : k ≤ j) (nf : PySem.W.notFirst X.K C (.ref C) = true) : OpR X (compareOp .Eq) (rAddO C sp) := by
  intro pins s σ H x y v u Q I rx ry h
  obtain ⟨a, b, dx, dy, fs, gs, rfl, rfl, ha, hb, q⟩ := h
  obtain ⟨f, fd, ps, hc, hm, F, bd⟩ := c.ex
  cases (show v = Value.ref a from rx)
  cases (show u = Value.ref b from ry)
  obtain ⟨ox, od, J⟩ := inst_of I ha
  obtain ⟨ox2, od2, J2⟩ := inst_of I hb
  have hu : X.A.units < cLine := by have := hr.units; omega
  show wpAny _ X.A (richCompare .Eq _ _) _ _ s
  refine eq_own (op := .Eq) hu I.kIn J J2.type nf hm.at_ hm.fn (wpAny_mono (run_at (vs := [.ref a, .ref b]) F (hr.mono hk) bd I I.env0 (.cons rfl (.cons rfl .nil)) q) (fun w s' hw => ?_) fun _ _ z => z)
  exact ⟨by obtain ⟨z, _, _, r, _⟩ := hw; exact relV_ni r, hw⟩
end
end Lp
set_option Elab.async false
set_option linter.all false
set_option maxRecDepth 100000
set_option maxHeartbeats 1000000
namespace Lp
open PySem PySem.Spec PyProof.Rows L2
/-! ### x(e, ..) of an instance, by __call__ -/
theorem inst_plain {X : Cx} {C : Addr} {pins : List (Addr × Obj)} {σ : L2.St} {H : Hp} {s : Shared} {a dx : Addr} {fs : List (Str × V)} (I : Inv X pins σ H s) (e : H a = some (.ins C dx fs)) : ∃ ox od, PySem.W.InstAt s.heap a ox C od ∧ ox.data = .plain := by
  obtain ⟨mA, O, _⟩ := ins_get I.hok e
  obtain ⟨od, J, _⟩ := O.look
  exact ⟨_, _, J, rfl⟩
theorem callWith_obj {M : Model} {A : Around} {E : Value → Shared → Prop} {s : Shared} {pos : Pos} {x : Addr} {first : List Value} {Q : Value → Shared → Prop} {args : List (Bool × Sem Value)} {kws : List (Option Str × Sem Value)} (hp : (args.any (·.1) || kws.any (·.1.isNone)) = false)
    (h : wpAny M A (evalArgs (.ref x) true args kws) (fun a s₁ => (∃ C ox od, PySem.W.InstAt s₁.heap x ox C od ∧ ox.data = .plain) ∧ wpAny M A (call (.ref x) (first ++ a.pos) a.kw) Q E s₁) E s) : wpAny M A (callWith pos (.ref x) first args kws) Q E s := by
  unfold callWith
  refine wpAny_bind (wpAny_holding (wpAny_mono h (fun a s₁ ⟨⟨C, ox, od, J, hd⟩, hq⟩ => wpAny_bind (wpAny_standAt ?_)) fun _ _ z => z))
  have kl := PySem.W.kco_keeper (M := M) J hd
  simp only [hp]
  refine wpAny_bind (kl.here ?_)
  have tl : ∀ {t : Sem Value}, wpAny M A t Q E s₁ → wpAny M A (t >>= fun r => holding [r] point >>= fun _ => pure r) Q E s₁ :=
    fun ht => wpAny_bind (wpAny_mono ht (fun r s₂ hr => wpAny_bind (wpAny_holding (wpAny_point (wpAny_pure hr)))) fun _ _ z => z)
  exact tl (wpAny_operateT hq)
section
variable {X : Cx} {k j i : Nat} {C : Addr} {sp : Sp} {x : Str} {p pos : Pos} {e : Expr} {es : List Expr} {t : TA}
def tCallO (i : Nat) (C : Addr) (sp : Sp) (t : TA) : TE := fun σ H Q => ∃ a : Addr, σ[i]? = some (some (.ref a)) ∧ t σ H fun vs H1 => ∃ (dx : Addr) (fs : List (Str × V)), H1 a = some (.ins C dx fs) ∧ sp (.ref a :: vs) H1 Q E0
theorem pe_callO (c : Met X.prog X.w X.K X.mg X.base k C "__call__" sp) (fi : ∀ f, PySem.W.findIn X.K (.ref C) "__call__" = some (some (.ref f)) → PySem.W.fnIn X.K f = true) (hr : Room j X.A) (hk : k ≤ j) (hN : X.N[i]? = some x) (hv : Vis X.env.scope x) (ha : PA X (e :: es) t)
    (hdb : (x == ("__debug__" : Str)) = false := by decide) (hcd : (x == ("__classdict__" : Str)) = false := by decide)
    (he : starEach (e :: es) X.env = (false, eval e X.env) :: starEach es X.env := by rfl) (hpl : (backTo pos (starEach es X.env)).any (·.1) = false := by rfl) : PE X (.Call (.Name x p) (e :: es) [] pos) (tCallO i C sp t) := by
  obtain ⟨f, fd, ps, hc, hm, F, b⟩ := c.ex
  refine ⟨fun pins s σ H Q I h => ?_⟩
  obtain ⟨a, hs, ht⟩ := h
  refine wpAny_Call_Name_kw (thn ((pe_var (pos := p) hN hv hdb hcd).run pins s σ H (fun v H1 => v = .ref a ∧ H1 = H) I ⟨.ref a, hs, rfl, rfl⟩) fun u s1 ⟨v, H1, I1, r1, q1⟩ => ?_)
  obtain ⟨rfl, rfl⟩ := q1
  cases r1
  have go := ha.run pos pins s1 σ _ _ I1 ht
  rw [he] at go ⊢
  refine callWith_obj (by show ((false || (backTo pos (starEach es X.env)).any (·.1)) || false) = false; rw [hpl]; rfl) (Calls.evalArgs_plain ?_)
  refine thn go fun us s2 ⟨vs, H2, I2, r, dx, fs, ea, q⟩ => ?_
  obtain ⟨ox, od, J, hd⟩ := inst_plain I2 ea
  refine ⟨⟨C, ox, od, J, hd⟩, ?_⟩
  have rr : Vals (.ref a :: vs) (.ref a :: us) := .cons rfl r
  have hl : (Value.ref a :: us).length = ps.length := by rw [← rr.length]; exact F.len _ _ _ _ q
  have bd := b s2 (.ref a :: us) I2.kIn (by rw [List.append_nil]; exact hl)
  rw [List.append_nil] at bd
  refine wpAny_call (PySem.W.kco_code I2.kIn J hd hm.at_ hm.fn (fi f hm.at_) (codeAny_mono (F.run X.A X.stack s2 H2 ⟨.ref a :: us, []⟩ (.ref a :: us) (.ref a :: vs) Q E0 (hr.mono hk) I2.env0 bd rr q) fun r s' hq => ?_))
  cases r with
  | error e => exact hq.elim
  | ok fl =>
    cases fl with
    | ret u => exact I2.after hq
    | next => exact False.elim hq
    | brk => exact False.elim hq
    | cont => exact False.elim hq
end
end Lp
set_option Elab.async false
set_option linter.all false
set_option maxRecDepth 100000
set_option maxHeartbeats 1000000
namespace Lp
open PySem PySem.Spec PyProof.Rows L2
/-! ### sorted(d) of a dict with int keys, any number of them -/
def rSortedDIO : List V → Hp → VK → Prop := fun xs H Q => ∃ (a : Addr) (kvs : List (Key × V)) (ks : List Int), xs = [.ref a] ∧ Rd H a (.dK kvs) ∧ kvs.map (·.1) = ks.map Sum.inl ∧
  ∀ (ys : List Int) (p : Addr), ys.Perm ks → ys.Pairwise (· ≤ ·) → H p = none → Q (.ref p) (upd H p (.lst (ys.map V.int)))
theorem call_sortedDIO {X : Cx} (hcalm : X.calm = true) : CallR X (.builtin "sorted") rSortedDIO := by
  intro pins s σ H xs us Q I r q
  obtain ⟨a, kvs, ks, ex, hd, hks, q⟩ := q
  subst ex
  obtain ⟨u, eu, rx⟩ := vals1 r
  subst eu
  cases rx
  obtain ⟨z, lo, vs, rel, dd⟩ := dk_rd I.hok hd
  obtain ⟨ep, hat⟩ := dd.dictAt
  have hkeys : vs.map (·.1) = ks.map Sum.inl := rel.keys.symm.trans hks
  have hl : vs.length = ks.length := by
    have e := congrArg List.length hkeys
    rw [List.length_map, List.length_map] at e
    exact e
  have hl2 : kvs.length = ks.length := by
    have e := congrArg List.length hks
    rw [List.length_map, List.length_map] at e
    exact e
  have h16 : vs.length ≤ sizeLine := by rw [hl, ← hl2]; exact z
  refine Calls.call_function_entry PyProof.Rows.kind_sorted PyProof.Rows.plain_sorted PyProof.Rows.entry_sorted (PyProof.Rows.args_sorted1 _) ?_
  unfold Builtin.«sorted»
  refine wpAny_bind (m := checkCount "sorted" 1 1 _) (wpAny_pure ?_)
  refine wpAny_bind (PySem.W.kdu_collect (A := X.A.in1) (PySem.W.kdl_dict (knd := mixKind X.prog X.w) (kvs := vs) (ep := ep) lo) (I.ok.hd hcalm) hat h16 fun h' tk acc hk hacc => ?_)
  have hal : acc.toList.length = ks.length := by rw [Array.length_toList, hacc.1, hl]
  have hS : IntsAre acc.toList ks := ints_each hal fun j v e => by
    obtain ⟨k, x, e1, e2⟩ := hacc.2 j v (by rw [← Array.getElem?_toList]; exact e)
    have e3 : (vs.map (·.1))[j]? = some k := by rw [List.getElem?_map, e1]; rfl
    rw [hkeys, List.getElem?_map] at e3
    cases e4 : ks[j]? with
    | none => rw [e4] at e3; cases e3
    | some y =>
      rw [e4] at e3
      have e5 : Sum.inl y = k := Option.some.inj e3
      subst e5
      rcases keyIs_shape (show keyIs (Sum.inl y) v = true from e2) with ⟨i, t, ek, ev⟩ | ⟨z, t, ek, ev⟩
      · cases ek
        exact ⟨y, t, rfl, ev⟩
      · cases ek
  have I1 : Inv X pins σ H { s with heap := h', toks := tk } := I.kept hk
  have hz2 : acc.toList.length ≤ sizeLine := by rw [hal, ← hl2]; exact z
  refine wpAny_bind (wpAny_newList ?_ hz2)
  have hoL : (h'.push (seqObj "list" acc.toList.toArray 0)).get? h'.objs.size = some (seqObj "list" acc.toList.toArray 0) := Heap.get?_push_size _ rfl
  show wpAny _ _ _ _ _ { s with heap := h'.push (seqObj "list" acc.toList.toArray 0), toks := tk }
  refine wpAny_bind (wpAny_holding (wpAny_call_entry PyProof.Rows.slot_list_sort ⟨_, hoL, rfl⟩ PyProof.Rows.entry_list_sort
    (SrtO.list_sort_ord (s := { s with heap := h'.push (seqObj "list" acc.toList.toArray 0), toks := tk }) SrtO.swo_int hoL hz2 (fun h2 => SrtO.ints_sortable hS h2) fun out g1 g2 => ⟨_, rfl, ?_⟩) (PyProof.Rows.args_list_sort _)))
  obtain ⟨k1, k2, k3⟩ := SrtO.ints_out hS g1 g2
  obtain ⟨e', he'⟩ := PyProof.Rows.sortedHeap_at (vs := acc.toList) (out := out.toArray) hoL
  have hlen : ((out.map SrtO.iv).map V.int).length ≤ sizeLine := by
    rw [List.length_map, k2.length_eq, ← hl2]
    exact z
  refine wpAny_pure ⟨_, rfl, .ref h'.objs.size, upd H h'.objs.size (.lst ((out.map SrtO.iv).map V.int)), I1.laid (t' := tk) (fun b u e => ?_) (Nat.le_refl _)
    (show ObjOk X.prog X.w _ _ _ (.lst ((out.map SrtO.iv).map V.int)) from ⟨hlen, out, e', vals_of_ints k1, he'⟩), rfl, q _ _ k2 k3 (I1.hok.fresh (Nat.le_refl _))⟩
  have hb : b < h'.objs.size := Heap.lt_size e
  rw [PyProof.Rows.sortedHeap_old (Nat.ne_of_lt hb) (by rw [size_push']; exact Nat.lt_succ_of_lt hb)]
  exact Heap.get?_push_of_some _ e
end Lp
set_option Elab.async false
set_option linter.all false
set_option maxRecDepth 100000
set_option maxHeartbeats 1000000
namespace Lp
open PySem PySem.Spec PyProof.Rows L2 L2.DX
/-! ### d.items() and sorted(d.items()) of a dict of ints by ints, any number of them -/
def rItemsI : V → List V → Hp → VK → Prop := fun x xs H Q => ∃ (a : Addr) (kvs : List (Key × V)), x = .ref a ∧ xs = [] ∧ H a = some (.dK kvs) ∧ ∀ p, H p = none → Q (.ref p) (upd H p (itemsO p a))
theorem mt_itemsI {X : Cx} : MtR X "dict.items" rItemsI := by
  intro pins s σ H x xs v us Q I rx rxs h
  obtain ⟨a, kvs, rfl, rfl, ha, q⟩ := h
  cases rx
  cases rxs
  obtain ⟨z, hd, vs, rel, dd⟩ := dk_of I.hok ha
  obtain ⟨o, es, ep, ho, hx, hdat, _⟩ := dd
  refine DT.callItems (es := es) (ep := ep) hd ⟨o, ho, hx, hdat⟩ ?_
  have hf : H s.heap.objs.size = none := I.hok.fresh (Nat.le_refl _)
  exact ⟨.ref s.heap.objs.size, upd H s.heap.objs.size (itemsO s.heap.objs.size a), I.laid (t' := s.toks) (fun b u e => Heap.get?_push_of_some _ e) (Nat.le_refl _) (itemsO_ok (Heap.get?_push_size _ rfl)), rfl, q _ hf⟩
abbrev entI (e : Int × Int) : Key × V := (Sum.inl e.1, V.int e.2)
def rSortItI : List V → Hp → VK → Prop := fun vs H Q => ∃ (p a : Addr) (ks : List (Int × Int)), vs = [.ref p] ∧ H p = some (itemsO p a) ∧ H a = some (.dK (ks.map entI)) ∧
  ∀ (H' : Hp) (l : Addr) (ps : List (Addr × Int × Int)), (∀ b o, H b = some o → H' b = some o) → (ps.map (·.2)).Perm ks → (ps.map (·.2)).Pairwise (fun e f => e.1 ≤ f.1) → H' l = some (.lst (ps.map fun z => V.ref z.1)) →
    (∀ z ∈ ps, H' z.1 = some (.tup [.int z.2.1, .int z.2.2])) → H l = none → (∀ z ∈ ps, H z.1 = none) → Q (.ref l) H'
def pairOf (as : List Addr) (ks : List (Int × Int)) : Value → Int × Int
  | .ref b => (ks[as.idxOf b]?).getD (0, 0)
  | _ => (0, 0)
theorem pairOf_at {as : List Addr} {ks : List (Int × Int)} (nd : as.Nodup) {j : Nat} {b : Addr} {e : Int × Int} (hj : as[j]? = some b) (he : ks[j]? = some e) : pairOf as ks (.ref b) = e := by
  obtain ⟨hl, hb⟩ := List.getElem?_eq_some_iff.mp hj
  have hi : as.idxOf b = j := by
    subst hb
    exact nd.idxOf_getElem j hl
  show (ks[as.idxOf b]?).getD (0, 0) = e
  rw [hi, he]
  rfl
theorem pairOf_all {as : List Addr} {ks : List (Int × Int)} (nd : as.Nodup) (hl : as.length = ks.length) : as.map (fun b => pairOf as ks (.ref b)) = ks := by
  refine List.ext_getElem? fun j => ?_
  rw [List.getElem?_map]
  cases hj : as[j]? with
  | none =>
    have h1 := List.getElem?_eq_none_iff.mp hj
    exact (List.getElem?_eq_none (by omega)).symm
  | some b =>
    obtain ⟨h1, _⟩ := List.getElem?_eq_some_iff.mp hj
    have he : ks[j]? = some (ks[j]'(by omega)) := List.getElem?_eq_getElem (by omega)
    rw [he]
    exact congrArg some (pairOf_at nd hj he)
def adOf : Value → Addr
  | .ref b => b
  | _ => 0
theorem adOf_ref : ∀ {out : List Value}, (∀ v ∈ out, ∃ b, v = Value.ref b) → out = (out.map adOf).map Value.ref
  | [], _ => rfl
  | v :: out, h => by
    obtain ⟨b, rfl⟩ := h v List.mem_cons_self
    show Value.ref b :: out = Value.ref b :: (out.map adOf).map Value.ref
    rw [← adOf_ref fun u hu => h u (List.mem_cons_of_mem _ hu)]
theorem adOf_map (as : List Addr) : (as.map Value.ref).map adOf = as := by
  rw [List.map_map]
  exact List.map_id as
theorem cr_sortedItemsI {X : Cx} (hc : X.calm = true) : CallR X (.builtin "sorted") rSortItI := by
  intro pins s σ H xs us Q I r h
  obtain ⟨p, a, ks, rfl, hp, ha, q⟩ := h
  obtain rfl := Vals.ref1 r
  have view : s.heap.IsItemsView p a := (show ObjOk X.prog X.w H s.heap p (itemsO p a) from I.hok p _ hp).1
  obtain ⟨z, hd, vs, rel, o, es, ep, ho, hx, hdat, hes, hprs, hn⟩ := dk_of I.hok ha
  have l1 : (ks.map entI).length = vs.length := rel.length
  have l0 : (ks.map entI).length = ks.length := List.length_map ..
  have l2 : es.size = vs.length := by rw [← hprs.length]; simp
  have hh : X.A.handled = none := I.ok.hd hc
  refine DT.sortedI (es := es) (ep := ep) hh view ⟨o, ho, hx, hdat⟩ (by omega) fun h' tk as hk hlt hl hG => ?_
  have lak : as.length = ks.length := by omega
  have nd : as.Nodup := List.Pairwise.imp (fun h => Nat.ne_of_lt h) hG.rise
  -- the pairs that were made
  have pr : ∀ (j : Nat) (b : Addr), as[j]? = some b → ∃ (e : Int × Int) (t1 t2 : Tok), ks[j]? = some e ∧ h'.get? b = some { cls := .type "tuple", data := .seq #[Value.int e.1 t1, Value.int e.2 t2] } := by
    intro j b hj
    obtain ⟨en, he, hg⟩ := hG.pairs j b hj
    obtain ⟨hjl, _⟩ := List.getElem?_eq_some_iff.mp hj
    have hkj : ks[j]? = some (ks[j]'(by omega)) := List.getElem?_eq_getElem (by omega)
    have hvj : vs[j]? = some (vs[j]'(by omega)) := List.getElem?_eq_getElem (by omega)
    obtain ⟨e1, e2⟩ := hprs.get? (e := en) (by rw [Array.getElem?_toList]; exact he) (show vs[j]? = some ((vs[j]'(by omega)).1, (vs[j]'(by omega)).2) from hvj)
    obtain ⟨x, hx1, hx2⟩ := KV.at' rel (show vs[j]? = some ((vs[j]'(by omega)).1, (vs[j]'(by omega)).2) from hvj)
    rw [List.getElem?_map, hkj] at hx1
    have e3 := Option.some.inj hx1
    have e4 : Sum.inl (ks[j]'(by omega)).1 = (vs[j]'(by omega)).1 := congrArg Prod.fst e3
    have e5 : V.int (ks[j]'(by omega)).2 = x := congrArg Prod.snd e3
    subst e5
    obtain ⟨t2, e6⟩ := hx2
    rw [← e4] at e1
    rcases keyIs_shape (show keyIs (Sum.inl (ks[j]'(by omega)).1) en.key = true from e1) with ⟨i, t, ek, ev⟩ | ⟨z, t, ek, ev⟩
    · cases ek
      refine ⟨_, t, t2, hkj, ?_⟩
      rw [hg, ev, e2, e6]
    · cases ek
  have hob : (h'.push { cls := .type "list", data := .seq (as.map Value.ref).toArray }).get? h'.objs.size = some (seqObj "list" (as.map Value.ref).toArray 0) := Heap.get?_push_size _ rfl
  have kb : ∀ b o, s.heap.get? b = some o → (h'.push { cls := .type "list", data := .seq (as.map Value.ref).toArray }).get? b = some o := fun b o e => Heap.get?_push_of_some _ (hk b o e)
  have ne0 : ∀ b o, h'.get? b = some o → b ≠ h'.objs.size := fun b o e => Nat.ne_of_lt (Heap.lt_size e)
  generalize hh2 : h'.push { cls := .type "list", data := .seq (as.map Value.ref).toArray } = h2 at hob kb ⊢
  have ka : ∀ b o, h'.get? b = some o → h2.get? b = some o := fun b o e => by rw [← hh2]; exact Heap.get?_push_of_some _ e
  have at_ : ∀ v ∈ as.map Value.ref, ∃ (j : Nat) (b : Addr), v = .ref b ∧ as[j]? = some b := by
    intro v hv'
    obtain ⟨b, hb, rfl⟩ := List.mem_map.mp hv'
    obtain ⟨j, hj⟩ := List.mem_iff_getElem?.mp hb
    exact ⟨j, b, rfl, hj⟩
  have isp : ∀ v ∈ as.map Value.ref, Srt.IsPair h2 v (pairOf as ks v).1 (pairOf as ks v).2 := by
    intro v hv'
    obtain ⟨j, b, rfl, hj⟩ := at_ v hv'
    obtain ⟨e, t1, t2, he, hg⟩ := pr j b hj
    rw [pairOf_at nd hj he]
    exact ⟨b, _, t1, t2, _, rfl, ka _ _ hg, rfl, rfl⟩
  have hz2 : (as.map Value.ref).length ≤ sizeLine := by rw [List.length_map]; omega
  refine wpAny_call_entry PyProof.Rows.slot_list_sort ⟨_, hob, rfl⟩ PyProof.Rows.entry_list_sort
    (SrtO.list_sort_ord (s := { s with heap := h2, toks := tk }) (SrtO.swo_lex (pairOf as ks)) hob hz2 (fun h2' => SrtO.pairs_sortableO (s := { s with heap := h2, toks := tk }) (by omega) isp fun o e => ?_) fun out o1 o2 => ⟨.none, rfl, ?_⟩) (PyProof.Rows.args_list_sort _)
  · have e' : some o = some (seqObj "list" (as.map Value.ref).toArray 0) := e.symm.trans hob
    cases e'
    intro c
    exact absurd (Value.type.inj c) (by decide)
  · show EP X pins σ Q (.ref h'.objs.size) { s with heap := sortedHeap h2 h'.objs.size (as.map Value.ref) out.toArray, toks := tk }
    have rfs : ∀ v ∈ out, ∃ b, v = Value.ref b := fun v hv => by
      obtain ⟨_, b, e, _⟩ := at_ v (o2.perm.mem_iff.mp hv)
      exact ⟨b, e⟩
    have eo := adOf_ref rfs
    have pz : (out.map adOf).Perm as := by
      have e := o2.perm.map adOf
      rw [adOf_map] at e
      exact e
    generalize hzs : out.map adOf = zs at eo pz
    have hall := pairOf_all nd lak
    have hperm : (zs.map fun b => pairOf as ks (.ref b)).Perm ks := by
      have e := pz.map fun b => pairOf as ks (.ref b)
      rw [hall] at e
      exact e
    have hsort : (zs.map fun b => pairOf as ks (.ref b)).Pairwise (fun e f => e.1 ≤ f.1) := by
      rw [eo] at o1
      have o3 := List.pairwise_map.mp (show ((zs.map Value.ref).Pairwise fun x y => SrtO.lexB (pairOf as ks y) (pairOf as ks x) = false) from o1)
      refine List.pairwise_map.mpr (o3.imp fun {x y} h => ?_)
      have h' := SrtO.lexB_no.mp h
      omega
    -- behind the sort
    have kF : ∀ b o, b ≠ h'.objs.size → h2.get? b = some o → (sortedHeap h2 h'.objs.size (as.map Value.ref) out.toArray).get? b = some o := fun b o hb e => (PyProof.Rows.sortedHeap_old hb (Heap.lt_size e)).trans e
    have kS : ∀ b o, s.heap.get? b = some o → (sortedHeap h2 h'.objs.size (as.map Value.ref) out.toArray).get? b = some o := fun b o e => kF b o (ne0 _ _ (hk b o e)) (kb b o e)
    obtain ⟨eF, heF⟩ := PyProof.Rows.sortedHeap_at (vs := as.map Value.ref) (out := out.toArray) hob
    have I1 : Inv X pins σ H { s with heap := sortedHeap h2 h'.objs.size (as.map Value.ref) out.toArray, toks := tk } := I.kept (t' := tk) kS
    have hn0 : H h'.objs.size = none := I.hok.fresh (Nat.le_of_lt hlt)
    have hlen : (zs.map fun z => V.ref z).length ≤ sizeLine := by
      have e := hperm.length_eq
      rw [List.length_map] at e
      rw [List.length_map]
      omega
    have rv : Vals (zs.map fun z => V.ref z) out := by
      rw [eo]
      exact vals_maps (fun z : Addr => V.ref z) (fun z => Value.ref z) zs fun _ _ => rfl
    have I2 : Inv X pins σ (upd H h'.objs.size (.lst (zs.map fun z => V.ref z))) { s with heap := sortedHeap h2 h'.objs.size (as.map Value.ref) out.toArray, toks := tk } :=
      I1.take (h' := sortedHeap h2 h'.objs.size (as.map Value.ref) out.toArray) (t' := tk) (fun b ob _ e => e) (I.fpOk (Nat.le_of_lt hlt) hn0) ⟨hlen, out, eF, rv, heF⟩
    obtain ⟨H2, I3, g, qt⟩ := takeT (P := fun b vs => vs = [V.int (pairOf as ks (.ref b)).1, V.int (pairOf as ks (.ref b)).2]) I as _ I2 nd fun b hb => by
      obtain ⟨j, hj⟩ := List.mem_iff_getElem?.mp hb
      obtain ⟨e, t1, t2, he, hg⟩ := pr j b hj
      have hbl : s.heap.objs.size ≤ b := Nat.le_of_lt (hG.above b hb)
      refine ⟨hbl, ?_, _, rfl, fun H3 => ⟨(by rw [sizeLine_eq]; show 2 ≤ 16777216; omega), [Value.int e.1 t1, Value.int e.2 t2], ?_, ⟨_, kF _ _ (ne0 _ _ hg) (ka _ _ hg), rfl, 0, rfl⟩⟩⟩
      · rw [upd_ne (ne0 _ _ hg)]
        exact I.hok.fresh hbl
      · rw [pairOf_at nd hj he]
        exact .cons ⟨t1, rfl⟩ (.cons ⟨t2, rfl⟩ .nil)
    have gr : ∀ b o, H b = some o → H2 b = some o := fun b o e => g b o (by rw [upd_ne (ne_of_none e hn0)]; exact e)
    have em : (zs.map fun b => (b, pairOf as ks (.ref b))).map (·.2) = zs.map fun b => pairOf as ks (.ref b) := by
      rw [List.map_map]
      all_goals rfl
    have em1 : ((zs.map fun b => (b, pairOf as ks (.ref b))).map fun z => V.ref z.1) = zs.map fun z => V.ref z := by
      rw [List.map_map]
      all_goals rfl
    refine ⟨.ref h'.objs.size, H2, I3, rfl, q H2 h'.objs.size (zs.map fun b => (b, pairOf as ks (.ref b))) gr (by rw [em]; exact hperm) (by rw [em]; exact hsort) (by rw [em1]; exact g _ _ upd_same) (fun z' hz' => ?_) hn0 fun z' hz' => ?_⟩
    · obtain ⟨b, hb, rfl⟩ := List.mem_map.mp hz'
      obtain ⟨vs', ev, hH⟩ := qt b (pz.mem_iff.mp hb)
      rw [ev] at hH
      exact hH
    · obtain ⟨b, hb, rfl⟩ := List.mem_map.mp hz'
      exact I.hok.fresh (Nat.le_of_lt (hG.above b (pz.mem_iff.mp hb)))
end Lp
set_option Elab.async false
set_option linter.all false
set_option maxRecDepth 100000
set_option maxHeartbeats 1000000
namespace Lp
open PySem PySem.Spec PyProof.Rows L2
/-! ### y not in x: by __contains__ of an own class -/
section
variable {X : Cx} {k j : Nat} {C : Addr} {sp : Sp}
theorem pc_notinO {i o : Expr} {ty td : TE} (c : Met X.prog X.w X.K X.mg X.base k C "__contains__" sp) (hr : Room j X.A) (hk : k ≤ j) (hi : PE X i ty) (ho : PE X o td) : PC X .NotIn i o (tInO C sp ty td true) := by
  obtain ⟨f, fd, ps, hc, hm, F, b⟩ := c.ex
  refine ⟨fun pins s σ H Q I h => ?_⟩
  refine thn (hi.run pins s σ H _ I h) fun iv s1 ⟨y, H1, I1, ry, q1⟩ => thn (ho.run pins s1 σ H1 _ I1 q1) fun u s2 ⟨x, H2, I2, rx, a, dx, fs, ex, ea, q2⟩ => ?_
  subst ex
  cases (show u = Value.ref a from rx)
  obtain ⟨ox, od, J⟩ := inst_of I2 ea
  refine wpAny_bind ?_
  unfold contains
  refine wpAny_holding (wpAny_bind (wpAny_bind (J.type.here ((PySem.W.looks_findIn I2.kIn hm.at_).here ?_))))
  rw [if_neg (by simp)]
  refine wpAny_bind (PySem.W.unlessNone_K I2.kIn J hm.at_ hm.fn (wpAny_mono (run_at (vs := [.ref a, y]) F (hr.mono hk) b I2 I2.env0 (.cons rfl (.cons ry .nil)) q2) (fun v s' hv => ?_) fun _ _ z => z))
  obtain ⟨v, H', I', rv, b', rfl, hq⟩ := hv
  cases rv
  refine wpAny_of_eq (a := b') (by first | rfl | simp [truthy]) ?_
  exact wpAny_pure ⟨.bl (!b'), H', I', rfl, hq⟩
end
end Lp
set_option Elab.async false
set_option linter.all false
set_option maxRecDepth 100000
set_option maxHeartbeats 1000000
namespace Lp
open PySem PySem.Spec PyProof.Rows L2 L2.DX
/-! ### x(e, ..) and x(k = e) of an instance, by __call__; x any expression -/
structure MetK (P : Program) (w : World) (K : PySem.W.Frag) (mg : Str → Option Value) (base : Heap) (k : Nat) (C : Addr) (m : Str) (n : Nat) (ks : List Str) (gV : List V → List V → List V) (sp : Sp) : Prop where
  ex : ∃ (f : Addr) (fd : FuncData) (ps : List Str) (g : List Value → List Value → List Value), Cls K C ∧ Meth K C m f ∧ FnOk P w K mg base CX0 k f fd ps sp ∧ KBn K fd ps n ks g gV
section
variable {X : Cx} {k j : Nat} {C : Addr} {sp : Sp} {p pos : Pos} {fe e : Expr} {es : List Expr} {t tk' : TA} {tf : TE} {kws : List Keyword} {ks : List Str} {gV : List V → List V → List V}
def tCallE (C : Addr) (sp : Sp) (tf : TE) (t : TA) : TE := fun σ H Q => tf σ H fun x H1 => ∃ a : Addr, x = .ref a ∧ t σ H1 fun vs H2 => ∃ (dx : Addr) (fs : List (Str × V)), H2 a = some (.ins C dx fs) ∧ sp (.ref a :: vs) H2 Q E0
theorem pe_callE (c : Met X.prog X.w X.K X.mg X.base k C "__call__" sp) (fi : ∀ f, PySem.W.findIn X.K (.ref C) "__call__" = some (some (.ref f)) → PySem.W.fnIn X.K f = true) (hr : Room j X.A) (hk : k ≤ j) (hf : PE X fe tf) (ha : PA X (e :: es) t)
    (hc : eval (.Call fe (e :: es) [] pos) X.env = (do callWith pos (← eval fe X.env) [] (backTo pos (starEach (e :: es) X.env)) (backToKw pos (keywordEach [] X.env))) := by rfl)
    (he : starEach (e :: es) X.env = (false, eval e X.env) :: starEach es X.env := by rfl) (hpl : (backTo pos (starEach es X.env)).any (·.1) = false := by rfl) : PE X (.Call fe (e :: es) [] pos) (tCallE C sp tf t) := by
  obtain ⟨f, fd, ps, hc', hm, F, b⟩ := c.ex
  refine ⟨fun pins s σ H Q I h => ?_⟩
  refine Call_ (thn (hf.run pins s σ H _ I h) fun u s1 ⟨v, H1, I1, r1, a, ev, ht⟩ => ?_) hc
  subst ev
  cases (show u = Value.ref a from r1)
  have go := ha.run pos pins s1 σ _ _ I1 ht
  rw [he] at go ⊢
  refine callWith_obj (by show ((false || (backTo pos (starEach es X.env)).any (·.1)) || false) = false; rw [hpl]; rfl) (Calls.evalArgs_plain ?_)
  refine thn go fun us s2 ⟨vs, H2, I2, r, dx, fs, ea, q⟩ => ?_
  obtain ⟨ox, od, J, hd⟩ := inst_plain I2 ea
  refine ⟨⟨C, ox, od, J, hd⟩, ?_⟩
  have rr : Vals (.ref a :: vs) (.ref a :: us) := .cons rfl r
  have hl : (Value.ref a :: us).length = ps.length := by rw [← rr.length]; exact F.len _ _ _ _ q
  have bd := b s2 (.ref a :: us) I2.kIn (by rw [List.append_nil]; exact hl)
  rw [List.append_nil] at bd
  refine wpAny_call (PySem.W.kco_code I2.kIn J hd hm.at_ hm.fn (fi f hm.at_) (codeAny_mono (F.run X.A X.stack s2 H2 ⟨.ref a :: us, []⟩ (.ref a :: us) (.ref a :: vs) Q E0 (hr.mono hk) I2.env0 bd rr q) fun r s' hq => ?_))
  cases r with
  | error e => exact hq.elim
  | ok fl =>
    cases fl with
    | ret u => exact I2.after hq
    | next => exact False.elim hq
    | brk => exact False.elim hq
    | cont => exact False.elim hq
def tCallEK (C : Addr) (m : Nat) (sp : Sp) (gV : List V → List V → List V) (tf : TE) (t : TA) : TE := fun σ H Q => tf σ H fun x H1 => ∃ a : Addr, x = .ref a ∧ t σ H1 fun zs H2 => ∃ (dx : Addr) (fs : List (Str × V)), zs.length = m ∧ H2 a = some (.ins C dx fs) ∧ sp (gV [.ref a] zs) H2 Q E0
theorem pe_callEK (c : MetK X.prog X.w X.K X.mg X.base k C "__call__" 1 ks gV sp) (fi : ∀ f, PySem.W.findIn X.K (.ref C) "__call__" = some (some (.ref f)) → PySem.W.fnIn X.K f = true) (hr : Room j X.A) (hk : k ≤ j) (hf : PE X fe tf) (hkw : PK X kws tk')
    (hc : eval (.Call fe [] kws pos) X.env = (do callWith pos (← eval fe X.env) [] (backTo pos (starEach [] X.env)) (backToKw pos (keywordEach kws X.env))) := by rfl)
    (hall : (backToKw pos (keywordEach kws X.env)).all (·.1.isSome) = true := by rfl) (hks : (backToKw pos (keywordEach kws X.env)).filterMap (·.1) = ks := by rfl)
    (hpl : ((backTo pos (starEach [] X.env)).any (·.1) || (backToKw pos (keywordEach kws X.env)).any (·.1.isNone)) = false := by rfl) : PE X (.Call fe [] kws pos) (tCallEK C ks.length sp gV tf tk') := by
  obtain ⟨f, fd, ps, g, hc', hm, F, b⟩ := c.ex
  refine ⟨fun pins s σ H Q I h => ?_⟩
  rw [hc]
  refine wpAny_bind (thn (hf.run pins s σ H _ I h) fun u s1 ⟨v, H1, I1, r1, a, ev, ht⟩ => ?_)
  subst ev
  cases (show u = Value.ref a from r1)
  refine callWith_obj hpl (evalArgs_kw2_nil hall ?_)
  refine thn (hkw.run pos pins s1 σ _ _ I1 ht) fun ws s2 ⟨zs, H2, I2, rz, dx, fs, lz, ea, q⟩ => ?_
  obtain ⟨ox, od, J, hd⟩ := inst_plain I2 ea
  refine ⟨⟨C, ox, od, J, hd⟩, ?_⟩
  have r0 : Vals [.ref a] [Value.ref a] := .cons rfl .nil
  have rr := b.rel r0 rz
  have bd := b.to s2 [.ref a] ws I2.kIn rfl (rz.length.symm.trans lz)
  rw [hks]
  refine wpAny_call (PySem.W.kco_code I2.kIn J hd hm.at_ hm.fn (fi f hm.at_) (codeAny_mono (F.run X.A X.stack s2 H2 ⟨[.ref a], ks.zip ws⟩ (g [.ref a] ws) (gV [.ref a] zs) Q E0 (hr.mono hk) I2.env0 bd rr q) fun r s' hq => ?_))
  cases r with
  | error e => exact hq.elim
  | ok fl =>
    cases fl with
    | ret u => exact I2.after hq
    | next => exact False.elim hq
    | brk => exact False.elim hq
    | cont => exact False.elim hq
end
/-! ### d.values() and list(d.values()) -/
def valsO (p d : Addr) : HO := .ext fun h => h.IsValuesView p d
theorem valsO_ok {P : Program} {w : World} {H : Hp} {h : Heap} {p d : Addr} (e : h.get? p = some { cls := .type "dict_values", data := .fields #[.ref d] }) : ObjOk P w H h p (valsO p d) :=
  ⟨⟨_, e, rfl, rfl⟩, ⟨_, e⟩, fun h1 h2 x k => let ⟨o, ho, r⟩ := x; ⟨o, k o ho, r⟩⟩
def rValuesI : V → List V → Hp → VK → Prop := fun x xs H Q => ∃ (a : Addr) (kvs : List (L2.Key × V)), x = .ref a ∧ xs = [] ∧ H a = some (.dK kvs) ∧ ∀ p, H p = none → Q (.ref p) (upd H p (valsO p a))
theorem mt_valuesI {X : Cx} : MtR X "dict.values" rValuesI := by
  intro pins s σ H x xs v us Q I rx rxs h
  obtain ⟨a, kvs, rfl, rfl, ha, q⟩ := h
  cases rx
  cases rxs
  obtain ⟨z, hd, vs, rel, dof⟩ := dk_of I.hok ha
  obtain ⟨ep, dat⟩ := dof.dictAt
  obtain ⟨ob, es, ho, ex, hdat, hko, hpr, hnd⟩ := id dat
  refine call_meetsIn PySem.F.slot_dict_values ⟨ob, ho, ex.1⟩ PySem.F.entry_dict_values (PySem.F.args_dict_values_1 _) (meets_dict_values (mixKind X.prog X.w) a hd) ⟨⟨vs, dof⟩, ?_⟩
  have hf : H s.heap.objs.size = none := I.hok.fresh (Nat.le_refl _)
  exact ⟨.ref s.heap.objs.size, upd H s.heap.objs.size (valsO s.heap.objs.size a), I.laid (t' := s.toks) (fun b u e => Heap.get?_push_of_some _ e) (Nat.le_refl _) (valsO_ok (Heap.get?_push_size _ rfl)), rfl, q _ hf⟩
def rListVals : List V → Hp → VK → Prop := fun xs H Q => ∃ (p a : Addr) (kvs : List (L2.Key × V)), xs = [.ref p] ∧ H p = some (valsO p a) ∧ H a = some (.dK kvs) ∧ ∀ q, H q = none → Q (.ref q) (upd H q (.lst (kvs.map (·.2))))
theorem call_listVals {X : Cx} (hc : X.calm = true) : CallR X (.type "list") rListVals := by
  intro pins s σ H xs us Q I r h
  obtain ⟨p, a, kvs, e, hp, hk, q⟩ := h
  subst e
  obtain ⟨u, eu, rx⟩ := vals1 r
  subst eu
  obtain rfl : u = Value.ref p := rx
  have view : s.heap.IsValuesView p a := (show ObjOk X.prog X.w H s.heap p (valsO p a) from I.hok p _ hp).1
  obtain ⟨z, lo, vs, rk, hd⟩ := (show ObjOk X.prog X.w H s.heap a (.dK kvs) from I.hok a _ hk)
  obtain ⟨ep, hat⟩ := hd.dictAt
  have hl : kvs.length = vs.length := Paired.length rk
  refine PySem.W.kdl_call (PySem.W.kdl_values (knd := mixKind X.prog X.w) (kvs := vs) (ep := ep)) (I.ok.hd hc) ⟨view, hat⟩ (by rw [← hl]; exact z) fun h' tk acc' c' hkeep hS hacc => ?_
  refine ⟨.ref s.heap.objs.size, upd H s.heap.objs.size (.lst (kvs.map (·.2))), I.laid hkeep (Nat.le_refl _) (show ObjOk X.prog X.w _ _ _ (.lst (kvs.map (·.2))) from ⟨?_, acc'.toList, c', ?_, ?_⟩), rfl, q _ (I.hok.fresh (Nat.le_refl _))⟩
  · rw [List.length_map]; exact z
  · have el : acc'.toList.length = acc'.size := by simp
    refine vals_of_at (by rw [List.length_map, el, hacc.1, hl]) fun j x w h1 h2 => ?_
    obtain ⟨k, hky⟩ := hacc.2 j w (by rw [← Array.getElem?_toList]; exact h2)
    obtain ⟨y, e1, e2⟩ := KV.at' rk hky
    rw [List.getElem?_map, e1] at h1
    cases h1
    exact e2
  · rw [Array.toArray_toList]; exact hS
end Lp
set_option Elab.async false
set_option linter.all false
set_option maxRecDepth 100000
set_option maxHeartbeats 1000000
namespace Lp
open PySem PySem.Spec PyProof.Rows L2
/-! ### set(xs) and sorted(set(xs)) of ints, any number of them -/
def rSetLG (K : PySem.W.Frag) (w : World) : List V → Hp → VK → Prop := fun xs H Q => ∃ (a : Addr) (ns : List Int), xs = [V.ref a] ∧ SqL K H a (ns.map V.int) ∧ ns.length ≤ 1000 ∧ ∀ (p : Addr) (c : Nat), H p = none → c ≤ ns.length → Q (.ref p) (upd H p (SetO w p (fun j => decide (j ∈ ns)) c))
theorem cr_setLG {X : Cx} (hc : X.calm = true) : CallR X (.type "set") (rSetLG X.K X.w) := by
  intro pins s σ H xs us Q I r h
  obtain ⟨a, ns, rfl, hq, hl, q⟩ := h
  cases r with
  | cons r rr =>
    cases rr
    cases (show _ = Value.ref a from r)
    obtain ⟨its, rv, p, _⟩ := I.list hq
    refine call_set_listI ns (I.ok.hd hc) p.isList (RZ.intsAre_vals rv) (Nat.lt_of_le_of_lt (Nat.succ_le_succ hl) (by decide)) fun h' tk c hs hcn hk => ?_
    refine ⟨.ref _, upd H _ (SetO X.w s.heap.objs.size (fun j => decide (j ∈ ns)) c), I.laid hk (Nat.le_refl _) ⟨hs, ?_, fun h1 h2 x k => ?_⟩, rfl, q _ c (I.hok.fresh (Nat.le_refl _)) hcn⟩
    · obtain ⟨o, _, _, _, e, _⟩ := hs
      exact ⟨o, e⟩
    · obtain ⟨o, es, ep, t, e, r⟩ := x
      exact ⟨o, es, ep, t, k o e, r⟩
section
variable {P : Program} {w : World} {A : Around} {E : Value → Shared → Prop} {s : Shared} {a : Addr}
theorem sorted_setG {S : Int → Bool} {n : Nat} {Q : Value → Shared → Prop} (R : SetR w s.heap a S n) (hh : A.handled = none) (hn : n ≤ 100000)
    (hQ : ∀ s' p (out : Array Value) (c : Nat) (ns : List Int), (∀ b o, s.heap.get? b = some o → s'.heap.get? b = some o) → s'.gens = s.gens → s'.os = s.os → s.heap.objs.size ≤ p →
      s'.heap.get? p = some (seqObj "list" out c) → IntsAre out.toList ns → ns.Pairwise (· ≤ ·) → ns.Nodup → (∀ k, k ∈ ns ↔ S k = true) → ns.length = n → Q (.ref p) s') :
    wpAny (model P w) A (call (.builtin "sorted") [.ref a]) Q E s := by
  obtain ⟨o, es, ep, t, ho, hex, hd, g, nd, hm, hb, hf, hn', hr, hl⟩ := R
  refine Calls.call_function_entry PyProof.Rows.kind_sorted PyProof.Rows.plain_sorted PyProof.Rows.entry_sorted (PyProof.Rows.args_sorted1 _) ?_
  unfold Builtin.«sorted»
  refine wpAny_bind (m := checkCount "sorted" 1 1 _) (wpAny_pure ?_)
  refine wpAny_bind (collect_set (A := A.in1) hh ⟨o, ho, hex.1, hd⟩ hf hb hr hl fun s1 vs k1 hz g1 o1 pm => ?_)
  have hvl : vs.length = n := by rw [pm.length_eq, List.length_map, Array.length_toList]; exact hn'
  have hI : IntsAre vs (vs.map Builtin.Re.reRawOf) := ints_of vs fun v hv => by
    obtain ⟨e, he, q⟩ := List.mem_map.mp (pm.mem_iff.mp hv)
    obtain ⟨k, tk, h1, _⟩ := g e he
    exact ⟨k, tk, by rw [← q]; exact h1⟩
  have pk : (vs.map Builtin.Re.reRawOf).Perm (es.toList.map keyOf) := by
    have q := pm.map Builtin.Re.reRawOf
    rw [List.map_map] at q
    exact q
  have hz2 : vs.length ≤ sizeLine := by rw [hvl]; exact zs hn
  refine wpAny_bind (wpAny_newList ?_ hz2)
  have hoL : (s1.heap.push (seqObj "list" vs.toArray 0)).get? s1.heap.objs.size = some (seqObj "list" vs.toArray 0) := Heap.get?_push_size _ rfl
  refine wpAny_bind (wpAny_holding (wpAny_call_entry PyProof.Rows.slot_list_sort ⟨_, hoL, rfl⟩ PyProof.Rows.entry_list_sort
    (SrtO.list_sort_ord SrtO.swo_int hoL hz2 (fun h2 => SrtO.ints_sortable hI h2) fun out g1' g2 => ⟨_, rfl, ?_⟩) (PyProof.Rows.args_list_sort _)))
  obtain ⟨q1, q2, q3⟩ := SrtO.ints_out hI g1' g2
  obtain ⟨c, hc⟩ := PyProof.Rows.sortedHeap_at (vs := vs) (out := out.toArray) hoL
  have pn : (out.map SrtO.iv).Perm (es.toList.map keyOf) := q2.trans pk
  refine wpAny_pure ⟨_, rfl, hQ _ s1.heap.objs.size out.toArray c (out.map SrtO.iv) (fun b u e => ?_) g1 o1 hz hc (by simpa using q1) q3 (pn.nodup_iff.mpr nd) (fun k => by rw [pn.mem_iff, ← hm k]) ?_⟩
  · have q := k1 b u e
    have hlt := Heap.lt_size q
    show (PyProof.Rows.sortedHeap (s1.heap.push (seqObj "list" vs.toArray 0)) s1.heap.objs.size vs out.toArray).get? b = some u
    rw [PyProof.Rows.sortedHeap_old (Nat.ne_of_lt hlt) (by rw [size_push']; exact Nat.lt_succ_of_lt hlt)]
    exact Heap.get?_push_of_some _ q
  · rw [pn.length_eq, List.length_map, Array.length_toList]; exact hn'
end
section
variable {X : Cx}
def rSortedSetG (w : World) : List V → Hp → VK → Prop := fun vs H Q => ∃ (a : Addr) (S : Int → Bool) (n : Nat), vs = [V.ref a] ∧ H a = some (SetO w a S n) ∧ n ≤ 100000 ∧
  ∀ (ns : List Int) (p : Addr), ns.Pairwise (· ≤ ·) → ns.Nodup → (∀ k : Int, k ∈ ns ↔ S k = true) → H p = none → Q (.ref p) (upd H p (.lst (ns.map V.int)))
theorem cr_sortedSetG (hc : X.calm = true) : CallR X (.builtin "sorted") (rSortedSetG X.w) := by
  intro pins s σ H vs us Q I r h
  obtain ⟨a, S, n, rfl, ha, h64, q⟩ := h
  have R := setO_get I ha
  rw [Vals.ref1 r]
  refine sorted_setG R (I.ok.hd hc) h64 fun s' p out c ns k g o hp hg hi hs hnd hm hl => ?_
  have hlen : (ns.map V.int).length ≤ sizeLine := by rw [List.length_map, hl]; exact zs h64
  have hn : H p = none := I.hok.fresh hp
  have J : Inv X pins σ (upd H p (.lst (ns.map V.int))) { s with heap := s'.heap, gens := s'.gens, drawn := s'.drawn, toks := s'.toks } :=
    I.call (ch := []) (Un.laid k hp hn) (I.hok.laid k hp ⟨hlen, out.toList, c, vals_of_ints hi, hg⟩) (by rw [g]; exact I.bare) (fun _ z => nomatch z)
  have e : s' = { s with heap := s'.heap, gens := s'.gens, drawn := s'.drawn, toks := s'.toks } := by
    cases s'
    cases s
    cases o
    rfl
  rw [e]
  exact ⟨.ref p, _, J, rfl, q ns p hs hnd hm hn⟩
end
end Lp
set_option Elab.async false
set_option linter.all false
set_option maxRecDepth 100000
set_option maxHeartbeats 1000000
namespace Lp
open PySem PySem.Spec PyProof.Rows L2
/-! ### a != b of two instances whose class has __eq__ alone -/
theorem one_bind (self : Value) : bindSpecial (.builtin "object.__ne__") self = pure (.builtin "object.__ne__", [self]) :=
  (Slot.of (T := "object") (name := "__ne__") (owner := "object") (n := "__ne__") (by rw [typeLookup_type, builtinLookup_eq_fast]; kernel_rfl) (by decide +kernel) (by decide +kernel) (by decide +kernel)
    (.inl (by decide +kernel)) (by rw [isSubtype_type]; kernel_rfl)).bind self
theorem ifBound_ne {M : Model} {A : Around} {E : Value → Shared → Prop} {s : Shared} {K : PySem.W.Frag} {x C : Addr} {ox : Obj} {od : Option Obj} {args : List Value} {Q : Option Value → Shared → Prop} (X : K.In s.heap) (I : PySem.W.InstAt s.heap x ox C od) (hs : PySem.W.findIn K (.ref C) "__ne__" = some (some (.builtin "object.__ne__")))
    (h : wpAny M A (call (.builtin "object.__ne__") (.ref x :: args)) (fun v => Q (some v)) E s) : wpAny M A (callSpecialIfBound? (.ref x) "__ne__" args) Q E s := by
  simp only [callSpecialIfBound?, bindSpecialIfBound?]
  refine wpAny_holding (wpAny_bind (wpAny_bind (wpAny_bind (I.type.here ((PySem.W.looks_findIn X hs).here ?_)))))
  refine wpAny_bind (wpAny_askSetting (wpAny_ite ?_))
  have fin : wpAny M A (call (.builtin "object.__ne__") ([.ref x] ++ args) >>= fun v => pure (some v)) Q E s := wpAny_bind (wpAny_mono h (fun v s' h' => wpAny_pure h') fun _ _ h' => h')
  have bnd : PySem.W.Looks M s.heap (bindSpecial (.builtin "object.__ne__") (.ref x)) (.builtin "object.__ne__", [.ref x]) := PySem.W.Looks.of_pure (one_bind _)
  split
  · exact wpAny_bind (bnd.here (wpAny_pure (by exact fin)))
  · exact wpAny_tryCatch (wpAny_bind (bnd.here (wpAny_pure (by exact fin))))
theorem ne_entry {prog : Program} {w : World} {A : Around} {E : Value → Shared → Prop} {s : Shared} {K : PySem.W.Frag} {x C f : Addr} {ox : Obj} {od : Option Obj} {b : Value} {Q : Value → Shared → Prop} (hu : A.in1.units < cLine) (X : K.In s.heap) (I : PySem.W.InstAt s.heap x ox C od)
    (hob : PySem.W.subIn K (.ref C) (.type "object") = some true) (at_ : PySem.W.findIn K (.ref C) "__eq__" = some (some (.ref f))) (isf : PySem.W.isFn K (.ref f) = true)
    (go : wpAny (model prog w) A.in1 (call (.ref f) [.ref x, b]) (fun v s' => ∃ c, v = .bool c ∧ Q (.bool (!c)) s') E s) : wpAny (model prog w) A (call (.builtin "object.__ne__") [.ref x, b]) Q E s := by
  have hi : PySem.W.Looks (model prog w) s.heap (isInstance (.ref x) (.type "object")) true := I.type.andThen (PySem.W.looks_subIn X hob)
  refine wpAny_call (codeAny_call_builtin (by decide +kernel) F.cmpEntry_ne (PySem.W.check_slot F.cmpKind_ne F.cmpSplit_ne hi (F.cmpArgs_ne _ _) ?_))
  unfold Builtin.«object.__ne__»
  refine wpAny_bind (m := slotArgs "__ne__" 1 _) (wpAny_of_eq (a := ((Value.ref x : Value), [b])) (by first | rfl | (simp only [slotArgs]; rfl)) ?_)
  refine wpAny_bind (wpAny_cRoomFor hu ?_)
  refine wpAny_bind (m := callSpecialIfBound? (.ref x) (Str.ofString "__eq__") [b]) (PySem.W.ifBound_K X I at_ isf (wpAny_mono go (fun v s' hv => ?_) fun _ _ z => z))
  obtain ⟨c, rfl, hq⟩ := hv
  show wpAny (model prog w) A.in1 (truthy (.bool c) >>= fun b => ret (Value.bool !b)) _ E s'
  exact wpAny_bind (wpAny_of_eq (a := c) (by first | rfl | simp [truthy]) (wpAny_pure hq))
theorem ne_own {prog : Program} {w : World} {A : Around} {E : Value → Shared → Prop} {s : Shared} {K : PySem.W.Frag} {x C f : Addr} {ox : Obj} {od : Option Obj} {b tb : Value} {Q : Value → Shared → Prop} (hu : A.units < cLine) (hu1 : A.in1.units < cLine) (X : K.In s.heap) (I : PySem.W.InstAt s.heap x ox C od) (tyb : PySem.W.Looks (model prog w) s.heap (typeOf b) tb)
    (nf : PySem.W.notFirst K C tb = true) (hne : PySem.W.findIn K (.ref C) "__ne__" = some (some (.builtin "object.__ne__"))) (hob : PySem.W.subIn K (.ref C) (.type "object") = some true) (at_ : PySem.W.findIn K (.ref C) "__eq__" = some (some (.ref f))) (isf : PySem.W.isFn K (.ref f) = true)
    (go : wpAny (model prog w) A.in1 (call (.ref f) [.ref x, b]) (fun v s' => ∃ c, v = .bool c ∧ Q (.bool (!c)) s') E s) : wpAny (model prog w) A (richCompare .NotEq (.ref x) b) Q E s := by
  have mine : wpAny (model prog w) A (tryCompare (.ref x) (cmpInfo .NotEq).2.1 b) (fun r s' => ∃ v, r = some v ∧ Q v s') E s := by
    show wpAny (model prog w) A (tryCompare (.ref x) "__ne__" b) _ E s
    unfold tryCompare
    have ent : wpAny (model prog w) A (call (.builtin "object.__ne__") [.ref x, b]) (fun v s' => ∃ c, v = .bool c ∧ Q (.bool c) s') E s :=
      ne_entry (Q := fun v s' => ∃ c, v = .bool c ∧ Q (.bool c) s') hu1 X I hob at_ isf (wpAny_mono go (fun v s' hv => by
        obtain ⟨c, rfl, hq⟩ := hv
        exact ⟨c, rfl, !c, rfl, hq⟩) fun _ _ z => z)
    refine wpAny_bind (ifBound_ne X I hne (wpAny_mono ent (fun v s' hv => ?_) fun _ _ z => z))
    obtain ⟨c, rfl, hq⟩ := hv
    exact wpAny_pure ⟨_, rfl, hq⟩
  have last : ∀ {g : Option Value → Sem Value}, (∀ v, g (some v) = pure v) → wpAny (model prog w) A (tryCompare (.ref x) (cmpInfo .NotEq).2.1 b >>= g) Q E s := fun {g} hg => wpAny_bind (wpAny_mono mine (fun r s' ⟨v, er, hq⟩ => by rw [er, hg]; exact wpAny_pure hq) fun _ _ z => z)
  unfold richCompare
  simp only [oneThing_ref]
  refine wpAny_holding (wpAny_bind (wpAny_cRoomFor hu ?_))
  refine wpAny_bind (I.type.here (wpAny_bind (tyb.here ?_)))
  split
  · rename_i q
    have sb : PySem.W.subIn K tb (.ref C) = some false := by
      rcases Bool.or_eq_true_iff.mp nf with z | z
      · rw [beq_iff_eq.mp z] at q
        simp at q
      · exact beq_iff_eq.mp z
    refine wpAny_bind ((PySem.W.looks_subIn X sb).here ?_)
    simp only [Bool.false_eq_true, if_false]
    exact last fun v => rfl
  · refine wpAny_bind (wpAny_pure ?_)
    simp only [Bool.false_eq_true, if_false]
    exact last fun v => rfl
section
variable {X : Cx} {k j : Nat} {C : Addr} {sp : Sp}
def rNeO (C : Addr) (sp : Sp) : R2 := fun x y H Q => ∃ (a b dx dy : Addr) (fs gs : List (Str × V)), x = .ref a ∧ y = .ref b ∧ H a = some (.ins C dx fs) ∧ H b = some (.ins C dy gs) ∧ sp [.ref a, .ref b] H (fun v H' => ∃ c : Bool, v = .bl c ∧ Q (.bl (!c)) H') E0
theorem op_neO (c : Met X.prog X.w X.K X.mg X.base k C "__eq__" sp) (hr : Room j X.A) (hk : k + 1 ≤ j) (nf : PySem.W.notFirst X.K C (.ref C) = true) (hne : PySem.W.findIn X.K (.ref C) "__ne__" = some (some (.builtin "object.__ne__"))) (hob : PySem.W.subIn X.K (.ref C) (.type "object") = some true) : OpR X (compareOp .NotEq) (rNeO C sp) := by
  intro pins s σ H x y v u Q I rx ry h
  obtain ⟨a, b, dx, dy, fs, gs, rfl, rfl, ha, hb, q⟩ := h
  obtain ⟨f, fd, ps, hc, hm, F, bd⟩ := c.ex
  cases (show v = Value.ref a from rx)
  cases (show u = Value.ref b from ry)
  obtain ⟨ox, od, J⟩ := inst_of I ha
  obtain ⟨ox2, od2, J2⟩ := inst_of I hb
  have hu : X.A.units < cLine := by have := hr.units; omega
  have hu1 : X.A.in1.units < cLine := by
    have := hr.units
    show X.A.units + 1 < cLine
    omega
  show wpAny _ X.A (richCompare .NotEq _ _) _ _ s
  refine ne_own hu hu1 I.kIn J J2.type nf hne hob hm.at_ hm.fn (wpAny_mono (run_at (A := X.A.in1) (vs := [.ref a, .ref b]) F (hr.mono hk).in1 bd I I.env0.in1 (.cons rfl (.cons rfl .nil)) q) (fun w s' hw => ?_) fun _ _ z => z)
  obtain ⟨z, H', I', r, c, rfl, hq⟩ := hw
  cases r
  exact ⟨c, rfl, .bl (!c), H', I', rfl, hq⟩
end
end Lp
set_option Elab.async false
set_option linter.all false
set_option maxRecDepth 100000
set_option maxHeartbeats 1000000
namespace Lp
open PySem PySem.Spec PyProof.Rows L2
/-! ### a == y, a != y of an instance and any value -/
section
variable {X : Cx} {k j : Nat} {C : Addr} {sp : Sp}
def rEqOV (K : PySem.W.Frag) (C : Addr) (sp : Sp) : R2 := fun x y H Q => ∃ (a dx : Addr) (fs : List (Str × V)) (t : Value), x = .ref a ∧ H a = some (.ins C dx fs) ∧ TyX K H y t ∧ PySem.W.notFirst K C t = true ∧ sp [.ref a, y] H Q E0
theorem op_eqOV (c : Met X.prog X.w X.K X.mg X.base k C "__eq__" sp) (hr : Room j X.A) (hk : k ≤ j) : OpR X (compareOp .Eq) (rEqOV X.K C sp) := by
  intro pins s σ H x y v u Q I rx ry h
  obtain ⟨a, dx, fs, t, rfl, ha, ty, nf, q⟩ := h
  obtain ⟨f, fd, ps, hc, hm, F, bd⟩ := c.ex
  cases (show v = Value.ref a from rx)
  obtain ⟨ox, od, J⟩ := inst_of I ha
  obtain ⟨P, Z, p, _⟩ := kit_of I ry ty
  have hu : X.A.units < cLine := by have := hr.units; omega
  show wpAny _ X.A (richCompare .Eq _ _) _ _ s
  refine eq_own (op := .Eq) hu I.kIn J (Z.ty _ _ I.kIn p) nf hm.at_ hm.fn (wpAny_mono (run_at (vs := [.ref a, y]) F (hr.mono hk) bd I I.env0 (.cons rfl (.cons ry .nil)) q) (fun w s' hw => ?_) fun _ _ z => z)
  exact ⟨by obtain ⟨z, _, _, r, _⟩ := hw; exact relV_ni r, hw⟩
def rNeOV (K : PySem.W.Frag) (C : Addr) (sp : Sp) : R2 := fun x y H Q => ∃ (a dx : Addr) (fs : List (Str × V)) (t : Value), x = .ref a ∧ H a = some (.ins C dx fs) ∧ TyX K H y t ∧ PySem.W.notFirst K C t = true ∧ sp [.ref a, y] H (fun v H' => ∃ c : Bool, v = .bl c ∧ Q (.bl (!c)) H') E0
theorem op_neOV (c : Met X.prog X.w X.K X.mg X.base k C "__eq__" sp) (hr : Room j X.A) (hk : k + 1 ≤ j) (hne : PySem.W.findIn X.K (.ref C) "__ne__" = some (some (.builtin "object.__ne__"))) (hob : PySem.W.subIn X.K (.ref C) (.type "object") = some true) : OpR X (compareOp .NotEq) (rNeOV X.K C sp) := by
  intro pins s σ H x y v u Q I rx ry h
  obtain ⟨a, dx, fs, t, rfl, ha, ty, nf, q⟩ := h
  obtain ⟨f, fd, ps, hc, hm, F, bd⟩ := c.ex
  cases (show v = Value.ref a from rx)
  obtain ⟨ox, od, J⟩ := inst_of I ha
  obtain ⟨P, Z, p, _⟩ := kit_of I ry ty
  have hu : X.A.units < cLine := by have := hr.units; omega
  have hu1 : X.A.in1.units < cLine := by
    have := hr.units
    show X.A.units + 1 < cLine
    omega
  show wpAny _ X.A (richCompare .NotEq _ _) _ _ s
  refine ne_own hu hu1 I.kIn J (Z.ty _ _ I.kIn p) nf hne hob hm.at_ hm.fn (wpAny_mono (run_at (A := X.A.in1) (vs := [.ref a, y]) F (hr.mono hk).in1 bd I I.env0.in1 (.cons rfl (.cons ry .nil)) q) (fun w s' hw => ?_) fun _ _ z => z)
  obtain ⟨z, H', I', r, c, rfl, hq⟩ := hw
  cases r
  exact ⟨c, rfl, .bl (!c), H', I', rfl, hq⟩
end
end Lp
set_option Elab.async false
set_option linter.all false
set_option maxRecDepth 100000
namespace Lp
open PySem PySem.Spec PyProof.Rows L2
/-! ### the same, with K told apart (for comprehensions) -/
section
variable {X : Cx} {K : PySem.W.Frag} {k j : Nat} {C : Addr} {sp : Sp}
theorem k_eqOV (e : X.K = K) (c : Met X.prog X.w X.K X.mg X.base k C "__eq__" sp) (hr : Room j X.A) (hk : k ≤ j) : OpR X (compareOp .Eq) (rEqOV K C sp) := by
  subst e
  exact op_eqOV c hr hk
theorem k_neOV (e : X.K = K) (c : Met X.prog X.w X.K X.mg X.base k C "__eq__" sp) (hr : Room j X.A) (hk : k + 1 ≤ j) (hne : PySem.W.findIn X.K (.ref C) "__ne__" = some (some (.builtin "object.__ne__"))) (hob : PySem.W.subIn X.K (.ref C) (.type "object") = some true) : OpR X (compareOp .NotEq) (rNeOV K C sp) := by
  subst e
  exact op_neOV c hr hk hne hob
end
end Lp
set_option Elab.async false
set_option linter.all false
set_option maxRecDepth 100000
namespace L64
open PySem PySem.Spec PyProof.Rows L2 Lp
def topS (i : Nat) : Stmt := PySem.Challenge.pw_latepatches_k64_few_originals_numbered.main.body.getD i (.Pass ⟨0, 0, 0, 0⟩)
abbrev s_is_integer : Stmt := topS 6
abbrev N_is_integer : List Str := ["value"]
theorem sc_is_integer : FnScope N_is_integer ["value"] (defScope s_is_integer) := ⟨rfl, rfl, rfl, by decide +kernel, rfl, by decide +kernel, by decide +kernel⟩
abbrev s_is_integer_within : Stmt := topS 7
abbrev N_is_integer_within : List Str := ["value", "least", "greatest"]
theorem sc_is_integer_within : FnScope N_is_integer_within ["value", "least", "greatest"] (defScope s_is_integer_within) := ⟨rfl, rfl, rfl, by decide +kernel, rfl, by decide +kernel, by decide +kernel⟩
abbrev s_are_integers : Stmt := topS 8
abbrev N_are_integers : List Str := ["value", "least", "greatest", "most", "item"]
theorem sc_are_integers : FnScope N_are_integers ["value", "least", "greatest", "most"] (defScope s_are_integers) := ⟨rfl, rfl, rfl, by decide +kernel, rfl, by decide +kernel, by decide +kernel⟩
abbrev s_check_number : Stmt := topS 9
abbrev N_check_number : List Str := ["value", "least", "greatest"]
theorem sc_check_number : FnScope N_check_number ["value", "least", "greatest"] (defScope s_check_number) := ⟨rfl, rfl, rfl, by decide +kernel, rfl, by decide +kernel, by decide +kernel⟩
abbrev s_check_index : Stmt := topS 10
abbrev N_check_index : List Str := ["index", "count"]
theorem sc_check_index : FnScope N_check_index ["index", "count"] (defScope s_check_index) := ⟨rfl, rfl, rfl, by decide +kernel, rfl, by decide +kernel, by decide +kernel⟩
abbrev s_are_events : Stmt := topS 14
abbrev N_are_events : List Str := ["value"]
theorem sc_are_events : FnScope N_are_events ["value"] (defScope s_are_events) := ⟨rfl, rfl, rfl, by decide +kernel, rfl, by decide +kernel, by decide +kernel⟩
abbrev s_is_history : Stmt := topS 15
abbrev N_is_history : List Str := ["value", "started", "event"]
theorem sc_is_history : FnScope N_is_history ["value"] (defScope s_is_history) := ⟨rfl, rfl, rfl, by decide +kernel, rfl, by decide +kernel, by decide +kernel⟩
abbrev s_check_history : Stmt := topS 16
abbrev N_check_history : List Str := ["history"]
theorem sc_check_history : FnScope N_check_history ["history"] (defScope s_check_history) := ⟨rfl, rfl, rfl, by decide +kernel, rfl, by decide +kernel, by decide +kernel⟩
abbrev s_starts_of : Stmt := topS 17
abbrev N_starts_of : List Str := ["history", "event"]
theorem sc_starts_of : FnScope N_starts_of ["history"] (defScope s_starts_of) := ⟨rfl, rfl, rfl, by decide +kernel, rfl, by decide +kernel, by decide +kernel⟩
abbrev s_is_complete : Stmt := topS 18
abbrev N_is_complete : List Str := ["history"]
theorem sc_is_complete : FnScope N_is_complete ["history"] (defScope s_is_complete) := ⟨rfl, rfl, rfl, by decide +kernel, rfl, by decide +kernel, by decide +kernel⟩
abbrev s_is_plain : Stmt := topS 19
abbrev N_is_plain : List Str := ["history", "starts"]
theorem sc_is_plain : FnScope N_is_plain ["history"] (defScope s_is_plain) := ⟨rfl, rfl, rfl, by decide +kernel, rfl, by decide +kernel, by decide +kernel⟩
abbrev s_running_after : Stmt := topS 20
abbrev N_running_after : List Str := ["history", "patch"]
theorem sc_running_after : FnScope N_running_after ["history"] (defScope s_running_after) := ⟨rfl, rfl, rfl, by decide +kernel, rfl, by decide +kernel, by decide +kernel⟩
abbrev s_replay : Stmt := topS 22
abbrev N_replay : List Str := ["history", "presents", "saved", "event"]
theorem sc_replay : FnScope N_replay ["history"] (defScope s_replay) := ⟨rfl, rfl, rfl, by decide +kernel, rfl, by decide +kernel, by decide +kernel⟩
abbrev s_present_after : Stmt := topS 23
abbrev N_present_after : List Str := ["history", "presents", "_"]
theorem sc_present_after : FnScope N_present_after ["history"] (defScope s_present_after) := ⟨rfl, rfl, rfl, by decide +kernel, rfl, by decide +kernel, by decide +kernel⟩
abbrev s_count_original : Stmt := topS 25
abbrev N_count_original : List Str := ["patches", "arcs"]
theorem sc_count_original : FnScope N_count_original ["patches"] (defScope s_count_original) := ⟨rfl, rfl, rfl, by decide +kernel, rfl, by decide +kernel, by decide +kernel⟩
abbrev s_nth_original : Stmt := topS 26
abbrev N_nth_original : List Str := ["patches", "index"]
theorem sc_nth_original : FnScope N_nth_original ["patches", "index"] (defScope s_nth_original) := ⟨rfl, rfl, rfl, by decide +kernel, rfl, by decide +kernel, by decide +kernel⟩
abbrev s_original_rank : Stmt := topS 27
abbrev N_original_rank : List Str := ["history"]
theorem sc_original_rank : FnScope N_original_rank ["history"] (defScope s_original_rank) := ⟨rfl, rfl, rfl, by decide +kernel, rfl, by decide +kernel, by decide +kernel⟩
abbrev s_count_with_jump : Stmt := topS 28
abbrev N_count_with_jump : List Str := ["patches", "arcs"]
theorem sc_count_with_jump : FnScope N_count_with_jump ["patches", "arcs"] (defScope s_count_with_jump) := ⟨rfl, rfl, rfl, by decide +kernel, rfl, by decide +kernel, by decide +kernel⟩
abbrev s_check_complete_plain : Stmt := topS 29
abbrev N_check_complete_plain : List Str := ["history"]
theorem sc_check_complete_plain : FnScope N_check_complete_plain ["history"] (defScope s_check_complete_plain) := ⟨rfl, rfl, rfl, by decide +kernel, rfl, by decide +kernel, by decide +kernel⟩
abbrev s_check_patches : Stmt := topS 30
abbrev N_check_patches : List Str := ["patches"]
theorem sc_check_patches : FnScope N_check_patches ["patches"] (defScope s_check_patches) := ⟨rfl, rfl, rfl, by decide +kernel, rfl, by decide +kernel, by decide +kernel⟩
abbrev s_fate_word : Stmt := topS 32
abbrev N_fate_word : List Str := ["saver"]
theorem sc_fate_word : FnScope N_fate_word ["saver"] (defScope s_fate_word) := ⟨rfl, rfl, rfl, by decide +kernel, rfl, by decide +kernel, by decide +kernel⟩
abbrev s_count_ways : Stmt := topS 33
abbrev N_count_ways : List Str := ["running", "unstarted"]
theorem sc_count_ways : FnScope N_count_ways ["running", "unstarted"] (defScope s_count_ways) := ⟨rfl, rfl, rfl, by decide +kernel, rfl, by decide +kernel, by decide +kernel⟩
abbrev s_rows_that_leave : Stmt := topS 34
abbrev N_rows_that_leave : List Str := ["patches", "present_rows", "saved_rows", "behind_start", "unstarted", "present", "saved", "running", "stops"]
theorem sc_rows_that_leave : FnScope N_rows_that_leave ["patches"] (defScope s_rows_that_leave) := ⟨rfl, rfl, rfl, by decide +kernel, rfl, by decide +kernel, by decide +kernel⟩
abbrev s_ways_of_original : Stmt := topS 35
abbrev N_ways_of_original : List Str := ["patches", "present_rows", "saved_rows", "row"]
theorem sc_ways_of_original : FnScope N_ways_of_original ["patches"] (defScope s_ways_of_original) := ⟨rfl, rfl, rfl, by decide +kernel, rfl, by decide +kernel, by decide +kernel⟩
abbrev s_nth_by : Stmt := topS 36
abbrev N_nth_by : List Str := ["patches", "ways", "index", "beginning", "_", "events"]
theorem sc_nth_by : FnScope N_nth_by ["patches", "ways", "index"] (defScope s_nth_by) := ⟨rfl, rfl, rfl, by decide +kernel, rfl, by decide +kernel, by decide +kernel⟩
abbrev s_rank_by : Stmt := topS 37
abbrev N_rank_by : List Str := ["history", "ways", "beginning", "rank", "event", "other"]
theorem sc_rank_by : FnScope N_rank_by ["history", "ways"] (defScope s_rank_by) := ⟨rfl, rfl, rfl, by decide +kernel, rfl, by decide +kernel, by decide +kernel⟩
abbrev s_law_pool : Stmt := topS 39
abbrev N_law_pool : List Str := ["script", "k", "cell"]
theorem sc_law_pool : FnScope N_law_pool ["script", "k"] (defScope s_law_pool) := ⟨rfl, rfl, rfl, by decide +kernel, rfl, by decide +kernel, by decide +kernel⟩
abbrev s_law_draw : Stmt := topS 40
abbrev N_law_draw : List Str := ["pool", "many", "digit", "mixed"]
theorem sc_law_draw : FnScope N_law_draw ["pool", "many"] (defScope s_law_draw) := ⟨rfl, rfl, rfl, by decide +kernel, rfl, by decide +kernel, by decide +kernel⟩
abbrev s_law_every : Stmt := topS 41
abbrev N_law_every : List Str := ["signs", "rows", "starts", "sign", "longer", "row", "able", "one"]
theorem sc_law_every : FnScope N_law_every ["signs"] (defScope s_law_every) := ⟨rfl, rfl, rfl, by decide +kernel, rfl, by decide +kernel, by decide +kernel⟩
abbrev s_law_shapes : Stmt := topS 42
abbrev N_law_shapes : List Str := ["n", "found", "turn", "longer", "signs", "starts", "running"]
theorem sc_law_shapes : FnScope N_law_shapes ["n"] (defScope s_law_shapes) := ⟨rfl, rfl, rfl, by decide +kernel, rfl, by decide +kernel, by decide +kernel⟩
abbrev s_law_all : Stmt := topS 43
abbrev N_law_all : List Str := ["n", "found", "signs"]
theorem sc_law_all : FnScope N_law_all ["n"] (defScope s_law_all) := ⟨rfl, rfl, rfl, by decide +kernel, rfl, by decide +kernel, by decide +kernel⟩
abbrev s_law_present : Stmt := topS 44
abbrev N_law_present : List Str := ["row", "present", "kept", "one"]
theorem sc_law_present : FnScope N_law_present ["row"] (defScope s_law_present) := ⟨rfl, rfl, rfl, by decide +kernel, rfl, by decide +kernel, by decide +kernel⟩
abbrev s_law_is_refused : Stmt := topS 45
abbrev N_law_is_refused : List Str := ["row", "before", "e"]
theorem sc_law_is_refused : FnScope N_law_is_refused ["row"] (defScope s_law_is_refused) := ⟨rfl, rfl, rfl, by decide +kernel, rfl, by decide +kernel, by decide +kernel⟩
abbrev s_law_right : Stmt := topS 46
abbrev N_law_right : List Str := ["n", "rows", "due", "at", "row", "told", "others"]
theorem sc_law_right : FnScope N_law_right ["n"] (defScope s_law_right) := ⟨rfl, rfl, rfl, by decide +kernel, rfl, by decide +kernel, by decide +kernel⟩
abbrev s_law : Stmt := topS 47
abbrev N_law : List Str := ["script", "k", "pool", "n"]
theorem sc_law : FnScope N_law ["script"] (defScope s_law) := ⟨rfl, rfl, rfl, by decide +kernel, rfl, by decide +kernel, by decide +kernel⟩
abbrev s_Beginning_init : Stmt := inClass (topS 31) 0
abbrev N_Beginning_init : List Str := ["self", "patches", "ways"]
theorem sc_Beginning_init : FnScope N_Beginning_init ["self", "patches", "ways"] (defScope s_Beginning_init) := ⟨rfl, rfl, rfl, by decide +kernel, rfl, by decide +kernel, by decide +kernel⟩
abbrev s_Beginning_following : Stmt := inClass (topS 31) 1
abbrev N_Beginning_following : List Str := ["self", "patch"]
theorem sc_Beginning_following : FnScope N_Beginning_following ["self"] (defScope s_Beginning_following) := ⟨rfl, rfl, rfl, by decide +kernel, rfl, by decide +kernel, by decide +kernel⟩
abbrev s_Beginning_saver_behind : Stmt := inClass (topS 31) 2
abbrev N_Beginning_saver_behind : List Str := ["self", "event"]
theorem sc_Beginning_saver_behind : FnScope N_Beginning_saver_behind ["self", "event"] (defScope s_Beginning_saver_behind) := ⟨rfl, rfl, rfl, by decide +kernel, rfl, by decide +kernel, by decide +kernel⟩
abbrev s_Beginning_ways_behind : Stmt := inClass (topS 31) 3
abbrev N_Beginning_ways_behind : List Str := ["self", "event", "rows"]
theorem sc_Beginning_ways_behind : FnScope N_Beginning_ways_behind ["self", "event"] (defScope s_Beginning_ways_behind) := ⟨rfl, rfl, rfl, by decide +kernel, rfl, by decide +kernel, by decide +kernel⟩
abbrev s_Beginning_go_on : Stmt := inClass (topS 31) 4
abbrev N_Beginning_go_on : List Str := ["self", "event"]
theorem sc_Beginning_go_on : FnScope N_Beginning_go_on ["self", "event"] (defScope s_Beginning_go_on) := ⟨rfl, rfl, rfl, by decide +kernel, rfl, by decide +kernel, by decide +kernel⟩
end L64
set_option Elab.async false
set_option linter.all false
set_option maxRecDepth 100000
namespace L64
open PySem PySem.Spec PyProof.Rows L2 Lp
section
variable {P : Program} {w : World} {K : PySem.W.Frag} {mg : Str → Option Value} {base : Heap}
/-- a def of the text at its name -/
structure At (K : PySem.W.Frag) (mg : Str → Option Value) (x : Str) (st : Stmt) (f : Addr) (fd : FuncData) : Prop where
  fn : Fun K x x st f fd
  mgf : mg x = some (.ref f)
theorem At.gc {k : Nat} {x : Str} {st : Stmt} {f : Addr} {fd : FuncData} {ps : List Str} {sp : Sp} (a : At K mg x st f fd) (b : Binds K fd ps []) (F : FnOk P w K mg base CX0 k f fd ps sp) : Cal P w K mg base k x sp := ⟨f, fd, ps, F, a.mgf, a.fn.kp, b⟩

/-! ### is_integer and its kin -/
def spIsInt : Sp := fun vs H Q _ => ∃ i : Int, vs = [.int i] ∧ Q (.bl true) H
theorem ok_is_integer {f : Addr} {fd : FuncData} (F : Fun K "is_integer" "is_integer" s_is_integer f fd) (B : NoB mg) : FnOk P w K mg base CX0 1 f fd ["value"] spIsInt := by
  refine F.ok sc_is_integer (fun vs H Q E h => ?_) (fun cdv A outer s H vs Q E hr h => ?_)
  · obtain ⟨i, rfl, _⟩ := h
    rfl
  · obtain ⟨i, rfl, q⟩ := h
    refine ⟨_, (pss_one (ps_ret (pe_and (pe_callB call_isi (by rfl) B.isinstance (by decide +kernel) (pa_cons (pv 0) (pa_cons (pe_bltn (v := .ty "int") (by rfl) B.int boot_int rfl) pa_nil))) (pe_one (pe_not (pe_callB call_isi (by rfl) B.isinstance (by decide +kernel) (pa_cons (pv 0) (pa_cons (pe_bltn (v := .ty "bool") (by rfl) B.bool boot_bool rfl) pa_nil)))))))), ?_⟩
    refine ⟨_, rfl, _, _, _, _, true, rfl, .ty _, .base (.int i), kit_ty (by decide +kernel), true, rfl, iteT ?_⟩
    exact ⟨_, rfl, _, _, _, _, false, rfl, .ty _, .base (.int i), kit_ty (by decide +kernel), false, rfl, q⟩
def spWithin : Sp := fun vs H Q _ => ∃ i lo hi : Int, vs = [.int i, .int lo, .int hi] ∧ lo ≤ i ∧ i ≤ hi ∧ Q (.bl true) H
theorem ok_is_integer_within {f : Addr} {fd : FuncData} (F : Fun K "is_integer_within" "is_integer_within" s_is_integer_within f fd) (T_is_integer : Cal P w K mg base 1 "is_integer" spIsInt) : FnOk P w K mg base CX0 2 f fd ["value", "least", "greatest"] spWithin := by
  refine F.ok sc_is_integer_within (fun vs H Q E h => ?_) (fun cdv A outer s H vs Q E hr h => ?_)
  · obtain ⟨i, lo, hi, rfl, _⟩ := h
    rfl
  · obtain ⟨i, lo, hi, rfl, h1, h2, q⟩ := h
    refine ⟨_, (pss_one (ps_ret (pe_and (pe_c T_is_integer hr (by decide) (by rfl) (pa_cons (pv 0) pa_nil)) (pe_one (pe_chain op_le op_le (pv 1) (pv 0) (pv 2)))))), ?_⟩
    refine ⟨_, rfl, i, rfl, true, rfl, iteT ?_⟩
    refine ⟨_, rfl, _, rfl, _, _, rfl, rfl, _, rfl, ?_⟩
    rw [decide_eq_true h1]
    refine iteT ⟨_, rfl, _, _, rfl, rfl, ?_⟩
    dsimp only
    rw [decide_eq_true h2]
    exact q
/-! ### are_integers -/
def spAreInts (K : PySem.W.Frag) : Sp := fun vs H Q _ => ∃ (a : Addr) (ns : List Int) (lo hi m : Int), vs = [.ref a, .int lo, .int hi, .int m] ∧ SqL K H a (ns.map V.int) ∧ ((ns.length : Nat) : Int) ≤ m ∧ ns.length ≤ 1000 ∧ (∀ n ∈ ns, lo ≤ n ∧ n ≤ hi) ∧ ∀ H', Same H H' → Q (.bl true) H'
theorem ok_are_integers {f : Addr} {fd : FuncData} (F : Fun K "are_integers" "are_integers" s_are_integers f fd) (B : NoB mg) (T_is_integer_within : Cal P w K mg base 2 "is_integer_within" spWithin) : FnOk P w K mg base CX0 3 f fd ["value", "least", "greatest", "most"] (spAreInts K) := by
  refine F.ok sc_are_integers (fun vs H Q E h => ?_) (fun cdv A outer s H vs Q E hr h => ?_)
  · obtain ⟨a, ns, lo, hi, m, rfl, _⟩ := h
    rfl
  · obtain ⟨a, ns, lo, hi, m, rfl, hS, hm, hl, hb, q⟩ := h
    refine ⟨_, (pss_cons (ps_if (PW.pt (pw_or (pt_cmpR op_neTy (pe_callTy call_type1 (by rfl) B.type (by decide +kernel) (pa_cons (pv 0) pa_nil)) (pe_bltn (v := .ty "list") (by rfl) B.list boot_list rfl) (nomark _)) (pw_or1 (pt_cmpR op_gt (pe_callB call_len_seq (by rfl) B.len PySem.boot_len (pa_cons (pv 0) pa_nil)) (pv 3) (nomark _))))) (pss_one (ps_ret pe_bl)) pss_nil)
        (pss_one (ps_ret (pe_callB (cr_all rfl) (by rfl) B.all (by decide +kernel) (pa_cons (pe_lc (own := [("item", 4)]) (g := gName 4) (tt := tYes) rfl sc_are_integers.nd (pi_list (pv 0)) (blkOk_by (own := [("item", 4)]) (N := N_are_integers) (sc := defScope s_are_integers) (by decide +kernel)) (fun _ _ _ _ _ => (pg_name (i := 4) sc_are_integers.nd rfl (Or.inl rfl))) (fun _ _ _ _ _ => pts_nil) (fun _ _ _ _ _ => (pe_c T_is_integer_within hr (by decide) (by rfl) (pa_cons (pv 4) (pa_cons (pv 1) (pa_cons (pv 2) pa_nil)))))) pa_nil))))), ?_⟩
    refine ⟨_, rfl, _, _, rfl, .lst hS, _, rfl, rfl, PySem.TypeEq.meta_list, _, rfl, iteF ?_⟩
    refine ⟨_, rfl, a, _, rfl, .inl hS, _, rfl, _, _, rfl, rfl, _, rfl, ?_⟩
    rw [List.length_map, decide_eq_false (show ¬ m < ((ns.length : Nat) : Int) by omega)]
    refine iteF ?_
    refine ⟨_, rfl, a, rfl, ⟨_, hS⟩, fun D hD => lc_list (xs := ns.map V.int) (LcP H D fun i => (List.replicate i true).map V.bl) (.init hD rfl) (fun i H' _ p => p.2.1.seq hS) (fun i x H' hx p => ?_) (fun H' p => ?_)⟩
    · obtain ⟨n, rfl, hn⟩ := get_int hx
      obtain ⟨h1, h2⟩ := hb n (mem_get hn)
      refine ⟨rfl, ?_⟩
      refine ⟨_, rfl, _, rfl, _, rfl, n, lo, hi, rfl, h1, h2, ?_⟩
      refine p.put (Same.refl _) ?_ (by rw [List.length_map, List.length_replicate]; have := lt_get hn; omega)
      rw [List.replicate_succ', List.map_append]
      rfl
    · refine ⟨D, _, rfl, .of p.2.2, ?_⟩
      have e : (List.replicate (ns.map V.int).length true).all id = true := by
        rw [List.all_eq_true]
        intro b hb
        exact (List.eq_of_mem_replicate hb)
      rw [e]
      exact q _ p.2.1

/-! ### histories -/
structure Hist (ns : List Int) : Prop where
  rng : ∀ e ∈ ns, e ≠ 0 ∧ -100 ≤ e ∧ e ≤ 100
  nd : ns.Nodup
  ord : ∀ (i : Nat) (e : Int), ns[i]? = some e → e < 0 → -e ∈ ns.take i
  len : ns.length ≤ 200
theorem not_mem_take {ns : List Int} (nd : ns.Nodup) {i : Nat} {e : Int} (h : ns[i]? = some e) : e ∉ ns.take i := by
  intro hm
  obtain ⟨j, hj, e1⟩ := List.mem_iff_getElem.mp hm
  rw [List.length_take] at hj
  have hjn : j < ns.length := by omega
  have e2 : ns[j]? = some e := by
    rw [List.getElem?_eq_getElem hjn, ← e1, List.getElem_take]
  have := nd_ix nd e2 h
  omega
theorem mem_take_succ {ns : List Int} {i : Nat} {e x : Int} (h : ns[i]? = some e) : (x ∈ ns.take (i + 1)) ↔ (x ∈ ns.take i ∨ x = e) := by
  rw [take_get h, List.mem_append, List.mem_singleton]
/-! ### are_events -/
def spAreEv (K : PySem.W.Frag) : Sp := fun vs H Q _ => ∃ (a : Addr) (ns : List Int), vs = [.ref a] ∧ SqL K H a (ns.map V.int) ∧ (∀ e ∈ ns, e ≠ 0 ∧ -100 ≤ e ∧ e ≤ 100) ∧ ns.Nodup ∧ ns.length ≤ 200 ∧ ∀ H', Same H H' → Q (.bl true) H'
theorem ok_are_events {f : Addr} {fd : FuncData} (F : Fun K "are_events" "are_events" s_are_events f fd) (B : NoB mg) {t1 t2 : Tok} (T_g_LAST_PATCH : mg "LAST_PATCH" = some (.int 100 t1)) (T_g_MOST_EVENTS : mg "MOST_EVENTS" = some (.int 200 t2))
    (T_are_integers : Cal P w K mg base 3 "are_integers" (spAreInts K)) : FnOk P w K mg base CX0 4 f fd ["value"] (spAreEv K) := by
  refine F.ok sc_are_events (fun vs H Q E h => ?_) (fun cdv A outer s H vs Q E hr h => ?_)
  · obtain ⟨a, ns, rfl, _⟩ := h
    rfl
  · obtain ⟨a, ns, rfl, hS, hb, nd, hl, q⟩ := h
    refine ⟨_, (pss_cons (ps_if (pt_not (pt_val (pe_c T_are_integers hr (by decide) (by rfl) (pa_cons (pv 0) (pa_cons (pe_un un_neg (pe_glob (v := .int 100) (by rfl) T_g_LAST_PATCH ⟨_, rfl⟩)) (pa_cons (pe_glob (v := .int 100) (by rfl) T_g_LAST_PATCH ⟨_, rfl⟩) (pa_cons (pe_glob (v := .int 200) (by rfl) T_g_MOST_EVENTS ⟨_, rfl⟩) pa_nil))))))) (pss_one (ps_ret pe_bl)) pss_nil)
        (pss_one (ps_ret (pe_and (pe_cmpR op_notIn_seq pe_int (pv 0) (by rfl)) (pe_one (pe_cmpR op_eq (RZ.pe_lenSetI (by rfl) B.len (by rfl) B.set (pv 0)) (pe_callB call_len_seq (by rfl) B.len PySem.boot_len (pa_cons (pv 0) pa_nil)) (nomark _))))))), ?_⟩
    refine ⟨_, rfl, _, rfl, a, ns, -100, 100, 200, rfl, hS, by omega, by omega, fun n hn => (hb n hn).2, fun H1 s1 => ?_⟩
    refine ⟨_, rfl, iteF ?_⟩
    have hS1 := s1.seq hS
    refine ⟨_, rfl, a, ns.map V.int, rfl, .inl hS1, rfl, flatI ns, true, notInT fun z => (hb 0 z).1 rfl, iteT ?_⟩
    refine ⟨_, rfl, a, ns, rfl, hS1, nd, by omega, _, rfl, a, _, rfl, .inl hS1, rfl, ?_⟩
    rw [List.length_map, dT rfl]
    exact q _ s1

def spIsHist (K : PySem.W.Frag) : Sp := fun vs H Q _ => ∃ (a : Addr) (ns : List Int), vs = [.ref a] ∧ SqL K H a (ns.map V.int) ∧ Hist ns ∧ ∀ H', Same H H' → Q (.bl true) H'
theorem ok_is_history {f : Addr} {fd : FuncData} (F : Fun K "is_history" "is_history" s_is_history f fd) (B : NoB mg) (T_are_events : Cal P w K mg base 4 "are_events" (spAreEv K)) : FnOk P w K mg base CX0 5 f fd ["value"] (spIsHist K) := by
  refine F.ok sc_is_history (fun vs H Q E h => ?_) (fun cdv A outer s H vs Q E hr h => ?_)
  · obtain ⟨a, ns, rfl, _⟩ := h
    rfl
  · obtain ⟨a, ns, rfl, hS, hh, q⟩ := h
    have hu := hu_of hr
    refine ⟨_, (pss_cons (ps_if (pt_not (pt_val (pe_c T_are_events hr (by decide) (by rfl) (pa_cons (pv 0) pa_nil)))) (pss_one (ps_ret pe_bl)) pss_nil)
        (pss_cons (ps_set (i := 1) sc_is_history.nd rfl (Or.inl rfl) (pe_callTy0 cr_set0 (by rfl) B.set (by decide +kernel)))
        (pss_cons (ps_for PassesOwn.never rfl (pi_list (pv 0)) (pg_name (i := 2) sc_is_history.nd rfl (Or.inl rfl))
          (pss_one (ps_if (pt_cmpR op_gt (pv 2) pe_int (nomark _)) (pss_one (ps_expr (pe_sadd (pv 1) (pa_cons (pv 2) pa_nil)))) (pss_one (ps_if (pt_cmpR or_snotin (pe_un un_neg (pv 2)) (pv 1) (by rfl)) (pss_one (ps_ret pe_bl)) pss_nil)))))
        (pss_one (ps_ret pe_bl))))), ?_⟩
    refine ⟨_, rfl, a, ns, rfl, hS, hh.rng, hh.nd, hh.len, fun H1 s1 => ?_⟩
    refine ⟨_, rfl, iteF ?_⟩
    refine ⟨rfl, fun p np => ?_⟩
    have hS1 := s1.seq hS
    refine ⟨_, rfl, a, rfl, ⟨_, (same_new np).seq hS1⟩, for_list (xs := ns.map V.int) (fun i σ H' => (∃ y, σ = [some (.ref a), some (.ref p), y]) ∧ Same H1 H' ∧ ∃ n, n ≤ i ∧ H' p = some (SetO w p (fun x => decide (0 < x ∧ x ∈ ns.take i)) n)) ⟨⟨_, rfl⟩, same_new np, 0, Nat.le_refl _, ?_⟩ (fun i σ H' _ h => h.2.1.seq hS1) (fun i x σ H' hx h => ?_) (fun σ H' h => ?_)⟩
    · rw [upd_same]
      show some (SetO w p (fun x => false) 0) = some (SetO w p (fun x => decide (0 < x ∧ x ∈ ns.take 0)) 0)
      simp
    · obtain ⟨n, rfl, hn⟩ := get_int hx
      obtain ⟨⟨y, rfl⟩, sm, m, hm, hp⟩ := h
      have hi : i < 200 := Nat.lt_of_lt_of_le (lt_get hn) hh.len
      by_cases h0 : 0 < n
      · refine ⟨_, rfl, _, _, rfl, rfl, true, dT h0, ?_⟩
        refine ⟨_, rfl, ⟨p, _, m, rfl, hp⟩, _, rfl, p, n, _, m, rfl, rfl, hp, by show m + 1 < 4096; omega, ⟨_, rfl⟩, fun b o e => ?_, m + 1, by omega, ?_⟩
        rotate_left 1
        · have hnt : ¬ (0 < n ∧ n ∈ ns.take i) := fun z => not_mem_take hh.nd hn z.2
          rw [upd_same, decide_eq_false hnt, if_neg Bool.false_ne_true]
          refine congrArg some (congrArg (fun S => SetO w p S _) (funext fun x => ?_))
          rw [← Bool.decide_or]
          refine decide_eq_decide.mpr ?_
          have := mem_take_succ (x := x) hn
          rw [this]
          constructor
          · rintro (⟨a, b⟩ | rfl)
            · exact ⟨a, .inl b⟩
            · exact ⟨h0, .inr rfl⟩
          · rintro ⟨a, b | b⟩
            · exact .inl ⟨a, b⟩
            · exact .inr b
        · rw [upd_ne (ne_of_none e np)]
          exact sm _ _ e
      · refine ⟨_, rfl, _, _, rfl, rfl, false, dF h0, ?_⟩
        have e0 := (hh.rng n (mem_get hn)).1
        have hpre := hh.ord i n hn (by omega)
        refine ⟨_, rfl, n, rfl, _, rfl, -n, p, _, m, rfl, rfl, hp, false, nF ⟨by omega, hpre⟩, ⟨_, rfl⟩, sm, m, by omega, ?_⟩
        rw [hp]
        refine congrArg some (congrArg (fun S => SetO w p S m) (funext fun x => decide_eq_decide.mpr ?_))
        rw [mem_take_succ hn]
        constructor
        · exact fun ⟨a, b⟩ => ⟨a, .inl b⟩
        · rintro ⟨a, b | b⟩
          · exact ⟨a, b⟩
          · omega
    · obtain ⟨⟨y, rfl⟩, sm, _⟩ := h
      exact q _ (s1.trans sm)

/-! ### check_history -/
def spCheck (K : PySem.W.Frag) : Sp := fun vs H Q _ => ∃ (a : Addr) (ns : List Int), vs = [.ref a] ∧ SqL K H a (ns.map V.int) ∧ Hist ns ∧ ∀ H', Same H H' → Q .non H'
theorem ok_check_history {f : Addr} {fd : FuncData} (F : Fun K "check_history" "check_history" s_check_history f fd) (T_is_history : Cal P w K mg base 5 "is_history" (spIsHist K)) : FnOk P w K mg base CX0 6 f fd ["history"] (spCheck K) := by
  refine F.ok sc_check_history (fun vs H Q E h => ?_) (fun cdv A outer s H vs Q E hr h => ?_)
  · obtain ⟨a, ns, rfl, _⟩ := h
    rfl
  · obtain ⟨a, ns, rfl, hS, hh, q⟩ := h
    refine ⟨_, (pss_one (ps_if (pt_not (pt_val (pe_c T_is_history hr (by decide) (by rfl) (pa_cons (pv 0) pa_nil)))) (pss_one ps_never) pss_nil)), ?_⟩
    exact ⟨_, rfl, a, ns, rfl, hS, hh, fun H1 s1 => ⟨_, rfl, iteF (q _ s1)⟩⟩

end
/-! ### the drawn history -/
def upL (n : Nat) : List Int := (List.range n).map fun i : Nat => 1 + (i : Int)
theorem nodup_map {α β : Type} {f : α → β} (hf : ∀ x y, f x = f y → x = y) : ∀ {l : List α}, l.Nodup → (l.map f).Nodup
  | [], _ => List.nodup_nil
  | x :: r, h => by
    obtain ⟨h1, h2⟩ := List.nodup_cons.mp h
    refine List.nodup_cons.mpr ⟨fun hm => ?_, nodup_map hf h2⟩
    obtain ⟨y, hy, e⟩ := List.mem_map.mp hm
    exact h1 (hf _ _ e ▸ hy)
theorem upL_nd (n : Nat) : (upL n).Nodup := nodup_map (fun x y e => by omega) List.nodup_range
theorem upL_mem {n : Nat} {k : Int} (h : k ∈ upL n) : 1 ≤ k ∧ k ≤ (n : Int) := by
  obtain ⟨i, hi, rfl⟩ := List.mem_map.mp h
  have := List.mem_range.mp hi
  omega
theorem upL_len (n : Nat) : (upL n).length = n := by
  unfold upL
  rw [List.length_map, List.length_range]
theorem rgV_up (b : Int) : rgV 1 b = (upL (b - 1).toNat).map V.int := by
  unfold rgV upL
  rw [List.map_map]
  rfl
structure Good (fr av fd : List Int) : Prop where
  rng : ∀ e ∈ fd, e ≠ 0 ∧ -100 ≤ e ∧ e ≤ 100
  nd : fd.Nodup
  ord : ∀ (i : Nat) (e : Int), fd[i]? = some e → e < 0 → -e ∈ fd.take i
  avn : av.Nodup
  avm : ∀ k ∈ av, 0 < k ∧ k ∈ fd ∧ -k ∉ fd
  frn : fr.Nodup
  frm : ∀ k ∈ fr, 1 ≤ k ∧ k ≤ 100 ∧ k ∉ fd
theorem ord_snoc {fd : List Int} {x : Int} (h : ∀ (i : Nat) (e : Int), fd[i]? = some e → e < 0 → -e ∈ fd.take i) (hx : x < 0 → -x ∈ fd) (i : Nat) (e : Int) (he : (fd ++ [x])[i]? = some e) (h0 : e < 0) : -e ∈ (fd ++ [x]).take i := by
  by_cases hi : i < fd.length
  · rw [List.getElem?_append_left hi] at he
    rw [List.take_append_of_le_length (Nat.le_of_lt hi)]
    exact h i e he h0
  · have hi2 := lt_get he
    rw [List.length_append, List.length_singleton] at hi2
    have e1 : i = fd.length := by omega
    subst e1
    rw [List.getElem?_append_right (Nat.le_refl _), Nat.sub_self] at he
    have e2 : x = e := Option.some.inj he
    subst e2
    rw [List.take_append_of_le_length (Nat.le_refl _), List.take_length]
    exact hx h0
theorem ord_mem {fd : List Int} (h : ∀ (i : Nat) (e : Int), fd[i]? = some e → e < 0 → -e ∈ fd.take i) {e : Int} (he : e ∈ fd) (h0 : e < 0) : -e ∈ fd := by
  obtain ⟨i, hi, rfl⟩ := List.mem_iff_getElem.mp he
  exact List.mem_of_mem_take (h i _ (List.getElem?_eq_getElem hi) h0)
theorem nodup_snoc {l : List Int} {x : Int} (h : l.Nodup) (hx : x ∉ l) : (l ++ [x]).Nodup :=
  List.nodup_append.mpr ⟨h, List.nodup_cons.mpr ⟨List.not_mem_nil, List.nodup_nil⟩, fun a ha b hb e => hx (by
    rw [List.mem_singleton] at hb
    rw [← hb, ← e]
    exact ha)⟩
theorem Good.push {k : Int} {fr av fd : List Int} (g : Good (k :: fr) av fd) : Good fr (av ++ [k]) (fd ++ [k]) := by
  obtain ⟨k1, k2, k3⟩ := g.frm k List.mem_cons_self
  obtain ⟨n1, n2⟩ := List.nodup_cons.mp g.frn
  have kn : -k ∉ fd := fun h => k3 (by
    have z := ord_mem g.ord h (by omega)
    rwa [Int.neg_neg] at z)
  have kav : k ∉ av := fun h => k3 (g.avm k h).2.1
  refine ⟨fun e he => ?_, nodup_snoc g.nd k3, ord_snoc g.ord (fun z => by omega), nodup_snoc g.avn kav, fun j hj => ?_, n2, fun j hj => ?_⟩
  · rcases List.mem_append.mp he with h | h
    · exact g.rng e h
    · rw [List.mem_singleton] at h
      omega
  · rw [List.mem_append, List.mem_append, List.mem_singleton, List.mem_singleton]
    rcases List.mem_append.mp hj with h | h
    · obtain ⟨a, b, c⟩ := g.avm j h
      exact ⟨a, .inl b, fun z => z.elim c fun z => by omega⟩
    · rw [List.mem_singleton] at h
      subst h
      exact ⟨by omega, .inr rfl, fun z => z.elim kn fun z => by omega⟩
  · obtain ⟨a, b, c⟩ := g.frm j (List.mem_cons_of_mem _ hj)
    refine ⟨a, b, fun z => ?_⟩
    rcases List.mem_append.mp z with h | h
    · exact c h
    · rw [List.mem_singleton] at h
      exact n1 (h ▸ hj)
theorem Good.stop {fr av fd : List Int} (g : Good fr av fd) {j : Nat} (hj : j < av.length) : Good fr (av.eraseIdx j) (fd ++ [-av[j]]) := by
  obtain ⟨a0, a1, a2⟩ := g.avm av[j] (List.getElem_mem hj)
  have pm := erase_perm av j hj
  have ndp : (av[j] :: av.eraseIdx j).Nodup := pm.nodup_iff.mpr g.avn
  obtain ⟨m1, m2⟩ := List.nodup_cons.mp ndp
  refine ⟨fun e he => ?_, nodup_snoc g.nd a2, ord_snoc g.ord (fun _ => by rw [Int.neg_neg]; exact a1), m2, fun k hk => ?_, g.frn, fun k hk => ?_⟩
  · rcases List.mem_append.mp he with h | h
    · exact g.rng e h
    · rw [List.mem_singleton] at h
      have := g.rng _ a1
      omega
  · have hk2 : k ∈ av := pm.mem_iff.mp (List.mem_cons_of_mem _ hk)
    obtain ⟨a, b, c⟩ := g.avm k hk2
    refine ⟨a, List.mem_append_left _ b, fun z => ?_⟩
    rcases List.mem_append.mp z with h | h
    · exact c h
    · rw [List.mem_singleton] at h
      have e : k = av[j] := by omega
      exact m1 (e ▸ hk)
  · obtain ⟨a, b, c⟩ := g.frm k hk
    refine ⟨a, b, fun z => ?_⟩
    rcases List.mem_append.mp z with h | h
    · exact c h
    · rw [List.mem_singleton] at h
      omega
theorem eqvT {xs ys : List Int} (h : xs = ys) : V.bl (PyData.eqv (dI xs) (dI ys)) = V.bl true := by rw [eqv_ints, decide_eq_true h]
theorem eqvF {xs ys : List Int} (h : ¬ xs = ys) : V.bl (PyData.eqv (dI xs) (dI ys)) = V.bl false := by rw [eqv_ints, decide_eq_false h]
theorem neqT {xs ys : List Int} (h : ¬ xs = ys) : V.bl (!PyData.eqv (dI xs) (dI ys)) = V.bl true := by rw [eqv_ints, decide_eq_false h]; rfl
theorem neqF {xs ys : List Int} (h : xs = ys) : V.bl (!PyData.eqv (dI xs) (dI ys)) = V.bl false := by rw [eqv_ints, decide_eq_true h]; rfl
theorem nodup_len {l : List Int} : ∀ {m : List Int}, l.Nodup → (∀ x ∈ l, x ∈ m) → l.length ≤ m.length := by
  induction l with
  | nil => intro m _ _; exact Nat.zero_le _
  | cons x r ih =>
    intro m h s
    obtain ⟨h1, h2⟩ := List.nodup_cons.mp h
    have hx := s x List.mem_cons_self
    have z := ih (m := m.erase x) h2 fun y hy => (List.mem_erase_of_ne (fun e : y = x => h1 (e ▸ hy))).mpr (s y (List.mem_cons_of_mem _ hy))
    rw [List.length_erase_of_mem hx] at z
    have := List.length_pos_of_mem hx
    show r.length + 1 ≤ m.length
    omega
end L64
set_option Elab.async false
set_option linter.all false
set_option maxRecDepth 100000
namespace L64
open PySem PySem.Spec PyProof.Rows L2 Lp
/-! ### pieces -/
structure Piece (ns : List Int) : Prop where
  rng : ∀ e ∈ ns, e ≠ 0 ∧ -100 ≤ e ∧ e ≤ 100
  nd : ns.Nodup
  ord : ∀ (i : Nat) (e : Int), ns[i]? = some e → 0 < e → -e ∉ ns.take i
  len : ns.length ≤ 200
theorem Hist.piece {ns : List Int} (h : Hist ns) : Piece ns := by
  refine ⟨h.rng, h.nd, fun i e he h0 hm => ?_, h.len⟩
  obtain ⟨j, hj, e1⟩ := List.mem_iff_getElem.mp hm
  rw [List.length_take] at hj
  rw [List.getElem_take] at e1
  have hj2 : ns[j]? = some (-e) := by rw [List.getElem?_eq_getElem (by omega), e1]
  have hp := h.ord j (-e) hj2 (by omega)
  have e3 : - -e = e := by omega
  rw [e3] at hp
  have : ns.take j = (ns.take i).take j := by rw [List.take_take, Nat.min_eq_left (by omega)]
  rw [this] at hp
  exact not_mem_take h.nd he (List.mem_of_mem_take hp)
theorem Piece.cut {ns : List Int} (h : Piece ns) (a b : Nat) : Piece ((ns.take b).drop a) := by
  have sub : ((ns.take b).drop a).Sublist ns := (List.drop_sublist _ _).trans (List.take_sublist _ _)
  refine ⟨fun e he => h.rng e (sub.subset he), h.nd.sublist sub, fun i e he h0 hm => ?_, Nat.le_trans sub.length_le h.len⟩
  rw [List.getElem?_drop] at he
  have hl : a + i < (ns.take b).length := (List.getElem?_eq_some_iff.mp he).1
  rw [List.length_take] at hl
  rw [List.getElem?_take_of_lt (by omega)] at he
  refine h.ord (a + i) e he h0 ?_
  have e1 : ((ns.take b).drop a).take i = (ns.take (a + i)).drop a := by
    rw [List.take_drop, List.take_take, Nat.min_eq_left (by omega)]
  rw [e1] at hm
  exact List.mem_of_mem_drop hm
theorem Piece.nil : Piece [] := ⟨(fun _ h => nomatch h), List.nodup_nil, (fun i e h => nomatch h), by decide⟩
/-! ### is_piece -/
/-! ### references -/
def lk (l : List (Int × Int)) (k : Int) : Option Int := (l.find? fun z => decide (z.1 = k)).map (·.2)
def stepR (s : Int × List (Int × Int)) (e : Int) : Int × List (Int × Int) := if 0 < e then (e, s.2 ++ [(e, s.1)]) else ((lk s.2 (-e)).getD e, s.2)
def runR (ns : List Int) : Int × List (Int × Int) := ns.foldl stepR (0, [])
theorem runR_snoc (t : List Int) (e : Int) : runR (t ++ [e]) = stepR (runR t) e := by
  unfold runR
  rw [List.foldl_append]
  rfl
theorem lk_nil (k : Int) : lk [] k = none := rfl
theorem lk_cons (z : Int × Int) (l : List (Int × Int)) (k : Int) : lk (z :: l) k = if z.1 = k then some z.2 else lk l k := by
  unfold lk
  rw [List.find?_cons]
  by_cases h : z.1 = k
  · rw [decide_eq_true h, if_pos h]
    rfl
  · rw [decide_eq_false h, if_neg h]
theorem valV_ent (k : Int) : ∀ l : List (Int × Int), valV (l.map entI) (Sum.inl k) = (lk l k).map V.int
  | [] => rfl
  | z :: l => by
    rw [lk_cons]
    by_cases h : z.1 = k
    · rw [if_pos h]
      exact valV_pos (p := entI z) (r := l.map entI) (congrArg Sum.inl h)
    · rw [if_neg h, ← valV_ent k l]
      unfold valV
      rw [List.map_cons, List.find?_cons, decide_eq_false (fun q => h (Sum.inl.inj q))]
theorem drop_ent (k : Int) (l : List (Int × Int)) : dropK (l.map entI) (Sum.inl k) = (l.filter fun z => decide (z.1 ≠ k)).map entI := by
  unfold dropK
  rw [List.filter_map]
  refine congrArg (List.map entI) (List.filter_congr fun z _ => decide_eq_decide.mpr ?_)
  exact ⟨fun h q => h (congrArg Sum.inl q), fun h q => h (Sum.inl.inj q)⟩
theorem lk_none {l : List (Int × Int)} {k : Int} (h : k ∉ l.map (·.1)) : lk l k = none := by
  unfold lk
  rw [List.find?_eq_none.mpr]
  · rfl
  · intro z hz q
    exact h (List.mem_map.mpr ⟨z, hz, of_decide_eq_true q⟩)
theorem lk_some {l : List (Int × Int)} {k : Int} : k ∈ l.map (·.1) → ∃ v, lk l k = some v ∧ (k, v) ∈ l := by
  induction l with
  | nil => exact fun h => nomatch h
  | cons z l ih =>
    intro h
    rw [lk_cons]
    by_cases q : z.1 = k
    · refine ⟨z.2, if_pos q, ?_⟩
      rw [← q]
      exact List.mem_cons_self
    · obtain ⟨v, e1, e2⟩ := ih ((List.mem_cons.mp h).resolve_left (fun c => q c.symm))
      exact ⟨v, by rw [if_neg q]; exact e1, List.mem_cons_of_mem _ e2⟩
theorem lk_mem {l : List (Int × Int)} {z : Int × Int} (nd : (l.map (·.1)).Nodup) (h : z ∈ l) : lk l z.1 = some z.2 := by
  induction l with
  | nil => exact nomatch h
  | cons y l ih =>
    rw [lk_cons]
    rw [List.map_cons, List.nodup_cons] at nd
    rcases List.mem_cons.mp h with rfl | h
    · exact if_pos rfl
    · rw [if_neg fun q => nd.1 (by rw [q]; exact List.mem_map.mpr ⟨z, h, rfl⟩)]
      exact ih nd.2 h
theorem put_ent {l : List (Int × Int)} {k : Int} (v : Int) (h : k ∉ l.map (·.1)) : putK (l.map entI) (Sum.inl k) (.int v) = (l ++ [(k, v)]).map entI := by
  rw [putK_new]
  · rw [List.map_append]
    rfl
  · rw [valV_ent, lk_none h]
    rfl
theorem lk_filter {p : Int × Int → Bool} {k : Int} : ∀ {l : List (Int × Int)}, (∀ z ∈ l, z.1 = k → p z = true) → lk (l.filter p) k = lk l k
  | [], _ => rfl
  | z :: l, h => by
    have ih := lk_filter (p := p) (k := k) (l := l) fun y hy => h y (List.mem_cons_of_mem _ hy)
    rw [lk_cons]
    by_cases q : z.1 = k
    · rw [List.filter_cons_of_pos (h z List.mem_cons_self q), lk_cons, if_pos q, if_pos q]
    · rw [if_neg q]
      cases hp : p z with
      | true => rw [List.filter_cons_of_pos hp, lk_cons, if_neg q, ih]
      | false => rw [List.filter_cons_of_neg (by rw [hp]; exact Bool.false_ne_true), ih]
theorem keysR' : ∀ (t : List Int) (s : Int × List (Int × Int)), (t.foldl stepR s).2.map (·.1) = s.2.map (·.1) ++ t.filter fun e => decide (0 < e)
  | [], s => (List.append_nil _).symm
  | e :: t, s => by
    rw [List.foldl_cons, keysR' t]
    unfold stepR
    by_cases h : 0 < e
    · rw [if_pos h, List.filter_cons_of_pos (p := fun e => decide (0 < e)) (by exact decide_eq_true h), List.map_append, List.append_assoc]
      rfl
    · rw [if_neg h, List.filter_cons_of_neg (by rw [decide_eq_false h]; exact Bool.false_ne_true)]
theorem keysR (t : List Int) : (runR t).2.map (·.1) = t.filter fun e => decide (0 < e) := by
  unfold runR
  rw [keysR']
  rfl
theorem keysR_mem {t : List Int} {k : Int} : k ∈ (runR t).2.map (·.1) ↔ k ∈ t ∧ 0 < k := by
  rw [keysR, List.mem_filter, decide_eq_true_eq]
/-- the patches started and not stopped, with what they saved; those stopped only; those started and stopped -/
def hl (t : List Int) : List (Int × Int) := (runR t).2.filter fun z => decide (-z.1 ∉ t)
def gn (t : List Int) : List Int := (t.filter fun e => decide (e < 0 ∧ -e ∉ t)).map fun e => -e
def en (t : List Int) : List Int := (t.filter fun e => decide (e < 0 ∧ -e ∈ t)).map fun e => -e
theorem mem_keyR {t : List Int} {z : Int × Int} (h : z ∈ (runR t).2) : z.1 ∈ t ∧ 0 < z.1 := keysR_mem.mp (List.mem_map.mpr ⟨z, h, rfl⟩)
theorem hl_start {t : List Int} {e : Int} (h0 : 0 < e) (hn : -e ∉ t) : hl (t ++ [e]) = hl t ++ [(e, (runR t).1)] := by
  unfold hl
  rw [runR_snoc]
  unfold stepR
  rw [if_pos h0, List.filter_append]
  congr 1
  · refine List.filter_congr fun z hz => decide_eq_decide.mpr ?_
    have := (mem_keyR hz).2
    rw [List.mem_append, List.mem_singleton]
    constructor
    · exact fun a b => a (.inl b)
    · rintro a (b | b)
      · exact a b
      · omega
  · rw [List.filter_cons_of_pos, List.filter_nil]
    refine decide_eq_true ?_
    rw [List.mem_append, List.mem_singleton]
    rintro (b | b)
    · exact hn b
    · have b' : -e = e := b
      omega
theorem hl_stop {t : List Int} {e : Int} (h0 : e < 0) : hl (t ++ [e]) = (hl t).filter fun z => decide (z.1 ≠ -e) := by
  unfold hl
  rw [runR_snoc]
  unfold stepR
  rw [if_neg (by omega), List.filter_filter]
  refine List.filter_congr fun z hz => ?_
  rw [← Bool.decide_and]
  refine decide_eq_decide.mpr ?_
  rw [List.mem_append, List.mem_singleton]
  constructor
  · exact fun a => ⟨fun b => a (.inr (by omega)), fun b => a (.inl b)⟩
  · rintro ⟨a, b⟩ (c | c)
    · exact b c
    · exact a (by omega)
theorem lk_hl {t : List Int} {e : Int} (hn : e ∉ t) : lk (hl t) (-e) = lk (runR t).2 (-e) := lk_filter fun z _ q => decide_eq_true (by rw [q, show - -e = e by omega]; exact hn)
theorem gn_start {t : List Int} {e : Int} (h0 : 0 < e) (hn : -e ∉ t) : gn (t ++ [e]) = gn t ∧ en (t ++ [e]) = en t := by
  unfold gn en
  rw [List.filter_append, List.filter_append, List.filter_cons_of_neg (by rw [decide_eq_false (fun c => absurd c.1 (by omega))]; exact Bool.false_ne_true), List.filter_nil, List.append_nil,
    List.filter_cons_of_neg (by rw [decide_eq_false (fun c => absurd c.1 (by omega))]; exact Bool.false_ne_true), List.filter_nil, List.append_nil]
  constructor
  · refine congrArg (List.map _) (List.filter_congr fun x hx => decide_eq_decide.mpr ?_)
    rw [List.mem_append, List.mem_singleton]
    constructor
    · exact fun ⟨a, b⟩ => ⟨a, fun c => b (.inl c)⟩
    · rintro ⟨a, b⟩
      refine ⟨a, ?_⟩
      rintro (c | c)
      · exact b c
      · exact hn (by rw [← c, show - -x = x by omega]; exact hx)
  · refine congrArg (List.map _) (List.filter_congr fun x hx => decide_eq_decide.mpr ?_)
    rw [List.mem_append, List.mem_singleton]
    constructor
    · rintro ⟨a, b | b⟩
      · exact ⟨a, b⟩
      · exact absurd hx (by rw [show x = -e by omega]; exact hn)
    · exact fun ⟨a, b⟩ => ⟨a, .inl b⟩
theorem gn_stop {t : List Int} {e : Int} (h0 : e < 0) : gn (t ++ [e]) = gn t ++ (if -e ∈ t then [] else [-e]) ∧ en (t ++ [e]) = en t ++ (if -e ∈ t then [-e] else []) := by
  unfold gn en
  have m : ∀ x ∈ t, x < 0 → (-x ∈ t ++ [e] ↔ -x ∈ t) := fun x _ hx => by
    rw [List.mem_append, List.mem_singleton]
    exact ⟨fun c => c.resolve_right (by omega), .inl⟩
  have me : -e ∈ t ++ [e] ↔ -e ∈ t := by
    rw [List.mem_append, List.mem_singleton]
    exact ⟨fun c => c.resolve_right (by omega), .inl⟩
  rw [List.filter_append, List.filter_append, List.map_append, List.map_append]
  refine ⟨?_, ?_⟩
  · congr 1
    · refine congrArg (List.map _) (List.filter_congr fun x hx => decide_eq_decide.mpr ?_)
      exact ⟨fun ⟨a, b⟩ => ⟨a, fun c => b ((m x hx a).mpr c)⟩, fun ⟨a, b⟩ => ⟨a, fun c => b ((m x hx a).mp c)⟩⟩
    · by_cases c : -e ∈ t
      · rw [if_pos c, List.filter_cons_of_neg (by rw [decide_eq_false (fun q => q.2 (me.mpr c))]; exact Bool.false_ne_true)]
        rfl
      · rw [if_neg c, List.filter_cons_of_pos (p := fun x => decide (x < 0 ∧ -x ∉ t ++ [e])) (by exact decide_eq_true ⟨h0, fun q => c (me.mp q)⟩)]
        rfl
  · congr 1
    · refine congrArg (List.map _) (List.filter_congr fun x hx => decide_eq_decide.mpr ?_)
      exact ⟨fun ⟨a, b⟩ => ⟨a, (m x hx a).mp b⟩, fun ⟨a, b⟩ => ⟨a, (m x hx a).mpr b⟩⟩
    · by_cases c : -e ∈ t
      · rw [if_pos c, List.filter_cons_of_pos (p := fun x => decide (x < 0 ∧ -x ∈ t ++ [e])) (by exact decide_eq_true ⟨h0, me.mpr c⟩)]
        rfl
      · rw [if_neg c, List.filter_cons_of_neg (by rw [decide_eq_false (fun q => c (me.mp q.2))]; exact Bool.false_ne_true)]
        rfl
open L2.DX
theorem filt_succ {ns : List Int} {f : Int → Bool} {i : Nat} {e : Int} (h : ns[i]? = some e) : (ns.take (i + 1)).filter f = (ns.take i).filter f ++ if f e = true then [e] else [] := by
  rw [take_get h, List.filter_append, List.filter_cons]
  split <;> rfl
theorem filt_len {ns : List Int} {f : Int → Bool} (i : Nat) : ((ns.take i).filter f).length ≤ i := by
  have a := List.length_filter_le f (ns.take i)
  rw [List.length_take] at a
  omega
theorem runR_len (t : List Int) : (runR t).2.length ≤ t.length := by
  have e := congrArg List.length (keysR t)
  rw [List.length_map] at e
  rw [e]
  exact List.length_filter_le _ _
def stL (ns : List Int) : List Int := ns.filter fun e => decide (0 < e)
theorem stL_len (ns : List Int) : (stL ns).length ≤ ns.length := List.length_filter_le _ _
def runL (ns : List Int) : List Int := (stL ns).filter fun e => decide (-e ∉ ns)
theorem runL_hl (ns : List Int) : (hl ns).map (·.1) = runL ns := by
  unfold runL stL hl
  rw [← keysR, List.filter_map]
  rfl
def presR (ns : List Int) (n : Nat) : List V := (List.range (n + 1)).map fun j => V.int (runR (ns.take j)).1
theorem presR_succ (ns : List Int) (n : Nat) : presR ns (n + 1) = presR ns n ++ [.int (runR (ns.take (n + 1))).1] := by
  unfold presR
  rw [List.range_succ, List.map_append]
  rfl
theorem presR_last (ns : List Int) (n : Nat) : atI (presR ns n) (-1) = some (.int (runR (ns.take n)).1) := by
  unfold presR
  rw [List.range_succ, List.map_append]
  exact atI_last _ _
theorem presR_len (ns : List Int) (n : Nat) : (presR ns n).length = n + 1 := by
  unfold presR
  rw [List.length_map, List.length_range]
section
variable {P : Program} {w : World} {K : PySem.W.Frag} {mg : Str → Option Value} {base : Heap}
/-! ### starts_of, running_after, replay, state_after -/
def spStarts (K : PySem.W.Frag) : Sp := fun vs H Q _ => ∃ (a : Addr) (ns : List Int), vs = [.ref a] ∧ SqL K H a (ns.map V.int) ∧ ns.length ≤ 1000 ∧
  ∀ H' p, Same H H' → H' p = some (.lst ((stL ns).map V.int)) → H p = none → Q (.ref p) H'
theorem ok_starts_of {f : Addr} {fd : FuncData} (F : Fun K "starts_of" "starts_of" s_starts_of f fd) : FnOk P w K mg base CX0 1 f fd ["history"] (spStarts K) := by
  refine F.ok sc_starts_of (fun vs H Q E h => ?_) (fun cdv A outer s H vs Q E hr h => ?_)
  · obtain ⟨a, ns, rfl, _⟩ := h
    rfl
  · obtain ⟨a, ns, rfl, hS, hl, q⟩ := h
    refine ⟨_, (pss_one (ps_ret (pe_lc (own := [("event", 1)]) (g := gName 1) (tt := _) rfl sc_starts_of.nd (pi_list (pv 0)) (blkOk_by (own := [("event", 1)]) (N := N_starts_of) (sc := defScope s_starts_of) (by decide +kernel)) (fun _ _ _ _ _ => (pg_name (i := 1) sc_starts_of.nd rfl (Or.inl rfl))) (fun _ _ _ _ _ => (pts_one (pt_cmpR op_gt (pv 1) pe_int (nomark _)))) (fun _ _ _ _ _ => (pv 1))))), ?_⟩
    refine ⟨_, rfl, a, rfl, ⟨_, hS⟩, fun D hD => lc_list (xs := ns.map V.int) (LcP H D fun i => ((ns.take i).filter fun e => decide (0 < e)).map V.int) (.init hD rfl) (fun i H' _ p => p.2.1.seq hS) (fun i x H' hx p => ?_) (fun H1 p => ?_)⟩
    · obtain ⟨e, rfl, he⟩ := get_int hx
      have fs := filt_succ (f := fun e => decide (0 < e)) he
      have fl := filt_len (ns := ns) (f := fun e => decide (0 < e)) i
      have li := lt_get he
      refine ⟨rfl, ?_⟩
      by_cases h0 : 0 < e
      · refine ⟨_, rfl, _, _, rfl, rfl, true, dT h0, ?_⟩
        refine ⟨_, rfl, p.put (Same.refl _) ?_ (by rw [List.length_map]; omega)⟩
        show ((ns.take (i + 1)).filter _).map V.int = _
        rw [fs, if_pos (by simp [h0]), List.map_append]
        rfl
      · refine ⟨_, rfl, _, _, rfl, rfl, false, dF h0, ?_⟩
        refine p.skip (Same.refl _) ?_
        show ((ns.take (i + 1)).filter _).map V.int = _
        rw [fs, if_neg (by simp [h0]), List.append_nil]
    · have hp := p.2.2
      rw [List.length_map] at hp
      have hp : H1 D = some (.lst (((ns.take ns.length).filter fun e => decide (0 < e)).map V.int)) := hp
      rw [List.take_length] at hp
      exact q _ _ p.2.1 hp hD
def spRunA (K : PySem.W.Frag) : Sp := fun vs H Q _ => ∃ (a : Addr) (ns : List Int), vs = [.ref a] ∧ SqL K H a (ns.map V.int) ∧ Hist ns ∧
  ∀ (H' : Hp) (p : Addr) (R : List Int), Same H H' → H p = none → H' p = some (.lst (R.map V.int)) → R.Perm (runL ns) → R.Pairwise (· ≤ ·) → Q (.ref p) H'
theorem ok_running_after {f : Addr} {fd : FuncData} (F : Fun K "running_after" "running_after" s_running_after f fd) (B : NoB mg) (T_check_history : Cal P w K mg base 6 "check_history" (spCheck K)) (T_starts_of : Cal P w K mg base 1 "starts_of" (spStarts K)) : FnOk P w K mg base CX0 7 f fd ["history"] (spRunA K) := by
  refine F.ok sc_running_after (fun vs H Q E h => ?_) (fun cdv A outer s H vs Q E hr h => ?_)
  · obtain ⟨a, ns, rfl, _⟩ := h
    rfl
  · obtain ⟨a, ns, rfl, hS, hh, q⟩ := h
    have hl : ns.length ≤ 1000 := by have := hh.len; omega
    refine ⟨_, (pss_cons (ps_expr (pe_c T_check_history hr (by decide) (by rfl) (pa_cons (pv 0) pa_nil)))
        (pss_one (ps_ret (pe_callB cr_sortedI (by rfl) B.sorted (by decide +kernel) (pa_cons (pe_lc (own := [("patch", 1)]) (g := gName 1) (tt := _) rfl sc_running_after.nd (pi_list (pe_c T_starts_of hr (by decide) (by rfl) (pa_cons (pv 0) pa_nil))) (blkOk_by (own := [("patch", 1)]) (N := N_running_after) (sc := defScope s_running_after) (by decide +kernel)) (fun _ _ _ _ _ => (pg_name (i := 1) sc_running_after.nd rfl (Or.inl rfl))) (fun _ _ _ _ _ => (pts_one (pt_cmpR (k_notin (K := K) rfl) (pe_un un_neg (pv 1)) (pv 0) (by rfl)))) (fun _ _ _ _ _ => (pv 1))) pa_nil))))), ?_⟩
    refine ⟨_, rfl, a, ns, rfl, hS, hh, fun H1 s1 => ?_⟩
    refine ⟨_, rfl, a, ns, rfl, s1.seq hS, hl, fun H2 p s2 hp np => ⟨p, rfl, ⟨_, .of hp⟩, fun D nD => ?_⟩⟩
    have s02 := s1.trans s2
    refine lc_list (xs := (stL ns).map V.int) (LcP H2 D fun i => (((stL ns).take i).filter fun e => decide (-e ∉ ns)).map V.int) (.init nD rfl) (fun i H' _ p => .of (p.2.1 _ _ hp)) (fun i x H' hx p => ?_) (fun H3 p3 => ?_)
    · obtain ⟨k, rfl, hk⟩ := get_int hx
      have fs := filtG (f := fun e => decide (-e ∉ ns)) hk
      have fl := filtG_len (l := stL ns) (f := fun e => decide (-e ∉ ns)) i
      have sl := stL_len ns
      refine ⟨rfl, ?_⟩
      by_cases c : -k ∈ ns
      · refine ⟨_, rfl, k, rfl, _, rfl, a, _, rfl, .inl ((s02.trans p.2.1).seq hS), rfl, flatI _, false, notInF c, p.skip (Same.refl _) ?_⟩
        rw [fs, if_neg (by simp [c]), List.append_nil]
      · refine ⟨_, rfl, k, rfl, _, rfl, a, _, rfl, .inl ((s02.trans p.2.1).seq hS), rfl, flatI _, true, notInT c, _, rfl, p.put (Same.refl _) ?_ (by rw [List.length_map]; omega)⟩
        rw [fs, if_pos (by simp [c]), List.map_append]
        rfl
    · obtain ⟨_, s3, hD⟩ := p3
      rw [List.length_map] at hD
      have hD : H3 D = some (.lst ((((stL ns).take (stL ns).length).filter fun e => decide (-e ∉ ns)).map V.int)) := hD
      rw [List.take_length] at hD
      exact ⟨D, runL ns, rfl, .of hD, fun ns' z pm pw nz => q _ z ns' ((s02.trans s3).trans (same_new nz)) ((s02.trans s3).free nz) upd_same pm pw⟩
def spReplayR (K : PySem.W.Frag) : Sp := fun vs H Q _ => ∃ (a : Addr) (ns : List Int), vs = [.ref a] ∧ SqL K H a (ns.map V.int) ∧ Hist ns ∧
  ∀ H' t p d, Same H H' → H' t = some (.tup [.ref p, .ref d]) → H' p = some (.lst (presR ns ns.length)) → H' d = some (.dK ((runR ns).2.map entI)) → Q (.ref t) H'
theorem ok_replay {f : Addr} {fd : FuncData} (F : Fun K "replay" "replay" s_replay f fd) : FnOk P w K mg base CX0 1 f fd ["history"] (spReplayR K) := by
  refine F.ok sc_replay (fun vs H Q E h => ?_) (fun cdv A outer s H vs Q E hr h => ?_)
  · obtain ⟨a, ns, rfl, _⟩ := h
    rfl
  · obtain ⟨a, ns, rfl, hS, hh, q⟩ := h
    have hu := hu_of hr
    refine ⟨_, (pss_cons (ps_par (i := 1) (j := 2) (by rfl) sc_replay.nd rfl rfl (by decide) rfl rfl (pa_cons (pe_lst (pa_cons pe_int pa_nil)) (pa_cons pe_dnewK pa_nil)) (by rfl))
        (pss_cons (ps_for PassesOwn.never rfl (pi_list (pv 0)) (pg_name (i := 3) sc_replay.nd rfl (Or.inl rfl))
          (pss_one (ps_if (pt_cmpR op_gt (pv 3) pe_int (nomark _)) (pss_cons (ps_dput hu (pv 2) (pv 3) (pe_ix ix_list (pv 1) (pe_un un_neg pe_int) (fun _ _ => rfl)) rfl)
            (pss_one (ps_expr (pe_bm PySem.F.plainAttrs_list PySem.F.slot_list_append PySem.F.type_list_append mt_append (pv 1) (pa_cons (pv 3) pa_nil))))) (pss_one (ps_expr (pe_bm PySem.F.plainAttrs_list PySem.F.slot_list_append PySem.F.type_list_append mt_append (pv 1) (pa_cons (pe_dget hu (pv 2) (pe_un un_neg (pv 3)) (fun _ _ => rfl)) pa_nil)))))))
        (pss_one (ps_ret (pe_tup (pa_cons (pv 1) (pa_cons (pv 2) pa_nil))))))), ?_⟩
    refine ⟨by show 1 ≤ sizeLine; decide, fun p np d nd => ⟨.ref p, .ref d, rfl, ?_⟩⟩
    have npd : p ≠ d := fun e => by
      rw [← e, upd_same] at nd
      cases nd
    have nd0 : H d = none := by rw [upd_ne npd.symm] at nd; exact nd
    have s1 : Same H (upd (upd H p (.lst [.int 0])) d (.dK [])) := (same_new np).trans (same_new nd)
    refine ⟨_, rfl, a, rfl, ⟨_, s1.seq hS⟩, for_list (xs := ns.map V.int) (fun i σ H' => (∃ y, σ = [some (.ref a), some (.ref p), some (.ref d), y]) ∧ Same H H' ∧ H' p = some (.lst (presR ns i)) ∧ H' d = some (.dK ((runR (ns.take i)).2.map entI))) ⟨⟨_, rfl⟩, s1, ?_, upd_same⟩ (fun i σ H' _ h => h.2.1.seq hS) (fun i x σ H' hx h => ?_) (fun σ H' h => ?_)⟩
    · rw [upd_ne npd, upd_same]
      rfl
    · obtain ⟨n, rfl, hn⟩ := get_int hx
      obtain ⟨⟨y, rfl⟩, sm, hp, hd⟩ := h
      obtain ⟨h0, _⟩ := hh.rng n (mem_get hn)
      have hi : i < 200 := Nat.lt_of_lt_of_le (lt_get hn) hh.len
      have hln := runR_len (ns.take i)
      rw [List.length_take] at hln
      by_cases hpos : 0 < n
      · have hk : n ∉ (runR (ns.take i)).2.map (·.1) := fun z => not_mem_take hh.nd hn (keysR_mem.mp z).1
        have eP : runR (ns.take (i + 1)) = (n, (runR (ns.take i)).2 ++ [(n, (runR (ns.take i)).1)]) := by
          rw [take_get hn, runR_snoc]
          exact if_pos hpos
        refine ⟨_, rfl, _, _, rfl, rfl, true, dT hpos, ?_⟩
        refine ⟨_, rfl, 1, rfl, p, _, -1, _, rfl, rfl, .of hp, presR_last ns i, _, rfl, _, rfl, d, _, rfl, DPut.k (k := Sum.inl n) hd (zl (by rw [List.length_map]; omega)), ?_⟩
        have hp2 : (upd H' d (.dK (putK ((runR (ns.take i)).2.map entI) (Sum.inl n) (.int (runR (ns.take i)).1)))) p = some (.lst (presR ns i)) := by rw [upd_ne npd]; exact hp
        refine ⟨_, rfl, .inl ⟨rfl, _, .of hp2⟩, _, rfl, p, _, _, rfl, rfl, hp2, by rw [presR_len]; exact zl (by omega), ⟨_, rfl⟩, fun b o e => ?_, ?_, ?_⟩
        · rw [upd_ne (ne_of_none e np), upd_ne (ne_of_none e nd0)]
          exact sm _ _ e
        · rw [upd_same, presR_succ, eP]
        · rw [upd_ne npd.symm, upd_same, put_ent _ hk, eP]
      · have hneg : n < 0 := by omega
        have hpre := hh.ord i n hn hneg
        obtain ⟨v, hv, _⟩ := lk_some (l := (runR (ns.take i)).2) (k := -n) (keysR_mem.mpr ⟨hpre, by omega⟩)
        have eP : runR (ns.take (i + 1)) = (v, (runR (ns.take i)).2) := by
          rw [take_get hn, runR_snoc]
          have e : stepR (runR (ns.take i)) n = ((lk (runR (ns.take i)).2 (-n)).getD n, (runR (ns.take i)).2) := if_neg hpos
          rw [e, hv]
          rfl
        have g := DGet.k (k := Sum.inl (-n)) hd
        rw [valV_ent, hv] at g
        refine ⟨_, rfl, _, _, rfl, rfl, false, dF hpos, ?_⟩
        refine ⟨_, rfl, .inl ⟨rfl, _, .of hp⟩, _, rfl, _, rfl, n, rfl, d, _, rfl, g, p, _, _, rfl, rfl, hp, by rw [presR_len]; exact zl (by omega), ⟨_, rfl⟩, fun b o e => ?_, ?_, ?_⟩
        · rw [upd_ne (ne_of_none e np)]
          exact sm _ _ e
        · rw [upd_same, presR_succ, eP]
        · rw [upd_ne npd.symm, eP]
          exact hd
    · obtain ⟨⟨y, rfl⟩, sm, hp, hd⟩ := h
      rw [List.length_map] at hp hd
      rw [List.take_length] at hd
      refine ⟨_, rfl, _, rfl, by show 2 ≤ sizeLine; decide, fun t nt => q _ t p d (sm.trans (same_new nt)) upd_same ?_ ?_⟩
      · rw [upd_ne (ne_of_none hp nt)]
        exact hp
      · rw [upd_ne (ne_of_none hd nt)]
        exact hd
end
end L64
set_option Elab.async false
set_option linter.all false
set_option maxRecDepth 100000
namespace L64
open PySem PySem.Spec PyProof.Rows L2 Lp
/-! ### signs -/
def stp (p : Nat × Nat) (b : Bool) : Nat × Nat := if b then (p.1, p.2 + 1) else (p.1 * p.2, p.2 - 1)
def wr (bs : List Bool) : Nat × Nat := bs.foldl stp (1, 0)
def waysN (bs : List Bool) : Nat := (wr bs).1
def runN (bs : List Bool) : Nat := (wr bs).2
def upsN (bs : List Bool) : Nat := bs.count true
def dnsN (bs : List Bool) : Nat := bs.count false
theorem wr_snoc (bs : List Bool) (b : Bool) : wr (bs ++ [b]) = stp (wr bs) b := by
  unfold wr
  rw [List.foldl_append]
  rfl
theorem ways_up (bs : List Bool) : waysN (bs ++ [true]) = waysN bs := by unfold waysN; rw [wr_snoc]; rfl
theorem ways_dn (bs : List Bool) : waysN (bs ++ [false]) = waysN bs * runN bs := by unfold waysN runN; rw [wr_snoc]; rfl
theorem run_up (bs : List Bool) : runN (bs ++ [true]) = runN bs + 1 := by unfold runN; rw [wr_snoc]; rfl
theorem run_dn (bs : List Bool) : runN (bs ++ [false]) = runN bs - 1 := by unfold runN; rw [wr_snoc]; rfl
theorem ups_up (bs : List Bool) : upsN (bs ++ [true]) = upsN bs + 1 := by unfold upsN; rw [List.count_append]; rfl
theorem ups_dn (bs : List Bool) : upsN (bs ++ [false]) = upsN bs := by unfold upsN; rw [List.count_append]; rfl
theorem dns_up (bs : List Bool) : dnsN (bs ++ [true]) = dnsN bs := by unfold dnsN; rw [List.count_append]; rfl
theorem dns_dn (bs : List Bool) : dnsN (bs ++ [false]) = dnsN bs + 1 := by unfold dnsN; rw [List.count_append]; rfl
/-- nowhere more stops than starts ahead -/
def SgOk (bs : List Bool) : Prop := ∀ i, bs[i]? = some false → 0 < runN (bs.take i)
theorem sgOk_nil : SgOk [] := fun i h => by simp at h
theorem SgOk.pre {bs : List Bool} {b : Bool} (h : SgOk (bs ++ [b])) : SgOk bs := fun i hi => by
  have hl := (List.getElem?_eq_some_iff.mp hi).1
  have z := h i (by rw [List.getElem?_append_left hl]; exact hi)
  rwa [List.take_append_of_le_length (Nat.le_of_lt hl)] at z
theorem SgOk.last {bs : List Bool} (h : SgOk (bs ++ [false])) : 0 < runN bs := by
  have z := h bs.length (by rw [List.getElem?_append_right (Nat.le_refl _), Nat.sub_self]; rfl)
  rwa [List.take_append_of_le_length (Nat.le_refl _), List.take_length] at z
theorem SgOk.snoc {bs : List Bool} {b : Bool} (h : SgOk bs) (hb : b = false → 0 < runN bs) : SgOk (bs ++ [b]) := fun i hi => by
  by_cases hl : i < bs.length
  · rw [List.getElem?_append_left hl] at hi
    rw [List.take_append_of_le_length (Nat.le_of_lt hl)]
    exact h i hi
  · have h2 := (List.getElem?_eq_some_iff.mp hi).1
    rw [List.length_append, List.length_singleton] at h2
    have e : i = bs.length := by omega
    subst e
    rw [List.getElem?_append_right (Nat.le_refl _), Nat.sub_self] at hi
    rw [List.take_append_of_le_length (Nat.le_refl _), List.take_length]
    exact hb (Option.some.inj hi)
theorem SgOk.take {bs : List Bool} (h : SgOk bs) (n : Nat) : SgOk (bs.take n) := fun i hi => by
  have hl := (List.getElem?_eq_some_iff.mp hi).1
  rw [List.length_take] at hl
  rw [List.getElem?_take_of_lt (by omega)] at hi
  rw [List.take_take, Nat.min_eq_left (by omega)]
  exact h i hi
/-- induction from the end -/
theorem snoc_ind {α : Type} {P : List α → Prop} (h0 : P []) (h1 : ∀ l a, P l → P (l ++ [a])) : ∀ l, P l := by
  have key : ∀ n (l : List α), l.length = n → P l := by
    intro n
    induction n with
    | zero => intro l h; rw [List.length_eq_zero_iff.mp h]; exact h0
    | succ n ih =>
      intro l h
      have hne : l ≠ [] := fun e => by rw [e] at h; exact absurd h (by simp)
      rw [← List.dropLast_concat_getLast hne]
      exact h1 _ _ (ih _ (by rw [List.length_dropLast, h]; rfl))
  exact fun l => key _ l rfl
theorem run_eq {bs : List Bool} : SgOk bs → runN bs + dnsN bs = upsN bs := by
  refine snoc_ind (P := fun bs => SgOk bs → runN bs + dnsN bs = upsN bs) (fun _ => rfl) (fun l a ih h => ?_) bs
  have := ih h.pre
  cases a with
  | true => rw [run_up, dns_up, ups_up]; omega
  | false =>
    have := h.last
    rw [run_dn, dns_dn, ups_dn]; omega
theorem ups_dns (bs : List Bool) : upsN bs + dnsN bs = bs.length := by
  refine snoc_ind (P := fun bs => upsN bs + dnsN bs = bs.length) rfl (fun l a ih => ?_) bs
  cases a with
  | true => rw [ups_up, dns_up, List.length_append, List.length_singleton]; omega
  | false => rw [ups_dn, dns_dn, List.length_append, List.length_singleton]; omega
theorem ways_pos {bs : List Bool} : SgOk bs → 0 < waysN bs := by
  refine snoc_ind (P := fun bs => SgOk bs → 0 < waysN bs) (fun _ => by decide) (fun l a ih h => ?_) bs
  cases a with
  | true => rw [ways_up]; exact ih h.pre
  | false => rw [ways_dn]; exact Nat.mul_pos (ih h.pre) h.last
theorem ways_snoc_le {bs : List Bool} {b : Bool} (h : SgOk (bs ++ [b])) : waysN bs ≤ waysN (bs ++ [b]) := by
  cases b with
  | true => rw [ways_up]; exact Nat.le_refl _
  | false => rw [ways_dn]; exact Nat.le_mul_of_pos_right _ h.last
theorem take_snoc {α : Type} {l : List α} {i : Nat} {x : α} (h : l[i]? = some x) : l.take (i + 1) = l.take i ++ [x] := by
  rw [List.take_add_one, h]
  rfl
theorem ways_take_le {bs : List Bool} (h : SgOk bs) : ∀ k i, i + k = bs.length → waysN (bs.take i) ≤ waysN bs
  | 0, i, e => by rw [List.take_of_length_le (by omega)]; exact Nat.le_refl _
  | k + 1, i, e => by
    have hi : i < bs.length := by omega
    have e1 := take_snoc (List.getElem?_eq_getElem hi)
    have := h.take (i + 1)
    rw [e1] at this
    have z := ways_snoc_le this
    rw [← e1] at z
    exact Nat.le_trans z (ways_take_le h k (i + 1) (by omega))
theorem ways_lt {bs : List Bool} (hu : upsN bs ≤ 100) : SgOk bs → waysN bs < 2 ^ (7 * bs.length + 1) := by
  refine snoc_ind (P := fun bs => upsN bs ≤ 100 → SgOk bs → waysN bs < 2 ^ (7 * bs.length + 1)) (fun _ _ => by decide) (fun l a ih hu h => ?_) bs hu
  rw [List.length_append, List.length_singleton]
  cases a with
  | true =>
    rw [ups_up] at hu
    rw [ways_up]
    exact Nat.lt_of_lt_of_le (ih (by omega) h.pre) (Nat.pow_le_pow_right (by decide) (by omega))
  | false =>
    rw [ups_dn] at hu
    have r := run_eq h.pre
    rw [ways_dn]
    have z := ih hu h.pre
    have e : 7 * (l.length + 1) + 1 = (7 * l.length + 1) + 7 := by omega
    rw [e, Nat.pow_add]
    exact Nat.mul_lt_mul_of_lt_of_le z (by have : (2 : Nat) ^ 7 = 128 := by decide
                                           omega) (by decide)
/-! ### all histories of a shape -/
def negL (st : Nat) : List Int := (List.range st).map fun k : Nat => (0 : Int) - ((st : Int) + (k : Int) * (-1))
def ableL (st : Nat) (b : Bool) (row : List Int) : List Int := if b then [(st : Int)] else (negL st).filter fun x => decide (x ∉ row)
def evStep (p : List (List Int) × Nat) (b : Bool) : List (List Int) × Nat :=
  (p.1.flatMap (fun row => (ableL (p.2 + b.toNat) b row).map fun x => row ++ [x]), p.2 + b.toNat)
def ev (bs : List Bool) : List (List Int) × Nat := bs.foldl evStep ([[]], 0)
def everyL (bs : List Bool) : List (List Int) := (ev bs).1
theorem ev_snoc (bs : List Bool) (b : Bool) : ev (bs ++ [b]) = evStep (ev bs) b := by
  unfold ev
  rw [List.foldl_append]
  rfl
theorem ev_two (bs : List Bool) : (ev bs).2 = upsN bs := by
  refine snoc_ind (P := fun bs => (ev bs).2 = upsN bs) rfl (fun l a ih => ?_) bs
  rw [ev_snoc]
  cases a with
  | true => rw [ups_up, ← ih]; rfl
  | false => rw [ups_dn, ← ih]; rfl
theorem every_snoc (bs : List Bool) (b : Bool) : everyL (bs ++ [b]) = (everyL bs).flatMap fun row => (ableL (upsN bs + b.toNat) b row).map fun x => row ++ [x] := by
  unfold everyL
  rw [ev_snoc]
  unfold evStep
  rw [ev_two]
theorem negL_mem {st : Nat} {x : Int} : x ∈ negL st ↔ -(st : Int) ≤ x ∧ x < 0 := by
  unfold negL
  rw [List.mem_map]
  constructor
  · rintro ⟨k, hk, rfl⟩
    have := List.mem_range.mp hk
    omega
  · rintro ⟨h1, h2⟩
    exact ⟨(x + st).toNat, List.mem_range.mpr (by omega), by omega⟩
theorem nodup_map' {α β : Type} {f : α → β} (hf : ∀ x y, f x = f y → x = y) : ∀ {l : List α}, l.Nodup → (l.map f).Nodup
  | [], _ => List.nodup_nil
  | x :: r, h => by
    obtain ⟨h1, h2⟩ := List.nodup_cons.mp h
    refine List.nodup_cons.mpr ⟨fun hm => ?_, nodup_map' hf h2⟩
    obtain ⟨y, hy, e⟩ := List.mem_map.mp hm
    exact h1 (hf _ _ e ▸ hy)
theorem negL_nd (st : Nat) : (negL st).Nodup := nodup_map' (fun x y e => by omega) List.nodup_range
theorem negL_len (st : Nat) : (negL st).length = st := by unfold negL; rw [List.length_map, List.length_range]
def isNeg (x : Int) : Bool := decide (x < 0)
/-- a row: its stops -/
structure RowOk (st k : Nat) (row : List Int) : Prop where
  nd : (row.filter isNeg).Nodup
  rng : ∀ x ∈ row, -(st : Int) ≤ x ∧ x ≤ st ∧ x ≠ 0
  len : (row.filter isNeg).length = k
theorem filter_split {α : Type} (p : α → Bool) : ∀ l : List α, (l.filter p).length + (l.filter fun x => !p x).length = l.length
  | [] => rfl
  | x :: r => by
    have := filter_split p r
    rw [List.filter_cons, List.filter_cons, List.length_cons]
    cases p x
    · show (r.filter p).length + ((r.filter fun x => !p x).length + 1) = _
      omega
    · show (r.filter p).length + 1 + (r.filter fun x => !p x).length = _
      omega
theorem able_len {st k : Nat} {row : List Int} (h : RowOk st k row) : (ableL st false row).length + k = st := by
  have e : (ableL st false row) = (negL st).filter fun x => decide (x ∉ row) := rfl
  have s := filter_split (fun x => decide (x ∈ row)) (negL st)
  have e2 : ((negL st).filter fun x => !decide (x ∈ row)) = (negL st).filter fun x => decide (x ∉ row) := by
    congr 1
    funext x
    rw [decide_not]
  rw [e2, negL_len] at s
  have n1 : ((negL st).filter fun x => decide (x ∈ row)).Nodup := (negL_nd st).sublist List.filter_sublist
  have l1 : ((negL st).filter fun x => decide (x ∈ row)).length ≤ (row.filter isNeg).length := nodup_len n1 fun x hx => by
    rw [List.mem_filter] at hx
    obtain ⟨a, b⟩ := hx
    exact List.mem_filter.mpr ⟨of_decide_eq_true b, decide_eq_true (negL_mem.mp a).2⟩
  have l2 : (row.filter isNeg).length ≤ ((negL st).filter fun x => decide (x ∈ row)).length := nodup_len h.nd fun x hx => by
    rw [List.mem_filter] at hx
    obtain ⟨a, b⟩ := hx
    exact List.mem_filter.mpr ⟨negL_mem.mpr ⟨(h.rng x a).1, of_decide_eq_true b⟩, decide_eq_true a⟩
  rw [e]
  have := h.len
  omega
theorem flatMap_len {α β : Type} {f : α → List β} {c : Nat} : ∀ {l : List α}, (∀ x ∈ l, (f x).length = c) → (l.flatMap f).length = l.length * c
  | [], _ => by simp
  | x :: r, h => by
    rw [List.flatMap_cons, List.length_append, h x List.mem_cons_self, flatMap_len fun y hy => h y (List.mem_cons_of_mem _ hy), List.length_cons, Nat.succ_mul]
    omega
theorem every_ok {bs : List Bool} : SgOk bs → (∀ row ∈ everyL bs, RowOk (upsN bs) (dnsN bs) row ∧ row.length = bs.length) ∧ (everyL bs).length = waysN bs := by
  refine snoc_ind (P := fun bs => SgOk bs → (∀ row ∈ everyL bs, RowOk (upsN bs) (dnsN bs) row ∧ row.length = bs.length) ∧ (everyL bs).length = waysN bs) (fun _ => ⟨fun row hr => ?_, rfl⟩) (fun l a ih h => ?_) bs
  · have e : row = [] := List.mem_singleton.mp hr
    subst e
    exact ⟨⟨List.nodup_nil, fun x hx => absurd hx List.not_mem_nil, rfl⟩, rfl⟩
  · obtain ⟨i1, i2⟩ := ih h.pre
    rw [every_snoc]
    cases a with
    | true =>
      rw [ups_up, dns_up, ways_up]
      refine ⟨fun row hr => ?_, ?_⟩
      · obtain ⟨r0, h0, h1⟩ := List.mem_flatMap.mp hr
        obtain ⟨x, hx, rfl⟩ := List.mem_map.mp h1
        have ex : x = ((upsN l + 1 : Nat) : Int) := List.mem_singleton.mp hx
        obtain ⟨⟨a1, a2, a3⟩, a4⟩ := i1 r0 h0
        have ef : (r0 ++ [x]).filter isNeg = r0.filter isNeg := by
          rw [List.filter_append]
          have : isNeg x = false := decide_eq_false (by omega)
          rw [List.filter_cons, this]
          simp
        refine ⟨⟨by rw [ef]; exact a1, fun y hy => ?_, by rw [ef]; exact a3⟩, by rw [List.length_append, List.length_append, a4]; rfl⟩
        rcases List.mem_append.mp hy with z | z
        · have := a2 y z
          omega
        · rw [List.mem_singleton] at z
          omega
      · rw [flatMap_len (c := 1) fun row _ => by rw [List.length_map]; rfl, i2, Nat.mul_one]
    | false =>
      rw [ups_dn, dns_dn, ways_dn]
      refine ⟨fun row hr => ?_, ?_⟩
      · obtain ⟨r0, h0, h1⟩ := List.mem_flatMap.mp hr
        obtain ⟨x, hx, rfl⟩ := List.mem_map.mp h1
        have hx' : x ∈ (negL (upsN l)).filter fun x => decide (x ∉ r0) := hx
        obtain ⟨b1, b2⟩ := List.mem_filter.mp hx'
        have b3 := negL_mem.mp b1
        have b4 := of_decide_eq_true b2
        obtain ⟨⟨a1, a2, a3⟩, a4⟩ := i1 r0 h0
        have ef : (r0 ++ [x]).filter isNeg = r0.filter isNeg ++ [x] := by
          rw [List.filter_append]
          have : isNeg x = true := decide_eq_true b3.2
          rw [List.filter_cons, this]
          simp
        refine ⟨⟨?_, fun y hy => ?_, by rw [ef, List.length_append, a3]; rfl⟩, by rw [List.length_append, List.length_append, a4]; rfl⟩
        · rw [ef]
          refine List.nodup_append.mpr ⟨a1, List.nodup_cons.mpr ⟨List.not_mem_nil, List.nodup_nil⟩, fun p hp q hq e => ?_⟩
          rw [List.mem_singleton] at hq
          subst hq
          subst e
          exact b4 (List.mem_filter.mp hp).1
        · rcases List.mem_append.mp hy with z | z
          · exact a2 y z
          · rw [List.mem_singleton] at z
            omega
      · have r := run_eq h.pre
        rw [flatMap_len (c := runN l) fun row hr => by
          have := able_len (i1 row hr).1
          rw [List.length_map]
          show (ableL (upsN l) false row).length = _
          omega, i2]
/-! ### counts of complete histories -/
def oddN : Nat → Nat
  | 0 => 1
  | n + 1 => oddN n * (1 + n * 2)
theorem facN_pos : ∀ n, 0 < facN n
  | 0 => by decide
  | n + 1 => Nat.mul_pos (facN_pos n) (Nat.succ_pos n)
theorem fac_odd : ∀ n, facN (2 * n) = oddN n * (facN n * 2 ^ n)
  | 0 => rfl
  | n + 1 => by
    have e : 2 * (n + 1) = 2 * n + 1 + 1 := by omega
    rw [e]
    show facN (2 * n) * (2 * n + 1) * (2 * n + 1 + 1) = oddN n * (1 + n * 2) * (facN n * (n + 1) * 2 ^ (n + 1))
    rw [fac_odd n, Nat.pow_succ]
    have e2 : 2 * n + 1 + 1 = (n + 1) * 2 := by omega
    have e3 : 2 * n + 1 = 1 + n * 2 := by omega
    rw [e2, e3]
    simp only [Nat.mul_assoc, Nat.mul_comm, Nat.mul_left_comm]
def cwN (r u : Nat) : Nat := facN (r + 2 * u) / (facN u * 2 ^ u)
theorem cw_zero (u : Nat) : cwN 0 u = oddN u := by
  unfold cwN
  rw [Nat.zero_add, fac_odd]
  exact Nat.mul_div_cancel _ (Nat.mul_pos (facN_pos u) (Nat.two_pow_pos u))
theorem odd_pos : ∀ n, 0 < oddN n
  | 0 => by decide
  | n + 1 => Nat.mul_pos (odd_pos n) (by omega)
theorem odd_lt : ∀ n, n ≤ 120 → oddN n < 2 ^ (8 * n + 1)
  | 0, _ => by decide
  | n + 1, h => by
    have z := odd_lt n (by omega)
    have e : 8 * (n + 1) + 1 = (8 * n + 1) + 8 := by omega
    show oddN n * (1 + n * 2) < _
    rw [e, Nat.pow_add]
    exact Nat.mul_lt_mul_of_lt_of_le z (by have : (2 : Nat) ^ 8 = 256 := by decide
                                           omega) (by decide)
/-! ### signs as text -/
def sgC (b : Bool) : Nat := if b then 43 else 45
def sgS (bs : List Bool) : Str := ⟨(bs.map sgC).toArray⟩
theorem plus_eq : ("+" : Str) = ⟨#[43]⟩ := by decide +kernel
theorem minus_eq : ("-" : Str) = ⟨#[45]⟩ := by decide +kernel
theorem sgS_len (bs : List Bool) : (sgS bs).length = bs.length := by
  show ((bs.map sgC).toArray).size = _
  rw [List.size_toArray, List.length_map]
theorem sgS_up (bs : List Bool) : sgS bs ++ ("+" : Str) = sgS (bs ++ [true]) := by
  rw [plus_eq]
  show (⟨(bs.map sgC).toArray ++ [43].toArray⟩ : Str) = ⟨((bs ++ [true]).map sgC).toArray⟩
  rw [List.map_append, List.append_toArray]
  rfl
theorem sgS_dn (bs : List Bool) : sgS bs ++ ("-" : Str) = sgS (bs ++ [false]) := by
  rw [minus_eq]
  show (⟨(bs.map sgC).toArray ++ [45].toArray⟩ : Str) = ⟨((bs ++ [false]).map sgC).toArray⟩
  rw [List.map_append, List.append_toArray]
  rfl
theorem sgS_nil : ("" : Str) = sgS [] := by decide +kernel
theorem sgS_cat (as bs : List Bool) : sgS as ++ sgS bs = sgS (as ++ bs) := by
  show (⟨(as.map sgC).toArray ++ (bs.map sgC).toArray⟩ : Str) = ⟨((as ++ bs).map sgC).toArray⟩
  rw [List.map_append, List.append_toArray]
theorem sg_get {bs : List Bool} {i c : Nat} (h : (sgS bs).cps[i]? = some c) : ∃ b, bs[i]? = some b ∧ c = sgC b := by
  have h' : (bs.map sgC)[i]? = some c := by
    rw [← h]
    exact List.getElem?_toArray.symm
  rw [List.getElem?_map] at h'
  cases e : bs[i]? with
  | none => rw [e] at h'; cases h'
  | some b => rw [e] at h'; cases h'; exact ⟨b, rfl, rfl⟩
theorem sg_size (bs : List Bool) : (sgS bs).cps.size = bs.length := sgS_len bs
theorem eqP (b : Bool) : decide (V.str ⟨#[sgC b]⟩ = V.str ("+" : Str)) = b := by
  rw [plus_eq]
  cases b
  · exact decide_eq_false fun e => by have := V.str.inj e; revert this; decide
  · exact decide_eq_true rfl
theorem eqM (b : Bool) : decide (V.str ⟨#[sgC b]⟩ = V.str ("-" : Str)) = !b := by
  rw [minus_eq]
  cases b
  · exact decide_eq_true rfl
  · exact decide_eq_false fun e => by have := V.str.inj e; revert this; decide
theorem blP (b : Bool) : V.bl (decide (V.str ⟨#[sgC b]⟩ = V.str ("+" : Str))) = V.bl b := congrArg V.bl (eqP b)
theorem blM (b : Bool) : V.bl (decide (V.str ⟨#[sgC b]⟩ = V.str ("-" : Str))) = V.bl (!b) := congrArg V.bl (eqM b)
theorem cnt_sg (b : Bool) : ∀ bs : List Bool, PyProof.Rows.cnt (sgC b) (bs.map sgC) = ((bs.count b : Nat) : Int)
  | [] => rfl
  | x :: r => by
    rw [List.map_cons, PyProof.Rows.cnt_cons, cnt_sg b r, List.count_cons]
    cases x <;> cases b <;> (simp [sgC]; try omega)
theorem count_P (bs : List Bool) : Txt.count (sgS bs) ("+" : Str) = ((upsN bs : Nat) : Int) := by
  rw [plus_eq, PyProof.Rows.count_cnt]
  exact cnt_sg true bs
theorem count_M (bs : List Bool) : Txt.count (sgS bs) ("-" : Str) = ((dnsN bs : Nat) : Int) := by
  rw [minus_eq, PyProof.Rows.count_cnt]
  exact cnt_sg false bs
theorem cut_sg (bs : List Bool) (k : Nat) (h : k ≤ bs.length) : cutS (sgS bs) none (some (k : Int)) = sgS (bs.take k) := by
  unfold cutS
  rw [HT.sIx_none, HT.sIx_nat, sgS_len, List.drop_zero, Nat.sub_zero, Nat.min_eq_left h]
  show (⟨(((bs.map sgC).toArray.toList).take k).toArray⟩ : Str) = ⟨((bs.take k).map sgC).toArray⟩
  rw [List.map_take]
section
variable {P : Program} {w : World} {K : PySem.W.Frag} {mg : Str → Option Value} {base : Heap}
/-! ### draws -/
/-- the list of three ints that draws are made of: at most n draws were made in the second way -/
def Src (H : Hp) (a : Addr) (n : Nat) : Prop := ∃ x y z : Int, H a = some (.lst [.int x, .int y, .int z]) ∧ 0 ≤ y ∧ y < 2 ^ 300 ∧ 0 ≤ z ∧ z ≤ (n : Int)
theorem Src.mono {H : Hp} {a : Addr} {n m : Nat} (h : Src H a n) (l : n ≤ m) : Src H a m := by
  obtain ⟨x, y, z, h1, h2, h3, h4, h5⟩ := h
  exact ⟨x, y, z, h1, h2, h3, h4, by omega⟩
theorem Src.bt {H H' : Hp} {a b : Addr} {n : Nat} (h : Src H a n) (x : Bt b H H') (e : a ≠ b) : Src H' a n := by
  obtain ⟨p, y, z, h1, h2⟩ := h
  exact ⟨p, y, z, x _ _ e h1, h2⟩
theorem Src.same {H H' : Hp} {a : Addr} {n : Nat} (h : Src H a n) (x : Same H H') : Src H' a n := by
  obtain ⟨p, y, z, h1, h2⟩ := h
  exact ⟨p, y, z, x _ _ h1, h2⟩
theorem Src.new {H : Hp} {a p : Addr} {n : Nat} {o : HO} (h : Src H a n) (e : H p = none) : Src (upd H p o) a n := h.same (same_new e)
theorem Src.ne {H : Hp} {a p : Addr} {n : Nat} (h : Src H a n) (e : H p = none) : p ≠ a := fun z => by
  obtain ⟨_, _, _, h1, _⟩ := h
  rw [← z, e] at h1
  cases h1
theorem Src.upd {H : Hp} {a p : Addr} {n : Nat} {o : HO} (h : Src H a n) (e : p ≠ a) : Src (upd H p o) a n := by
  obtain ⟨x, y, z, h1, h2⟩ := h
  exact ⟨x, y, z, by rw [upd_ne e.symm]; exact h1, h2⟩
def spDraw : Sp := fun vs H Q _ => ∃ (a : Addr) (m : Int) (n : Nat), vs = [.ref a, .int m] ∧ Src H a n ∧ n ≤ 1000000 ∧ 1 ≤ m ∧ m ≤ 1000000 ∧ ∀ r H', 0 ≤ r → r < m → Src H' a (n + 1) → Bt a H H' → Q (.int r) H'
theorem lt_pow {i : Int} {n : Nat} (h0 : 0 ≤ i) (h : i < 2 ^ n) : i.natAbs < 2 ^ n := by
  have e : ((i.natAbs : Nat) : Int) = i := Int.natAbs_of_nonneg h0
  have h' : ((i.natAbs : Nat) : Int) < ((2 ^ n : Nat) : Int) := by
    rw [e]
    simpa using h
  exact Int.ofNat_lt.mp h'
theorem zz_le {z : Int} (h0 : 0 ≤ z) (h : z ≤ 1000001) : z * z ≤ 1000002000001 := by
  have := Int.mul_le_mul h h h0 (by decide)
  omega
theorem ok_law_draw {f : Addr} {fd : FuncData} (F : Fun K "_law_draw" "_law_draw" s_law_draw f fd) : FnG P w K mg base CX0 1 f fd ["pool", "many"] spDraw := by
  refine okG F sc_law_draw (fun vs H Q E h => ?_) (fun cdv A outer s H vs Q E hG hr h => ?_)
  · obtain ⟨a, m, n, rfl, _⟩ := h
    rfl
  · obtain ⟨a, m, n, rfl, ⟨x, y, z, ha, y0, y1, z0, z1⟩, hn, m0, m1, q⟩ := h
    refine ⟨_, (pss_cons (ps_if (pt_cmpR op_gt (pe_ix ix_list (pv 0) pe_int (fun _ _ => rfl)) pe_int (nomark _)) (pss_cons (ps_set (i := 2) sc_law_draw.nd rfl (Or.inl rfl) (pe_op op_mod (pe_ix ix_list (pv 0) pe_int (fun _ _ => rfl)) (pv 1)))
          (pss_cons (ps_asg (pe_op op_fdivW (pe_ix ix_list (pv 0) pe_int (fun _ _ => rfl)) (pv 1)) (pg_sub (pv 0) pe_int set_list))
          (pss_one (ps_ret (pv 2))))) pss_nil)
        (pss_cons (ps_asg (pe_op op_add (pe_ix ix_list (pv 0) pe_int (fun _ _ => rfl)) pe_int) (pg_sub (pv 0) pe_int set_list))
        (pss_cons (ps_set (i := 3) sc_law_draw.nd rfl (Or.inl rfl) (pe_op op_mod (pe_op op_powW (pe_op op_add (pe_ix ix_list (pv 0) pe_int (fun _ _ => rfl)) (pe_op op_mulW pe_int (pe_ix ix_list (pv 0) pe_int (fun _ _ => rfl)))) pe_int) (pe_op op_add (pe_op op_powW pe_int pe_int) pe_int)))
        (pss_cons (ps_set (i := 3) sc_law_draw.nd rfl (Or.inl rfl) (pe_op op_mod (pe_op op_powW (pe_op op_add (pv 3) (pe_op op_mulW pe_int (pe_ix ix_list (pv 0) pe_int (fun _ _ => rfl)))) pe_int) (pe_op op_add (pe_op op_powW pe_int pe_int) pe_int)))
        (pss_one (ps_ret (pe_op op_mod (pe_op op_fdivW (pv 3) pe_int) (pv 1)))))))), ?_⟩
    have hS : SqL K H a [.int x, .int y, .int z] := .of ha
    by_cases hx : 0 < x
    · refine ⟨_, rfl, a, _, 0, _, rfl, rfl, hS, at0, _, _, rfl, rfl, true, dT hx, ?_⟩
      refine ⟨_, rfl, a, _, 0, _, rfl, rfl, hS, at0, _, rfl, _, _, rfl, rfl, (by show (0 : Int) < m; omega), ?_⟩
      refine ⟨_, rfl, a, _, 0, _, rfl, rfl, hS, at0, _, rfl, _, _, rfl, rfl, wide_div (b := 30) (by omega) (lt_pow (by omega) (by omega)) (by decide) (by decide), ?_⟩
      refine ⟨_, rfl, a, _, 0, 0, rfl, rfl, ha, rfl, _, rfl, ?_⟩
      exact q _ _ (Int.emod_nonneg _ (by omega)) (Int.emod_lt_of_pos _ (by omega)) ⟨_, _, _, upd_same, y0, y1, z0, by omega⟩ (.at_ _ _ _)
    · refine ⟨_, rfl, a, _, 0, _, rfl, rfl, hS, at0, _, _, rfl, rfl, false, dF hx, ?_⟩
      refine ⟨_, rfl, a, _, 2, _, rfl, rfl, hS, at2, _, _, rfl, rfl, _, rfl, a, _, 2, 2, rfl, rfl, ha, rfl, ?_⟩
      have hS2 : SqL K (upd H a (.lst [.int x, .int y, .int (z + 1)])) a [.int x, .int y, .int (z + 1)] := .of upd_same
      have c1 : CPowW (y + 69061 * (z + 1)) 3 := powW_ok (n := 400) (lt_pow (by omega) (by omega)) (by decide) (by decide)
      have p1 : CPowW 10 41 := powW_ok (n := 4) (by decide) (by decide) (by decide)
      have p2 : CPowW 10 38 := powW_ok (n := 4) (by decide) (by decide) (by decide)
      have k1 : (10 : Int) ^ (41 : Int).toNat + 37 = 100000000000000000000000000000000000000037 := by decide +kernel
      have k2 : (10 : Int) ^ (38 : Int).toNat + 133 = 100000000000000000000000000000000000133 := by decide +kernel
      have n1 : (0 : Int) < 10 ^ (41 : Int).toNat + 37 := by rw [k1]; decide
      have n2 : (0 : Int) < 10 ^ (38 : Int).toNat + 133 := by rw [k2]; decide
      refine ⟨_, rfl, a, _, 1, _, rfl, rfl, hS2, at1, _, rfl, a, _, 2, _, rfl, rfl, hS2, at2, _, _, rfl, rfl, wide_mul (a := 30) (b := 30) (by decide) (lt_pow (by omega) (by omega)) (by decide) (by decide) (by decide), _, _, rfl, rfl, _, _, rfl, rfl, c1, _, _, rfl, rfl, p1, _, _, rfl, rfl, _, _, rfl, rfl, n1, ?_⟩
      generalize (y + 69061 * (z + 1)) ^ (3 : Int).toNat = big
      have b0 : 0 ≤ big % (10 ^ (41 : Int).toNat + 37) := Int.emod_nonneg _ (Int.ne_of_gt n1)
      have b1 : big % (10 ^ (41 : Int).toNat + 37) < 100000000000000000000000000000000000000037 := by
        have := Int.emod_lt_of_pos big n1
        rw [k1] at this
        rw [k1]
        exact this
      have c2 : ∀ mx : Int, 0 ≤ mx → mx < 100000000000000000000000000000000000000037 → CPowW (mx + 88469 * (z + 1)) 3 := fun mx b0 b1 => powW_ok (n := 400) (lt_pow (by omega) (by omega)) (by decide) (by decide)
      refine ⟨_, rfl, _, rfl, a, _, 2, _, rfl, rfl, hS2, at2, _, _, rfl, rfl, wide_mul (a := 30) (b := 30) (by decide) (lt_pow (by omega) (by omega)) (by decide) (by decide) (by decide), _, _, rfl, rfl, _, _, rfl, rfl, c2 _ b0 b1, _, _, rfl, rfl, p2, _, _, rfl, rfl, _, _, rfl, rfl, n2, ?_⟩
      refine ⟨_, rfl, _, _, rfl, rfl, wide_div (b := 30) (by decide) (by decide) (by decide) (by decide), _, rfl, _, _, rfl, rfl, (by show (0 : Int) < m; omega), ?_⟩
      exact q _ _ (Int.emod_nonneg _ (by omega)) (Int.emod_lt_of_pos _ (by omega)) ⟨_, _, _, upd_same, y0, y1, by omega, by omega⟩ (.at_ _ _ _)
/-! ### the pool of draws -/
def spPool (K : PySem.W.Frag) : Sp := fun vs H Q _ => ∃ (a : Addr) (ns : List Int) (k : Nat), vs = [.ref a, .int (k : Int)] ∧ SqL K H a (ns.map V.int) ∧ k ≤ 1000 ∧ ∀ H' p, Same H H' → H p = none → Src H' p 0 → Q (.ref p) H'
theorem ok_law_pool {f : Addr} {fd : FuncData} (F : Fun K "_law_pool" "_law_pool" s_law_pool f fd) (B : NoB mg) : FnG P w K mg base CX0 1 f fd ["script", "k"] (spPool K) := by
  refine okG F sc_law_pool (fun vs H Q E h => ?_) (fun cdv A outer s H vs Q E hG hr h => ?_)
  · obtain ⟨a, ns, k, rfl, _⟩ := h
    rfl
  · obtain ⟨a, ns, k, rfl, hS, hk, q⟩ := h
    refine ⟨_, (pss_cons (ps_set (i := 2) sc_law_pool.nd rfl (Or.inl rfl) pe_int)
        (Evl.pss_cut (ps_if (pt_cmpR op_lt (pv 1) (pe_callB call_len_seq (by rfl) B.len PySem.boot_len (pa_cons (pv 0) pa_nil)) (nomark _)) (pss_one (ps_set (i := 2) sc_law_pool.nd rfl (Or.inl rfl) (pe_ix ix_list (pv 0) (pv 1) (fun _ _ => rfl)))) pss_nil)
        (pss_one (ps_ret (pe_lst (pa_cons (pe_callB (call_max2 rfl) (by rfl) B.max (by decide +kernel) (pa_cons pe_int (pa_cons (pe_op op_sub (pv 2) (pe_op op_powW pe_int pe_int)) pa_nil))) (pa_cons (pe_op op_add (pe_op op_mulW (pe_op op_mod (pv 2) (pe_op op_add (pe_op op_powW pe_int pe_int) pe_int)) pe_int) (pv 1)) (pa_cons pe_int pa_nil)))))))), ?_⟩
    refine ⟨fun σ' H' => (∃ c : Int, σ' = [some (.ref a), some (.int (k : Int)), some (.int c)]) ∧ H' = H, ?_, fun σ' H' hm => ?_⟩
    · by_cases hlt : k < ns.length
      · refine ⟨_, rfl, _, rfl, a, _, rfl, .inl hS, _, _, rfl, rfl, true, dT (by rw [List.length_map]; omega), ?_⟩
        exact ⟨_, rfl, _, rfl, a, _, _, _, rfl, rfl, hS, atI_nat (get_at hlt), ⟨_, rfl⟩, rfl⟩
      · refine ⟨_, rfl, _, rfl, a, _, rfl, .inl hS, _, _, rfl, rfl, false, dF (by rw [List.length_map]; omega), ⟨_, rfl⟩, rfl⟩
    · obtain ⟨⟨c, rfl⟩, rfl⟩ := hm
      have p1 : CPowW 10 18 := powW_ok (n := 4) (by decide) (by decide) (by decide)
      have p2 : CPowW 10 40 := powW_ok (n := 4) (by decide) (by decide) (by decide)
      have e : (10 : Int) ^ (40 : Int).toNat + 121 = 10000000000000000000000000000000000000121 := by decide +kernel
      have m0 : (0 : Int) < 10 ^ (40 : Int).toNat + 121 := by rw [e]; decide
      have r0 := Int.emod_nonneg c (Int.ne_of_gt m0)
      have r1 := Int.emod_lt_of_pos c m0
      have r2 : c % (10 ^ (40 : Int).toNat + 121) < 10000000000000000000000000000000000000121 := by
        rw [e] at r1
        rw [e]
        exact r1
      refine ⟨_, rfl, _, _, rfl, rfl, p1, _, _, rfl, rfl, _, _, rfl, _, rfl, _, _, rfl, rfl, p2, _, _, rfl, rfl, _, _, rfl, rfl, m0, _, _, rfl, rfl, wide_mul (a := 200) (b := 30) (lt_pow r0 (by omega)) (by decide) (by decide) (by decide) (by decide),
        _, rfl, _, _, rfl, rfl, by show 3 ≤ sizeLine; decide, fun p np => q _ p (same_new np) np ?_⟩
      exact ⟨_, _, _, upd_same, by omega, by omega, Int.le_refl _, Int.le_refl _⟩
end
section
variable {P : Program} {w : World} {K : PySem.W.Frag} {mg : Str → Option Value} {base : Heap}
/-! ### check_number, _check_patches, _count_ways, count_histories -/
def spCheckN : Sp := fun vs H Q _ => ∃ i lo hi : Int, vs = [.int i, .int lo, .int hi] ∧ lo ≤ i ∧ i ≤ hi ∧ Q .non H
theorem ok_check_number {f : Addr} {fd : FuncData} (F : Fun K "check_number" "check_number" s_check_number f fd) (T_is_integer_within : Cal P w K mg base 2 "is_integer_within" spWithin) : FnG P w K mg base CX0 3 f fd ["value", "least", "greatest"] spCheckN := by
  refine okG F sc_check_number (fun vs H Q E h => ?_) (fun cdv A outer s H vs Q E hG hr h => ?_)
  · obtain ⟨i, lo, hi, rfl, _⟩ := h
    rfl
  · obtain ⟨i, lo, hi, rfl, h1, h2, q⟩ := h
    refine ⟨_, (pss_one (ps_if (pt_not (pt_val (pe_c T_is_integer_within hr (by decide) (by rfl) (pa_cons (pv 0) (pa_cons (pv 1) (pa_cons (pv 2) pa_nil)))))) (pss_one ps_never) pss_nil)), ?_⟩
    exact ⟨_, rfl, _, rfl, _, rfl, i, lo, hi, rfl, h1, h2, _, rfl, iteF q⟩
def spCheckP : Sp := fun vs H Q _ => ∃ n : Nat, vs = [.int (n : Int)] ∧ n ≤ 100 ∧ Q .non H
theorem ok_check_patches {f : Addr} {fd : FuncData} (F : Fun K "_check_patches" "_check_patches" s_check_patches f fd) {t1 : Tok} (T_g_LAST_PATCH : mg "LAST_PATCH" = some (.int 100 t1)) (T_check_number : Gc P w K mg base 3 "check_number" spCheckN) : FnG P w K mg base CX0 4 f fd ["patches"] spCheckP := by
  refine okG F sc_check_patches (fun vs H Q E h => ?_) (fun cdv A outer s H vs Q E hG hr h => ?_)
  · obtain ⟨n, rfl, _⟩ := h
    rfl
  · obtain ⟨n, rfl, h1, q⟩ := h
    refine ⟨_, (pss_one (ps_expr (pe_g T_check_number hG hr (by decide) (by rfl) (pa_cons (pv 0) (pa_cons pe_int (pa_cons (pe_glob (v := .int 100) (by rfl) T_g_LAST_PATCH ⟨_, rfl⟩) pa_nil)))))), ?_⟩
    exact ⟨_, rfl, (n : Int), 0, 100, rfl, by omega, by omega, q⟩
def spCW : Sp := fun vs H Q _ => ∃ r u : Nat, vs = [.int (r : Int), .int (u : Int)] ∧ r + 2 * u ≤ 400 ∧ Q (.int ((cwN r u : Nat) : Int)) H
theorem natAbs_lt {n k : Nat} (h : n < 2 ^ k) : ((n : Nat) : Int).natAbs < 2 ^ k := h
theorem ok_count_ways {f : Addr} {fd : FuncData} (F : Fun K "_count_ways" "_count_ways" s_count_ways f fd) (T_m_factorial : mg "factorial" = some (.builtin "math.factorial")) : FnG P w K mg base CX0 1 f fd ["running", "unstarted"] spCW := by
  refine okG F sc_count_ways (fun vs H Q E h => ?_) (fun cdv A outer s H vs Q E hG hr h => ?_)
  · obtain ⟨r, u, rfl, _⟩ := h
    rfl
  · obtain ⟨r, u, rfl, hb, q⟩ := h
    refine ⟨_, (pss_one (ps_ret (pe_op op_fdivW (pe_callBfun cr_fac (by rfl) T_m_factorial (pa_cons (pe_op op_add (pv 0) (pe_op op_mulW pe_int (pv 1))) pa_nil)) (pe_op op_shlW (pe_callBfun cr_fac (by rfl) T_m_factorial (pa_cons (pv 1) pa_nil)) (pv 1))))), ?_⟩
    have fu := fac_lt u (by omega)
    have fp := facN_pos u
    have e0 : ((facN u : Nat) : Int) * 2 ^ ((u : Nat) : Int).toNat = ((facN u * 2 ^ u : Nat) : Int) := by
      rw [Int.natCast_mul, Int.natCast_pow]
      rfl
    have den : facN u * 2 ^ u < 2 ^ (11 * u + 1) := by
      have e : 11 * u + 1 = (10 * u + 1) + u := by omega
      rw [e, Nat.pow_add]
      exact Nat.mul_lt_mul_of_pos_right fu (Nat.two_pow_pos u)
    have denp : 0 < facN u * 2 ^ u := Nat.mul_pos fp (Nat.two_pow_pos u)
    refine ⟨_, rfl, _, rfl, _, _, rfl, rfl, wide_mul (a := 3) (b := 20) (by decide) (natAbs_lt (by omega)) (by decide) (by decide) (by decide), _, _, rfl, rfl, r + 2 * u, congrArg (fun z => [V.int z]) (by omega), by omega, ?_⟩
    refine ⟨_, rfl, u, rfl, by omega, _, rfl, _, _, rfl, rfl, shl_ok (n := 10 * u + 1) (natAbs_lt fu) (by omega), ?_⟩
    refine ⟨_, _, rfl, rfl, ?_, ?_⟩
    · rw [e0]
      exact wide_div (b := 11 * u + 1) (by omega) (natAbs_lt den) (by omega) (by omega)
    · dsimp only
      rw [e0, ← Int.natCast_ediv]
      exact q
end
end L64
set_option Elab.async false
set_option linter.all false
set_option maxRecDepth 100000
namespace L64
open PySem PySem.Spec PyProof.Rows L2 Lp
theorem sg_len {bs : List Bool} (ok : SgOk bs) (u : upsN bs ≤ 100) : bs.length ≤ 200 := by
  have a := run_eq ok
  have b := ups_dns bs
  omega
theorem wide_ways {bs : List Bool} (ok : SgOk bs) (u : upsN bs ≤ 100) : CMulW ((waysN bs : Nat) : Int) ((runN bs : Nat) : Int) := by
  have l := sg_len ok u
  have a := run_eq ok
  refine wide_mul (a := 1401) (b := 30) (lt_pow (by omega) ?_) (lt_pow (by omega) (by omega)) (by decide) (by decide) (by decide)
  have z := Nat.lt_of_lt_of_le (ways_lt u ok) (Nat.pow_le_pow_right (by decide) (show 7 * bs.length + 1 ≤ 1401 by omega))
  have := Int.ofNat_lt.mpr z
  rwa [Int.natCast_pow] at this
theorem ups_take {bs : List Bool} (u : upsN bs ≤ 100) (i : Nat) : upsN (bs.take i) ≤ 100 := Nat.le_trans (List.Sublist.count_le _ (List.take_sublist i bs)) u
section
variable {P : Program} {w : World} {K : PySem.W.Frag} {mg : Str → Option Value} {base : Heap}
/-! ### _law_every -/
def spEvery : Sp := fun vs H Q _ => ∃ bs : List Bool, vs = [.str (sgS bs)] ∧ SgOk bs ∧ upsN bs ≤ 100 ∧ waysN bs ≤ 1000 ∧ ∀ (H' : Hp) (p : Addr) (rs : List V), Same H H' → H p = none → H' p = some (.lst rs) → RowsR H' rs (everyL bs) → Q (.ref p) H'
theorem int_bool (b : Bool) : (if b = true then (1 : Int) else 0) = ((b.toNat : Nat) : Int) := by cases b <;> rfl
theorem negL_get {st k : Nat} (h : k < st) : (negL st)[k]? = some ((0 : Int) - ((st : Int) + (k : Int) * (-1))) := by
  unfold negL
  rw [List.getElem?_map, List.getElem?_range h]
  rfl
set_option maxHeartbeats 1000000 in
theorem ok_law_every {f : Addr} {fd : FuncData} (F : Fun K "_law_every" "_law_every" s_law_every f fd) (B : NoB mg) : FnG P w K mg base CX0 1 f fd ["signs"] (spEvery) := by
  refine okG F sc_law_every (fun vs H Q E h => ?_) (fun cdv A outer s H vs Q E hG hr h => ?_)
  · obtain ⟨bs, rfl, _⟩ := h
    rfl
  · obtain ⟨bs, rfl, ok, u1, w1, q⟩ := h
    have slen := sg_len ok u1
    refine ⟨_, (pss_cons (ps_par (i := 1) (j := 2) (by rfl) sc_law_every.nd rfl rfl (by decide) rfl rfl (pa_cons (pe_lst (pa_cons (pe_lst pa_nil) pa_nil)) (pa_cons pe_int pa_nil)) (by rfl))
        (pss_cons (ps_for PassesOwn.never rfl (pi_str (pv 0)) (pg_name (i := 3) sc_law_every.nd rfl (Or.inl rfl))
          (pss_cons (ps_set (i := 2) sc_law_every.nd rfl (Or.inl rfl) (pe_op op_add (pv 2) (pe_callTy call_int1 (by rfl) B.int (by decide +kernel) (pa_cons (pe_cmpR op_eq (pv 3) pe_str (nomark _)) pa_nil))))
          (pss_cons (ps_set (i := 4) sc_law_every.nd rfl (Or.inl rfl) (pe_lst pa_nil))
          (pss_cons (ps_for PassesOwn.never rfl (pi_list (pv 1)) (pg_name (i := 5) sc_law_every.nd rfl (Or.inr rfl))
            (pss_cons (ps_set (i := 6) sc_law_every.nd rfl (Or.inl rfl) (pe_lst (pa_cons (pv 2) pa_nil)))
            (Evl.pss_cut (ps_if (pt_cmpR op_eq (pv 3) pe_str (nomark _)) (pss_one (ps_setLc (i := 6) (own := [("one", 7)]) (g := gName 7) (tt := _) rfl sc_law_every.nd rfl rfl (sw_true rfl rfl rfl (by decide +kernel)) (pi_range3 rfl B.range (pa_cons (pv 2) (pa_cons pe_int (pa_cons (pe_un un_neg pe_int) pa_nil)))) (blkOk_by (own := [("one", 7)]) (N := N_law_every) (sc := defScope s_law_every) (by decide +kernel)) (fun _ _ _ _ _ => (pg_name (i := 7) sc_law_every.nd rfl (Or.inl rfl))) (fun _ _ _ _ _ => (pts_one (pt_cmpR (k_notin (K := K) rfl) (pe_op op_sub pe_int (pv 7)) (pv 5) (by rfl)))) (fun _ _ _ _ _ => (pe_op op_sub pe_int (pv 7))))) pss_nil)
            (pss_one (ps_expr (pe_bm PySem.F.plainAttrs_list PySem.F.slot_list_extend PySem.F.type_list_extend mt_extend (pv 4) (pa_cons (pe_lc (own := [("one", 7)]) (g := gName 7) (tt := tYes) rfl sc_law_every.nd (pi_list (pv 6)) (blkOk_by (own := [("one", 7)]) (N := N_law_every) (sc := defScope s_law_every) (by decide +kernel)) (fun _ _ _ _ _ => (pg_name (i := 7) sc_law_every.nd rfl (Or.inl rfl))) (fun _ _ _ _ _ => pts_nil) (fun _ _ _ _ _ => (pe_op op_cat (pv 5) (pe_lst (pa_cons (pv 7) pa_nil))))) pa_nil)))))))
          (pss_one (ps_set (i := 1) sc_law_every.nd rfl (Or.inl rfl) (pv 4)))))))
        (pss_one (ps_ret (pv 1))))), ?_⟩
    refine ⟨Nat.zero_le _, fun p0 n0 => ⟨by show 1 ≤ sizeLine; decide, fun p1 n1 => ⟨_, _, rfl, ?_⟩⟩⟩
    have s01 := (same_new (o := .lst []) n0).trans (same_new (o := .lst [V.ref p0]) n1)
    have hp1 : H p1 = none := (same_new (o := .lst []) n0).free n1
    refine ⟨_, rfl, _, rfl, for_it (walk_str (z := sgS bs)) (fun i σ H' => ∃ (y3 y4 y5 y6 y7 : Option V) (p : Addr) (st : Int) (rs : List V), σ = [some (.str (sgS bs)), some (.ref p), some (.int st), y3, y4, y5, y6, y7] ∧ st = ((upsN (bs.take i) : Nat) : Int) ∧ Same H H' ∧ H p = none ∧ H' p = some (.lst rs) ∧ RowsR H' rs (everyL (bs.take i)))
      ⟨_, _, _, _, _, _, _, _, rfl, rfl, s01, hp1, upd_same, RowsR.one (row := []) ?_⟩ (fun i σ H' _ h => trivial) (fun i x σ H' H2 hi h hy => ?_) (fun σ H' h => ?_)⟩
    · exact (same_new n1) _ _ upd_same
    · obtain ⟨e1, c, hc, rfl⟩ := hy
      subst e1
      obtain ⟨b, hb, rfl⟩ := sg_get hc
      obtain ⟨y3, y4, y5, y6, y7, p, st, rs, rfl, rfl, sm, hp, hrs, rr⟩ := h
      have es := take_snoc hb
      have oki := ok.take i
      have oki1 := ok.take (i + 1)
      obtain ⟨ev1, ev2⟩ := every_ok oki
      have hi' := lt_get hb
      have wle := ways_take_le ok (bs.length - (i + 1)) (i + 1) (by omega)
      have ui := ups_take u1 i
      have tot := (every_ok oki1).2
      rw [es, every_snoc] at tot
      rw [es] at wle
      have goalE : everyL (bs.take (i + 1)) = (everyL (bs.take i)).flatMap fun row => (ableL (upsN (bs.take i) + b.toNat) b row).map fun x => row ++ [x] := by rw [es, every_snoc]
      have ab : ∀ row, (ableL (upsN (bs.take i) + b.toNat) b row).length ≤ 101 := fun row => by
        cases b with
        | true => show 1 ≤ 101; decide
        | false =>
          refine Nat.le_trans (List.length_filter_le _ _) ?_
          rw [negL_len]
          show upsN (bs.take i) + 0 ≤ 101
          omega
      have upE : ((upsN (bs.take (i + 1)) : Nat) : Int) = ((upsN (bs.take i) + b.toNat : Nat) : Int) := by
        rw [es]
        cases b with
        | true => rw [ups_up]; rfl
        | false => rw [ups_dn]; rfl
      refine ⟨_, rfl, _, rfl, rfl, .inr ⟨b, congrArg (fun v => [v]) (blP b), _, _, rfl, rfl, ?_⟩⟩
      dsimp only
      rw [int_bool, ← Int.natCast_add]
      have stb : upsN (bs.take i) + b.toNat ≤ 101 := by cases b <;> (simp only [Bool.toNat_true, Bool.toNat_false]; omega)
      generalize upsN (bs.take i) + b.toNat = st at tot goalE ab upE stb ⊢
      refine ⟨Nat.zero_le _, fun q1 nq1 => ?_⟩
      have nqp : q1 ≠ p := fun z => by rw [z, hrs] at nq1; cases nq1
      have hpp := same_new (o := .lst []) nq1 _ _ hrs
      have rr1 := rr.same (same_new (o := .lst []) nq1)
      refine ⟨_, rfl, p, rfl, ⟨_, .of hpp⟩, for_list (xs := rs) (fun j σ H' => ∃ (y5 y6 y7 : Option V) (ls : List V), σ = [some (.str (sgS bs)), some (.ref p), some (.int ((st : Nat) : Int)), some (.str ⟨#[sgC b]⟩), some (.ref q1), y5, y6, y7] ∧
        Same H2 H' ∧ H' q1 = some (.lst ls) ∧ V.ref q1 ∉ ls ∧ RowsR H' ls (((everyL (bs.take i)).take j).flatMap fun row => (ableL st b row).map fun x => row ++ [x])) ⟨_, _, _, [], rfl, same_new nq1, upd_same, List.not_mem_nil, RowsR.nil _⟩ (fun j σ H' _ h => ?_) (fun j x σ H' hx h => ?_) (fun σ H' h => ?_)⟩
      · obtain ⟨_, _, _, _, _, sm2, _⟩ := h
        exact .of (sm2 _ _ hrs)
      · obtain ⟨y5, y6, y7, ls, rfl, sm2, hq, nq, rl⟩ := h
        have hj := lt_get hx
        rw [rr.1] at hj
        have eg := List.getElem?_eq_getElem hj
        obtain ⟨pr, er, hpr⟩ := rr.2 j _ eg
        have ex : x = .ref pr := Option.some.inj (hx.symm.trans er)
        subst ex
        generalize (everyL (bs.take i))[j] = row at hpr eg
        obtain ⟨hrow, rlen⟩ := ev1 row (mem_get eg)
        have hpr' := sm2 _ _ hpr
        have lsz : ls.length ≤ 1000 := by
          rw [rl.1]
          have := flatMap_take_len (f := fun row => (ableL st b row).map fun x => row ++ [x]) (everyL (bs.take i)) j
          omega
        have lsz2 : ls.length + (ableL st b row).length ≤ 2000 := by
          have := ab row
          omega
        refine ⟨_, rfl, by show 1 ≤ sizeLine; decide, fun a1 na1 => ?_⟩
        refine ⟨fun σ' H'' => ∃ (a2 : Addr) (y7 : Option V), σ' = [some (.str (sgS bs)), some (.ref p), some (.int ((st : Nat) : Int)), some (.str ⟨#[sgC b]⟩), some (.ref q1), some (.ref pr), some (.ref a2), y7] ∧ Same H' H'' ∧ H'' a2 = some (.lst ((ableL st b row).map V.int)), ?_, fun σ' H'' hm => ?_⟩
        · cases b with
          | true => exact ⟨_, rfl, rfl, false, blM true, a1, _, rfl, same_new na1, upd_same⟩
          | false =>
            have s1 := same_new (o := .lst [V.int ((st : Nat) : Int)]) na1
            have hrg : RgC ((st : Nat) : Int) 0 (-1) st := by
              have z := RgC.neg (i := ((st : Nat) : Int)) (j := 0) (by omega) (by omega) (by decide) (by decide)
              have e : (((st : Nat) : Int) - 0).toNat = st := by omega
              rwa [e] at z
            refine ⟨_, rfl, rfl, true, blM false, ?_⟩
            refine ⟨_, rfl, 1, rfl, _, _, _, st, rfl, hrg, fun D hD => lc_it (walk_rangeC) (LcP (upd H' a1 (.lst [V.int ((st : Nat) : Int)])) D fun k => (((negL st).take k).filter fun x => decide (x ∉ row)).map V.int) (.init hD rfl) (fun i H' _ p => trivial) (fun k x H3 H4 hk p hy => ?_) (fun H3 p => ?_)⟩
            · obtain ⟨rfl, rfl⟩ := hy
              have gk := negL_get hk
              have fs := filtG (f := fun x => decide (x ∉ row)) gk
              have fl := filtG_len (l := negL st) (f := fun x => decide (x ∉ row)) k
              rw [negL_len] at fl
              refine ⟨rfl, ?_⟩
              refine ⟨_, rfl, _, _, rfl, rfl, _, rfl, pr, row.map V.int, rfl, .inl (.of (p.2.1 _ _ (s1 _ _ hpr'))), rfl, flatI row, ?_⟩
              by_cases hin : (0 : Int) - (((st : Nat) : Int) + (k : Int) * (-1)) ∈ row
              · refine ⟨false, notInF hin, p.skip (Same.refl _) ?_⟩
                show (((negL st).take (k + 1)).filter _).map V.int = _
                rw [fs, if_neg (by simpa using hin), List.append_nil]
              · refine ⟨true, notInT hin, _, rfl, _, _, rfl, rfl, p.put (Same.refl _) ?_ (by rw [List.length_map]; omega)⟩
                show (((negL st).take (k + 1)).filter _).map V.int = _
                rw [fs, if_pos (by simpa using hin), List.map_append]
                rfl
            · refine ⟨D, _, rfl, s1.trans p.2.1, ?_⟩
              have e := p.2.2
              have en : (negL st).take st = negL st := List.take_of_length_le (by rw [negL_len]; exact Nat.le_refl _)
              rw [e]
              show some (HO.lst ((((negL st).take st).filter _).map V.int)) = _
              rw [en]
              rfl
        · obtain ⟨a2, y7, rfl, sm3, ha2⟩ := hm
          have hq3 := sm3 _ _ hq
          have hpr3 := sm3 _ _ hpr'
          refine ⟨_, rfl, .inl ⟨rfl, _, .of hq3⟩, _, rfl, a2, rfl, ⟨_, .of ha2⟩, fun D hD => lc_list (xs := (ableL st b row).map V.int) (fun k H3 => ∃ zs, Same H'' H3 ∧ H3 D = some (.lst zs) ∧ (∀ a, V.ref a ∈ zs → H'' a = none ∧ a ≠ D) ∧ RowsR H3 zs (((ableL st b row).take k).map fun x => row ++ [x])) ⟨[], same_new hD, upd_same, fun a h => absurd h List.not_mem_nil, RowsR.nil _⟩ (fun k H3 _ h => ?_) (fun k x H3 hx h => ?_) (fun H3 h => ?_)⟩
          · obtain ⟨zs, s5, _⟩ := h
            exact .of (s5 _ _ ha2)
          · obtain ⟨v, rfl, hv⟩ := get_int hx
            obtain ⟨zs, s5, hz, hf, rz⟩ := h
            have zl' : zs.length ≤ 101 := by
              rw [rz.1, List.length_map, List.length_take]
              have := ab row
              omega
            refine ⟨rfl, _, rfl, _, rfl, by show 1 ≤ sizeLine; decide, fun t nt => ⟨pr, t, row.map V.int, [.int v], rfl, rfl, same_new nt _ _ (s5 _ _ hpr3), upd_same, by rw [List.length_map, rlen]; exact Lp.zs (by show (bs.take i).length + 1 ≤ _; rw [List.length_take]; omega), fun p5 np5 => ⟨zs, ?_, zl (by omega), ?_⟩⟩⟩
            · exact same_new np5 _ _ (same_new nt _ _ hz)
            · have s6 := (same_new (o := .lst [V.int v]) nt).trans (same_new (o := .lst (row.map V.int ++ [.int v])) np5)
              have nD : p5 ≠ D := fun z => by
                rw [z] at np5
                rw [same_new nt _ _ hz] at np5
                cases np5
              have n5 : H'' p5 = none := (s5.trans (same_new (o := .lst [V.int v]) nt)).free np5
              refine ⟨zs ++ [.ref p5], Lp.Same.mut (s5.trans s6) hD, upd_same, fun a ha => ?_, ?_⟩
              · rcases List.mem_append.mp ha with z | z
                · exact hf a z
                · cases List.mem_singleton.mp z
                  exact ⟨n5, nD⟩
              · have e : ((ableL st b row).take (k + 1)).map (fun x => row ++ [x]) = ((ableL st b row).take k).map (fun x => row ++ [x]) ++ [row ++ [v]] := by
                  rw [take_get hv, List.map_append]
                  rfl
                rw [e]
                refine RowsR.upd ((rz.same s6).app (RowsR.one ?_)) (fun hm => ?_)
                · rw [List.map_append]
                  exact upd_same
                · rcases List.mem_append.mp hm with z | z
                  · exact (hf D z).2 rfl
                  · exact nD (V.ref.inj (List.mem_singleton.mp z)).symm
          · obtain ⟨zs, s5, hz, hf, rz⟩ := h
            rw [List.length_map, List.take_length] at rz
            have hq5 := s5 _ _ hq3
            have nqz : V.ref q1 ∉ zs := fun z => by
              have := (hf q1 z).1
              rw [hq3] at this
              cases this
            have zl' : zs.length = (ableL st b row).length := by rw [rz.1, List.length_map]
            refine ⟨q1, D, ls, zs, rfl, rfl, hq5, hz, Lp.zs (by omega), _, _, _, ls ++ zs, rfl, Lp.Same.mut ((sm2.trans sm3).trans s5) nq1, upd_same, fun z => ?_, ?_⟩
            · rcases List.mem_append.mp z with z | z
              · exact nq z
              · exact nqz z
            · rw [flatMap_take_succ eg]
              refine RowsR.upd ((rl.same (sm3.trans s5)).app rz) fun z => ?_
              rcases List.mem_append.mp z with z | z
              · exact nq z
              · exact nqz z
      · obtain ⟨y5, y6, y7, ls, rfl, sm2, hq, nq, rl⟩ := h
        rw [rr.1, List.take_length] at rl
        refine ⟨_, rfl, _, _, _, _, _, q1, _, ls, rfl, upE.symm, sm.trans sm2, sm.free nq1, hq, ?_⟩
        rw [goalE]
        exact rl
    · obtain ⟨y3, y4, y5, y6, y7, p, st, rs, rfl, rfl, sm, hp, hrs, rr⟩ := h
      rw [sg_size, List.take_length] at *
      exact ⟨_, rfl, q _ p rs sm hp hrs rr⟩
end
/-! ### the shapes of complete histories -/
abbrev Sh := List Bool × Nat × Nat
def shStep (n : Nat) (t : Sh) : List Sh := (if t.2.1 < n then [(t.1 ++ [true], t.2.1 + 1, t.2.2 + 1)] else []) ++ (if 0 < t.2.2 then [(t.1 ++ [false], t.2.1, t.2.2 - 1)] else [])
def shL (n : Nat) : Nat → List Sh
  | 0 => [([], 0, 0)]
  | k + 1 => (shL n k).flatMap (shStep n)
def shapesL (n : Nat) : List (List Bool) := (shL n (2 * n)).map (·.1)
def okB (bs : List Bool) : Bool := (List.range bs.length).all fun i => decide (bs[i]? ≠ some false) || decide (0 < runN (bs.take i))
theorem okB_ok {bs : List Bool} (h : okB bs = true) : SgOk bs := fun i hi => by
  have hl := (List.getElem?_eq_some_iff.mp hi).1
  have z := List.all_eq_true.mp h i (List.mem_range.mpr hl)
  rw [Bool.or_eq_true, decide_eq_true_eq, decide_eq_true_eq] at z
  exact z.elim (fun y => absurd hi y) id
theorem shapes_sz : ∀ n : Fin 6, ∀ k : Fin 11, (shL n.val k.val).length ≤ 260 ∧ (shL n.val k.val).all (fun t => decide (t.1.length = k.val) && decide (t.2.1 ≤ 5) && decide (t.2.2 ≤ 5)) = true := by decide +kernel
theorem shapes_ok : ∀ n : Fin 6, (shapesL n.val).all (fun bs => okB bs && decide (upsN bs = n.val) && decide (dnsN bs = n.val) && decide (waysN bs ≤ 1000)) = true ∧ ((shapesL n.val).map waysN).sum = oddN n.val := by decide +kernel
def oSh (t : Sh) : HO := .tup [.str (sgS t.1), .int ((t.2.1 : Nat) : Int), .int ((t.2.2 : Nat) : Int)]
section
variable {P : Program} {w : World} {K : PySem.W.Frag} {mg : Str → Option Value} {base : Heap}
def spShapes : Sp := fun vs H Q _ => ∃ n : Nat, vs = [.int (n : Int)] ∧ n ≤ 5 ∧ ∀ (H' : Hp) (p : Addr), Same H H' → H p = none → H' p = some (.lst ((shapesL n).map fun bs => .str (sgS bs))) → Q (.ref p) H'
set_option maxHeartbeats 1000000 in
theorem ok_law_shapes {f : Addr} {fd : FuncData} (F : Fun K "_law_shapes" "_law_shapes" s_law_shapes f fd) (B : NoB mg) : FnG P w K mg base CX0 1 f fd ["n"] spShapes := by
  refine okG F sc_law_shapes (fun vs H Q E h => ?_) (fun cdv A outer s H vs Q E hG hr h => ?_)
  · obtain ⟨n, rfl, _⟩ := h
    rfl
  · obtain ⟨n, rfl, hn, q⟩ := h
    refine ⟨_, (pss_cons (ps_set (i := 1) sc_law_shapes.nd rfl (Or.inl rfl) (pe_lst (pa_cons (pe_tup (pa_cons pe_str (pa_cons pe_int (pa_cons pe_int pa_nil)))) pa_nil)))
        (pss_cons (ps_for PassesOwn.never rfl (pi_range1 rfl B.range (pa_cons (pe_op op_mulW pe_int (pv 0)) pa_nil)) (pg_name (i := 2) sc_law_shapes.nd rfl (Or.inl rfl))
          (pss_cons (ps_set (i := 3) sc_law_shapes.nd rfl (Or.inl rfl) (pe_lst pa_nil))
          (pss_cons (ps_for PassesOwn.never rfl (pi_list (pv 1)) (pg_tup rfl (pgs_cons (pg_name (i := 4) sc_law_shapes.nd rfl (Or.inl rfl)) (pgs_cons (pg_name (i := 5) sc_law_shapes.nd rfl (Or.inl rfl)) (pgs_cons (pg_name (i := 6) sc_law_shapes.nd rfl (Or.inl rfl)) pgs_nil))))
            (pss_cons (ps_expr (pe_bm PySem.F.plainAttrs_list PySem.F.slot_list_extend PySem.F.type_list_extend mt_extend (pv 3) (pa_cons (pe_op op_rep (pe_lst (pa_cons (pe_tup (pa_cons (pe_op op_add_str (pv 4) pe_str) (pa_cons (pe_op op_add (pv 5) pe_int) (pa_cons (pe_op op_add (pv 6) pe_int) pa_nil)))) pa_nil)) (pe_callTy call_int1 (by rfl) B.int (by decide +kernel) (pa_cons (pe_cmpR op_lt (pv 5) (pv 0) (nomark _)) pa_nil))) pa_nil)))
            (pss_one (ps_expr (pe_bm PySem.F.plainAttrs_list PySem.F.slot_list_extend PySem.F.type_list_extend mt_extend (pv 3) (pa_cons (pe_op op_rep (pe_lst (pa_cons (pe_tup (pa_cons (pe_op op_add_str (pv 4) pe_str) (pa_cons (pv 5) (pa_cons (pe_op op_sub (pv 6) pe_int) pa_nil)))) pa_nil)) (pe_callTy call_int1 (by rfl) B.int (by decide +kernel) (pa_cons (pe_cmpR op_gt (pv 6) pe_int (nomark _)) pa_nil))) pa_nil))))))
          (pss_one (ps_set (i := 1) sc_law_shapes.nd rfl (Or.inl rfl) (pv 3))))))
        (pss_one (ps_ret (pe_lc (own := [("signs", 4), ("starts", 5), ("running", 6)]) (g := _) (tt := tYes) rfl sc_law_shapes.nd (pi_list (pv 1)) (blkOk_by (own := [("signs", 4), ("starts", 5), ("running", 6)]) (N := N_law_shapes) (sc := defScope s_law_shapes) (by decide +kernel)) (fun _ _ _ _ _ => (k_tup (K := K) (n := 3) rfl rfl (pgs_cons (pg_name (i := 4) sc_law_shapes.nd rfl (Or.inl rfl)) (pgs_cons (pg_name (i := 5) sc_law_shapes.nd rfl (Or.inl rfl)) (pgs_cons (pg_name (i := 6) sc_law_shapes.nd rfl (Or.inl rfl)) pgs_nil))))) (fun _ _ _ _ _ => pts_nil) (fun _ _ _ _ _ => (pv 4))))))), ?_⟩
    refine ⟨by show 3 ≤ sizeLine; decide, fun t0 nt0 => ⟨by show 1 ≤ sizeLine; decide, fun p0 np0 => ?_⟩⟩
    have s0 := (same_new (o := .tup [.str "", .int 0, .int 0]) nt0).trans (same_new (o := .lst [V.ref t0]) np0)
    have hp0 : H p0 = none := (same_new nt0).free np0
    refine ⟨_, rfl, _, _, rfl, rfl, wide_mul (a := 3) (b := 20) (by decide) (natAbs_lt (by omega)) (by decide) (by decide) (by decide), 2 * (n : Int), rfl, by omega, by omega, ?_⟩
    refine for_range (lo := 0) (n := (2 * (n : Int)).toNat) (fun i σ H' => ∃ (y2 y3 y4 y5 y6 : Option V) (p : Addr) (rs : List V), σ = [some (.int (n : Int)), some (.ref p), y2, y3, y4, y5, y6] ∧ Same H H' ∧ H p = none ∧ H' p = some (.lst rs) ∧ ObjR oSh H' rs (shL n i)) ⟨_, _, _, _, _, _, _, rfl, s0, hp0, upd_same, ObjR.one (x := (([], 0, 0) : Sh)) ?_⟩ (fun i σ H2 hi h => ?_) (fun σ H' h => ?_)
    · show (upd (upd H t0 _) p0 _) t0 = some (.tup [.str (sgS []), .int 0, .int 0])
      rw [← sgS_nil]
      exact same_new np0 _ _ upd_same
    · obtain ⟨y2, y3, y4, y5, y6, p, rs, rfl, sm, hp, hrs, rr⟩ := h
      have hi10 : i < 10 := by omega
      obtain ⟨sz0, sz1⟩ := shapes_sz ⟨n, by omega⟩ ⟨i, by omega⟩
      have sz2 := (shapes_sz ⟨n, by omega⟩ ⟨i + 1, by omega⟩).1
      dsimp only at sz0 sz1 sz2
      have szT : ∀ j, (((shL n i).take j).flatMap (shStep n)).length ≤ 260 := fun j => Nat.le_trans (flatMap_take_len _ j) sz2
      refine ⟨Nat.zero_le _, fun q1 nq1 => ?_⟩
      have hpp := same_new (o := .lst []) nq1 _ _ hrs
      refine ⟨_, rfl, p, rfl, ⟨_, .of hpp⟩, for_list (xs := rs) (fun j σ H' => ∃ (y2 y4 y5 y6 : Option V) (ls : List V), σ = [some (.int (n : Int)), some (.ref p), y2, some (.ref q1), y4, y5, y6] ∧
        Same H2 H' ∧ H' q1 = some (.lst ls) ∧ V.ref q1 ∉ ls ∧ ObjR oSh H' ls (((shL n i).take j).flatMap (shStep n))) ⟨_, _, _, _, [], rfl, same_new nq1, upd_same, List.not_mem_nil, ObjR.nil⟩ (fun j σ H' _ h => ?_) (fun j x σ H' hx h => ?_) (fun σ H' h => ?_)⟩
      · obtain ⟨_, _, _, _, _, _, sm2, _⟩ := h
        exact .of (sm2 _ _ hrs)
      · obtain ⟨y2, y4, y5, y6, ls, rfl, sm2, hq, nq, rl⟩ := h
        have hj := lt_get hx
        rw [rr.1] at hj
        have eg := List.getElem?_eq_getElem hj
        obtain ⟨pr, er, hpr⟩ := rr.2 j _ eg
        have ex : x = .ref pr := Option.some.inj (hx.symm.trans er)
        subst ex
        have ht := List.all_eq_true.mp sz1 _ (mem_get eg)
        rw [Bool.and_eq_true, Bool.and_eq_true, decide_eq_true_eq, decide_eq_true_eq, decide_eq_true_eq] at ht
        have fs := flatMap_take_succ (f := shStep n) eg
        generalize (shL n i)[j] = t at hpr eg ht fs
        obtain ⟨bs, st, r⟩ := t
        obtain ⟨⟨h1, h2⟩, h3⟩ := ht
        dsimp only at h1 h2 h3
        have hpr' : H' pr = some (.tup [.str (sgS bs), .int ((st : Nat) : Int), .int ((r : Nat) : Int)]) := sm2 _ _ hpr
        have lsz : ls.length ≤ 260 := by rw [rl.1]; exact szT j
        refine ⟨pr, _, rfl, .of hpr', rfl, _, _, rfl, _, _, rfl, _, _, rfl, rfl, ?_⟩
        refine ⟨_, rfl, .inl ⟨rfl, _, .of hq⟩, ?_⟩
        refine ⟨_, rfl, _, _, rfl, rfl, Lp.zs (by rw [sgS_len]; show bs.length + 1 ≤ _; omega), _, rfl, _, _, rfl, rfl, _, rfl, _, _, rfl, rfl, by show 3 ≤ sizeLine; decide, fun T nT => ⟨by show 1 ≤ sizeLine; decide, fun L nL => ?_⟩⟩
        have hq1 := same_new (o := .lst [V.ref T]) nL _ _ (same_new (o := .tup [V.str (sgS bs ++ "+"), .int ((st : Nat) + 1), .int ((r : Nat) + 1)]) nT _ _ hq)
        have nTq : T ≠ q1 := fun z => by rw [z, hq] at nT; cases nT
        refine ⟨_, rfl, _, rfl, _, _, rfl, rfl, .inr ⟨_, rfl, ?_⟩⟩
        refine ⟨L, _, [.ref T], rfl, rfl, upd_same, by split <;> decide, by split <;> decide, rep_sz _ _, fun L2 nL2 => ?_⟩
        rw [rep_one]
        have lt1 : ∀ b : Bool, (if b = true then [V.ref T] else []).length ≤ 1 := fun b => ifs_len b _
        refine ⟨q1, L2, ls, _, rfl, rfl, same_new nL2 _ _ hq1, upd_same, Lp.zs (by have := lt1 (decide ((st : Int) < (n : Int))); omega), ?_⟩
        have sA := ((same_new (o := .tup [V.str (sgS bs ++ "+"), .int ((st : Nat) + 1), .int ((r : Nat) + 1)]) nT).trans (same_new (o := .lst [V.ref T]) nL)).trans (same_new (o := .lst (if decide ((st : Int) < (n : Int)) = true then [V.ref T] else [])) nL2)
        have oT := same_new (o := .lst (if decide ((st : Int) < (n : Int)) = true then [V.ref T] else [])) nL2 _ _ (same_new (o := .lst [V.ref T]) nL _ _ (upd_same (H := H') (a := T) (o := .tup [V.str (sgS bs ++ "+"), .int ((st : Nat) + 1), .int ((r : Nat) + 1)])))
        obtain ⟨l1, el1, hl1, rl1, nq1'⟩ : ∃ l1 : List V, ls ++ (if decide ((st : Int) < (n : Int)) = true then [V.ref T] else []) = l1 ∧ l1.length ≤ 261 ∧
            ObjR oSh (upd (upd (upd (upd H' T (.tup [V.str (sgS bs ++ "+"), .int ((st : Nat) + 1), .int ((r : Nat) + 1)])) L (.lst [V.ref T])) L2 (.lst (if decide ((st : Int) < (n : Int)) = true then [V.ref T] else []))) q1 (.lst l1)) l1 (((shL n i).take j).flatMap (shStep n) ++ (if st < n then [(bs ++ [true], st + 1, r + 1)] else [])) ∧ V.ref q1 ∉ l1 := by
          refine ⟨_, rfl, by rw [List.length_append]; have := lt1 (decide ((st : Int) < (n : Int))); omega, ?_, ?_⟩
          · refine ObjR.upd ((rl.same sA).app ?_) ?_
            · by_cases c : st < n
              · rw [if_pos c, if_pos (decide_eq_true (by omega))]
                refine ObjR.one (x := ((bs ++ [true], st + 1, r + 1) : Sh)) ?_
                rw [if_pos (decide_eq_true (show (st : Int) < (n : Int) by omega)), sgS_up] at oT
                rw [sgS_up]
                exact oT
              · rw [if_neg c, if_neg (by simpa using c)]
                exact ObjR.nil
            · intro z
              rcases List.mem_append.mp z with z | z
              · exact nq z
              · split at z
                · exact nTq (V.ref.inj (List.mem_singleton.mp z)).symm
                · exact absurd z List.not_mem_nil
          · intro z
            rcases List.mem_append.mp z with z | z
            · exact nq z
            · split at z
              · exact nTq (V.ref.inj (List.mem_singleton.mp z)).symm
              · exact absurd z List.not_mem_nil
        rw [el1]
        have smB : Same H2 (upd (upd (upd (upd H' T (.tup [V.str (sgS bs ++ "+"), .int ((st : Nat) + 1), .int ((r : Nat) + 1)])) L (.lst [V.ref T])) L2 (.lst (if decide ((st : Int) < (n : Int)) = true then [V.ref T] else []))) q1 (.lst l1)) := Lp.Same.mut (sm2.trans sA) nq1
        have hqB : (upd (upd (upd (upd H' T (.tup [V.str (sgS bs ++ "+"), .int ((st : Nat) + 1), .int ((r : Nat) + 1)])) L (.lst [V.ref T])) L2 (.lst (if decide ((st : Int) < (n : Int)) = true then [V.ref T] else []))) q1 (.lst l1)) q1 = some (.lst l1) := upd_same
        generalize upd (upd (upd (upd H' T (.tup [V.str (sgS bs ++ "+"), .int ((st : Nat) + 1), .int ((r : Nat) + 1)])) L (.lst [V.ref T])) L2 (.lst (if decide ((st : Int) < (n : Int)) = true then [V.ref T] else []))) q1 (.lst l1) = HB at rl1 smB hqB ⊢
        -- the second extend
        refine ⟨_, rfl, .inl ⟨rfl, _, .of hqB⟩, ?_⟩
        refine ⟨_, rfl, _, _, rfl, rfl, Lp.zs (by rw [sgS_len]; show bs.length + 1 ≤ _; omega), _, rfl, _, rfl, _, _, rfl, rfl, by show 3 ≤ sizeLine; decide, fun T2 nT2 => ⟨by show 1 ≤ sizeLine; decide, fun M nM => ?_⟩⟩
        have hq2 := same_new (o := .lst [V.ref T2]) nM _ _ (same_new (o := .tup [V.str (sgS bs ++ "-"), .int (st : Nat), .int ((r : Nat) - 1)]) nT2 _ _ hqB)
        have nTq2 : T2 ≠ q1 := fun z => by rw [z, hqB] at nT2; cases nT2
        refine ⟨_, rfl, _, _, rfl, rfl, .inr ⟨_, rfl, ?_⟩⟩
        refine ⟨M, _, [.ref T2], rfl, rfl, upd_same, by split <;> decide, by split <;> decide, rep_sz _ _, fun M2 nM2 => ?_⟩
        rw [rep_one]
        have lt2 : ∀ b : Bool, (if b = true then [V.ref T2] else []).length ≤ 1 := fun b => ifs_len b _
        refine ⟨q1, M2, l1, _, rfl, rfl, same_new nM2 _ _ hq2, upd_same, Lp.zs (by have := lt2 (decide (0 < (r : Int))); omega), ?_⟩
        have sC := ((same_new (o := .tup [V.str (sgS bs ++ "-"), .int (st : Nat), .int ((r : Nat) - 1)]) nT2).trans (same_new (o := .lst [V.ref T2]) nM)).trans (same_new (o := .lst (if decide (0 < (r : Int)) = true then [V.ref T2] else [])) nM2)
        have oT2 := same_new (o := .lst (if decide (0 < (r : Int)) = true then [V.ref T2] else [])) nM2 _ _ (same_new (o := .lst [V.ref T2]) nM _ _ (upd_same (H := HB) (a := T2) (o := .tup [V.str (sgS bs ++ "-"), .int (st : Nat), .int ((r : Nat) - 1)])))
        have nqz : V.ref q1 ∉ l1 ++ (if decide (0 < (r : Int)) = true then [V.ref T2] else []) := fun z => by
          rcases List.mem_append.mp z with z | z
          · exact nq1' z
          · split at z
            · exact nTq2 (V.ref.inj (List.mem_singleton.mp z)).symm
            · exact absurd z List.not_mem_nil
        refine ⟨_, _, _, _, _, rfl, Lp.Same.mut (smB.trans sC) nq1, upd_same, nqz, ?_⟩
        rw [fs]
        show ObjR oSh _ _ (((shL n i).take j).flatMap (shStep n) ++ ((if st < n then [(bs ++ [true], st + 1, r + 1)] else []) ++ (if 0 < r then [(bs ++ [false], st, r - 1)] else [])))
        rw [← List.append_assoc]
        refine ObjR.upd ((rl1.same sC).app ?_) nqz
        by_cases c : 0 < r
        · rw [if_pos c, if_pos (decide_eq_true (by omega))]
          refine ObjR.one (x := ((bs ++ [false], st, r - 1) : Sh)) ?_
          rw [if_pos (decide_eq_true (show 0 < (r : Int) by omega))] at oT2
          have er' : ((r : Nat) : Int) - 1 = ((r - 1 : Nat) : Int) := by omega
          refine Eq.trans oT2 ?_
          show some (HO.tup [V.str (sgS bs ++ "-"), .int ((st : Nat) : Int), .int (((r : Nat) : Int) - 1)]) = some (HO.tup [V.str (sgS (bs ++ [false])), .int ((st : Nat) : Int), .int ((r - 1 : Nat) : Int)])
          rw [sgS_dn, er']
        · rw [if_neg c, if_neg (by simpa using c)]
          exact ObjR.nil
      · obtain ⟨y2, y4, y5, y6, ls, rfl, sm2, hq, nq, rl⟩ := h
        rw [rr.1, List.take_length] at rl
        exact ⟨_, rfl, _, _, _, _, _, q1, ls, rfl, sm.trans sm2, sm.free nq1, hq, rl⟩
    · obtain ⟨y2, y3, y4, y5, y6, p, rs, rfl, sm, hp, hrs, rr⟩ := h
      have e2n : (2 * (n : Int)).toNat = 2 * n := by omega
      rw [e2n] at rr
      have sz := (shapes_sz ⟨n, by omega⟩ ⟨2 * n, by omega⟩).1
      dsimp only at sz
      refine ⟨_, rfl, p, rfl, ⟨_, .of hrs⟩, fun D hD => lc_list (xs := rs) (LcP H' D fun i => (((shL n (2 * n)).take i).map fun t => V.str (sgS t.1))) (.init hD rfl) (fun i H3 _ p => .of (p.2.1 _ _ hrs)) (fun i x H3 hx pp => ?_) (fun H3 pp => ?_)⟩
      · have hj := lt_get hx
        rw [rr.1] at hj
        have eg := List.getElem?_eq_getElem hj
        obtain ⟨pr, er, hpr⟩ := rr.2 i _ eg
        have ex : x = .ref pr := Option.some.inj (hx.symm.trans er)
        subst ex
        generalize (shL n (2 * n))[i] = t at hpr eg
        refine ⟨pr, _, rfl, .of (pp.2.1 _ _ hpr), rfl, _, _, rfl, _, _, rfl, _, _, rfl, rfl, rfl, ?_⟩
        refine ⟨_, rfl, pp.put (Same.refl _) ?_ (by rw [List.length_map, List.length_take]; omega)⟩
        rw [take_get eg, List.map_append]
        rfl
      · have h3 : H3 D = some (.lst (((shL n (2 * n)).take rs.length).map fun t => V.str (sgS t.1))) := pp.2.2
        rw [rr.1, List.take_length] at h3
        refine q _ D (sm.trans pp.2.1) (sm.free hD) ?_
        rw [h3]
        unfold shapesL
        rw [List.map_map]
        rfl
end
/-! ### the few -/
def presStep (s : Int × (Int → Int)) (e : Int) : Int × (Int → Int) := if 0 < e then (e, fun k => if k = e then s.1 else s.2 k) else (s.2 (0 - e), s.2)
def presS (row : List Int) : Int × (Int → Int) := row.foldl presStep (0, fun _ => 0)
def presL (row : List Int) : Int := (presS row).1
theorem pres_snoc (row : List Int) (e : Int) : presS (row ++ [e]) = presStep (presS row) e := by
  unfold presS
  rw [List.foldl_append]
  rfl
def rowB (row : List Int) : Bool := (List.range row.length).all fun i => match row[i]? with
  | some e => decide (0 < e) || decide (0 - e ∈ (row.take i).filter fun x => decide (0 < x))
  | none => true
theorem rowB_ok {row : List Int} (h : rowB row = true) {i : Nat} {e : Int} (he : row[i]? = some e) (h0 : ¬ 0 < e) : 0 - e ∈ (row.take i).filter fun x => decide (0 < x) := by
  have hl := (List.getElem?_eq_some_iff.mp he).1
  have z := List.all_eq_true.mp h i (List.mem_range.mpr hl)
  rw [he] at z
  rw [Bool.or_eq_true, decide_eq_true_eq, decide_eq_true_eq] at z
  exact z.elim (fun y => absurd y h0) id
/-- the dict of what each patch saved -/
def Saved (kvs : List (Key × V)) (l : List Int) (sv : Int → Int) : Prop := ∀ k ∈ l, 0 < k → valV kvs (Sum.inl k) = some (.int (sv k))
theorem putK_le (kvs : List (Key × V)) (k : Key) (v : V) : (putK kvs k v).length ≤ kvs.length + 1 := by
  unfold putK
  split <;> simp
section
variable {P : Program} {w : World} {K : PySem.W.Frag} {mg : Str → Option Value} {base : Heap}
/-! ### _law_present -/
def spPres (K : PySem.W.Frag) : Sp := fun vs H Q _ => ∃ (a : Addr) (row : List Int), vs = [.ref a] ∧ SqL K H a (row.map V.int) ∧ row.length ≤ 200 ∧ rowB row = true ∧ ∀ H', Same H H' → Q (.int (presL row)) H'
theorem ok_law_present {f : Addr} {fd : FuncData} (F : Fun K "_law_present" "_law_present" s_law_present f fd) : FnG P w K mg base CX0 1 f fd ["row"] (spPres K) := by
  refine okG F sc_law_present (fun vs H Q E h => ?_) (fun cdv A outer s H vs Q E hG hr h => ?_)
  · obtain ⟨a, row, rfl, _⟩ := h
    rfl
  · obtain ⟨a, row, rfl, hS, hl, hB, q⟩ := h
    have hu := hu_of hr
    refine ⟨_, (pss_cons (ps_par (i := 1) (j := 2) (by rfl) sc_law_present.nd rfl rfl (by decide) rfl rfl (pa_cons pe_int (pa_cons pe_dnewK pa_nil)) (by rfl))
        (pss_cons (ps_for PassesOwn.never rfl (pi_list (pv 0)) (pg_name (i := 3) sc_law_present.nd rfl (Or.inl rfl))
          (pss_one (ps_if (pt_cmpR op_gt (pv 3) pe_int (nomark _)) (pss_cons (ps_dput hu (pv 2) (pv 3) (pv 1) rfl)
            (pss_one (ps_set (i := 1) sc_law_present.nd rfl (Or.inl rfl) (pv 3)))) (pss_one (ps_set (i := 1) sc_law_present.nd rfl (Or.inl rfl) (pe_dget hu (pv 2) (pe_op op_sub pe_int (pv 3)) (fun _ _ => rfl)))))))
        (pss_one (ps_ret (pv 1))))), ?_⟩
    refine fun d nd => ⟨_, _, rfl, ?_⟩
    refine ⟨_, rfl, a, rfl, ⟨_, (same_new nd).seq hS⟩, for_list (xs := row.map V.int) (fun i σ H' => ∃ (y : Option V) (pr : Int) (kvs : List (Key × V)), σ = [some (.ref a), some (.int pr), some (.ref d), y] ∧ Same H H' ∧ H' d = some (.dK kvs) ∧ kvs.length ≤ i ∧ pr = (presS (row.take i)).1 ∧ Saved kvs (row.take i) (presS (row.take i)).2) ⟨_, _, [], rfl, same_new nd, upd_same, Nat.zero_le _, rfl, fun k hk => by simp at hk⟩ (fun i σ H' _ h => ?_) (fun i x σ H' hx h => ?_) (fun σ H' h => ?_)⟩
    · obtain ⟨_, _, _, _, sm, _⟩ := h
      exact sm.seq hS
    · obtain ⟨e, rfl, he⟩ := get_int hx
      obtain ⟨y, pr, kvs, rfl, sm, hd, hk, rfl, sv⟩ := h
      have hi := lt_get he
      have es := take_snoc he
      have nd' : H d = none := nd
      by_cases h0 : 0 < e
      · have eP : presS (row.take (i + 1)) = (e, fun k => if k = e then (presS (row.take i)).1 else (presS (row.take i)).2 k) := by
          rw [es, pres_snoc]
          unfold presStep
          rw [if_pos h0]
        refine ⟨_, rfl, _, _, rfl, rfl, true, dT h0, ?_⟩
        refine ⟨_, rfl, _, rfl, _, rfl, d, _, rfl, DPut.k (k := Sum.inl e) hd (zl (by omega)), ?_⟩
        refine ⟨_, rfl, _, _, putK kvs (Sum.inl e) (.int (presS (row.take i)).1), rfl, Lp.Same.mut sm nd, upd_same, Nat.le_trans (putK_le _ _ _) (Nat.succ_le_succ hk), by rw [eP], ?_⟩
        rw [eP]
        intro k hk h1
        rw [valV_put]
        dsimp only
        by_cases z : k = e
        · rw [if_pos (by rw [z]), if_pos z]
        · rw [if_neg (fun q => z (Sum.inl.inj q)), if_neg z]
          rw [es] at hk
          exact sv k ((List.mem_append.mp hk).resolve_right fun y => z (List.mem_singleton.mp y)) h1
      · have hpre := rowB_ok hB he h0
        obtain ⟨m1, m2⟩ := List.mem_filter.mp hpre
        have m3 := of_decide_eq_true m2
        have eP : presS (row.take (i + 1)) = ((presS (row.take i)).2 (0 - e), (presS (row.take i)).2) := by
          rw [es, pres_snoc]
          unfold presStep
          rw [if_neg h0]
        have g : DGet H' d (.int (0 - e)) (some (.int ((presS (row.take i)).2 (0 - e)))) := by
          have z := DGet.k (k := Sum.inl (0 - e)) hd
          rw [sv _ m1 m3] at z
          exact z
        refine ⟨_, rfl, _, _, rfl, rfl, false, dF h0, ?_⟩
        refine ⟨_, rfl, _, rfl, _, _, rfl, rfl, d, _, rfl, g, _, _, kvs, rfl, sm, hd, by omega, by rw [eP], ?_⟩
        rw [eP]
        intro k hk h1
        rw [es] at hk
        exact sv k ((List.mem_append.mp hk).resolve_right fun y => h0 (List.mem_singleton.mp y ▸ h1)) h1
    · obtain ⟨y, pr, kvs, rfl, sm, hd, hk, rfl, sv⟩ := h
      rw [List.length_map, List.take_length]
      exact ⟨_, rfl, q _ sm⟩
end
end L64
set_option Elab.async false
set_option linter.all false
set_option maxRecDepth 100000
namespace L64
open PySem PySem.Spec PyProof.Rows L2 Lp
/-! ### the numbering of originals, as it is done -/
/-- what became of the original value: none lost, some 0 present, some k saved by k -/
abbrev Sv := Option Int
def svV : Sv → V
  | none => .non
  | some k => .int k
def svN (s : Sv) (e : Int) : Sv := if s = some 0 then (if 0 < e then some e else none) else if s = some (-e) then some 0 else s
def fateW (s : Sv) : Str := match s with
  | none => "lost"
  | some k => if 0 < k then "saved" else "present"
def psPut (present behind : List Nat) : Nat → List Nat
  | 0 => [0]
  | r + 1 => psPut present behind r ++ [present.getD r 0 + r * (psPut present behind r).getD r 0 + behind.getD (r + 1) 0]
def psP (u : Nat) (behind : List Nat) : List Nat := if u = 0 then behind.set 0 1 else behind
def psS (u : Nat) (behind : List Nat) : List Nat := psPut (psP u behind) behind ((psP u behind).length - 1)
def psB (n : Nat) : Nat → List Nat
  | 0 => List.replicate (n + 1) 0
  | u + 1 => (psS u (psB n u)).drop 1
theorem psPut_len (p b : List Nat) : ∀ r, (psPut p b r).length = r + 1
  | 0 => rfl
  | r + 1 => by
    show (psPut p b r ++ [_]).length = _
    rw [List.length_append, psPut_len p b r]
    rfl
theorem psP_len (u : Nat) (b : List Nat) : (psP u b).length = b.length := by
  unfold psP
  split
  · exact List.length_set
  · rfl
theorem psB_len (n : Nat) : ∀ u, u ≤ n → (psB n u).length = n - u + 1
  | 0, _ => List.length_replicate
  | u + 1, h => by
    show ((psS u (psB n u)).drop 1).length = _
    unfold psS
    rw [List.length_drop, psPut_len, psP_len, psB_len n u (by omega)]
    omega
theorem psS_len (n u : Nat) (h : u ≤ n) : (psS u (psB n u)).length = n - u + 1 := by
  unfold psS
  rw [psPut_len, psP_len, psB_len n u h]
  omega
def wayN (n : Nat) (s : Sv) (u r : Nat) : Nat := match s with
  | none => 0
  | some k => if 0 < k then (psS u (psB n u)).getD r 0 else (psP u (psB n u)).getD r 0
structure Bg where
  so : List Int
  run : List Int
  un : List Int
  sv : Sv
def wb (n : Nat) (g : Bg) (e : Int) : Nat := if 0 < e then wayN n (svN g.sv e) (g.un.length - 1) (g.run.length + 1) else wayN n (svN g.sv e) g.un.length (g.run.length - 1)
def fol (g : Bg) : List Int := (g.run.reverse.map fun x => -x) ++ g.un.take 1
def goB (b : Bg) (e : Int) : Bg := if 0 < e then ⟨b.so ++ [e], b.run ++ [e], b.un.eraseIdx (b.un.idxOf e), svN b.sv e⟩ else ⟨b.so ++ [e], b.run.eraseIdx (b.run.idxOf (-e)), b.un, svN b.sv e⟩
structure Bok (n : Nat) (b : Bg) : Prop where
  le : b.run.length + b.un.length ≤ n
  rp : ∀ x ∈ b.run, 1 ≤ x ∧ x ≤ 100
  up : ∀ x ∈ b.un, 1 ≤ x ∧ x ≤ 100
  sp : ∀ k, b.sv = some k → 0 ≤ k
theorem fol_mem {g : Bg} {e : Int} (h : e ∈ fol g) : (∃ x ∈ g.run, e = -x) ∨ (e ∈ g.un ∧ g.un.head? = some e) := by
  rcases List.mem_append.mp h with h | h
  · obtain ⟨x, hx, rfl⟩ := List.mem_map.mp h
    exact .inl ⟨x, List.mem_reverse.mp hx, rfl⟩
  · cases hu : g.un with
    | nil => rw [hu] at h; simp at h
    | cons u r =>
      rw [hu] at h
      have : e = u := by simpa using h
      subst this
      exact .inr ⟨List.mem_cons_self, rfl⟩
theorem Bok.pos {n : Nat} {b : Bg} {e : Int} (h : Bok n b) (he : e ∈ fol b) : (0 < e ∧ e ∈ b.un ∧ 1 ≤ b.un.length) ∨ (e < 0 ∧ -e ∈ b.run ∧ 1 ≤ b.run.length) := by
  rcases fol_mem he with ⟨x, hx, rfl⟩ | ⟨hu, _⟩
  · have := h.rp x hx
    exact .inr ⟨by omega, by rw [Int.neg_neg]; exact hx, List.length_pos_of_mem hx⟩
  · have := h.up e hu
    exact .inl ⟨by omega, hu, List.length_pos_of_mem hu⟩
theorem Bok.rng {n : Nat} {b : Bg} {e : Int} (h : Bok n b) (he : e ∈ fol b) : -100 ≤ e ∧ e ≤ 100 := by
  rcases fol_mem he with ⟨x, hx, rfl⟩ | ⟨hu, _⟩
  · have := h.rp x hx
    omega
  · have := h.up e hu
    omega
theorem svN_pos {s : Sv} (h : ∀ k, s = some k → 0 ≤ k) {e : Int} : ∀ k, svN s e = some k → 0 ≤ k := fun k hk => by
  unfold svN at hk
  split at hk
  · split at hk
    · cases hk; omega
    · exact nomatch hk
  · split at hk
    · cases hk; decide
    · exact h k hk
theorem Bok.go {n : Nat} {b : Bg} {e : Int} (h : Bok n b) (he : e ∈ fol b) : Bok n (goB b e) := by
  unfold goB
  rcases h.pos he with ⟨h0, hm, hl⟩ | ⟨h0, hm, hl⟩
  · rw [if_pos h0]
    refine ⟨?_, fun x hx => ?_, fun x hx => h.up x (List.mem_of_mem_eraseIdx hx), svN_pos h.sp⟩
    · show (b.run ++ [e]).length + (b.un.eraseIdx (b.un.idxOf e)).length ≤ n
      rw [List.length_append, List.length_singleton, List.length_eraseIdx_of_lt (List.idxOf_lt_length_of_mem hm)]
      have := h.le
      omega
    · rcases List.mem_append.mp hx with hx | hx
      · exact h.rp x hx
      · rw [List.mem_singleton] at hx
        rw [hx]
        exact h.up e hm
  · rw [if_neg (by omega)]
    refine ⟨?_, fun x hx => h.rp x (List.mem_of_mem_eraseIdx hx), h.up, svN_pos h.sp⟩
    show (b.run.eraseIdx (b.run.idxOf (-e))).length + b.un.length ≤ n
    rw [List.length_eraseIdx_of_lt (List.idxOf_lt_length_of_mem hm)]
    have := h.le
    omega
end L64
set_option Elab.async false
set_option linter.all false
set_option maxRecDepth 100000
namespace L64
open PySem PySem.Spec PyProof.Rows L2 Lp
/-! ### the object -/
def rowN (n : Nat) (s : Sv) (u : Nat) : List Nat := match s with
  | none => List.replicate (n - u + 1) 0
  | some k => if 0 < k then psS u (psB n u) else psP u (psB n u)
theorem rowN_len (n : Nat) (s : Sv) (u : Nat) (h : u ≤ n) : (rowN n s u).length = n - u + 1 := by
  unfold rowN
  split
  · exact List.length_replicate
  · split
    · exact psS_len n u h
    · rw [psP_len, psB_len n u h]
theorem rowN_get {n : Nat} {s : Sv} {u r : Nat} (h : r + u ≤ n) : ((rowN n s u).map fun k : Nat => V.int (k : Int))[r]? = some (.int ((wayN n s u r : Nat) : Int)) := by
  have hl := rowN_len n s u (by omega)
  rw [List.getElem?_map, List.getElem?_eq_getElem (by omega)]
  have e : wayN n s u r = (rowN n s u).getD r 0 := by
    unfold wayN rowN
    cases s with
    | none =>
      show 0 = (List.replicate _ 0).getD r 0
      rw [List.getD_eq_getElem?_getD, List.getElem?_replicate]
      split <;> rfl
    | some k =>
      show (if 0 < k then _ else _) = (if 0 < k then _ else _ : List Nat).getD r 0
      split <;> rfl
  rw [e, List.getD_eq_getElem?_getD, List.getElem?_eq_getElem (by omega)]
  rfl
def fB (a b c : Addr) (s : V) (d : Addr) : List (Str × V) := [("so_far", .ref a), ("running", .ref b), ("unstarted", .ref c), ("saver", s), ("ways", .ref d)]
def TabAt (H : Hp) (r : Addr) (n : Nat) (s : Sv) : Prop := ∃ ls : List Addr, H r = some (.lst (ls.map V.ref)) ∧ ls.length = n + 1 ∧ ∀ (u : Nat) (l : Addr), ls[u]? = some l → H l = some (.lst ((rowN n s u).map fun k : Nat => V.int (k : Int)))
theorem TabAt.same {H H' : Hp} {r : Addr} {n : Nat} {s : Sv} (w : TabAt H r n s) (sm : Same H H') : TabAt H' r n s := by
  obtain ⟨ls, h1, h2, h3⟩ := w
  exact ⟨ls, sm _ _ h1, h2, fun u l e => sm _ _ (h3 u l e)⟩
def WaysAt (H : Hp) (d : Addr) (n : Nat) : Prop := ∃ rp rs rl : Addr, H d = some (.dK [(Sum.inr "present", .ref rp), (Sum.inr "saved", .ref rs), (Sum.inr "lost", .ref rl)]) ∧ TabAt H rp n (some 0) ∧ TabAt H rs n (some 1) ∧ TabAt H rl n none
theorem WaysAt.same {H H' : Hp} {d : Addr} {n : Nat} (w : WaysAt H d n) (s : Same H H') : WaysAt H' d n := by
  obtain ⟨rp, rs, rl, h1, h2, h3, h4⟩ := w
  exact ⟨rp, rs, rl, s _ _ h1, h2.same s, h3.same s, h4.same s⟩
theorem WaysAt.get {H : Hp} {d : Addr} {n : Nat} (w : WaysAt H d n) (s : Sv) : ∃ r, DGet H d (.str (fateW s)) (some (.ref r)) ∧ TabAt H r n s := by
  obtain ⟨rp, rs, rl, h1, h2, h3, h4⟩ := w
  have dg := fun z : Str => DGet.k (k := Sum.inr z) h1
  cases s with
  | none => exact ⟨rl, dg "lost", h4⟩
  | some k =>
    by_cases h0 : 0 < k
    · refine ⟨rs, ?_, ?_⟩
      · have e : fateW (some k) = "saved" := if_pos h0
        rw [e]
        exact dg "saved"
      · have e : ∀ u, rowN n (some k) u = rowN n (some 1) u := fun u => by
          show (if 0 < k then psS u (psB n u) else psP u (psB n u)) = (if (0 : Int) < 1 then psS u (psB n u) else psP u (psB n u))
          rw [if_pos h0, if_pos (by decide)]
        obtain ⟨ls, a, b, c⟩ := h3
        exact ⟨ls, a, b, fun u l el => by rw [e]; exact c u l el⟩
    · refine ⟨rp, ?_, ?_⟩
      · have e : fateW (some k) = "present" := if_neg h0
        rw [e]
        exact dg "present"
      · have e : ∀ u, rowN n (some k) u = rowN n (some 0) u := fun u => by
          show (if 0 < k then psS u (psB n u) else psP u (psB n u)) = (if (0 : Int) < 0 then psS u (psB n u) else psP u (psB n u))
          rw [if_neg h0, if_neg (by decide)]
        obtain ⟨ls, a, b, c⟩ := h2
        exact ⟨ls, a, b, fun u l el => by rw [e]; exact c u l el⟩
structure Bat (CB : Addr) (H0 H : Hp) (x dx a b c d : Addr) (n : Nat) (g : Bg) : Prop where
  hx : H x = some (.ins CB dx (fB a b c (svV g.sv) d))
  ha : H a = some (.lst (g.so.map V.int))
  hb : H b = some (.lst (g.run.map V.int))
  hc : H c = some (.lst (g.un.map V.int))
  sm : Same H0 H
  hw : WaysAt H0 d n
  fx : H0 x = none
  fa : H0 a = none
  fb : H0 b = none
  fc : H0 c = none
  ab : a ≠ b
  ac : a ≠ c
  bc : b ≠ c
  ok : Bok n g
theorem Bat.same {CB : Addr} {H0 H H' : Hp} {x dx a b c d : Addr} {n : Nat} {g : Bg} (B : Bat CB H0 H x dx a b c d n g) (sm : Same H H') : Bat CB H0 H' x dx a b c d n g :=
  ⟨sm _ _ B.hx, sm _ _ B.ha, sm _ _ B.hb, sm _ _ B.hc, B.sm.trans sm, B.hw, B.fx, B.fa, B.fb, B.fc, B.ab, B.ac, B.bc, B.ok⟩
structure Txt (K : PySem.W.Frag) (CB : Addr) : Prop where
  cB : Cls K CB
  n0 : NoAttr K CB "so_far"
  n1 : NoAttr K CB "running"
  n2 : NoAttr K CB "unstarted"
  n3 : NoAttr K CB "saver"
  n4 : NoAttr K CB "ways"
section
variable {P : Program} {w : World} {K : PySem.W.Frag} {mg : Str → Option Value} {base : Heap} {CB : Addr}
def spFate : Sp := fun vs H Q _ => ∃ s : Sv, vs = [svV s] ∧ Q (.str (fateW s)) H
theorem ok_fate_word {f : Addr} {fd : FuncData} (F : Fun K "_fate_word" "_fate_word" s_fate_word f fd) : FnOk P w K mg base CX0 1 f fd ["saver"] spFate := by
  refine F.ok sc_fate_word (fun vs H Q E h => ?_) (fun cdv A outer s H vs Q E hr h => ?_)
  · obtain ⟨s, rfl, _⟩ := h
    rfl
  · obtain ⟨s, rfl, q⟩ := h
    refine ⟨_, (pss_cons (ps_if (pt_cmpR op_isN (pv 0) pe_non (nomark _)) (pss_one (ps_ret pe_str)) pss_nil)
        (pss_one (ps_ret (pe_ifExp (pt_cmpR op_gt (pv 0) pe_int (nomark _)) pe_str pe_str)))), ?_⟩
    cases s with
    | none => exact ⟨_, rfl, rfl, true, dT rfl, q⟩
    | some k =>
      refine ⟨_, rfl, rfl, false, dF (fun z => nomatch z), ?_⟩
      by_cases h0 : 0 < k
      · have e : fateW (some k) = "saved" := if_pos h0
        rw [e] at q
        exact ⟨_, rfl, _, _, rfl, rfl, true, dT h0, q⟩
      · have e : fateW (some k) = "present" := if_neg h0
        rw [e] at q
        exact ⟨_, rfl, _, _, rfl, rfl, false, dF h0, q⟩
def spSaver (CB : Addr) : Sp := fun vs H Q _ => ∃ (H0 : Hp) (x dx a b c d : Addr) (n : Nat) (g : Bg) (e : Int), vs = [.ref x, .int e] ∧ Bat CB H0 H x dx a b c d n g ∧ Q (svV (svN g.sv e)) H
theorem sv_scal (s : Sv) (i : Int) : scal (svV s) (.int i) = true := by
  cases s <;> rfl
theorem svV_int {s : Sv} {i : Int} : svV s = .int i ↔ s = some i := by
  cases s with
  | none => exact ⟨(fun h => nomatch h), (fun h => nomatch h)⟩
  | some k =>
    constructor
    · intro h
      cases h
      rfl
    · intro h
      cases h
      rfl
theorem lB0 (a b c d : Addr) (s : V) : (fB a b c s d).lookup ("so_far" : Str) = some (.ref a) := by rfl
theorem lB1 (a b c d : Addr) (s : V) : (fB a b c s d).lookup ("running" : Str) = some (.ref b) := by rfl
theorem lB2 (a b c d : Addr) (s : V) : (fB a b c s d).lookup ("unstarted" : Str) = some (.ref c) := by rfl
theorem lB3 (a b c d : Addr) (s : V) : (fB a b c s d).lookup ("saver" : Str) = some s := by rfl
theorem lB4 (a b c d : Addr) (s : V) : (fB a b c s d).lookup ("ways" : Str) = some (.ref d) := by rfl
theorem lBs (a b c d : Addr) (s : V) : (fB a b c s d).lookup ("saver_behind" : Str) = none := by rfl
theorem ok_Beginning_saver_behind {f : Addr} {fd : FuncData} (F : Fun K "saver_behind" "Beginning.saver_behind" s_Beginning_saver_behind f fd) (T : Txt K CB) : FnOk P w K mg base CX0 1 f fd ["self", "event"] (spSaver CB) := by
  refine F.ok sc_Beginning_saver_behind (fun vs H Q E h => ?_) (fun cdv A outer s H vs Q E hr h => ?_)
  · obtain ⟨H0, x, dx, a, b, c, d, n, g, e, rfl, _⟩ := h
    rfl
  · obtain ⟨H0, x, dx, a, b, c, d, n, g, e, rfl, B, q⟩ := h
    refine ⟨_, (pss_cons (ps_if (pt_cmpR op_eq (pe_fld (pv 0) rfl) pe_int (nomark _)) (pss_one (ps_ret (pe_ifExp (pt_cmpR op_gt (pv 1) pe_int (nomark _)) (pv 1) pe_non))) pss_nil)
        (pss_one (ps_ret (pe_ifExp (pt_cmpR op_eq (pe_fld (pv 0) rfl) (pe_un un_neg (pv 1)) (nomark _)) pe_int (pe_fld (pv 0) rfl))))), ?_⟩
    unfold svN at q
    by_cases h0 : g.sv = some 0
    · rw [if_pos h0] at q
      refine ⟨_, rfl, x, CB, dx, _, _, rfl, B.hx, T.cB, T.n3, lB3 .., ?_⟩
      refine ⟨sv_scal _ _, true, dT (svV_int.mpr h0), ?_⟩
      by_cases he : 0 < e
      · rw [if_pos he] at q
        exact ⟨_, rfl, _, _, rfl, rfl, true, dT he, _, rfl, q⟩
      · rw [if_neg he] at q
        exact ⟨_, rfl, _, _, rfl, rfl, false, dF he, q⟩
    · rw [if_neg h0] at q
      refine ⟨_, rfl, x, CB, dx, _, _, rfl, B.hx, T.cB, T.n3, lB3 .., ?_⟩
      refine ⟨sv_scal _ _, false, dF (fun z => h0 (svV_int.mp z)), ?_⟩
      refine ⟨_, rfl, x, CB, dx, _, _, rfl, B.hx, T.cB, T.n3, lB3 .., _, rfl, e, rfl, ?_⟩
      by_cases he : g.sv = some (-e)
      · rw [if_pos he] at q
        exact ⟨sv_scal _ _, true, dT (svV_int.mpr he), q⟩
      · rw [if_neg he] at q
        exact ⟨sv_scal _ _, false, dF (fun z => he (svV_int.mp z)), _, rfl, x, CB, dx, _, _, rfl, B.hx, T.cB, T.n3, lB3 .., q⟩
def spWaysB (CB : Addr) : Sp := fun vs H Q _ => ∃ (H0 : Hp) (x dx a b c d : Addr) (n : Nat) (g : Bg) (e : Int), vs = [.ref x, .int e] ∧ Bat CB H0 H x dx a b c d n g ∧ n ≤ 100 ∧ e ∈ fol g ∧ Q (.int ((wb n g e : Nat) : Int)) H
theorem ok_Beginning_ways_behind {f : Addr} {fd : FuncData} (F : Fun K "ways_behind" "Beginning.ways_behind" s_Beginning_ways_behind f fd) (B : NoB mg) (T : Txt K CB) (T_fate_word : Cal P w K mg base 1 "_fate_word" spFate) (T_Beginning_saver_behind : Met P w K mg base 1 CB "saver_behind" (spSaver CB)) : FnOk P w K mg base CX0 2 f fd ["self", "event"] (spWaysB CB) := by
  refine F.ok sc_Beginning_ways_behind (fun vs H Q E h => ?_) (fun cdv A outer s H vs Q E hr h => ?_)
  · obtain ⟨H0, x, dx, a, b, c, d, n, g, e, rfl, _⟩ := h
    rfl
  · obtain ⟨H0, x, dx, a, b, c, d, n, g, e, rfl, Z, hn, he, q⟩ := h
    have hu := hu_of hr
    refine ⟨_, (pss_cons (ps_set (i := 2) sc_Beginning_ways_behind.nd rfl (Or.inl rfl) (pe_dget hu (pe_fld (pv 0) rfl) (pe_c T_fate_word hr (by decide) (by rfl) (pa_cons (pe_mt T_Beginning_saver_behind hr (by decide) (pv 0) (pa_cons (pv 1) pa_nil)) pa_nil)) (fun _ _ => rfl)))
        (pss_cons (ps_if (pt_cmpR op_gt (pv 1) pe_int (nomark _)) (pss_one (ps_ret (pe_ix ix_list (pe_ix ix_list (pv 2) (pe_op op_sub (pe_callB call_len_seq (by rfl) B.len PySem.boot_len (pa_cons (pe_fld (pv 0) rfl) pa_nil)) pe_int) (fun _ _ => rfl)) (pe_op op_add (pe_callB call_len_seq (by rfl) B.len PySem.boot_len (pa_cons (pe_fld (pv 0) rfl) pa_nil)) pe_int) (fun _ _ => rfl)))) pss_nil)
        (pss_one (ps_ret (pe_ix ix_list (pe_ix ix_list (pv 2) (pe_callB call_len_seq (by rfl) B.len PySem.boot_len (pa_cons (pe_fld (pv 0) rfl) pa_nil)) (fun _ _ => rfl)) (pe_op op_sub (pe_callB call_len_seq (by rfl) B.len PySem.boot_len (pa_cons (pe_fld (pv 0) rfl) pa_nil)) pe_int) (fun _ _ => rfl)))))), ?_⟩
    obtain ⟨r, hg, ls, h2, h3, h4⟩ := (Z.hw.same Z.sm).get (svN g.sv e)
    refine ⟨_, rfl, x, CB, dx, _, _, rfl, Z.hx, T.cB, T.n4, lB4 .., _, rfl, x, dx, _, rfl, Z.hx, lBs .., _, rfl, H0, x, dx, a, b, c, d, n, g, e, rfl, Z, svN g.sv e, rfl, d, .ref r, rfl, hg, ?_⟩
    have hle := Z.ok.le
    rcases Z.ok.pos he with ⟨h0, hm, hl⟩ | ⟨h0, hm, hl⟩
    · refine ⟨_, rfl, _, _, rfl, rfl, true, dT h0, ?_⟩
      obtain ⟨l, el⟩ : ∃ l, ls[g.un.length - 1]? = some l := ⟨_, List.getElem?_eq_getElem (by omega)⟩
      have hat : (ls.map V.ref)[g.un.length - 1]? = some (.ref l) := by rw [List.getElem?_map, el]; rfl
      have e1 : (((g.un.map V.int).length : Nat) : Int) - 1 = ((g.un.length - 1 : Nat) : Int) := by rw [List.length_map]; omega
      have e2 : (((g.run.map V.int).length : Nat) : Int) + 1 = ((g.run.length + 1 : Nat) : Int) := by rw [List.length_map]; omega
      refine ⟨_, rfl, _, rfl, x, CB, dx, _, _, rfl, Z.hx, T.cB, T.n2, lB2 .., c, _, rfl, .inl (.of Z.hc), _, _, rfl, rfl, r, _, _, _, rfl, rfl, .of h2, (by rw [e1]; exact atI_nat hat), ?_⟩
      refine ⟨_, rfl, x, CB, dx, _, _, rfl, Z.hx, T.cB, T.n1, lB1 .., b, _, rfl, .inl (.of Z.hb), _, _, rfl, rfl, l, _, _, _, rfl, rfl, .of (h4 _ _ el), (by rw [e2]; exact atI_nat (rowN_get (by omega))), ?_⟩
      have ew : wb n g e = wayN n (svN g.sv e) (g.un.length - 1) (g.run.length + 1) := if_pos h0
      rw [← ew]
      exact q
    · refine ⟨_, rfl, _, _, rfl, rfl, false, dF (by omega), ?_⟩
      obtain ⟨l, el⟩ : ∃ l, ls[g.un.length]? = some l := ⟨_, List.getElem?_eq_getElem (by omega)⟩
      have hat : (ls.map V.ref)[g.un.length]? = some (.ref l) := by rw [List.getElem?_map, el]; rfl
      have e2 : (((g.run.map V.int).length : Nat) : Int) - 1 = ((g.run.length - 1 : Nat) : Int) := by rw [List.length_map]; omega
      refine ⟨_, rfl, _, rfl, x, CB, dx, _, _, rfl, Z.hx, T.cB, T.n2, lB2 .., c, _, rfl, .inl (.of Z.hc), r, _, _, _, rfl, rfl, .of h2, (by rw [List.length_map]; exact atI_nat hat), ?_⟩
      refine ⟨_, rfl, x, CB, dx, _, _, rfl, Z.hx, T.cB, T.n1, lB1 .., b, _, rfl, .inl (.of Z.hb), _, _, rfl, rfl, l, _, _, _, rfl, rfl, .of (h4 _ _ el), (by rw [e2]; exact atI_nat (rowN_get (by omega))), ?_⟩
      have ew : wb n g e = wayN n (svN g.sv e) g.un.length (g.run.length - 1) := if_neg (by omega)
      rw [← ew]
      exact q
end
end L64
set_option Elab.async false
set_option linter.all false
set_option maxRecDepth 100000
namespace L64
open PySem PySem.Spec PyProof.Rows L2 Lp
def Oth (x a b c : Addr) (H H' : Hp) : Prop := ∀ y o, y ≠ x → y ≠ a → y ≠ b → y ≠ c → H y = some o → H' y = some o
theorem idx_first {l : List Int} {e : Int} (h : e ∈ l) : l[l.idxOf e]? = some e ∧ ∀ m : Nat, m < l.idxOf e → l[m]? ≠ some e := by
  have hl := List.idxOf_lt_length_of_mem h
  refine ⟨by rw [List.getElem?_eq_getElem hl, List.getElem_idxOf], fun m hm z => ?_⟩
  have := List.not_of_lt_findIdx (p := fun x => x == e) (xs := l) (i := m) hm
  rw [List.getElem?_eq_getElem (by omega)] at z
  have ez := Option.some.inj z
  rw [ez] at this
  simp at this
theorem fB_saver (a b c d : Addr) (s t : V) : putF "saver" t (fB a b c s d) = fB a b c t d := by rfl
section
variable {P : Program} {w : World} {K : PySem.W.Frag} {mg : Str → Option Value} {base : Heap} {CB : Addr}
def spFol (CB : Addr) : Sp := fun vs H Q _ => ∃ (H0 : Hp) (x dx a b c d : Addr) (n : Nat) (g : Bg), vs = [.ref x] ∧ Bat CB H0 H x dx a b c d n g ∧ n ≤ 100 ∧ ∀ H' p, Same H H' → H p = none → H' p = some (.lst ((fol g).map V.int)) → Q (.ref p) H'
theorem ok_Beginning_following {f : Addr} {fd : FuncData} (F : Fun K "following" "Beginning.following" s_Beginning_following f fd) (T : Txt K CB) (T_z_reversed : mg "reversed" = none) : FnOk P w K mg base CX0 1 f fd ["self"] (spFol CB) := by
  refine F.ok sc_Beginning_following (fun vs H Q E h => ?_) (fun cdv A outer s H vs Q E hr h => ?_)
  · obtain ⟨H0, x, dx, a, b, c, d, n, g, rfl, _⟩ := h
    rfl
  · obtain ⟨H0, x, dx, a, b, c, d, n, g, rfl, Z, hn, q⟩ := h
    refine ⟨_, (pss_one (ps_ret (pe_op op_cat (pe_lc (own := [("patch", 1)]) (g := gName 1) (tt := tYes) rfl sc_Beginning_following.nd (RT.pi_revA (by rfl) T_z_reversed (pe_fld (pv 0) rfl)) (blkOk_by (own := [("patch", 1)]) (N := N_Beginning_following) (sc := defScope s_Beginning_following) (by decide +kernel)) (fun _ _ _ _ _ => (pg_name (i := 1) sc_Beginning_following.nd rfl (Or.inl rfl))) (fun _ _ _ _ _ => pts_nil) (fun _ _ _ _ _ => (pe_un un_neg (pv 1)))) (pe_slice sl_list (pe_fld (pv 0) rfl) po_none (po_some pe_int))))), ?_⟩
    have hle := Z.ok.le
    refine ⟨_, rfl, x, CB, dx, _, _, rfl, Z.hx, T.cB, T.n1, lB1 .., b, _, rfl, .inl ⟨.of Z.hb, fun D nD => lc_it (walk_rev (xs := g.run.map V.int)) (LcP H D fun i => ((g.run.reverse.take i).map fun k => V.int (-k))) (.init nD rfl) (fun i H' _ p => p.2.1.seq (.of Z.hb)) (fun i x H' H2 hi p hy => ?_) (fun H' p => ?_)⟩⟩
    · obtain ⟨e1, hx⟩ := hy
      subst e1
      rw [List.length_map] at hx
      obtain ⟨k, rfl, hk⟩ := get_int hx
      have hi' : i < g.run.length := by rw [List.length_map] at hi; exact hi
      have hk2 : g.run.reverse[i]? = some k := by
        rw [List.getElem?_reverse hi', hk]
      refine ⟨rfl, ?_⟩
      refine ⟨_, rfl, k, rfl, p.put (Same.refl _) ?_ (by rw [List.length_map, List.length_take, List.length_reverse]; omega)⟩
      show ((g.run.reverse.take (i + 1)).map fun k => V.int (-k)) = _
      rw [take_get hk2, List.map_append]
      rfl
    · obtain ⟨_, s1, hD⟩ := p
      dsimp only at hD
      have eR : ((g.run.reverse.take (g.run.map V.int).length).map fun k => V.int (-k)) = (g.run.reverse.map fun x => -x).map V.int := by
        rw [List.length_map, List.take_of_length_le (by rw [List.length_reverse]; exact Nat.le_refl _), List.map_map]
        rfl
      rw [eR] at hD
      refine ⟨_, rfl, x, CB, dx, _, _, rfl, s1 _ _ Z.hx, T.cB, T.n2, lB2 .., 1, rfl, c, _, rfl, .of (s1 _ _ Z.hc), fun p np => ?_⟩
      have ecut : cutV (g.un.map V.int) none (some 1) = (g.un.take 1).map V.int := by
        unfold cutV
        have e1 : HT.sIx (g.un.map V.int).length (g.un.map V.int).length (some 1) = min 1 (g.un.map V.int).length := by
          show (if (1 : Int) < 0 then ((1 : Int) + (((g.un.map V.int).length : Nat) : Int)).toNat else min (1 : Int).toNat (g.un.map V.int).length) = _
          rw [if_neg (by decide)]
          rfl
        rw [HT.sIx_none, e1, List.drop_zero, Nat.sub_zero, ← List.take_eq_take_min, List.map_take]
      rw [ecut]
      have s2 := s1.trans (same_new (o := .lst ((g.un.take 1).map V.int)) np)
      refine ⟨D, p, _, _, rfl, rfl, same_new np _ _ hD, upd_same, ?_, fun z nz => ?_⟩
      · rw [List.length_map, List.length_map, List.length_map, List.length_take, List.length_reverse]
        exact zs (by omega)
      · refine q _ z (s2.trans (same_new nz)) (s2.free nz) ?_
        rw [upd_same]
        unfold fol
        rw [List.map_append]
def spGo (CB : Addr) : Sp := fun vs H Q _ => ∃ (H0 : Hp) (x dx a b c d : Addr) (n : Nat) (g : Bg) (e : Int), vs = [.ref x, .int e] ∧ Bat CB H0 H x dx a b c d n g ∧ n ≤ 100 ∧ g.so.length ≤ 1000 ∧ e ∈ fol g ∧ ∀ H', Bat CB H0 H' x dx a b c d n (goB g e) → Oth x a b c H H' → Q .non H'
theorem ok_Beginning_go_on {f : Addr} {fd : FuncData} (F : Fun K "go_on" "Beginning.go_on" s_Beginning_go_on f fd) (T : Txt K CB) (T_Beginning_saver_behind : Met P w K mg base 1 CB "saver_behind" (spSaver CB)) : FnOk P w K mg base CX0 2 f fd ["self", "event"] (spGo CB) := by
  refine F.ok sc_Beginning_go_on (fun vs H Q E h => ?_) (fun cdv A outer s H vs Q E hr h => ?_)
  · obtain ⟨H0, x, dx, a, b, c, d, n, g, e, rfl, _⟩ := h
    rfl
  · obtain ⟨H0, x, dx, a, b, c, d, n, g, e, rfl, Z, hn, hso, he, q⟩ := h
    refine ⟨_, (pss_cons (ps_fld (pv 0) (pe_mt T_Beginning_saver_behind hr (by decide) (pv 0) (pa_cons (pv 1) pa_nil)) rfl)
        (pss_cons (ps_expr (pe_bm PySem.F.plainAttrs_list PySem.F.slot_list_append PySem.F.type_list_append mt_append (pe_fld (pv 0) rfl) (pa_cons (pv 1) pa_nil)))
        (pss_one (ps_if (pt_cmpR op_gt (pv 1) pe_int (nomark _)) (pss_cons (ps_expr (pe_bm PySem.F.plainAttrs_list PySem.F.slot_list_remove PySem.F.type_list_remove mt_remove (pe_fld (pv 0) rfl) (pa_cons (pv 1) pa_nil)))
          (pss_one (ps_expr (pe_bm PySem.F.plainAttrs_list PySem.F.slot_list_append PySem.F.type_list_append mt_append (pe_fld (pv 0) rfl) (pa_cons (pv 1) pa_nil))))) (pss_one (ps_expr (pe_bm PySem.F.plainAttrs_list PySem.F.slot_list_remove PySem.F.type_list_remove mt_remove (pe_fld (pv 0) rfl) (pa_cons (pe_un un_neg (pv 1)) pa_nil)))))))), ?_⟩
    have xa : a ≠ x := fun z => by have := Z.ha; rw [z, Z.hx] at this; cases this
    have xb : b ≠ x := fun z => by have := Z.hb; rw [z, Z.hx] at this; cases this
    have xc : c ≠ x := fun z => by have := Z.hc; rw [z, Z.hx] at this; cases this
    have hle := Z.ok.le
    refine ⟨_, rfl, x, dx, _, rfl, Z.hx, lBs .., _, rfl, H0, x, dx, a, b, c, d, n, g, e, rfl, Z, ?_⟩
    generalize ev : svV (svN g.sv e) = v
    refine ⟨_, rfl, x, CB, dx, _, rfl, Z.hx, T.cB, T.n3, (by show 5 < 1000; decide), ?_⟩
    rw [fB_saver]
    have hx1 : (upd H x (.ins CB dx (fB a b c v d))) x = some (.ins CB dx (fB a b c v d)) := upd_same
    have ha1 : (upd H x (.ins CB dx (fB a b c v d))) a = some (.lst (g.so.map V.int)) := by rw [upd_ne xa]; exact Z.ha
    have hb1 : (upd H x (.ins CB dx (fB a b c v d))) b = some (.lst (g.run.map V.int)) := by rw [upd_ne xb]; exact Z.hb
    have hc1 : (upd H x (.ins CB dx (fB a b c v d))) c = some (.lst (g.un.map V.int)) := by rw [upd_ne xc]; exact Z.hc
    have ot1 : Oth x a b c H (upd H x (.ins CB dx (fB a b c v d))) := fun y o y1 _ _ _ e => by rw [upd_ne y1]; exact e
    generalize upd H x (.ins CB dx (fB a b c v d)) = H1 at hx1 ha1 hb1 hc1 ot1 ⊢
    refine ⟨_, rfl, x, CB, dx, _, _, rfl, hx1, T.cB, T.n0, lB0 .., .inl ⟨rfl, _, .of ha1⟩, _, rfl, a, _, _, rfl, rfl, ha1, by rw [List.length_map]; exact zl (by omega), ?_⟩
    have ha2 : (upd H1 a (.lst (g.so.map V.int ++ [.int e]))) a = some (.lst ((g.so ++ [e]).map V.int)) := by rw [upd_same, List.map_append]; rfl
    have hx2 : (upd H1 a (.lst (g.so.map V.int ++ [.int e]))) x = some (.ins CB dx (fB a b c v d)) := by rw [upd_ne xa.symm]; exact hx1
    have hb2 : (upd H1 a (.lst (g.so.map V.int ++ [.int e]))) b = some (.lst (g.run.map V.int)) := by rw [upd_ne Z.ab.symm]; exact hb1
    have hc2 : (upd H1 a (.lst (g.so.map V.int ++ [.int e]))) c = some (.lst (g.un.map V.int)) := by rw [upd_ne Z.ac.symm]; exact hc1
    have ot2 : Oth x a b c H (upd H1 a (.lst (g.so.map V.int ++ [.int e]))) := fun y o y1 y2 y3 y4 e => by rw [upd_ne y2]; exact ot1 y o y1 y2 y3 y4 e
    generalize upd H1 a (.lst (g.so.map V.int ++ [.int e])) = H2 at hx2 ha2 hb2 hc2 ot2 ⊢
    have wk : ∀ H', Oth x a b c H H' → Same H0 H' := fun H' ot y o e => ot y o (ne_of_none e Z.fx) (ne_of_none e Z.fa) (ne_of_none e Z.fb) (ne_of_none e Z.fc) (Z.sm y o e)
    have okg := Z.ok.go he
    rcases Z.ok.pos he with ⟨h0, hm, hl⟩ | ⟨h0, hm, hl⟩
    · have eg : goB g e = ⟨g.so ++ [e], g.run ++ [e], g.un.eraseIdx (g.un.idxOf e), svN g.sv e⟩ := if_pos h0
      obtain ⟨i1, i2⟩ := idx_first hm
      refine ⟨_, rfl, _, _, rfl, rfl, true, dT h0, ?_⟩
      refine ⟨_, rfl, x, CB, dx, _, _, rfl, hx2, T.cB, T.n2, lB2 .., .inl ⟨rfl, _, .of hc2⟩, _, rfl, c, g.un, e, g.un.idxOf e, rfl, rfl, hc2, i1, i2, ?_⟩
      have hb3 : (upd H2 c (.lst ((g.un.eraseIdx (g.un.idxOf e)).map V.int))) b = some (.lst (g.run.map V.int)) := by rw [upd_ne Z.bc]; exact hb2
      have hx3 : (upd H2 c (.lst ((g.un.eraseIdx (g.un.idxOf e)).map V.int))) x = some (.ins CB dx (fB a b c v d)) := by rw [upd_ne xc.symm]; exact hx2
      refine ⟨_, rfl, x, CB, dx, _, _, rfl, hx3, T.cB, T.n1, lB1 .., .inl ⟨rfl, _, .of hb3⟩, _, rfl, b, _, _, rfl, rfl, hb3, by rw [List.length_map]; exact zl (by omega), ?_⟩
      have ot4 : Oth x a b c H (upd (upd H2 c (.lst ((g.un.eraseIdx (g.un.idxOf e)).map V.int))) b (.lst (g.run.map V.int ++ [.int e]))) := fun y o y1 y2 y3 y4 e => by rw [upd_ne y3, upd_ne y4]; exact ot2 y o y1 y2 y3 y4 e
      refine q _ ?_ ot4
      rw [eg] at okg ⊢
      refine ⟨?_, ?_, ?_, ?_, wk _ ot4, Z.hw, Z.fx, Z.fa, Z.fb, Z.fc, Z.ab, Z.ac, Z.bc, okg⟩
      · rw [upd_ne xb.symm, upd_ne xc.symm, ev]; exact hx2
      · rw [upd_ne Z.ab, upd_ne Z.ac]; exact ha2
      · rw [upd_same]
        show _ = some (HO.lst ((g.run ++ [e]).map V.int))
        rw [List.map_append]
        rfl
      · rw [upd_ne Z.bc.symm, upd_same]
    · have eg : goB g e = ⟨g.so ++ [e], g.run.eraseIdx (g.run.idxOf (-e)), g.un, svN g.sv e⟩ := if_neg (by omega)
      obtain ⟨i1, i2⟩ := idx_first hm
      refine ⟨_, rfl, _, _, rfl, rfl, false, dF (by omega), ?_⟩
      refine ⟨_, rfl, x, CB, dx, _, _, rfl, hx2, T.cB, T.n1, lB1 .., .inl ⟨rfl, _, .of hb2⟩, _, rfl, e, rfl, b, g.run, -e, g.run.idxOf (-e), rfl, rfl, hb2, i1, i2, ?_⟩
      have ot4 : Oth x a b c H (upd H2 b (.lst ((g.run.eraseIdx (g.run.idxOf (-e))).map V.int))) := fun y o y1 y2 y3 y4 e => by rw [upd_ne y3]; exact ot2 y o y1 y2 y3 y4 e
      refine q _ ?_ ot4
      rw [eg] at okg ⊢
      refine ⟨?_, ?_, ?_, ?_, wk _ ot4, Z.hw, Z.fx, Z.fa, Z.fb, Z.fc, Z.ab, Z.ac, Z.bc, okg⟩
      · rw [upd_ne xb.symm, ev]; exact hx2
      · rw [upd_ne Z.ab]; exact ha2
      · rw [upd_same]
      · rw [upd_ne Z.bc.symm]; exact hc2
def spInit (CB : Addr) : Sp := fun vs H Q _ => ∃ (x dx d : Addr) (n : Nat), vs = [.ref x, .int (n : Int), .ref d] ∧ n ≤ 100 ∧ H x = some (.ins CB dx []) ∧
  ∀ (H' : Hp) (a b c : Addr), H' x = some (.ins CB dx (fB a b c (.int 0) d)) → H' a = some (.lst []) → H' b = some (.lst []) → H' c = some (.lst ((upL n).map V.int)) → a ≠ b → a ≠ c → b ≠ c → H a = none → H b = none → H c = none → (∀ y o, y ≠ x → H y = some o → H' y = some o) → Q .non H'
theorem ok_Beginning_init {f : Addr} {fd : FuncData} (F : Fun K "__init__" "Beginning.__init__" s_Beginning_init f fd) (B : NoB mg) (T : Txt K CB) : FnOk P w K mg base CX0 1 f fd ["self", "patches", "ways"] (spInit CB) := by
  refine F.ok sc_Beginning_init (fun vs H Q E h => ?_) (fun cdv A outer s H vs Q E hr h => ?_)
  · obtain ⟨x, dx, d, n, rfl, _⟩ := h
    rfl
  · obtain ⟨x, dx, d, n, rfl, hn, hx, q⟩ := h
    refine ⟨_, (pss_cons (ps_fld (pv 0) (pe_lst pa_nil) rfl)
        (pss_cons (ps_fld (pv 0) (pe_lst pa_nil) rfl)
        (pss_cons (ps_fld (pv 0) (pe_listRg rfl (by rfl) B.list (prg_2 (by rfl) B.range pe_int (pe_op op_add (pv 1) pe_int))) rfl)
        (pss_cons (ps_fld (pv 0) pe_int rfl)
        (pss_one (ps_fld (pv 0) (pv 2) rfl)))))), ?_⟩
    refine ⟨Nat.zero_le _, fun a na => ⟨_, rfl, x, CB, dx, _, rfl, same_new na _ _ hx, T.cB, T.n0, (by show 0 < 1000; decide), ?_⟩⟩
    have xa : a ≠ x := (ne_of_none hx na).symm
    refine ⟨Nat.zero_le _, fun b nb => ?_⟩
    have ab : a ≠ b := fun z => by
      rw [← z, upd_ne xa, upd_same] at nb
      cases nb
    have xb : b ≠ x := fun z => by
      rw [z, upd_same] at nb
      cases nb
    refine ⟨_, rfl, x, CB, dx, _, rfl, (by rw [upd_ne xb.symm]; exact upd_same), T.cB, T.n1, (by show 1 < 1000; decide), ?_⟩
    refine ⟨_, rfl, _, _, rfl, rfl, _, _, rfl, rfl, RgOk.of_le (by decide) (by omega) (by decide) (by omega), fun c nc => ?_⟩
    have xc : c ≠ x := fun z => by
      rw [z, upd_same] at nc
      cases nc
    have bc : b ≠ c := fun z => by
      rw [← z, upd_ne xb, upd_same] at nc
      cases nc
    have ac : a ≠ c := fun z => by
      rw [← z, upd_ne xa, upd_ne ab, upd_ne xa, upd_same] at nc
      cases nc
    refine ⟨_, rfl, x, CB, dx, _, rfl, (by rw [upd_ne xc.symm]; exact upd_same), T.cB, T.n2, (by show 2 < 1000; decide), ?_⟩
    refine ⟨_, rfl, x, CB, dx, _, rfl, upd_same, T.cB, T.n3, (by show 3 < 1000; decide), ?_⟩
    refine ⟨_, rfl, _, rfl, x, CB, dx, _, rfl, upd_same, T.cB, T.n4, (by show 4 < 1000; decide), ?_⟩
    have nb0 : H b = none := by
      rw [upd_ne xb, upd_ne ab.symm] at nb
      exact nb
    have nc0 : H c = none := by
      rw [upd_ne xc, upd_ne bc.symm, upd_ne xc, upd_ne ac.symm] at nc
      exact nc
    refine q _ a b c (by rw [upd_same]; rfl) ?_ ?_ ?_ ab ac bc na nb0 nc0 fun y o hy e => ?_
    · rw [upd_ne xa, upd_ne xa, upd_ne xa, upd_ne ac, upd_ne xa, upd_ne ab, upd_ne xa, upd_same]
    · rw [upd_ne xb, upd_ne xb, upd_ne xb, upd_ne bc, upd_ne xb, upd_same]
    · rw [upd_ne xc, upd_ne xc, upd_ne xc, upd_same, rgV_up]
      have e : ((n : Int) + 1 - 1).toNat = n := by omega
      rw [e]
    · rw [upd_ne hy, upd_ne hy, upd_ne hy, upd_ne (ne_of_none e nc0), upd_ne hy, upd_ne (ne_of_none e nb0), upd_ne hy, upd_ne (ne_of_none e na)]
      exact e
end
end L64
set_option Elab.async false
set_option linter.all false
set_option maxRecDepth 100000
namespace L64
open PySem PySem.Spec PyProof.Rows L2 Lp
abbrev nV (l : List Nat) : List V := l.map fun k : Nat => V.int (k : Int)
theorem nV_get {l : List Nat} {r : Nat} (h : r < l.length) : (nV l)[r]? = some (.int ((l.getD r 0 : Nat) : Int)) := by
  rw [List.getElem?_map, List.getD_eq_getElem?_getD, List.getElem?_eq_getElem h]
  rfl
theorem psPut_small : ∀ n : Fin 6, ∀ u : Fin 7, ∀ r : Fin 7, (psPut (psP u.val (psB n.val u.val)) (psB n.val u.val) r.val).getD r.val 0 < 2 ^ 20 := by decide +kernel
/-- rows that are made -/
def Rws (H : Hp) (r r1 r2 : Addr) (row : Nat → List Nat) (m : Nat) : Prop := ∃ ls : List Addr, H r = some (.lst (ls.map V.ref)) ∧ ls.length = m ∧ ∀ (u : Nat) (l : Addr), ls[u]? = some l → H l = some (.lst (nV (row u))) ∧ l ≠ r1 ∧ l ≠ r2
theorem Rws.keep {H H' : Hp} {r r1 r2 : Addr} {row : Nat → List Nat} {m : Nat} (h : Rws H r r1 r2 row m) (k : ∀ y o, H y = some o → H' y = some o) : Rws H' r r1 r2 row m := by
  obtain ⟨ls, a, b, c⟩ := h
  exact ⟨ls, k _ _ a, b, fun u l e => ⟨k _ _ (c u l e).1, (c u l e).2⟩⟩
section
variable {P : Program} {w : World} {K : PySem.W.Frag} {mg : Str → Option Value} {base : Heap} {CB : Addr}
def spRowsL : Sp := fun vs H Q _ => ∃ n : Nat, vs = [.int (n : Int)] ∧ n ≤ 5 ∧ ∀ (H' : Hp) (t rp rs : Addr), Same H H' → H' t = some (.tup [.ref rp, .ref rs]) → H rp = none → H rs = none → TabAt H' rp n (some 0) → TabAt H' rs n (some 1) → Q (.ref t) H'
set_option maxHeartbeats 2000000 in
theorem ok_rows_that_leave {f : Addr} {fd : FuncData} (F : Fun K "_rows_that_leave" "_rows_that_leave" s_rows_that_leave f fd) (B : NoB mg) : FnG P w K mg base CX0 1 f fd ["patches"] spRowsL := by
  refine okG F sc_rows_that_leave (fun vs H Q E h => ?_) (fun cdv A outer s H vs Q E hG hr h => ?_)
  · obtain ⟨n, rfl, _⟩ := h
    rfl
  · obtain ⟨n, rfl, hn, q⟩ := h
    refine ⟨_, (pss_cons (ps_par (i := 1) (j := 2) (by rfl) sc_rows_that_leave.nd rfl rfl (by decide) rfl rfl (pa_cons (pe_lst pa_nil) (pa_cons (pe_lst pa_nil) pa_nil)) (by rfl))
        (pss_cons (ps_set (i := 3) sc_rows_that_leave.nd rfl (Or.inl rfl) (pe_op op_rep (pe_lst (pa_cons pe_int pa_nil)) (pe_op op_add (pv 0) pe_int)))
        (pss_cons (ps_for PassesOwn.never rfl (pi_range1 rfl B.range (pa_cons (pe_op op_add (pv 0) pe_int) pa_nil)) (pg_name (i := 4) sc_rows_that_leave.nd rfl (Or.inl rfl))
          (pss_cons (ps_set (i := 5) sc_rows_that_leave.nd rfl (Or.inl rfl) (pe_callTy call_list_of (by rfl) B.list (by decide +kernel) (pa_cons (pv 3) pa_nil)))
          (Evl.pss_cut (ps_if (pt_cmpR op_eq (pv 4) pe_int (nomark _)) (pss_one (ps_asg pe_int (pg_sub (pv 5) pe_int set_list))) pss_nil)
          (pss_cons (ps_set (i := 6) sc_rows_that_leave.nd rfl (Or.inl rfl) (pe_lst (pa_cons pe_int pa_nil)))
          (pss_cons (ps_for PassesOwn.never rfl (pi_range2 rfl B.range (pa_cons pe_int (pa_cons (pe_callB call_len_seq (by rfl) B.len PySem.boot_len (pa_cons (pv 5) pa_nil)) pa_nil))) (pg_name (i := 7) sc_rows_that_leave.nd rfl (Or.inl rfl))
            (pss_cons (ps_set (i := 8) sc_rows_that_leave.nd rfl (Or.inl rfl) (pe_op op_add (pe_ix ix_list (pv 5) (pe_op op_sub (pv 7) pe_int) (fun _ _ => rfl)) (pe_op op_mulW (pe_op op_sub (pv 7) pe_int) (pe_ix ix_list (pv 6) (pe_op op_sub (pv 7) pe_int) (fun _ _ => rfl)))))
            (pss_one (ps_expr (pe_bm PySem.F.plainAttrs_list PySem.F.slot_list_append PySem.F.type_list_append mt_append (pv 6) (pa_cons (pe_op op_add (pv 8) (pe_ix ix_list (pv 3) (pv 7) (fun _ _ => rfl))) pa_nil))))))
          (pss_cons (ps_expr (pe_bm PySem.F.plainAttrs_list PySem.F.slot_list_append PySem.F.type_list_append mt_append (pv 1) (pa_cons (pv 5) pa_nil)))
          (pss_cons (ps_expr (pe_bm PySem.F.plainAttrs_list PySem.F.slot_list_append PySem.F.type_list_append mt_append (pv 2) (pa_cons (pv 6) pa_nil)))
          (pss_one (ps_set (i := 3) sc_rows_that_leave.nd rfl (Or.inl rfl) (pe_slice sl_list (pv 6) (po_some pe_int) po_none))))))))))
        (pss_one (ps_ret (pe_tup (pa_cons (pv 1) (pa_cons (pv 2) pa_nil)))))))), ?_⟩
    refine ⟨Nat.zero_le _, fun rp nrp => ⟨Nat.zero_le _, fun rs nrs => ⟨_, _, rfl, ?_⟩⟩⟩
    have prs : rs ≠ rp := fun z => by
      rw [z, upd_same] at nrs
      cases nrs
    have nrs0 : H rs = none := by rw [upd_ne prs] at nrs; exact nrs
    have s1 : Same H (upd (upd H rp (.lst [])) rs (.lst [])) := (same_new nrp).trans (same_new nrs)
    have hrp1 : (upd (upd H rp (.lst [])) rs (.lst [])) rp = some (.lst []) := by rw [upd_ne prs.symm, upd_same]
    have hrs1 : (upd (upd H rp (.lst [])) rs (.lst [])) rs = some (.lst []) := upd_same
    generalize upd (upd H rp (.lst [])) rs (.lst []) = H1 at s1 hrp1 hrs1 ⊢
    refine ⟨by show 1 ≤ sizeLine; decide, fun z nz => ⟨_, rfl, _, _, rfl, rfl, z, _, [.int 0], rfl, rfl, upd_same, by omega, by omega, by show 1 * _ ≤ sizeLine; exact zs (by omega), fun bs nbs => ?_⟩⟩
    have e0 : (List.replicate ((n : Int) + 1).toNat [V.int 0]).flatten = nV (psB n 0) := by
      rw [List.flatten_replicate_singleton, show ((n : Int) + 1).toNat = n + 1 by omega]
      show _ = (List.replicate (n + 1) 0).map _
      rw [List.map_replicate]
      rfl
    rw [e0]
    have s2 : Same H1 (upd (upd H1 z (.lst [.int 0])) bs (.lst (nV (psB n 0)))) := (same_new nz).trans (same_new nbs)
    have hbs2 : (upd (upd H1 z (.lst [.int 0])) bs (.lst (nV (psB n 0)))) bs = some (.lst (nV (psB n 0))) := upd_same
    have nbs1 : H1 bs = none := by
      cases h : H1 bs with
      | none => rfl
      | some o =>
        have := same_new (o := .lst [.int 0]) nz _ _ h
        rw [nbs] at this
        cases this
    have bsp : bs ≠ rp := (ne_of_none hrp1 nbs1).symm
    have bss : bs ≠ rs := (ne_of_none hrs1 nbs1).symm
    generalize upd (upd H1 z (.lst [.int 0])) bs (.lst (nV (psB n 0))) = H2 at s2 hbs2 ⊢
    refine ⟨_, rfl, _, _, rfl, rfl, (n : Int) + 1, rfl, by omega, by omega, ?_⟩
    rw [show ((n : Int) + 1).toNat = n + 1 by omega]
    refine for_range (lo := 0) (n := n + 1) (fun u σ H' => ∃ (bs : Addr) (y4 y5 y6 y7 y8 : Option V), σ = [some (.int (n : Int)), some (.ref rp), some (.ref rs), some (.ref bs), y4, y5, y6, y7, y8] ∧ Same H H' ∧ Rws H' rp rp rs (fun u => psP u (psB n u)) u ∧ Rws H' rs rp rs (fun u => psS u (psB n u)) u ∧ H' bs = some (.lst (nV (psB n u))) ∧ bs ≠ rp ∧ bs ≠ rs)
      ⟨bs, _, _, _, _, _, rfl, s1.trans s2, ⟨[], s2 _ _ hrp1, rfl, fun u l e => by simp at e⟩, ⟨[], s2 _ _ hrs1, rfl, fun u l e => by simp at e⟩, hbs2, bsp, bss⟩ (fun u σ H' hu h => ?_) (fun σ H' h => ?_)
    · obtain ⟨bs, y4, y5, y6, y7, y8, rfl, sm, rwp, rws, hbs, bp, bq⟩ := h
      have lB := psB_len n u (by omega)
      refine ⟨_, rfl, bs, _, rfl, .inl (.of hbs), fun pr npr => ?_⟩
      have t1 := same_new (o := .lst (nV (psB n u))) npr
      have hpr := upd_same (H := H') (a := pr) (o := .lst (nV (psB n u)))
      have pp : pr ≠ rp := by
        obtain ⟨ls, a, _⟩ := rwp
        exact (ne_of_none a npr).symm
      have pq : pr ≠ rs := by
        obtain ⟨ls, a, _⟩ := rws
        exact (ne_of_none a npr).symm
      have pb : pr ≠ bs := (ne_of_none hbs npr).symm
      generalize upd H' pr (.lst (nV (psB n u))) = G1 at t1 hpr ⊢
      refine ⟨fun σ H2 => σ = [some (.int (n : Int)), some (.ref rp), some (.ref rs), some (.ref bs), some (.int (0 + (u : Int))), some (.ref pr), y6, y7, y8] ∧ H2 pr = some (.lst (nV (psP u (psB n u)))) ∧ ∀ y o, H' y = some o → H2 y = some o, ?_, fun σ G2 hm => ?_⟩
      · by_cases c : u = 0
        · subst c
          refine ⟨_, rfl, rfl, true, dT rfl, ?_⟩
          refine ⟨_, rfl, pr, _, 0, 0, rfl, rfl, hpr, Evl.ixN_nat (j := 0) (by rw [List.length_map]; omega), rfl, ?_, fun y o e => by rw [upd_ne (ne_of_none e npr)]; exact t1 _ _ e⟩
          rw [upd_same]
          show _ = some (HO.lst (((psB n 0).set 0 1).map _))
          rw [List.map_set]
          rfl
        · refine ⟨_, rfl, rfl, false, dF (fun z => c (by have := V.int.inj z; omega)), rfl, ?_, fun y o e => t1 _ _ e⟩
          have e : psP u (psB n u) = psB n u := if_neg c
          rw [e]
          exact hpr
      · obtain ⟨rfl, hpr2, kp⟩ := hm
        have lP : (psP u (psB n u)).length = n - u + 1 := by rw [psP_len, lB]
        refine ⟨by show 1 ≤ sizeLine; decide, fun sv nsv => ?_⟩
        have t2 := same_new (o := .lst [.int 0]) nsv
        have svp : sv ≠ pr := (ne_of_none hpr2 nsv).symm
        have hbs2 := kp _ _ hbs
        have svb : sv ≠ bs := (ne_of_none hbs2 nsv).symm
        have rwp2 := rwp.keep kp
        have rws2 := rws.keep kp
        have sv1 : sv ≠ rp := by
          obtain ⟨ls, a, _⟩ := rwp2
          exact (ne_of_none a nsv).symm
        have sv2 : sv ≠ rs := by
          obtain ⟨ls, a, _⟩ := rws2
          exact (ne_of_none a nsv).symm
        refine ⟨_, rfl, pr, _, rfl, .inl (.of (t2 _ _ hpr2)), _, _, rfl, ⟨by decide, by decide, by omega, by rw [List.length_map]; omega⟩, ?_⟩
        have er : (((nV (psP u (psB n u))).length : Nat) : Int) - 1 = ((n - u : Nat) : Int) := by rw [List.length_map, lP]; omega
        rw [er, Int.toNat_natCast]
        refine for_range (lo := 1) (n := n - u) (fun r σ H' => ∃ (y7 y8 : Option V), σ = [some (.int (n : Int)), some (.ref rp), some (.ref rs), some (.ref bs), some (.int (0 + (u : Int))), some (.ref pr), some (.ref sv), y7, y8] ∧ H' sv = some (.lst (nV (psPut (psP u (psB n u)) (psB n u) r))) ∧ ∀ y o, y ≠ sv → G2 y = some o → H' y = some o)
          ⟨_, _, rfl, upd_same, fun y o hy e => t2 _ _ e⟩ (fun r σ G3 hr' h => ?_) (fun σ G3 h => ?_)
        · obtain ⟨y7, y8, rfl, hsv, k3⟩ := h
          have hpr3 := k3 _ _ svp.symm hpr2
          have hbs3 := k3 _ _ svb.symm hbs2
          have lsv := psPut_len (psP u (psB n u)) (psB n u) r
          have e1 : (1 + (r : Int)) - 1 = (r : Int) := by omega
          have sm20 : (psPut (psP u (psB n u)) (psB n u) r).getD r 0 < 2 ^ 20 := psPut_small ⟨n, by omega⟩ ⟨u, by omega⟩ ⟨r, by omega⟩
          refine ⟨_, rfl, _, rfl, _, _, rfl, rfl, pr, _, _, _, rfl, rfl, .of hpr3, (by rw [e1]; exact atI_nat (nV_get (by omega))), ?_⟩
          refine ⟨_, rfl, _, _, rfl, rfl, _, rfl, _, rfl, _, _, rfl, rfl, sv, _, _, _, rfl, rfl, .of hsv, (by rw [e1]; exact atI_nat (nV_get (by omega))), ?_⟩
          refine ⟨_, _, rfl, rfl, wide_mul (a := 20) (b := 20) (by rw [e1]; omega) (by omega) (by decide) (by decide) (by decide), ?_⟩
          refine ⟨_, _, rfl, rfl, ?_⟩
          have e2 : (((psP u (psB n u)).getD r 0 : Nat) : Int) + ((1 + (r : Int)) - 1) * (((psPut (psP u (psB n u)) (psB n u) r).getD r 0 : Nat) : Int) + (((psB n u).getD (1 + r) 0 : Nat) : Int) = (((psP u (psB n u)).getD r 0 + r * (psPut (psP u (psB n u)) (psB n u) r).getD r 0 + (psB n u).getD (r + 1) 0 : Nat) : Int) := by
            rw [e1, Nat.add_comm 1 r]
            push_cast
            rfl
          refine ⟨_, rfl, .inl ⟨rfl, _, .of hsv⟩, _, rfl, _, rfl, _, rfl, bs, _, _, _, rfl, rfl, .of hbs3, (by exact atI_nat (j := 1 + r) (nV_get (by omega))), _, _, rfl, rfl, sv, _, _, rfl, rfl, hsv, by rw [List.length_map, lsv]; exact zl (by omega), ⟨_, _, rfl, ?_, fun y o hy e => by rw [upd_ne hy]; exact k3 y o hy e⟩⟩
          rw [upd_same]
          show some (HO.lst (nV (psPut (psP u (psB n u)) (psB n u) r) ++ [.int ((((psP u (psB n u)).getD r 0 : Nat) : Int) + ((1 + (r : Int)) - 1) * (((psPut (psP u (psB n u)) (psB n u) r).getD r 0 : Nat) : Int) + (((psB n u).getD (1 + r) 0 : Nat) : Int))])) = _
          rw [e2]
          show some (HO.lst (nV (psPut (psP u (psB n u)) (psB n u) r) ++ [.int _])) = some (HO.lst ((psPut (psP u (psB n u)) (psB n u) r ++ [_]).map _))
          rw [List.map_append]
          rfl
        · obtain ⟨y7, y8, rfl, hsv, k3⟩ := h
          have hS : psPut (psP u (psB n u)) (psB n u) (n - u) = psS u (psB n u) := by
            unfold psS
            rw [lP]
            rfl
          rw [hS] at hsv
          have lS := psS_len n u (by omega)
          have k4 : ∀ y o, H' y = some o → G3 y = some o := fun y o e => k3 y o (ne_of_none (kp y o e) nsv) (kp y o e)
          have hpr3 := k3 _ _ svp.symm hpr2
          obtain ⟨lp, a1, a2, a3⟩ := rwp.keep k4
          obtain ⟨lq, b1, b2, b3⟩ := rws.keep k4
          -- present_rows.append(present)
          refine ⟨_, rfl, .inl ⟨rfl, _, .of a1⟩, _, rfl, rp, _, _, rfl, rfl, a1, by rw [List.length_map]; exact zl (by omega), ?_⟩
          have b1' : (upd G3 rp (.lst (lp.map V.ref ++ [.ref pr]))) rs = some (.lst (lq.map V.ref)) := by rw [upd_ne prs]; exact b1
          refine ⟨_, rfl, .inl ⟨rfl, _, .of b1'⟩, _, rfl, rs, _, _, rfl, rfl, b1', by rw [List.length_map]; exact zl (by omega), ?_⟩
          have fin : ∀ y o, y ≠ rp → y ≠ rs → G3 y = some o → (upd (upd G3 rp (.lst (lp.map V.ref ++ [.ref pr]))) rs (.lst (lq.map V.ref ++ [.ref sv]))) y = some o := fun y o h1 h2 e => by rw [upd_ne h2, upd_ne h1]; exact e
          have frp : (upd (upd G3 rp (.lst (lp.map V.ref ++ [.ref pr]))) rs (.lst (lq.map V.ref ++ [.ref sv]))) rp = some (.lst ((lp ++ [pr]).map V.ref)) := by
            rw [upd_ne prs.symm, upd_same, List.map_append]
            rfl
          have frs : (upd (upd G3 rp (.lst (lp.map V.ref ++ [.ref pr]))) rs (.lst (lq.map V.ref ++ [.ref sv]))) rs = some (.lst ((lq ++ [sv]).map V.ref)) := by
            rw [upd_same, List.map_append]
            rfl
          have fsv := fin _ _ sv1 sv2 hsv
          have fpr := fin _ _ pp pq hpr3
          generalize upd (upd G3 rp (.lst (lp.map V.ref ++ [.ref pr]))) rs (.lst (lq.map V.ref ++ [.ref sv])) = G4 at fin frp frs fsv fpr ⊢
          refine ⟨_, rfl, 1, rfl, sv, _, rfl, .of fsv, fun b2' nb2 => ?_⟩
          have t5 := same_new (o := .lst (cutV (nV (psS u (psB n u))) (some 1) none)) nb2
          have ecut : cutV (nV (psS u (psB n u))) (some 1) none = nV (psB n (u + 1)) := by
            unfold cutV
            have e1 : HT.sIx (nV (psS u (psB n u))).length 0 (some 1) = 1 := by
              have z := HT.sIx_nat (nV (psS u (psB n u))).length 0 1
              rw [List.length_map, lS] at z ⊢
              rw [show (some (1 : Int)) = some ((1 : Nat) : Int) from rfl, z]
              omega
            rw [HT.sIx_none, e1, List.take_of_length_le (by rw [List.length_drop]; exact Nat.le_refl _)]
            show (List.map _ (psS u (psB n u))).drop 1 = ((psS u (psB n u)).drop 1).map _
            rw [List.map_drop]
          have smF : Same H G4 := fun y o e => fin y o (ne_of_none e nrp) (ne_of_none e nrs0) (k4 y o (sm y o e))
          refine ⟨b2', _, _, _, _, _, rfl, smF.trans t5, ⟨lp ++ [pr], t5 _ _ frp, by rw [List.length_append, a2]; rfl, fun v l e => ?_⟩, ⟨lq ++ [sv], t5 _ _ frs, by rw [List.length_append, b2]; rfl, fun v l e => ?_⟩, ?_, ?_, ?_⟩
          · rcases Nat.lt_or_ge v u with hv | hv
            · rw [List.getElem?_append_left (by omega)] at e
              obtain ⟨c1, c2, c3⟩ := a3 v l e
              exact ⟨t5 _ _ (fin _ _ c2 c3 c1), c2, c3⟩
            · have jl := lt_get e
              rw [List.length_append] at jl
              have jl' : v < lp.length + 1 := jl
              have ev : v = u := by omega
              subst ev
              rw [List.getElem?_append_right (by omega), a2, Nat.sub_self] at e
              cases e
              exact ⟨t5 _ _ fpr, pp, pq⟩
          · rcases Nat.lt_or_ge v u with hv | hv
            · rw [List.getElem?_append_left (by omega)] at e
              obtain ⟨c1, c2, c3⟩ := b3 v l e
              exact ⟨t5 _ _ (fin _ _ c2 c3 c1), c2, c3⟩
            · have jl := lt_get e
              rw [List.length_append] at jl
              have jl' : v < lq.length + 1 := jl
              have ev : v = u := by omega
              subst ev
              rw [List.getElem?_append_right (by omega), b2, Nat.sub_self] at e
              cases e
              exact ⟨t5 _ _ fsv, sv1, sv2⟩
          · rw [upd_same, ecut]
          · exact (ne_of_none frp nb2).symm
          · exact (ne_of_none frs nb2).symm
    · obtain ⟨bs, y4, y5, y6, y7, y8, rfl, sm, rwp, rws, hbs, bp, bq⟩ := h
      refine ⟨_, rfl, _, rfl, by show 2 ≤ sizeLine; decide, fun t nt => ?_⟩
      have st := same_new (o := .tup [.ref rp, .ref rs]) nt
      obtain ⟨lp, a1, a2, a3⟩ := rwp
      obtain ⟨lq, b1, b2, b3⟩ := rws
      exact q _ t rp rs (sm.trans st) upd_same nrp nrs0 ⟨lp, st _ _ a1, a2, fun u l e => st _ _ (a3 u l e).1⟩ ⟨lq, st _ _ b1, b2, fun u l e => st _ _ (b3 u l e).1⟩
end
end L64
set_option Elab.async false
set_option linter.all false
set_option maxRecDepth 100000
namespace L64
open PySem PySem.Spec PyProof.Rows L2 Lp
section
variable {P : Program} {w : World} {K : PySem.W.Frag} {mg : Str → Option Value} {base : Heap} {CB : Addr}
def spWaysO : Sp := fun vs H Q _ => ∃ n : Nat, vs = [.int (n : Int)] ∧ n ≤ 5 ∧ ∀ (H' : Hp) (d : Addr), Same H H' → H d = none → WaysAt H' d n → Q (.ref d) H'
theorem ok_ways_of_original {f : Addr} {fd : FuncData} (F : Fun K "_ways_of_original" "_ways_of_original" s_ways_of_original f fd) (B : NoB mg) (T_rows_that_leave : Gc P w K mg base 1 "_rows_that_leave" spRowsL) : FnG P w K mg base CX0 2 f fd ["patches"] spWaysO := by
  refine okG F sc_ways_of_original (fun vs H Q E h => ?_) (fun cdv A outer s H vs Q E hG hr h => ?_)
  · obtain ⟨n, rfl, _⟩ := h
    rfl
  · obtain ⟨n, rfl, hn, q⟩ := h
    refine ⟨_, (pss_cons (ps_asg (pe_g T_rows_that_leave hG hr (by decide) (by rfl) (pa_cons (pv 0) pa_nil)) (pg_tup rfl (pgs_cons (pg_name (i := 1) sc_ways_of_original.nd rfl (Or.inl rfl)) (pgs_cons (pg_name (i := 2) sc_ways_of_original.nd rfl (Or.inl rfl)) pgs_nil))))
        (pss_one (ps_ret (pe_disp (pps_cons pe_str (pv 1) (pps_cons pe_str (pv 2) (pps_cons pe_str (pe_lc (own := [("row", 3)]) (g := gName 3) (tt := tYes) rfl sc_ways_of_original.nd (pi_list (pv 2)) (blkOk_by (own := [("row", 3)]) (N := N_ways_of_original) (sc := defScope s_ways_of_original) (by decide +kernel)) (fun _ _ _ _ _ => (pg_name (i := 3) sc_ways_of_original.nd rfl (Or.inl rfl))) (fun _ _ _ _ _ => pts_nil) (fun _ _ _ _ _ => (pe_op op_rep (pe_lst (pa_cons pe_int pa_nil)) (pe_callB (k_len (K := K) rfl) (by rfl) B.len PySem.boot_len (pa_cons (pv 3) pa_nil))))) pps_nil))) (by rfl) (by rfl) (fun z => by cases z) (by decide))))), ?_⟩
    refine ⟨_, rfl, n, rfl, hn, fun H1 t rp rs s1 ht nrp nrs wp ws => ?_⟩
    refine ⟨t, _, rfl, .of ht, rfl, _, _, rfl, _, _, rfl, rfl, ?_⟩
    refine fun d nd => ?_
    have td := same_new (o := .dK []) nd
    have hd := upd_same (H := H1) (a := d) (o := .dK [])
    have nd0 : H d = none := s1.free nd
    generalize upd H1 d (.dK []) = H2 at td hd ⊢
    have wp2 := wp.same td
    have ws2 := ws.same td
    obtain ⟨ls, c1, c2, c3⟩ := id ws2
    refine ⟨_, rfl, _, rfl, _, rfl, rs, rfl, ⟨_, .of c1⟩, fun D nD => lc_list (xs := ls.map V.ref) (fun i H' => Same H2 H' ∧ ∃ zs : List Addr, H' D = some (.lst (zs.map V.ref)) ∧ zs.length = i ∧ ∀ (u : Nat) (l : Addr), zs[u]? = some l → H' l = some (.lst (nV (rowN n none u))) ∧ l ≠ D) ⟨same_new nD, [], upd_same, rfl, fun u l e => by simp at e⟩ (fun i H' _ h => .of (h.1 _ _ c1)) (fun i y H' hy h => ?_) (fun H3 h => ?_)⟩
    · obtain ⟨sm, zs, hD, lz, hz⟩ := h
      rw [List.getElem?_map] at hy
      obtain ⟨l, hl, rfl⟩ := Option.map_eq_some_iff.mp hy
      have il := lt_get hl
      have hrow := sm _ _ (c3 i l hl)
      have lr := rowN_len n (some 1) i (by omega)
      refine ⟨rfl, ?_⟩
      refine ⟨by show 1 ≤ sizeLine; decide, fun z nz => ⟨_, rfl, l, _, rfl, .inl (.of (same_new nz _ _ hrow)), z, _, [.int 0], rfl, rfl, upd_same, by omega, by rw [List.length_map]; omega, by rw [List.length_map]; show 1 * _ ≤ sizeLine; exact Lp.zs (by omega), fun p np => ?_⟩⟩
      have e0 : (List.replicate ((((nV (rowN n (some 1) i)).length : Nat) : Int)).toNat [V.int 0]).flatten = nV (rowN n none i) := by
        rw [List.flatten_replicate_singleton, Int.toNat_natCast, List.length_map, lr]
        show _ = (List.replicate (n - i + 1) 0).map _
        rw [List.map_replicate]
        rfl
      rw [e0]
      have t2 : Same H' _ := (same_new (o := .lst [.int 0]) nz).trans (same_new (o := .lst (nV (rowN n none i))) np)
      have hD2 := t2 _ _ hD
      have hp := upd_same (H := upd H' z (.lst [.int 0])) (a := p) (o := .lst (nV (rowN n none i)))
      have pD : p ≠ D := by
        have := same_new (o := .lst [.int 0]) nz _ _ hD
        exact (ne_of_none this np).symm
      generalize upd (upd H' z (.lst [.int 0])) p (.lst (nV (rowN n none i))) = H4 at t2 hD2 hp ⊢
      refine ⟨_, hD2, by rw [List.length_map]; exact zl (by omega), Lp.Same.mut (sm.trans t2) nD, zs ++ [p], by rw [upd_same, List.map_append]; rfl, by rw [List.length_append, lz]; rfl, fun u l' e => ?_⟩
      rcases Nat.lt_or_ge u i with hu | hu
      · rw [List.getElem?_append_left (by omega)] at e
        obtain ⟨q1, q2⟩ := hz u l' e
        exact ⟨by rw [upd_ne q2]; exact t2 _ _ q1, q2⟩
      · have jl := lt_get e
        rw [List.length_append] at jl
        have jl' : u < zs.length + 1 := jl
        have ev : u = i := by omega
        subst ev
        rw [List.getElem?_append_right (by omega), lz, Nat.sub_self] at e
        cases e
        exact ⟨by rw [upd_ne pD]; exact hp, pD⟩
    · obtain ⟨sm, zs, hD, lz, hz⟩ := h
      rw [List.length_map, c2] at lz
      refine ⟨sm _ _ hd, [(Sum.inr "present", .ref rp), (Sum.inr "saved", .ref rs), (Sum.inr "lost", .ref D)], rfl, by show 3 ≤ 15; decide, ?_⟩
      have eM : mergeK [] [((Sum.inr "present" : Key), V.ref rp), (Sum.inr "saved", .ref rs), (Sum.inr "lost", .ref D)] = [((Sum.inr "present" : Key), V.ref rp), (Sum.inr "saved", .ref rs), (Sum.inr "lost", .ref D)] := by rfl
      rw [eM]
      have hd3 := sm _ _ hd
      have fin : ∀ y o, y ≠ d → H3 y = some o → (upd H3 d (.dK [((Sum.inr "present" : Key), V.ref rp), (Sum.inr "saved", .ref rs), (Sum.inr "lost", .ref D)])) y = some o := fun y o hy e => by rw [upd_ne hy]; exact e
      have tabD : ∀ {r : Addr} {s : Sv}, TabAt H3 r n s → TabAt (upd H3 d (.dK [((Sum.inr "present" : Key), V.ref rp), (Sum.inr "saved", .ref rs), (Sum.inr "lost", .ref D)])) r n s := fun {r s} h => by
        obtain ⟨ls, a, b, c⟩ := h
        have nl : ∀ {y : Addr} {xs : List V}, H3 y = some (.lst xs) → y ≠ d := fun e => ne_of e hd3 (fun z => nomatch z)
        exact ⟨ls, fin _ _ (nl a) a, b, fun u l e => fin _ _ (nl (c u l e)) (c u l e)⟩
      refine q _ d (fun y o e => fin y o (ne_of_none e nd0) (sm _ _ (td _ _ (s1 _ _ e)))) nd0 ⟨rp, rs, D, upd_same, tabD (wp2.same sm), tabD (ws2.same sm), tabD ⟨zs, hD, lz, fun u l e => (hz u l e).1⟩⟩
end
end L64
set_option Elab.async false
set_option linter.all false
set_option maxRecDepth 100000
namespace L64
open PySem PySem.Spec PyProof.Rows L2 Lp
def pick (n : Nat) (g : Bg) : List Int → Nat → Option (Int × Nat)
  | [], _ => none
  | e :: r, ix => if wb n g e ≤ ix then pick n g r (ix - wb n g e) else some (e, ix)
def stepT (n : Nat) (o : Option (Bg × Nat)) : Option (Bg × Nat) := match o with
  | none => none
  | some (b, ix) => match pick n b (fol b) ix with
    | none => none
    | some (e, ix') => some (goB b e, ix')
def bg0 (n : Nat) : Bg := ⟨[], [], upL n, some 0⟩
def runT (n at_ : Nat) : Nat → Option (Bg × Nat)
  | 0 => some (bg0 n, at_)
  | i + 1 => stepT n (runT n at_ i)
theorem runT_some {n a : Nat} {v : Bg × Nat} : ∀ {m i : Nat}, i ≤ m → runT n a m = some v → ∃ u, runT n a i = some u
  | 0, i, h, e => by
    have : i = 0 := by omega
    subst this
    exact ⟨_, e⟩
  | m + 1, i, h, e => by
    by_cases hi : i = m + 1
    · subst hi
      exact ⟨_, e⟩
    · have e2 : stepT n (runT n a m) = some v := e
      cases hm : runT n a m with
      | none =>
        rw [hm] at e2
        cases e2
      | some u => exact runT_some (by omega) hm
theorem pick_mem {n : Nat} {g : Bg} {e : Int} {j : Nat} : ∀ {l : List Int} {ix : Nat}, pick n g l ix = some (e, j) → e ∈ l
  | [], _, h => by cases h
  | x :: r, ix, h => by
    unfold pick at h
    split at h
    · exact List.mem_cons_of_mem _ (pick_mem h)
    · have := Prod.mk.inj (Option.some.inj h)
      rw [this.1]
      exact List.mem_cons_self
theorem bok0 {n : Nat} (hn : n ≤ 100) : Bok n (bg0 n) := ⟨by show 0 + (upL n).length ≤ n; rw [upL_len]; omega, fun x h => absurd h List.not_mem_nil, fun x h => by have := upL_mem h; omega, fun k h => by cases h; decide⟩
section
variable {P : Program} {w : World} {K : PySem.W.Frag} {mg : Str → Option Value} {base : Heap} {CB : Addr}
theorem lBw (a b c d : Addr) (s : V) : (fB a b c s d).lookup ("ways_behind" : Str) = none := by rfl
theorem lBf (a b c d : Addr) (s : V) : (fB a b c s d).lookup ("following" : Str) = none := by rfl
theorem lBg (a b c d : Addr) (s : V) : (fB a b c s d).lookup ("go_on" : Str) = none := by rfl
theorem go_len {g : Bg} {e : Int} : (goB g e).so.length = g.so.length + 1 := by
  unfold goB
  split <;> (show (g.so ++ [e]).length = _; rw [List.length_append]; rfl)
def spNthBy : Sp := fun vs H Q _ => ∃ (n a : Nat) (d : Addr) (g : Bg) (j : Nat), vs = [.int (n : Int), .ref d, .int (a : Int)] ∧ n ≤ 100 ∧ WaysAt H d n ∧ runT n a (2 * n) = some (g, j) ∧ ∀ H' p, Same H H' → H p = none → H' p = some (.lst (g.so.map V.int)) → Q (.ref p) H'
theorem oth_same {H0 H H' : Hp} {x a b c : Addr} (s : Same H0 H) (h : Oth x a b c H H') (fx : H0 x = none) (fa : H0 a = none) (fb : H0 b = none) (fc : H0 c = none) : Same H0 H' := fun y o e => h y o (ne_of_none e fx) (ne_of_none e fa) (ne_of_none e fb) (ne_of_none e fc) (s y o e)
theorem ok_nth_by {f : Addr} {fd : FuncData} (F : Fun K "_nth_by" "_nth_by" s_nth_by f fd) (B : NoB mg) (T_mk_Beginning : Mak P w K mg base 1 "Beginning" CB (spInit CB)) (T_Beginning_following : Met P w K mg base 1 CB "following" (spFol CB)) (T_Beginning_ways_behind : Met P w K mg base 2 CB "ways_behind" (spWaysB CB)) (T_Beginning_go_on : Met P w K mg base 2 CB "go_on" (spGo CB)) (T : Txt K CB) :
    FnG P w K mg base CX0 4 f fd ["patches", "ways", "index"] spNthBy := by
  refine okG F sc_nth_by (fun vs H Q E h => ?_) (fun cdv A outer s H vs Q E hG hr h => ?_)
  · obtain ⟨n, a, d, g, j, rfl, _⟩ := h
    rfl
  · obtain ⟨n, ix0, d, gE, jE, rfl, hn, hw, hrun, q⟩ := h
    refine ⟨_, (pss_cons (ps_set (i := 3) sc_nth_by.nd rfl (Or.inl rfl) (pe_mk T_mk_Beginning hr (by decide) (by rfl) (pa_cons (pv 0) (pa_cons (pv 1) pa_nil))))
        (pss_cons (ps_for PassesOwn.never rfl (pi_range1 rfl B.range (pa_cons (pe_op op_mulW pe_int (pv 0)) pa_nil)) (pg_name (i := 4) sc_nth_by.nd rfl (Or.inl rfl))
          (pss_cons (ps_set (i := 5) sc_nth_by.nd rfl (Or.inl rfl) (pe_mt0 T_Beginning_following hr (by decide) (pv 3)))
          (pss_cons (ps_while PassesOwn.never (pt_cmpR op_ge (pv 2) (pe_mt T_Beginning_ways_behind hr (by decide) (pv 3) (pa_cons (pe_ix ix_list (pv 5) pe_int (fun _ _ => rfl)) pa_nil)) (nomark _)) (pss_one (ps_aug (i := 2) sc_nth_by.nd rfl (Or.inl rfl) (pe_mt T_Beginning_ways_behind hr (by decide) (pv 3) (pa_cons (pe_bm PySem.F.plainAttrs_list PySem.F.slot_list_pop PySem.F.type_list_pop mt_popAt (pv 5) (pa_cons pe_int pa_nil)) pa_nil)) ip_sub)))
          (pss_one (ps_expr (pe_mt T_Beginning_go_on hr (by decide) (pv 3) (pa_cons (pe_ix ix_list (pv 5) pe_int (fun _ _ => rfl)) pa_nil)))))))
        (pss_one (ps_ret (pe_fld (pv 3) rfl))))), ?_⟩
    refine ⟨_, rfl, _, rfl, fun x dx nx ndx nex => ⟨x, dx, d, n, rfl, hn, upd_same, fun H1 a b c h1 h2 h3 h4 ab ac bc na nb nc ot => ⟨rfl, ?_⟩⟩⟩
    have mk : ∀ {y : Addr} {o : HO}, H y = some o → (upd (upd H dx (.own x)) x (.ins CB dx [])) y = some o := fun {y o} e => by rw [upd_ne (ne_of_none e nx), upd_ne (ne_of_none e ndx)]; exact e
    have s1 : Same H H1 := fun y o e => ot y o (ne_of_none e nx) (mk e)
    have fz : ∀ {y : Addr}, (upd (upd H dx (.own x)) x (.ins CB dx [])) y = none → H y = none := fun {y} e => by
      cases h : H y with
      | none => rfl
      | some o =>
        rw [mk h] at e
        cases e
    have Z0 : Bat CB H H1 x dx a b c d n (bg0 n) := ⟨h1, h2, h3, h4, s1, hw, nx, fz na, fz nb, fz nc, ab, ac, bc, bok0 hn⟩
    refine ⟨_, rfl, _, _, rfl, rfl, wide_mul (a := 3) (b := 20) (by decide) (show n < 2 ^ 20 by omega) (by decide) (by decide) (by decide), 2 * (n : Int), rfl, by omega, by omega, ?_⟩
    have e2n : (2 * (n : Int)).toNat = 2 * n := by omega
    rw [e2n]
    refine for_range (lo := 0) (n := 2 * n) (fun i σ H' => ∃ (ix : Nat) (y4 y5 : Option V) (g : Bg), σ = [some (.int (n : Int)), some (.ref d), some (.int (ix : Int)), some (.ref x), y4, y5] ∧ runT n ix0 i = some (g, ix) ∧ g.so.length = i ∧ Bat CB H H' x dx a b c d n g) ⟨ix0, _, _, bg0 n, rfl, rfl, rfl, Z0⟩ (fun i σ H2 hi h => ?_) (fun σ H2 h => ?_)
    · obtain ⟨ix, y4, y5, g, rfl, hR, hso, Z⟩ := h
      obtain ⟨⟨g', ix'⟩, hR1⟩ := runT_some (i := i + 1) (by omega) hrun
      have hst : stepT n (some (g, ix)) = some (g', ix') := by rw [← hR]; exact hR1
      obtain ⟨e, hpk, hg'⟩ : ∃ e, pick n g (fol g) ix = some (e, ix') ∧ g' = goB g e := by
        have h2 : (match pick n g (fol g) ix with
          | none => none
          | some (e, ix') => some (goB g e, ix')) = some (g', ix') := hst
        cases hp : pick n g (fol g) ix with
        | none =>
          rw [hp] at h2
          cases h2
        | some v =>
          obtain ⟨e, k⟩ := v
          rw [hp] at h2
          have h3 : some (goB g e, k) = some (g', ix') := h2
          have h4 := Prod.mk.inj (Option.some.inj h3)
          exact ⟨e, by rw [h4.2], h4.1.symm⟩
      have hem := pick_mem hpk
      refine ⟨_, rfl, x, dx, _, rfl, Z.hx, lBf .., H, x, dx, a, b, c, d, n, g, rfl, Z, hn, fun H3 p s3 np hp => ?_⟩
      have Z3 := Z.same s3
      have hp0 : H p = none := Z.sm.free np
      refine ⟨fun m σ H' => ∃ (evs : List Int) (k : Nat) (y4 : Option V), m = evs.length ∧ σ = [some (.int (n : Int)), some (.ref d), some (.int (k : Int)), some (.ref x), y4, some (.ref p)] ∧ pick n g evs k = some (e, ix') ∧ (∀ z ∈ evs, z ∈ fol g) ∧ Bat CB H H' x dx a b c d n g ∧ H' p = some (.lst (evs.map V.int)), ⟨_, fol g, ix, _, rfl, rfl, hpk, fun z hz => hz, Z3, hp⟩, fun m σ H' hW => ?_⟩
      obtain ⟨evs, k, y4', rfl, rfl, hk, hev, Z4, hp4⟩ := hW
      cases evs with
      | nil => cases hk
      | cons u r =>
        have hu := hev u List.mem_cons_self
        have at0' : atI ((u :: r).map V.int) 0 = some (.int u) := at0
        refine ⟨_, rfl, _, rfl, x, dx, _, rfl, Z4.hx, lBw .., _, rfl, p, _, 0, _, rfl, rfl, .of hp4, at0', H, x, dx, a, b, c, d, n, g, u, rfl, Z4, hn, hu, ?_⟩
        unfold pick at hk
        have pa : p ≠ a := fun z => by rw [z, Z.ha] at np; cases np
        have pb : p ≠ b := fun z => by rw [z, Z.hb] at np; cases np
        have pc : p ≠ c := fun z => by rw [z, Z.hc] at np; cases np
        have px : p ≠ x := fun z => by rw [z, Z.hx] at np; cases np
        by_cases hle : wb n g u ≤ k
        · rw [if_pos hle] at hk
          refine ⟨_, _, rfl, rfl, true, dT (show (k : Int) ≥ ((wb n g u : Nat) : Int) by omega), ?_⟩
          refine ⟨fun σ' H' => ∃ (evs : List Int) (k : Nat) (y4 : Option V), evs.length = r.length ∧ σ' = [some (.int (n : Int)), some (.ref d), some (.int (k : Int)), some (.ref x), y4, some (.ref p)] ∧ pick n g evs k = some (e, ix') ∧ (∀ z ∈ evs, z ∈ fol g) ∧ Bat CB H H' x dx a b c d n g ∧ H' p = some (.lst (evs.map V.int)), fun σ' H' hN => ?_, ?_⟩
          · obtain ⟨evs, k', y, el, h2⟩ := hN
            exact ⟨evs.length, by rw [el]; exact Nat.lt_succ_self _, evs, k', y, rfl, h2⟩
          · have hp5 : (upd H' p (.lst (((u :: r).map V.int).eraseIdx 0))) p = some (.lst (r.map V.int)) := upd_same
            have Z5 : Bat CB H (upd H' p (.lst (((u :: r).map V.int).eraseIdx 0))) x dx a b c d n g := ⟨by rw [upd_ne px.symm]; exact Z4.hx, by rw [upd_ne pa.symm]; exact Z4.ha, by rw [upd_ne pb.symm]; exact Z4.hb, by rw [upd_ne pc.symm]; exact Z4.hc, Lp.Same.mut Z4.sm hp0, Z4.hw, Z4.fx, Z4.fa, Z4.fb, Z4.fc, Z4.ab, Z4.ac, Z4.bc, Z4.ok⟩
            refine ⟨_, rfl, _, rfl, x, dx, _, rfl, Z4.hx, lBw .., _, rfl, .inl ⟨rfl, _, .of hp4⟩, p, _, 0, 0, .int u, rfl, rfl, hp4, by decide, by decide, by rw [List.length_map]; exact ix_at (Nat.succ_pos _), rfl, H, x, dx, a, b, c, d, n, g, u, rfl, Z5, hn, hu, ?_⟩
            refine ⟨_, _, rfl, rfl, r, k - wb n g u, y4', rfl, ?_, hk, fun z hz => hev z (List.mem_cons_of_mem _ hz), Z5, hp5⟩
            have ek : (k : Int) - ((wb n g u : Nat) : Int) = ((k - wb n g u : Nat) : Int) := by omega
            dsimp only
            rw [ek]
            rfl
        · rw [if_neg hle] at hk
          have hk2 := Prod.mk.inj (Option.some.inj hk)
          refine ⟨_, _, rfl, rfl, false, dF (show ¬ (k : Int) ≥ ((wb n g u : Nat) : Int) by omega), ?_⟩
          refine ⟨_, rfl, x, dx, _, rfl, Z4.hx, lBg .., _, rfl, p, _, 0, _, rfl, rfl, .of hp4, at0', H, x, dx, a, b, c, d, n, g, u, rfl, Z4, hn, by omega, hu, fun H6 Z6 _ => ?_⟩
          rw [hk2.1] at Z6
          rw [← hg'] at Z6
          refine ⟨ix', _, _, g', by rw [hk2.2], hR1, ?_, Z6⟩
          rw [hg', go_len, hso]
    · obtain ⟨ix, y4, y5, g, rfl, hR, hso, Z⟩ := h
      rw [hrun] at hR
      have h4 := Prod.mk.inj (Option.some.inj hR)
      refine ⟨_, rfl, x, CB, dx, _, _, rfl, Z.hx, T.cB, T.n0, lB0 .., q _ a Z.sm Z.fa ?_⟩
      rw [h4.1]
      exact Z.ha
end
theorem lex_uniq : ∀ {l m : List (List Int)}, l.Pairwise (fun x y => HT.lexLt x y = true) → m.Pairwise (fun x y => HT.lexLt y x = false) → m.Perm l → m = l
  | [], m, _, _, p => List.Perm.eq_nil p
  | x :: l, [], _, _, p => absurd p.length_eq (by simp)
  | x :: l, y :: m, hl, hm, p => by
    obtain ⟨l1, l2⟩ := List.pairwise_cons.mp hl
    obtain ⟨m1, m2⟩ := List.pairwise_cons.mp hm
    have exy : y = x := by
      rcases List.mem_cons.mp (p.mem_iff.mp List.mem_cons_self) with e | e
      · exact e
      · rcases List.mem_cons.mp (p.mem_iff.mpr List.mem_cons_self) with e' | e'
        · exact e'.symm
        · have a := l1 y e
          have b := m1 x e'
          rw [a] at b
          cases b
    subst exy
    rw [lex_uniq l2 m2 p.cons_inv]
/-! ### the index of a history -/
def rkStep (n : Nat) (b : Bg) (e : Int) : Nat := (((fol b).filter fun o => decide (o < e)).map fun o => wb n b o).sum
def rkP (n : Nat) (p : Bg × Nat) (e : Int) : Bg × Nat := (goB p.1 e, p.2 + rkStep n p.1 e)
def rk (n : Nat) (ns : List Int) : Bg × Nat := ns.foldl (rkP n) (bg0 n, 0)
theorem rk_succ {n : Nat} {ns : List Int} {i : Nat} {e : Int} (h : ns[i]? = some e) : rk n (ns.take (i + 1)) = rkP n (rk n (ns.take i)) e := by
  unfold rk
  rw [take_get h, List.foldl_append]
  rfl
def rkOkB (n : Nat) (ns : List Int) : Bool := (List.range ns.length).all fun i => match ns[i]? with
  | some e => decide (e ∈ fol (rk n (ns.take i)).1)
  | none => true
theorem rkOk_get {n : Nat} {ns : List Int} (h : rkOkB n ns = true) {i : Nat} {e : Int} (he : ns[i]? = some e) : e ∈ fol (rk n (ns.take i)).1 := by
  have z := List.all_eq_true.mp h i (List.mem_range.mpr (lt_get he))
  rw [he] at z
  exact of_decide_eq_true z
theorem sum_cast : ∀ l : List Nat, ((l.sum : Nat) : Int) = (l.map fun k : Nat => (k : Int)).sum
  | [] => rfl
  | x :: r => by
    rw [List.sum_cons, List.map_cons, List.sum_cons, ← sum_cast r]
    omega
theorem fol_len {g : Bg} : (fol g).length ≤ g.run.length + g.un.length := by
  unfold fol
  rw [List.length_append, List.length_map, List.length_reverse, List.length_take]
  omega
section
variable {P : Program} {w : World} {K : PySem.W.Frag} {mg : Str → Option Value} {base : Heap} {CB : Addr}
def spRankBy (K : PySem.W.Frag) : Sp := fun vs H Q _ => ∃ (n : Nat) (h d : Addr) (ns : List Int), vs = [.ref h, .ref d] ∧ n ≤ 100 ∧ SqL K H h (ns.map V.int) ∧ WaysAt H d n ∧ ns.length = 2 * n ∧ rkOkB n ns = true ∧ ∀ H', Same H H' → Q (.int (((rk n ns).2 : Nat) : Int)) H'
theorem ok_rank_by {f : Addr} {fd : FuncData} (F : Fun K "_rank_by" "_rank_by" s_rank_by f fd) (B : NoB mg) (T_z_sum : mg "sum" = none) (T_mk_Beginning : Mak P w K mg base 1 "Beginning" CB (spInit CB)) (T_Beginning_following : Met P w K mg base 1 CB "following" (spFol CB)) (T_Beginning_ways_behind : Met P w K mg base 2 CB "ways_behind" (spWaysB CB)) (T_Beginning_go_on : Met P w K mg base 2 CB "go_on" (spGo CB)) :
    FnG P w K mg base CX0 4 f fd ["history", "ways"] (spRankBy K) := by
  refine okG F sc_rank_by (fun vs H Q E h => ?_) (fun cdv A outer s H vs Q E hG hr h => ?_)
  · obtain ⟨n, a, d, ns, rfl, _⟩ := h
    rfl
  · obtain ⟨n, h, d, ns, rfl, hn, hS, hw, hl, hro, q⟩ := h
    refine ⟨_, (pss_cons (ps_set (i := 2) sc_rank_by.nd rfl (Or.inr rfl) (pe_mk T_mk_Beginning hr (by decide) (by rfl) (pa_cons (pe_op op_fdivW (pe_callB call_len_seq (by rfl) B.len PySem.boot_len (pa_cons (pv 0) pa_nil)) pe_int) (pa_cons (pv 1) pa_nil))))
        (pss_cons (ps_set (i := 3) sc_rank_by.nd rfl (Or.inl rfl) pe_int)
        (pss_cons (ps_for PassesOwn.never rfl (pi_list (pv 0)) (pg_name (i := 4) sc_rank_by.nd rfl (Or.inr rfl))
          (pss_cons (ps_aug (i := 3) sc_rank_by.nd rfl (Or.inl rfl) (pe_callB (cr_sum rfl) (by rfl) T_z_sum (by decide +kernel) (pa_cons (pe_lc (own := [("other", 5)]) (g := gName 5) (tt := _) rfl sc_rank_by.nd (pi_list (pe_mt0 T_Beginning_following hr (by decide) (pv 2))) (blkOk_by (own := [("other", 5)]) (N := N_rank_by) (sc := defScope s_rank_by) (by decide +kernel)) (fun _ _ _ _ _ => (pg_name (i := 5) sc_rank_by.nd rfl (Or.inl rfl))) (fun _ _ _ _ _ => (pts_one (pt_cmpR op_lt (pv 5) (pv 4) (nomark _)))) (fun _ _ _ _ _ => (pe_mt T_Beginning_ways_behind hr (by decide) (pv 2) (pa_cons (pv 5) pa_nil)))) pa_nil)) ip_add)
          (pss_one (ps_expr (pe_mt T_Beginning_go_on hr (by decide) (pv 2) (pa_cons (pv 4) pa_nil))))))
        (pss_one (ps_ret (pv 3)))))), ?_⟩
    have e2 : (((ns.map V.int).length : Nat) : Int) / 2 = (n : Int) := by rw [List.length_map, hl]; omega
    refine ⟨_, rfl, h, _, rfl, .inl hS, _, _, rfl, rfl, wide_div (b := 30) (by decide) (by decide) (by decide) (by decide), _, rfl, fun x dx nx ndx nex => ⟨x, dx, d, n, congrArg (fun z => [V.ref x, V.int z, V.ref d]) e2, hn, upd_same, fun H1 a b c h1 h2 h3 h4 ab ac bc na nb nc ot => ⟨rfl, ?_⟩⟩⟩
    have mk : ∀ {y : Addr} {o : HO}, H y = some o → (upd (upd H dx (.own x)) x (.ins CB dx [])) y = some o := fun {y o} e => by rw [upd_ne (ne_of_none e nx), upd_ne (ne_of_none e ndx)]; exact e
    have s1 : Same H H1 := fun y o e => ot y o (ne_of_none e nx) (mk e)
    have fz : ∀ {y : Addr}, (upd (upd H dx (.own x)) x (.ins CB dx [])) y = none → H y = none := fun {y} e => by
      cases h : H y with
      | none => rfl
      | some o =>
        rw [mk h] at e
        cases e
    have Z0 : Bat CB H H1 x dx a b c d n (bg0 n) := ⟨h1, h2, h3, h4, s1, hw, nx, fz na, fz nb, fz nc, ab, ac, bc, bok0 hn⟩
    refine ⟨_, rfl, h, rfl, ⟨_, s1.seq hS⟩, ?_⟩
    refine for_list (xs := ns.map V.int) (fun i σ H' => ∃ (y4 y5 : Option V), σ = [some (.ref h), some (.ref d), some (.ref x), some (.int (((rk n (ns.take i)).2 : Nat) : Int)), y4, y5] ∧ (rk n (ns.take i)).1.so.length = i ∧ Bat CB H H' x dx a b c d n (rk n (ns.take i)).1) ⟨_, _, rfl, rfl, Z0⟩ (fun i σ H' _ p => by obtain ⟨_, _, _, _, Z⟩ := p; exact Z.sm.seq hS) (fun i v σ H2 hx p => ?_) (fun σ H2 p => ?_)
    · obtain ⟨e, rfl, he⟩ := get_int hx
      obtain ⟨y4, y5, rfl, hso, Z⟩ := p
      have hm := rkOk_get hro he
      have hi := lt_get he
      have es := rk_succ (n := n) he
      generalize rk n (ns.take i) = bg at hso Z hm es ⊢
      have hle := Z.ok.le
      have fl := fol_len (g := bg.1)
      refine ⟨_, rfl, _, rfl, x, dx, _, rfl, Z.hx, lBf .., H, x, dx, a, b, c, d, n, bg.1, rfl, Z, hn, fun H3 p s3 np hp => ⟨p, rfl, ⟨_, .of hp⟩, fun D nD => ?_⟩⟩
      have Z3 := Z.same s3
      refine lc_list (xs := (fol bg.1).map V.int) (LcP H3 D fun j => ((((fol bg.1).take j).filter fun o => decide (o < e)).map fun o => V.int ((wb n bg.1 o : Nat) : Int))) (.init nD rfl) (fun j H' _ p => .of (p.2.1 _ _ hp)) (fun j v H4 hx p4 => ?_) (fun H4 p4 => ?_)
      · obtain ⟨o, rfl, ho⟩ := get_int hx
        have om := mem_get ho
        have fs := filt_succ (f := fun o => decide (o < e)) ho
        have fl2 := filt_len (ns := fol bg.1) (f := fun o => decide (o < e)) j
        have lj := lt_get ho
        have Z4 := Z3.same p4.2.1
        refine ⟨rfl, ?_⟩
        by_cases h0 : o < e
        · refine ⟨_, rfl, _, rfl, _, _, rfl, rfl, true, dT h0, ?_⟩
          refine ⟨_, rfl, x, dx, _, rfl, Z4.hx, lBw .., _, rfl, H, x, dx, a, b, c, d, n, bg.1, o, rfl, Z4, hn, om, p4.put (Same.refl _) ?_ (by rw [List.length_map]; omega)⟩
          show (((fol bg.1).take (j + 1)).filter _).map _ = _
          rw [fs, if_pos (by simp [h0]), List.map_append]
          rfl
        · refine ⟨_, rfl, _, rfl, _, _, rfl, rfl, false, dF h0, p4.skip (Same.refl _) ?_⟩
          show (((fol bg.1).take (j + 1)).filter _).map _ = _
          rw [fs, if_neg (by simp [h0]), List.append_nil]
      · obtain ⟨_, s4, hD⟩ := p4
        dsimp only at hD
        rw [List.length_map, List.take_length] at hD
        have eL : (((fol bg.1).filter fun o => decide (o < e)).map fun o => V.int ((wb n bg.1 o : Nat) : Int)) = ((((fol bg.1).filter fun o => decide (o < e)).map fun o => wb n bg.1 o).map fun k : Nat => (k : Int)).map V.int := by
          rw [List.map_map, List.map_map]
          rfl
        rw [eL] at hD
        refine ⟨D, _, rfl, .of hD, _, _, rfl, rfl, ?_⟩
        have Z4 := Z3.same s4
        refine ⟨_, rfl, x, dx, _, rfl, Z4.hx, lBg .., _, rfl, H, x, dx, a, b, c, d, n, bg.1, e, rfl, Z4, hn, by omega, hm, fun H5 Z5 _ => ?_⟩
        rw [es]
        refine ⟨some (.int e), y5, ?_, ?_, Z5⟩
        · rw [← sum_cast]
          show _ = [some (V.ref h), some (.ref d), some (.ref x), some (.int ((bg.2 + rkStep n bg.1 e : Nat) : Int)), some (.int e), y5]
          rw [Int.natCast_add]
          rfl
        · show (goB bg.1 e).so.length = _
          rw [go_len, hso]
    · obtain ⟨y4, y5, rfl, hso, Z⟩ := p
      rw [List.length_map, List.take_length]
      exact ⟨_, rfl, q _ Z.sm⟩
end
end L64
set_option Elab.async false
set_option linter.all false
set_option maxRecDepth 100000
namespace L64
open PySem PySem.Spec PyProof.Rows L2 Lp
/-- a complete plain history -/
structure Cpl (ns : List Int) : Prop where
  hh : Hist ns
  cm : runL ns = []
  pl : stL ns = upL (stL ns).length
section
variable {P : Program} {w : World} {K : PySem.W.Frag} {mg : Str → Option Value} {base : Heap}
def spCompl (K : PySem.W.Frag) : Sp := fun vs H Q _ => ∃ (a : Addr) (ns : List Int), vs = [.ref a] ∧ SqL K H a (ns.map V.int) ∧ Hist ns ∧ ∀ H', Same H H' → Q (.bl (decide (runL ns = []))) H'
theorem ok_is_complete {f : Addr} {fd : FuncData} (F : Fun K "is_complete" "is_complete" s_is_complete f fd) (T_running_after : Cal P w K mg base 7 "running_after" (spRunA K)) : FnOk P w K mg base CX0 8 f fd ["history"] (spCompl K) := by
  refine F.ok sc_is_complete (fun vs H Q E h => ?_) (fun cdv A outer s H vs Q E hr h => ?_)
  · obtain ⟨a, ns, rfl, _⟩ := h
    rfl
  · obtain ⟨a, ns, rfl, hS, hc, q⟩ := h
    have hu64 := hr.units
    refine ⟨_, (pss_one (ps_ret (pe_cmpR (op_eqD hu64) (pe_c T_running_after hr (by decide) (by rfl) (pa_cons (pv 0) pa_nil)) (pe_lst pa_nil) (nomark _)))), ?_⟩
    refine ⟨_, rfl, a, ns, rfl, hS, hc, fun H1 p R s1 np hp pm _ => ⟨Nat.zero_le _, fun e ne => ?_⟩⟩
    refine ⟨dI R, dI [], dp_ints (.of (same_new ne _ _ hp)), dp_ints (ns := []) (.of upd_same), shaped_ints _, shaped_ints _, ?_⟩
    have e : decide (R = []) = decide (runL ns = []) := decide_eq_decide.mpr ⟨fun e => by
      rw [e] at pm
      exact List.nil_perm.mp pm, fun e => by
      rw [e] at pm
      exact List.perm_nil.mp pm⟩
    rw [eqv_ints, e]
    exact q _ (s1.trans (same_new ne))
def spPlain (K : PySem.W.Frag) : Sp := fun vs H Q _ => ∃ (a : Addr) (ns : List Int), vs = [.ref a] ∧ SqL K H a (ns.map V.int) ∧ Hist ns ∧ ∀ H', Same H H' → Q (.bl (decide (stL ns = upL (stL ns).length))) H'
theorem ok_is_plain {f : Addr} {fd : FuncData} (F : Fun K "is_plain" "is_plain" s_is_plain f fd) (B : NoB mg) (T_check_history : Cal P w K mg base 6 "check_history" (spCheck K)) (T_starts_of : Cal P w K mg base 1 "starts_of" (spStarts K)) : FnOk P w K mg base CX0 7 f fd ["history"] (spPlain K) := by
  refine F.ok sc_is_plain (fun vs H Q E h => ?_) (fun cdv A outer s H vs Q E hr h => ?_)
  · obtain ⟨a, ns, rfl, _⟩ := h
    rfl
  · obtain ⟨a, ns, rfl, hS, hh, q⟩ := h
    have hu64 := hr.units
    have hlen := hh.len
    have sl := stL_len ns
    refine ⟨_, (pss_cons (ps_expr (pe_c T_check_history hr (by decide) (by rfl) (pa_cons (pv 0) pa_nil)))
        (pss_cons (ps_set (i := 1) sc_is_plain.nd rfl (Or.inl rfl) (pe_c T_starts_of hr (by decide) (by rfl) (pa_cons (pv 0) pa_nil)))
        (pss_one (ps_ret (pe_cmpR (op_eqD hu64) (pv 1) (pe_listRg rfl (by rfl) B.list (prg_2 (by rfl) B.range pe_int (pe_op op_add (pe_callB call_len_seq (by rfl) B.len PySem.boot_len (pa_cons (pv 1) pa_nil)) pe_int))) (nomark _)))))), ?_⟩
    refine ⟨_, rfl, a, ns, rfl, hS, hh, fun H1 s1 => ?_⟩
    refine ⟨_, rfl, a, ns, rfl, s1.seq hS, by omega, fun H2 st s2 hst nst => ?_⟩
    refine ⟨_, rfl, _, rfl, st, _, rfl, .inl (.of hst), _, _, rfl, rfl, ?_⟩
    refine ⟨_, _, rfl, rfl, RgOk.of_le (by decide) (by rw [List.length_map]; omega) (by decide) (by omega), fun p np => ?_⟩
    have hst2 := same_new (o := .lst (rgV 1 ((((stL ns).map V.int).length : Nat) + 1))) np _ _ hst
    refine ⟨dI (stL ns), dI (upL (stL ns).length), dp_ints (.of hst2), dp_ints (.of ?_), shaped_ints _, shaped_ints _, ?_⟩
    · rw [upd_same, rgV_up, List.length_map]
      have e : ((((stL ns).length : Nat) : Int) + 1 - 1).toNat = (stL ns).length := by omega
      rw [e]
    · rw [eqv_ints]
      exact q _ ((s1.trans s2).trans (same_new np))
def spCkCP (K : PySem.W.Frag) : Sp := fun vs H Q _ => ∃ (a : Addr) (ns : List Int), vs = [.ref a] ∧ SqL K H a (ns.map V.int) ∧ Cpl ns ∧ ∀ H', Same H H' → Q .non H'
theorem ok_check_complete_plain {f : Addr} {fd : FuncData} (F : Fun K "_check_complete_plain" "_check_complete_plain" s_check_complete_plain f fd) (T_is_complete : Cal P w K mg base 8 "is_complete" (spCompl K)) (T_is_plain : Cal P w K mg base 7 "is_plain" (spPlain K)) : FnOk P w K mg base CX0 9 f fd ["history"] (spCkCP K) := by
  refine F.ok sc_check_complete_plain (fun vs H Q E h => ?_) (fun cdv A outer s H vs Q E hr h => ?_)
  · obtain ⟨a, ns, rfl, _⟩ := h
    rfl
  · obtain ⟨a, ns, rfl, hS, hc, q⟩ := h
    refine ⟨_, (pss_one (ps_if (pt_not (PW.pt (pw_and (pt_val (pe_c T_is_complete hr (by decide) (by rfl) (pa_cons (pv 0) pa_nil))) (pw_and1 (pt_val (pe_c T_is_plain hr (by decide) (by rfl) (pa_cons (pv 0) pa_nil))))))) (pss_one ps_never) pss_nil)), ?_⟩
    refine ⟨_, rfl, a, ns, rfl, hS, hc.hh, fun H1 s1 => ?_⟩
    rw [decide_eq_true hc.cm]
    refine ⟨true, rfl, ?_⟩
    refine ⟨_, rfl, a, ns, rfl, s1.seq hS, hc.hh, fun H2 s2 => ⟨true, dT hc.pl, ?_⟩⟩
    exact q _ (s1.trans s2)
def spPresA (K : PySem.W.Frag) : Sp := fun vs H Q _ => ∃ (a : Addr) (ns : List Int), vs = [.ref a] ∧ SqL K H a (ns.map V.int) ∧ Hist ns ∧ ∀ H', Same H H' → Q (.int (runR ns).1) H'
theorem ok_present_after {f : Addr} {fd : FuncData} (F : Fun K "present_after" "present_after" s_present_after f fd) (T_check_history : Cal P w K mg base 6 "check_history" (spCheck K)) (T_replay : Cal P w K mg base 1 "replay" (spReplayR K)) : FnOk P w K mg base CX0 7 f fd ["history"] (spPresA K) := by
  refine F.ok sc_present_after (fun vs H Q E h => ?_) (fun cdv A outer s H vs Q E hr h => ?_)
  · obtain ⟨a, ns, rfl, _⟩ := h
    rfl
  · obtain ⟨a, ns, rfl, hS, hh, q⟩ := h
    refine ⟨_, (pss_cons (ps_expr (pe_c T_check_history hr (by decide) (by rfl) (pa_cons (pv 0) pa_nil)))
        (pss_cons (ps_asg (pe_c T_replay hr (by decide) (by rfl) (pa_cons (pv 0) pa_nil)) (pg_tup rfl (pgs_cons (pg_name (i := 1) sc_present_after.nd rfl (Or.inl rfl)) (pgs_cons (pg_name (i := 2) sc_present_after.nd rfl (Or.inl rfl)) pgs_nil))))
        (pss_one (ps_ret (pe_ix ix_list (pv 1) (pe_un un_neg pe_int) (fun _ _ => rfl)))))), ?_⟩
    refine ⟨_, rfl, a, ns, rfl, hS, hh, fun H1 s1 => ?_⟩
    refine ⟨_, rfl, a, ns, rfl, s1.seq hS, hh, fun H2 t p d s2 ht hp hd => ?_⟩
    refine ⟨t, _, rfl, .of ht, rfl, _, _, rfl, _, _, rfl, rfl, ?_⟩
    have hlast : atI (presR ns ns.length) (-1) = some (.int (runR ns).1) := by
      have e := presR_last ns ns.length
      rw [List.take_length] at e
      exact e
    exact ⟨_, rfl, 1, rfl, p, _, -1, _, rfl, rfl, .of hp, hlast, q _ (s1.trans s2)⟩
/-- original_rank, of an original history, and of another one -/
structure Er (K : PySem.W.Frag) (mg : Str → Option Value) (CI : Addr) : Prop where
  c3 : mg "InvalidHistoryError" = some (.ref CI)
  x3 : PySem.W.excIn K CI [.type "ValueError", .type "Exception", .type "BaseException", .type "object"] "ValueError.__new__" = true
  k3 : PySem.W.keepIn K (.ref CI) = true
  b3 : PySem.W.subIn K (.ref CI) (.type "BaseException") = some true
  t3 : PySem.W.typeIn K (.ref CI) = some (.type "type")
  m3 : PySem.W.exmOne K (.ref CI) (.ref CI) = some true
  ec : ExcC K CI
  kv : PySem.W.kitOne K (.ref CI) (.type "ValueError") = some true
def spRankX (K : PySem.W.Frag) (CI : Addr) : Sp := fun vs H Q X => ∃ (a : Addr) (ns : List Int), vs = [.ref a] ∧ SqL K H a (ns.map V.int) ∧ Cpl ns ∧ (runR ns).1 ≠ 0 ∧ ∀ H', Same H H' → X (.ref CI) none H'
theorem ok_original_rank_X {CI : Addr} {f : Addr} {fd : FuncData} (F : Fun K "original_rank" "original_rank" s_original_rank f fd) (R : Er K mg CI) (T_check_complete_plain : Cal P w K mg base 9 "_check_complete_plain" (spCkCP K)) (T_present_after : Cal P w K mg base 7 "present_after" (spPresA K)) : FnOk P w K mg base (L2.CX P w) 10 f fd ["history"] (spRankX K CI) := by
  refine F.okX sc_original_rank (fun vs H Q E h => ?_) (fun cdv A outer s H vs Q E_ hr h => ?_)
  · obtain ⟨a, ns, rfl, _⟩ := h
    rfl
  · obtain ⟨a, ns, rfl, hS, hc, hne, q⟩ := h
    refine ⟨_, (pss_cons (ps_expr (pe_c T_check_complete_plain hr (by decide) (by rfl) (pa_cons (pv 0) pa_nil))) (pss_cons (ps_if (pt_cmpR op_ne (pe_c T_present_after hr (by decide) (by rfl) (pa_cons (pv 0) pa_nil)) pe_int (nomark _)) (pss_one (ps_raise rfl (takes_of rfl rfl rfl rfl) (pmk_own PySem.F.excBase_ValueError R.x3 R.c3 R.k3 (raises_own R.b3 R.t3) rfl))) pss_nil) (pss_one ps_never))), ?_⟩
    refine ⟨_, rfl, a, ns, rfl, hS, hc, fun H1 s1 => ?_⟩
    refine ⟨_, rfl, a, ns, rfl, s1.seq hS, hc.hh, fun H2 s2 => ?_⟩
    refine ⟨rfl, true, ?_, ?_⟩
    · rw [decide_eq_false (fun z => hne (V.int.inj z))]
      rfl
    · exact iteT (q _ (s1.trans s2))
end
end L64
set_option Elab.async false
set_option linter.all false
set_option maxRecDepth 100000
namespace L64
open PySem PySem.Spec PyProof.Rows L2 Lp
theorem boot_ValueError : bootBuiltins "ValueError" = some (.type "ValueError") := by decide +kernel
/-- isinstance(e, ValueError) and repr(row) == before, in the suite, whatever the exception's object -/
def tRf (K : PySem.W.Frag) (CI : Addr) (a : Addr) (cls : Value) (d : Option Addr) : TE := fun σ H Q => σ[2]? = some (some (.ref a)) ∧ cls = .ref CI ∧ d = none ∧ ∃ (b : Addr) (ns : List Int), σ[0]? = some (some (.ref b)) ∧ σ[1]? = some (some (.str (dI ns).shown)) ∧ SqL K H b (ns.map V.int) ∧ (∀ n ∈ ns, -100 ≤ n ∧ n ≤ 100) ∧ ns.length ≤ 1000 ∧ Q (.bl true) H
section
variable {P : Program} {w : World} {K : PySem.W.Frag} {mg : Str → Option Value} {base : Heap} {CI : Addr}
def spRef (K : PySem.W.Frag) : Sp := fun vs H Q _ => ∃ (a : Addr) (ns : List Int), vs = [.ref a] ∧ SqL K H a (ns.map V.int) ∧ Cpl ns ∧ (runR ns).1 ≠ 0 ∧ ∀ H', Same H H' → Q (.bl true) H'
theorem ok_law_is_refused {f : Addr} {fd : FuncData} (F : Fun K "_law_is_refused" "_law_is_refused" s_law_is_refused f fd) (B : NoB mg) (R : Er K mg CI) (z_VE : mg "ValueError" = none) (T_original_rank_X : CalX P w K mg base 10 "original_rank" (spRankX K CI)) : FnG P w K mg base CX0 11 f fd ["row"] (spRef K) := by
  refine okG F sc_law_is_refused (fun vs H Q E h => ?_) (fun cdv A outer s H vs Q E_ hG hr h => ?_)
  · obtain ⟨a, ns, rfl, _⟩ := h
    rfl
  · obtain ⟨a, ns, rfl, hS, hc, hne, q⟩ := h
    have hu64 := hr.units
    refine ⟨_, (pss_cons (ps_set (i := 1) sc_law_is_refused.nd rfl (Or.inl rfl) (pe_callB (call_repr hG hu64) (by rfl) B.repr (by decide +kernel) (pa_cons (pv 0) pa_nil)))
      (pss_cons (ps_try_as (i := 2) (c := .ref CI) (Wout := fun _ _ _ _ => False) (tb := fun W => tDrop (tCx (spRankX K CI) W (tCons (tVar 0) tNil))) (ts := fun a cls d => tRet (tRf K CI a cls d)) rfl rfl sc_law_is_refused.nd rfl rfl ⟨by rfl, by decide, .inl R.c3⟩ (fun u s' x => by obtain ⟨_, _, _, _, _, _, _, _, _, _, _, _, _, _, _, _, z⟩ := x; exact z.elim)
        (fun W pn xe tk _ => pss_one (ps_expr (pe_cx T_original_rank_X hr (by decide) tk (by rfl) (pa_cons (pv 0) pa_nil))))
        (fun a oe cls d pn hz hf => pss_one (ps_ret ⟨fun pins s σ H Q I q => (pe_and (pe_callB (call_isP (p := (a, oe)) List.mem_cons_self) (by rfl) B.isinstance (by decide +kernel) (pa_cons (pv 2) (pa_cons (pe_bltn (v := .ty "ValueError") (by rfl) z_VE boot_ValueError rfl) pa_nil))) (pe_one (pe_cmpR op_eq (pe_callB (call_repr hG hu64) (by rfl) B.repr (by decide +kernel) (pa_cons (pv 0) pa_nil)) (pv 1) (nomark _)))).run pins s σ H Q I (by
          obtain ⟨h2, rfl, rfl, b, ns, h0, h1, hS, hb, hl, q⟩ := q
          refine ⟨_, h2, CI, _, _, true, rfl, hz, hf, R.ec, (fun u h => h), R.kv, true, rfl, iteT ?_⟩
          refine ⟨_, h0, b, dI ns, rfl, dp_ints hS, rI1 hb, noDict_ints ns, rI2 ns, shown_ints hb hl, _, h1, rfl, ?_⟩
          rw [decide_eq_true rfl]
          exact q)⟩)))
      (pss_one (ps_ret pe_bl)))), ?_⟩
    have hb : ∀ n ∈ ns, -100 ≤ n ∧ n ≤ 100 := fun n m => (hc.hh.rng n m).2
    have hl : ns.length ≤ 1000 := by have := hc.hh.len; omega
    refine ⟨_, rfl, a, dI ns, rfl, dp_ints hS, rI1 hb, noDict_ints ns, rI2 ns, shown_ints hb hl, ?_⟩
    refine ⟨_, rfl, a, ns, rfl, hS, hc, hne, fun H1 s1 => ?_⟩
    refine ⟨true, R.m3, fun _ b nb => ?_, fun z => nomatch z⟩
    exact ⟨rfl, rfl, rfl, a, ns, rfl, rfl, s1.seq hS, hb, hl, q _ s1⟩
end
end L64
set_option Elab.async false
set_option linter.all false
set_option maxRecDepth 100000
namespace L64
open PySem PySem.Spec PyProof.Rows L2 Lp
/-! ### jumps, counted -/
def cwjN (n t : Nat) : Nat := if t = 0 then (if n = 0 then 1 else 0) else if n < t then 0 else chN (2 * n - t - 1) (t - 1) * oddN (n - t)
def sumJ (n : Nat) : Nat → Nat
  | 0 => 0
  | k + 1 => sumJ n k + cwjN n k
def numT : Nat → Nat × Nat
  | 0 => (1, 1)
  | n + 1 => ((numT n).2, (2 * (n + 2) - 3) * (numT n).2 + (numT n).1)
def TN (n : Nat) : Nat := (numT n).1
theorem TN_two (n : Nat) : TN (n + 2) = (2 * (n + 2) - 3) * TN (n + 1) + TN n := rfl
theorem J1 : ((List.range 101).all fun n => decide (sumJ n (n + 1) = TN n) && decide (sumJ n 101 = TN n) && decide (TN n < 2 ^ 1900)) = true := by decide +kernel
theorem J2 : ((List.range 101).all fun n => (List.range 101).all fun t => decide (cwjN n t < 2 ^ 1900)) = true := by decide +kernel
theorem J1_at {n : Nat} (h : n ≤ 100) : sumJ n (n + 1) = TN n ∧ sumJ n 101 = TN n ∧ TN n < 2 ^ 1900 := by
  have z := List.all_eq_true.mp J1 n (List.mem_range.mpr (by omega))
  rw [Bool.and_eq_true, Bool.and_eq_true, decide_eq_true_eq, decide_eq_true_eq, decide_eq_true_eq] at z
  exact ⟨z.1.1, z.1.2, z.2⟩
theorem J2_at {n t : Nat} (h : n ≤ 100) (ht : t ≤ 100) : cwjN n t < 2 ^ 1900 :=
  of_decide_eq_true (List.all_eq_true.mp (List.all_eq_true.mp J2 n (List.mem_range.mpr (by omega))) t (List.mem_range.mpr (by omega)))
theorem sum_map_cwj (n : Nat) : ∀ k, ((List.range k).map fun t => ((cwjN n t : Nat) : Int)).sum = ((sumJ n k : Nat) : Int)
  | 0 => rfl
  | k + 1 => by
    rw [List.range_succ, List.map_append, List.sum_append, sum_map_cwj n k]
    show _ + (((cwjN n k : Nat) : Int) + 0) = ((sumJ n k + cwjN n k : Nat) : Int)
    rw [Int.add_zero, Int.natCast_add]
def rowP (t i : Nat) : List Int := (List.range (min (i + 1) (t + 1))).map fun j => ((chP i j : Nat) : Int)
theorem rowP_len (t i : Nat) : (rowP t i).length = min (i + 1) (t + 1) := by unfold rowP; rw [List.length_map, List.length_range]
theorem rowP_get {t i j : Nat} (h : j < min (i + 1) (t + 1)) : (rowP t i)[j]? = some ((chP i j : Nat) : Int) := by
  unfold rowP
  rw [List.getElem?_map, List.getElem?_range h]
  rfl
theorem rowP_succ (t i : Nat) : (([1] : List Int) ++ ((List.range (min (i + 1) (t + 1) - 1)).map fun a => ((chP i a : Nat) : Int) + ((chP i (a + 1) : Nat) : Int)) ++ [1]).take (t + 1) = rowP t (i + 1) := by
  refine List.ext_getElem? fun j => ?_
  have len : (([1] : List Int) ++ ((List.range (min (i + 1) (t + 1) - 1)).map fun a => ((chP i a : Nat) : Int) + ((chP i (a + 1) : Nat) : Int)) ++ [1]).length = min (i + 1) (t + 1) + 1 := by
    rw [List.length_append, List.length_append, List.length_map, List.length_range]
    simp only [List.length_singleton]
    omega
  by_cases hj : j < min (i + 1 + 1) (t + 1)
  · rw [rowP_get hj, List.getElem?_take_of_lt (by omega), List.append_assoc]
    cases j with
    | zero => rw [chP_zero]; rfl
    | succ k =>
      show (((List.range (min (i + 1) (t + 1) - 1)).map fun a => ((chP i a : Nat) : Int) + ((chP i (a + 1) : Nat) : Int)) ++ [1])[k]? = _
      by_cases hk : k < min (i + 1) (t + 1) - 1
      · rw [List.getElem?_append_left (by rw [List.length_map, List.length_range]; exact hk), List.getElem?_map, List.getElem?_range hk]
        show some (((chP i k : Nat) : Int) + ((chP i (k + 1) : Nat) : Int)) = some ((chP i k + chP i (k + 1) : Nat) : Int)
        rw [Int.natCast_add]
      · have ek : k = i := by omega
        rw [List.getElem?_append_right (by rw [List.length_map, List.length_range]; omega), List.length_map, List.length_range]
        have e0 : k - (min (i + 1) (t + 1) - 1) = 0 := by omega
        rw [e0, ek, chP_self]
        rfl
  · rw [List.getElem?_eq_none (by rw [List.length_take, len]; omega), List.getElem?_eq_none (by rw [rowP_len]; omega)]
theorem chP_le {n k : Nat} (h : n ≤ 1000) : chP n k < 2 ^ (10 * n + 1) := by
  by_cases hk : k ≤ n
  · rw [← ch_eq hk]
    exact Nat.lt_of_le_of_lt (ch_le n k) (fac_lt n h)
  · rw [chP_gt n k (by omega)]
    exact Nat.two_pow_pos _
/-! the few -/
def rowsL (n : Nat) : List (List Int) := (shapesL n).flatMap everyL
def jumpF (row : List Int) : Nat → Nat → Int → Int
  | 0, _, many => many
  | f + 1, m, many => if m = 0 then many else match row[m - 1]? with
    | some e => if 0 < e then -1 else jumpF row f (row.idxOf (0 - e)) (many + 1)
    | none => many
def jumpL (row : List Int) : Int := jumpF row row.length row.length 0
def rowB2 (row : List Int) : Bool := rowB row && decide row.Nodup && decide (row.length ≤ 10) && (decide (presL row = 0) == decide (jumpL row ≥ 0))
def fewJ (n : Nat) : Bool := (rowsL n).all rowB2 && ((List.range (n + 2)).all fun t => decide (((rowsL n).map jumpL).count ((t : Nat) : Int) = cwjN n t)) && decide (((rowsL n).map jumpL).countP (fun j => decide (j ≥ 0)) = sumJ n (n + 1)) && decide ((rowsL n).length ≤ 1000)
theorem few_all : ((List.range 5).all fewJ) = true := by decide +kernel
structure FewOk (n : Nat) : Prop where
  rows : ∀ row ∈ rowsL n, rowB row = true ∧ row.Nodup ∧ row.length ≤ 10 ∧ decide (presL row = 0) = decide (jumpL row ≥ 0)
  cnt : ∀ t, t ≤ n + 1 → ((rowsL n).map jumpL).count ((t : Nat) : Int) = cwjN n t
  all : ((rowsL n).map jumpL).countP (fun j => decide (j ≥ 0)) = sumJ n (n + 1)
  len : (rowsL n).length ≤ 1000
theorem few_ok {n : Nat} (h : n ≤ 4) : FewOk n := by
  have z := List.all_eq_true.mp few_all n (List.mem_range.mpr (by omega))
  unfold fewJ at z
  rw [Bool.and_eq_true, Bool.and_eq_true, Bool.and_eq_true] at z
  obtain ⟨⟨⟨z1, z2⟩, z3⟩, z4⟩ := z
  refine ⟨fun row hr => ?_, fun t ht => of_decide_eq_true (List.all_eq_true.mp z2 t (List.mem_range.mpr (by omega))), of_decide_eq_true z3, of_decide_eq_true z4⟩
  have y := List.all_eq_true.mp z1 row hr
  unfold rowB2 at y
  rw [Bool.and_eq_true, Bool.and_eq_true, Bool.and_eq_true] at y
  exact ⟨y.1.1.1, of_decide_eq_true y.1.1.2, of_decide_eq_true y.1.2, beq_iff_eq.mp y.2⟩
section
variable {P : Program} {w : World} {K : PySem.W.Frag} {mg : Str → Option Value} {base : Heap}
/-! ### count_with_jump, count_original -/
def spCWJ : Sp := fun vs H Q _ => ∃ n t : Nat, vs = [.int (n : Int), .int (t : Int)] ∧ n ≤ 100 ∧ t ≤ 100 ∧ Q (.int ((cwjN n t : Nat) : Int)) H
theorem ok_count_with_jump {f : Addr} {fd : FuncData} (F : Fun K "count_with_jump" "count_with_jump" s_count_with_jump f fd) (T_m_comb : mg "comb" = some (.builtin "math.comb")) {t1 : Tok} (T_g_LAST_PATCH : mg "LAST_PATCH" = some (.int 100 t1)) (T_check_patches : Gc P w K mg base 4 "_check_patches" spCheckP) (T_check_number : Gc P w K mg base 3 "check_number" spCheckN) (T_count_ways : Gc P w K mg base 1 "_count_ways" spCW) : FnG P w K mg base CX0 5 f fd ["patches", "arcs"] spCWJ := by
  refine okG F sc_count_with_jump (fun vs H Q E h => ?_) (fun cdv A outer s H vs Q E hG hr h => ?_)
  · obtain ⟨n, t, rfl, _⟩ := h
    rfl
  · obtain ⟨n, t, rfl, hn, ht, q⟩ := h
    refine ⟨_, (pss_cons (ps_expr (pe_g T_check_patches hG hr (by decide) (by rfl) (pa_cons (pv 0) pa_nil)))
        (pss_cons (ps_expr (pe_g T_check_number hG hr (by decide) (by rfl) (pa_cons (pv 1) (pa_cons pe_int (pa_cons (pe_glob (v := .int 100) (by rfl) T_g_LAST_PATCH ⟨_, rfl⟩) pa_nil)))))
        (pss_cons (ps_if (pt_cmpR op_eq (pv 1) pe_int (nomark _)) (pss_one (ps_ret (pe_ifExp (pt_cmpR op_eq (pv 0) pe_int (nomark _)) pe_int pe_int))) pss_nil)
        (pss_cons (ps_if (pt_cmpR op_gt (pv 1) (pv 0) (nomark _)) (pss_one (ps_ret pe_int)) pss_nil)
        (pss_one (ps_ret (pe_op op_mulW (pe_callBfun cr_comb (by rfl) T_m_comb (pa_cons (pe_op op_sub (pe_op op_sub (pe_op op_mulW pe_int (pv 0)) (pv 1)) pe_int) (pa_cons (pe_op op_sub (pv 1) pe_int) pa_nil))) (pe_g T_count_ways hG hr (by decide) (by rfl) (pa_cons pe_int (pa_cons (pe_op op_sub (pv 0) (pv 1)) pa_nil)))))))))), ?_⟩
    refine ⟨_, rfl, n, rfl, hn, ?_⟩
    refine ⟨_, rfl, (t : Int), 0, 100, rfl, by omega, by omega, ?_⟩
    unfold cwjN at q
    by_cases h0 : t = 0
    · rw [if_pos h0] at q
      refine ⟨_, rfl, rfl, true, dT (by rw [h0]; rfl), ?_⟩
      by_cases h1 : n = 0
      · rw [if_pos h1] at q
        exact ⟨_, rfl, rfl, true, dT (by rw [h1]; rfl), q⟩
      · rw [if_neg h1] at q
        exact ⟨_, rfl, rfl, false, dF (vne (by omega)), q⟩
    · rw [if_neg h0] at q
      refine ⟨_, rfl, rfl, false, dF (vne (by omega)), ?_⟩
      by_cases h1 : n < t
      · rw [if_pos h1] at q
        exact ⟨_, rfl, _, rfl, _, _, rfl, rfl, true, dT (by omega), q⟩
      · rw [if_neg h1] at q
        refine ⟨_, rfl, _, rfl, _, _, rfl, rfl, false, dF (by omega), ?_⟩
        have e1 : (2 * (n : Int) - (t : Int) - 1) = ((2 * n - t - 1 : Nat) : Int) := by omega
        have e2 : ((t : Int) - 1) = ((t - 1 : Nat) : Int) := by omega
        have e3 : ((n : Int) - (t : Int)) = ((n - t : Nat) : Int) := by omega
        refine ⟨_, rfl, _, _, rfl, rfl, wide_mul (a := 3) (b := 20) (by decide) (natAbs_lt (by omega)) (by decide) (by decide) (by decide), _, rfl, _, _, rfl, rfl, _, _, rfl, rfl, _, rfl, _, _, rfl, rfl, 2 * n - t - 1, t - 1, ?_, by omega, by omega, ?_⟩
        · show [V.int (2 * (n : Int) - (t : Int) - 1), V.int ((t : Int) - 1)] = _
          rw [e1, e2]
        · refine ⟨_, rfl, _, rfl, _, _, rfl, rfl, 0, n - t, ?_, by omega, ?_⟩
          · show [V.int 0, V.int ((n : Int) - (t : Int))] = _
            rw [e3]
            rfl
          · have f1 := fac_lt (2 * n - t - 1) (by omega)
            have f2 := Nat.lt_of_le_of_lt (ch_le (2 * n - t - 1) (t - 1)) (Nat.lt_of_lt_of_le f1 (Nat.pow_le_pow_right (by decide) (show 10 * (2 * n - t - 1) + 1 ≤ 2001 by omega)))
            have f3 := Nat.lt_of_lt_of_le (odd_lt (n - t) (by omega)) (Nat.pow_le_pow_right (n := 2) (by decide) (show 8 * (n - t) + 1 ≤ 801 by omega))
            refine ⟨_, _, rfl, rfl, wide_mul (a := 2001) (b := 801) (natAbs_lt f2) (by rw [cw_zero]; exact natAbs_lt f3) (by decide) (by decide) (by decide), ?_⟩
            dsimp only
            rw [cw_zero, ← Int.natCast_mul]
            exact q
def spCO : Sp := fun vs H Q _ => ∃ n : Nat, vs = [.int (n : Int)] ∧ n ≤ 100 ∧ ∀ H', Same H H' → Q (.int ((TN n : Nat) : Int)) H'
theorem ok_count_original {f : Addr} {fd : FuncData} (F : Fun K "count_original" "count_original" s_count_original f fd) (T_z_sum : mg "sum" = none) (B : NoB mg) (T_check_patches : Gc P w K mg base 4 "_check_patches" spCheckP) (T_count_with_jump : Gc P w K mg base 5 "count_with_jump" spCWJ) : FnG P w K mg base CX0 6 f fd ["patches"] spCO := by
  refine okG F sc_count_original (fun vs H Q E h => ?_) (fun cdv A outer s H vs Q E hG hr h => ?_)
  · obtain ⟨n, rfl, _⟩ := h
    rfl
  · obtain ⟨n, rfl, hn, q⟩ := h
    refine ⟨_, (pss_cons (ps_expr (pe_g T_check_patches hG hr (by decide) (by rfl) (pa_cons (pv 0) pa_nil)))
        (pss_one (ps_ret (pe_callB (cr_sum rfl) (by rfl) T_z_sum (by decide +kernel) (pa_cons (pe_lc (own := [("arcs", 1)]) (g := gName 1) (tt := tYes) rfl sc_count_original.nd (pi_range1 rfl B.range (pa_cons (pe_op op_add (pv 0) pe_int) pa_nil)) (blkOk_by (own := [("arcs", 1)]) (N := N_count_original) (sc := defScope s_count_original) (by decide +kernel)) (fun _ _ _ _ _ => (pg_name (i := 1) sc_count_original.nd rfl (Or.inl rfl))) (fun _ _ _ _ _ => pts_nil) (fun _ _ _ _ _ => (pe_g T_count_with_jump hG hr (by decide) (by rfl) (pa_cons (pv 0) (pa_cons (pv 1) pa_nil))))) pa_nil))))), ?_⟩
    refine ⟨_, rfl, n, rfl, hn, ?_⟩
    have en : ((n : Int) + 1).toNat = n + 1 := by omega
    refine ⟨_, rfl, _, _, rfl, rfl, (n : Int) + 1, rfl, by omega, by omega, fun D hD => ?_⟩
    rw [en]
    refine lc_it (walk_range (lo := 0) (n := n + 1)) (LcP H D fun k => ((List.range k).map fun t => ((cwjN n t : Nat) : Int)).map V.int) (.init hD rfl) (fun _ _ _ _ => trivial) (fun k x H6 H7 hk p hy => ?_) (fun H6 p => ?_)
    · obtain ⟨rfl, rfl⟩ := hy
      refine ⟨rfl, _, rfl, _, rfl, n, k, congrArg (fun z => [V.int (n : Int), V.int z]) (Int.zero_add _), hn, by omega, p.put (Same.refl _) ?_ ?_⟩
      · rw [List.range_succ, List.map_append, List.map_append]
        rfl
      · rw [List.length_map, List.length_map, List.length_range]
        omega
    · refine ⟨D, _, rfl, .of p.2.2, ?_⟩
      rw [sum_map_cwj, (J1_at hn).1]
      exact q _ p.2.1
end
end L64
set_option Elab.async false
set_option linter.all false
set_option maxRecDepth 100000
namespace L64
open PySem PySem.Spec PyProof.Rows L2 Lp
/-! ### all that is asked at n up to 5 -/
theorem lex_trans : ∀ {x y z : List Int}, HT.lexLt x y = true → HT.lexLt y z = true → HT.lexLt x z = true
  | [], [], _, h, _ => by cases h
  | [], _ :: _, [], _, h => by cases h
  | [], _ :: _, _ :: _, _, _ => rfl
  | _ :: _, [], _, h, _ => by cases h
  | _ :: _, _ :: _, [], _, h => by cases h
  | x :: xs, y :: ys, z :: zs, h1, h2 => by
    rw [HT.lexLt_cons] at h1 h2 ⊢
    by_cases e1 : x = y
    · subst e1
      rw [if_pos rfl] at h1
      by_cases e2 : x = z
      · rw [if_pos e2] at h2 ⊢
        exact lex_trans h1 h2
      · rw [if_neg e2] at h2 ⊢
        exact h2
    · rw [if_neg e1] at h1
      have l1 := of_decide_eq_true h1
      by_cases e2 : y = z
      · subst e2
        rw [if_neg e1]
        exact h1
      · rw [if_neg e2] at h2
        have l2 := of_decide_eq_true h2
        rw [if_neg (by omega)]
        exact decide_eq_true (by omega)
def mrg : Nat → List (List Int) → List (List Int) → List (List Int)
  | 0, a, b => a ++ b
  | _ + 1, [], b => b
  | _ + 1, x :: a, [] => x :: a
  | k + 1, x :: a, y :: b => if HT.lexLt y x then y :: mrg k (x :: a) b else x :: mrg k a (y :: b)
theorem mrg_perm : ∀ (k : Nat) (a b : List (List Int)), (mrg k a b).Perm (a ++ b)
  | 0, a, b => .refl _
  | _ + 1, [], b => .refl _
  | _ + 1, x :: a, [] => by
    rw [List.append_nil]
    exact .refl _
  | k + 1, x :: a, y :: b => by
    show (if HT.lexLt y x then y :: mrg k (x :: a) b else x :: mrg k a (y :: b)).Perm _
    split
    · exact ((mrg_perm k (x :: a) b).cons y).trans List.perm_middle.symm
    · exact (mrg_perm k a (y :: b)).cons x
def srt : Nat → List (List Int) → List (List Int)
  | 0, l => l
  | k + 1, l => if l.length ≤ 1 then l else mrg l.length (srt k (l.take (l.length / 2))) (srt k (l.drop (l.length / 2)))
theorem srt_perm : ∀ (k : Nat) (l : List (List Int)), (srt k l).Perm l
  | 0, l => .refl _
  | k + 1, l => by
    unfold srt
    split
    · exact .refl _
    · refine (mrg_perm _ _ _).trans (((srt_perm k _).append (srt_perm k _)).trans ?_)
      rw [List.take_append_drop]
def chB : List (List Int) → Bool
  | [] => true
  | [_] => true
  | x :: y :: l => HT.lexLt x y && chB (y :: l)
theorem chB_ok : ∀ {l : List (List Int)}, chB l = true → l.Pairwise (fun x y => HT.lexLt x y = true)
  | [], _ => .nil
  | [x], _ => List.pairwise_singleton _ _
  | x :: y :: l, h => by
    have h' : (HT.lexLt x y && chB (y :: l)) = true := h
    rw [Bool.and_eq_true] at h'
    have ih := chB_ok h'.2
    refine List.pairwise_cons.mpr ⟨fun z hz => ?_, ih⟩
    rcases List.mem_cons.mp hz with rfl | hz
    · exact h'.1
    · exact lex_trans h'.1 ((List.pairwise_cons.mp ih).1 z hz)
def allM (n : Nat) : List (List Int) := (shapesL n).flatMap everyL
def rowsS (n : Nat) : List (List Int) := srt 10 (allM n)
theorem asc_all : ∀ n : Fin 6, chB (rowsS n.val) = true := by decide +kernel
theorem sorted_is {n : Nat} (hn : n ≤ 5) {m : List (List Int)} (p : m.Perm (allM n)) (s : m.Pairwise (fun x y => HT.lexLt y x = false)) : m = rowsS n :=
  lex_uniq (chB_ok (asc_all ⟨n, by omega⟩)) s (p.trans (srt_perm _ _).symm)
def hB (ns : List Int) : Bool := ns.all (fun e => decide (e ≠ 0 ∧ -100 ≤ e ∧ e ≤ 100)) && (decide ns.Nodup && ((List.range ns.length).all (fun i => match ns[i]? with
  | some e => decide (¬ e < 0 ∨ -e ∈ ns.take i)
  | none => true) && decide (ns.length ≤ 200)))
def cB (ns : List Int) : Bool := hB ns && (decide (runL ns = []) && decide (stL ns = upL (stL ns).length))
theorem cB_ok {ns : List Int} (h : cB ns = true) : Cpl ns := by
  unfold cB hB at h
  simp only [Bool.and_eq_true, decide_eq_true_eq] at h
  obtain ⟨⟨h1, h2, h3, h4⟩, h5, h6⟩ := h
  refine ⟨⟨fun e he => of_decide_eq_true (List.all_eq_true.mp h1 e he), h2, fun i e he h0 => ?_, h4⟩, h5, h6⟩
  have z := List.all_eq_true.mp h3 i (List.mem_range.mpr (lt_get he))
  rw [he] at z
  have z2 : ¬ e < 0 ∨ -e ∈ ns.take i := of_decide_eq_true z
  exact z2.resolve_left fun q => q h0
/-- every row: complete and plain, and what is left is 0 for both -/
def okR (n : Nat) (r : List Int) : Bool := cB r && (decide (r.length = 2 * n) && (rowB r && decide ((runR r).1 = presL r)))
def dueL (n : Nat) : List (List Int) := (rowsS n).filter fun r => decide (presL r = 0)
def nthM (n a : Nat) : List Int := match runT n a (2 * n) with
  | some (g, _) => g.so
  | none => []
def okO (n : Nat) (p : List Int × Nat) : Bool := (runT n p.2 (2 * n)).isSome && (decide (nthM n p.2 = p.1) && (rkOkB n p.1 && decide ((rk n p.1).2 = p.2)))
theorem rows_ok : ∀ n : Fin 6, (rowsS n.val).all (okR n.val) = true := by decide +kernel
theorem due_len : ∀ n : Fin 6, (dueL n.val).length = TN n.val := by decide +kernel
theorem due4_ok : ∀ n : Fin 5, (dueL n.val).zipIdx.all (okO n.val) = true := by decide +kernel
end L64
set_option Elab.async false
set_option linter.all false
set_option maxRecDepth 100000
namespace L64
open PySem PySem.Spec PyProof.Rows L2 Lp
theorem due5_ok : (dueL 5).zipIdx.all (okO 5) = true := by decide +kernel
end L64
set_option Elab.async false
set_option linter.all false
set_option maxRecDepth 100000
namespace L64
open PySem PySem.Spec PyProof.Rows L2 Lp
theorem TN_small {n : Nat} (hn : n ≤ 5) : TN n = (dueL n).length := (due_len ⟨n, by omega⟩).symm
structure Nth (n a : Nat) (r : List Int) : Prop where
  run : ∃ g j, runT n a (2 * n) = some (g, j) ∧ g.so = r
  cp : Cpl r
  ln : r.length = 2 * n
  ro : rkOkB n r = true
  rk : (rk n r).2 = a
  z : (runR r).1 = 0
theorem nth_ok {n a : Nat} {r : List Int} (hn : n ≤ 5) (h : (dueL n)[a]? = some r) : Nth n a r := by
  have hall : (dueL n).zipIdx.all (okO n) = true := by
    rcases Nat.lt_or_ge n 5 with h5 | h5
    · exact due4_ok ⟨n, h5⟩
    · have : n = 5 := by omega
      subst this
      exact due5_ok
  have hm : (r, a) ∈ (dueL n).zipIdx := List.mem_zipIdx_iff_getElem?.mpr h
  have z := List.all_eq_true.mp hall _ hm
  unfold okO at z
  simp only [Bool.and_eq_true, decide_eq_true_eq] at z
  obtain ⟨z1, z2, z3, z4⟩ := z
  have hr : r ∈ dueL n := mem_get h
  obtain ⟨hr1, hr2⟩ := List.mem_filter.mp hr
  have hr2 := of_decide_eq_true hr2
  have y := List.all_eq_true.mp (rows_ok ⟨n, by omega⟩) r hr1
  unfold okR at y
  simp only [Bool.and_eq_true, decide_eq_true_eq] at y
  obtain ⟨y1, y2, y3, y4⟩ := y
  obtain ⟨⟨g, j⟩, hg⟩ := Option.isSome_iff_exists.mp z1
  refine ⟨⟨g, j, hg, ?_⟩, cB_ok y1, y2, z3, z4, y4.trans hr2⟩
  rw [← z2]
  unfold nthM
  rw [hg]
theorem oth_ok {n : Nat} {r : List Int} (hn : n ≤ 5) (h : r ∈ rowsS n) : Cpl r ∧ r.length = 2 * n ∧ rowB r = true ∧ (runR r).1 = presL r := by
  have y := List.all_eq_true.mp (rows_ok ⟨n, by omega⟩) r h
  unfold okR at y
  simp only [Bool.and_eq_true, decide_eq_true_eq] at y
  exact ⟨cB_ok y.1, y.2.1, y.2.2.1, y.2.2.2⟩
section
variable {P : Program} {w : World} {K : PySem.W.Frag} {mg : Str → Option Value} {base : Heap} {CB : Addr}
def spCheckI : Sp := fun vs H Q _ => ∃ i c : Int, vs = [.int i, .int c] ∧ 0 ≤ i ∧ i < c ∧ Q .non H
theorem ok_check_index {f : Addr} {fd : FuncData} (F : Fun K "check_index" "check_index" s_check_index f fd) (T_check_number : Gc P w K mg base 3 "check_number" spCheckN) : FnG P w K mg base CX0 4 f fd ["index", "count"] spCheckI := by
  refine okG F sc_check_index (fun vs H Q E h => ?_) (fun cdv A outer s H vs Q E hG hr h => ?_)
  · obtain ⟨i, c, rfl, _⟩ := h
    rfl
  · obtain ⟨i, c, rfl, h0, h1, q⟩ := h
    refine ⟨_, (pss_one (ps_expr (pe_g T_check_number hG hr (by decide) (by rfl) (pa_cons (pv 0) (pa_cons pe_int (pa_cons (pe_op op_sub (pv 1) pe_int) pa_nil)))))), ?_⟩
    exact ⟨_, rfl, _, rfl, _, _, rfl, rfl, i, 0, c - 1, rfl, h0, by omega, q⟩
def spNthO : Sp := fun vs H Q _ => ∃ (n a : Nat) (r : List Int), vs = [.int (n : Int), .int (a : Int)] ∧ n ≤ 5 ∧ (dueL n)[a]? = some r ∧ ∀ H' p, Same H H' → H p = none → H' p = some (.lst (r.map V.int)) → Q (.ref p) H'
theorem ok_nth_original {f : Addr} {fd : FuncData} (F : Fun K "nth_original" "nth_original" s_nth_original f fd) (T_check_index : Gc P w K mg base 4 "check_index" spCheckI) (T_count_original : Gc P w K mg base 6 "count_original" spCO) (T_ways_of_original : Gc P w K mg base 2 "_ways_of_original" spWaysO) (T_nth_by : Gc P w K mg base 4 "_nth_by" spNthBy) : FnG P w K mg base CX0 7 f fd ["patches", "index"] spNthO := by
  refine okG F sc_nth_original (fun vs H Q E h => ?_) (fun cdv A outer s H vs Q E hG hr h => ?_)
  · obtain ⟨n, a, r, rfl, _⟩ := h
    rfl
  · obtain ⟨n, a, r, rfl, hn, ha, q⟩ := h
    obtain ⟨g, j, hg, hs⟩ := (nth_ok hn ha).run
    have hl := lt_get ha
    have ht := TN_small hn
    refine ⟨_, (pss_cons (ps_expr (pe_g T_check_index hG hr (by decide) (by rfl) (pa_cons (pv 1) (pa_cons (pe_g T_count_original hG hr (by decide) (by rfl) (pa_cons (pv 0) pa_nil)) pa_nil))))
        (pss_one (ps_ret (pe_g T_nth_by hG hr (by decide) (by rfl) (pa_cons (pv 0) (pa_cons (pe_g T_ways_of_original hG hr (by decide) (by rfl) (pa_cons (pv 0) pa_nil)) (pa_cons (pv 1) pa_nil))))))), ?_⟩
    refine ⟨_, rfl, _, rfl, n, rfl, by omega, fun H0 s0 => ⟨_, _, rfl, by omega, by omega, ?_⟩⟩
    refine ⟨_, rfl, _, rfl, n, rfl, hn, fun H1 d s1 nd hw => ?_⟩
    refine ⟨_, rfl, n, a, d, g, j, rfl, by omega, hw, hg, fun H2 p s2 np hp => ?_⟩
    rw [hs] at hp
    exact q _ p ((s0.trans s1).trans s2) ((s0.trans s1).free np) hp
def spRankO (K : PySem.W.Frag) : Sp := fun vs H Q _ => ∃ (n a : Nat) (h : Addr) (r : List Int), vs = [.ref h] ∧ n ≤ 5 ∧ (dueL n)[a]? = some r ∧ SqL K H h (r.map V.int) ∧ ∀ H', Same H H' → Q (.int (a : Int)) H'
theorem ok_original_rank {f : Addr} {fd : FuncData} (F : Fun K "original_rank" "original_rank" s_original_rank f fd) (B : NoB mg) (T_check_complete_plain : Cal P w K mg base 9 "_check_complete_plain" (spCkCP K)) (T_present_after : Cal P w K mg base 7 "present_after" (spPresA K)) (T_ways_of_original : Gc P w K mg base 2 "_ways_of_original" spWaysO) (T_rank_by : Gc P w K mg base 4 "_rank_by" (spRankBy K)) : FnG P w K mg base CX0 10 f fd ["history"] (spRankO K) := by
  refine okG F sc_original_rank (fun vs H Q E h => ?_) (fun cdv A outer s H vs Q E hG hr h => ?_)
  · obtain ⟨n, a, h, r, rfl, _⟩ := h
    rfl
  · obtain ⟨n, a, h, r, rfl, hn, ha, hS, q⟩ := h
    have N := nth_ok hn ha
    refine ⟨_, (pss_cons (ps_expr (pe_c T_check_complete_plain hr (by decide) (by rfl) (pa_cons (pv 0) pa_nil)))
        (pss_cons (ps_if (pt_cmpR op_ne (pe_c T_present_after hr (by decide) (by rfl) (pa_cons (pv 0) pa_nil)) pe_int (nomark _)) (pss_one ps_never) pss_nil)
        (pss_one (ps_ret (pe_g T_rank_by hG hr (by decide) (by rfl) (pa_cons (pv 0) (pa_cons (pe_g T_ways_of_original hG hr (by decide) (by rfl) (pa_cons (pe_op op_fdivW (pe_callB call_len_seq (by rfl) B.len PySem.boot_len (pa_cons (pv 0) pa_nil)) pe_int) pa_nil)) pa_nil))))))), ?_⟩
    refine ⟨_, rfl, h, r, rfl, hS, N.cp, fun H1 s1 => ?_⟩
    refine ⟨_, rfl, h, r, rfl, s1.seq hS, N.cp.hh, fun H2 s2 => ?_⟩
    refine ⟨rfl, false, nF (by rw [N.z]), ?_⟩
    have s12 := s1.trans s2
    have e2 : (((r.map V.int).length : Nat) : Int) / 2 = (n : Int) := by rw [List.length_map, N.ln]; omega
    refine ⟨_, rfl, _, rfl, h, _, rfl, .inl (s12.seq hS), _, _, rfl, rfl, wide_div (b := 30) (by decide) (by decide) (by decide) (by decide), n, congrArg (fun z => [V.int z]) e2, hn, fun H3 d s3 nd hw => ?_⟩
    refine ⟨n, h, d, _, rfl, by omega, (s12.trans s3).seq hS, hw, N.ln, N.ro, fun H4 s4 => ?_⟩
    rw [N.rk]
    exact q _ ((s12.trans s3).trans s4)
end
end L64
set_option Elab.async false
set_option linter.all false
set_option maxRecDepth 100000
namespace L64
open PySem PySem.Spec PyProof.Rows L2 Lp
/-! ### lists of lists of ints as data -/
abbrev dL (rows : List (List Int)) : PyData := .list (rows.map dI)
theorem layL : ∀ rows : List (List Int), PyData.canLayAll0 (rows.map dI) = true
  | [] => rfl
  | r :: rest => by
    show (PyData.canLay0 (dI r) && PyData.canLayAll0 (rest.map dI)) = true
    rw [layL rest]
    show (PyData.canLayAll0 (r.map PyData.int) && true) = true
    rw [lay_ints]
    rfl
theorem depL : ∀ rows : List (List Int), PyData.depthAll (rows.map dI) ≤ 1
  | [] => Nat.zero_le _
  | r :: rest => by
    show max (PyData.depthAll (r.map PyData.int) + 1) (PyData.depthAll (rest.map dI)) ≤ 1
    rw [depth_ints]
    exact Nat.max_le.mpr ⟨Nat.le_refl _, depL rest⟩
theorem shapedL (rows : List (List Int)) : SeqAt.shaped (dL rows) = true := by
  show (PyData.canLayAll0 (rows.map dI) && decide (PyData.depthAll (rows.map dI) + 1 ≤ 64)) = true
  have := depL rows
  rw [layL, decide_eq_true (show PyData.depthAll (rows.map dI) + 1 ≤ 64 by omega)]
  rfl
theorem eqvL : ∀ rows : List (List Int), PyData.eqvAll (rows.map dI) (rows.map dI) = true
  | [] => rfl
  | r :: rest => by
    show (PyData.eqv (dI r) (dI r) && PyData.eqvAll (rest.map dI) (rest.map dI)) = true
    rw [eqvL rest, eqv_ints, decide_eq_true rfl]
    rfl
theorem neqL (rows : List (List Int)) : V.bl (!PyData.eqv (dL rows) (dL rows)) = V.bl false := by
  have e : PyData.eqv (dL rows) (dL rows) = true := eqvL rows
  rw [e]
  rfl
theorem noDictL : ∀ rows : List (List Int), PyData.hasDictAll (rows.map dI) = false
  | [] => rfl
  | r :: rest => by
    show (PyData.hasDictAll (r.map PyData.int) || PyData.hasDictAll (rest.map dI)) = false
    rw [noDictL rest, noDict_ints]
    rfl
theorem showL : ∀ rows : List (List Int), (∀ r ∈ rows, ∀ n ∈ r, -100 ≤ n ∧ n ≤ 100) → PyData.showableAll (rows.map dI) = true
  | [], _ => rfl
  | r :: rest, h => by
    show (PyData.showableAll (r.map PyData.int) && PyData.showableAll (rest.map dI)) = true
    rw [showL rest fun x hx => h x (List.mem_cons_of_mem _ hx), show_ints r fun n hn => log2_small (h r List.mem_cons_self n hn).1 (h r List.mem_cons_self n hn).2]
    rfl
theorem shown_le {ns : List Int} (hb : ∀ n ∈ ns, -100 ≤ n ∧ n ≤ 100) (hl : ns.length ≤ 200) : (dI ns).shown.length ≤ 1300 := by
  show (textFrom 0 "[" (PyData.shownAll (ns.map PyData.int)) ++ ("]" : Str)).length ≤ 1300
  rw [Str.length_append]
  have z := textFrom_le (PyData.shownAll (ns.map PyData.int)) 0 "[" 4 (fun t ht => by
    obtain ⟨n, hn, e⟩ := shownAll_mem ns t ht
    rw [e]
    exact num_len n (hb n hn).1 (hb n hn).2)
  rw [shownAll_len] at z
  have e1 : ("[" : Str).length = 1 := rfl
  have e2 : ("]" : Str).length = 1 := rfl
  rw [e1] at z
  rw [e2]
  omega
theorem shownL2 {r : List Int} (hb : ∀ n ∈ r, -100 ≤ n ∧ n ≤ 100) (hl : r.length ≤ 200) : (dL [r, r]).shown.length ≤ sizeLine := by
  have h := shown_le hb hl
  show (textFrom 0 "[" [(dI r).shown, (dI r).shown] ++ ("]" : Str)).length ≤ sizeLine
  rw [Str.length_append]
  have z := textFrom_le [(dI r).shown, (dI r).shown] 0 "[" 1300 (fun t ht => by
    rcases List.mem_cons.mp ht with e | e
    · rw [e]; exact h
    · rw [List.mem_singleton.mp e]; exact h)
  have e1 : ("[" : Str).length = 1 := rfl
  have e2 : ("]" : Str).length = 1 := rfl
  have e3 : [(dI r).shown, (dI r).shown].length = 2 := rfl
  rw [e1, e3] at z
  rw [e2]
  exact Lp.zs (by omega)
/-! ### sorted lists of lists -/
/-! ### lists of lists, by what they hold -/
def toI : V → Int
  | .int n => n
  | _ => 0
def kH (H : Hp) : V → List Int
  | .ref a => match H a with
    | some (.lst xs) => xs.map toI
    | _ => []
  | _ => []
theorem kH_ref {H : Hp} {a : Addr} {r : List Int} (h : H a = some (.lst (r.map V.int))) : kH H (.ref a) = r := by
  show (match H a with
    | some (.lst xs) => xs.map toI
    | _ => []) = r
  rw [h]
  show (r.map V.int).map toI = r
  rw [List.map_map]
  exact (List.map_congr_left fun _ _ => rfl).trans (List.map_id r)
theorem rr_key {H : Hp} : ∀ {rs : List V} {rows : List (List Int)}, RowsR H rs rows → rs.map (kH H) = rows
  | [], [], _ => rfl
  | [], _ :: _, h => absurd h.1 (by simp)
  | _ :: _, [], h => absurd h.1 (by simp)
  | v :: rs, r :: rows, h => by
    obtain ⟨a, b, c⟩ := h.2 0 r rfl
    have e : v = .ref a := Option.some.inj b
    subst e
    rw [List.map_cons, kH_ref c, rr_key ⟨Nat.succ.inj h.1, fun i row e => h.2 (i + 1) row e⟩]
theorem rr_mem {H : Hp} {rs : List V} {rows : List (List Int)} (h : RowsR H rs rows) {x : V} (hx : x ∈ rs) : ∃ t, x = .ref t ∧ H t = some (.lst ((kH H x).map V.int)) := by
  obtain ⟨i, hi, e⟩ := List.mem_iff_getElem.mp hx
  have hi2 : i < rows.length := by rw [← h.1]; exact hi
  obtain ⟨a, b, c⟩ := h.2 i _ (List.getElem?_eq_getElem hi2)
  rw [List.getElem?_eq_getElem hi, e] at b
  have e2 : x = .ref a := Option.some.inj b
  subst e2
  exact ⟨a, rfl, by rw [kH_ref c]; exact c⟩
theorem rr_of {H : Hp} {k : V → List Int} : ∀ {ys : List V}, (∀ y ∈ ys, ∃ t, y = .ref t ∧ H t = some (.lst ((k y).map V.int))) → RowsR H ys (ys.map k)
  | [], _ => RowsR.nil H
  | y :: ys, h => by
    obtain ⟨t, rfl, e⟩ := h y List.mem_cons_self
    exact (RowsR.one e).app (rr_of fun z hz => h z (List.mem_cons_of_mem _ hz))
theorem dp_of {K : PySem.W.Frag} {H H' : Hp} {k : V → List Int} (s : Same H H') : ∀ {ys : List V}, (∀ y ∈ ys, ∃ t, y = .ref t ∧ H t = some (.lst ((k y).map V.int))) → DpAll K H' ys ((ys.map k).map dI)
  | [], _ => .nil
  | y :: ys, h => by
    obtain ⟨t, rfl, e⟩ := h y List.mem_cons_self
    exact .cons (dp_ints (.of (s _ _ e))) (dp_of s fun z hz => h z (List.mem_cons_of_mem _ hz))

section
variable {P : Program} {w : World} {K : PySem.W.Frag} {mg : Str → Option Value} {base : Heap}
/-! ### _law_all -/
def spAll : Sp := fun vs H Q _ => ∃ n : Nat, vs = [.int (n : Int)] ∧ n ≤ 5 ∧ ∀ (H' : Hp) (p : Addr) (rs : List V), Same H H' → H p = none → H' p = some (.lst rs) → RowsR H' rs (rowsS n) → Q (.ref p) H'
theorem all_len {n : Nat} (hn : n ≤ 5) : (allM n).length ≤ 1000 := by
  have z : ∀ n : Fin 6, (allM n.val).length ≤ 1000 := by decide +kernel
  exact z ⟨n, by omega⟩
theorem ok_law_all {f : Addr} {fd : FuncData} (F : Fun K "_law_all" "_law_all" s_law_all f fd) (B : NoB mg) (T_law_shapes : Gc P w K mg base 1 "_law_shapes" spShapes) (T_law_every : Gc P w K mg base 1 "_law_every" spEvery) : FnG P w K mg base CX0 2 f fd ["n"] spAll := by
  refine okG F sc_law_all (fun vs H Q E h => ?_) (fun cdv A outer s H vs Q E hG hr h => ?_)
  · obtain ⟨n, rfl, _⟩ := h
    rfl
  · obtain ⟨n, rfl, hn, q⟩ := h
    have hu64 := hr.units
    have al := all_len hn
    refine ⟨_, (pss_cons (ps_set (i := 1) sc_law_all.nd rfl (Or.inl rfl) (pe_lst pa_nil))
        (pss_cons (ps_for PassesOwn.never rfl (pi_list (pe_g T_law_shapes hG hr (by decide) (by rfl) (pa_cons (pv 0) pa_nil))) (pg_name (i := 2) sc_law_all.nd rfl (Or.inl rfl))
          (pss_one (ps_set (i := 1) sc_law_all.nd rfl (Or.inl rfl) (pe_op op_cat (pv 1) (pe_g T_law_every hG hr (by decide) (by rfl) (pa_cons (pv 2) pa_nil))))))
        (pss_one (ps_ret (pe_callB (cr_sortedLL hu64) (by rfl) B.sorted (by decide +kernel) (pa_cons (pv 1) pa_nil)))))), ?_⟩
    refine ⟨Nat.zero_le _, fun p0 n0 => ?_⟩
    refine ⟨_, rfl, n, rfl, by omega, fun H1 z s1 nz hz => ⟨z, rfl, ⟨_, .of hz⟩, ?_⟩⟩
    have s01 := (same_new (o := .lst []) n0).trans s1
    refine for_list (xs := (shapesL n).map fun bs => V.str (sgS bs)) (fun i σ H' => ∃ (p : Addr) (rs : List V) (y : Option V), σ = [some (.int (n : Int)), some (.ref p), y] ∧ Same H H' ∧ H p = none ∧ H' z = some (.lst ((shapesL n).map fun bs => V.str (sgS bs))) ∧ H' p = some (.lst rs) ∧ RowsR H' rs (((shapesL n).take i).flatMap everyL))
      ⟨p0, [], _, rfl, s01, n0, hz, s1 _ _ upd_same, RowsR.nil _⟩ (fun i σ H' _ p => by obtain ⟨_, _, _, _, _, _, h, _⟩ := p; exact .of h) (fun i v σ H' hx p => ?_) (fun σ H' p => ?_)
    · obtain ⟨p, rs, y, rfl, sm, np, hz', hp, rr⟩ := p
      obtain ⟨bs, hbs, rfl⟩ : ∃ bs, (shapesL n)[i]? = some bs ∧ v = .str (sgS bs) := by
        rw [List.getElem?_map] at hx
        cases h : (shapesL n)[i]? with
        | none =>
          rw [h] at hx
          cases hx
        | some bs =>
          rw [h] at hx
          exact ⟨bs, rfl, (Option.some.inj hx).symm⟩
      have zo := List.all_eq_true.mp (shapes_ok ⟨n, by omega⟩).1 bs (mem_get hbs)
      simp only [Bool.and_eq_true, decide_eq_true_eq] at zo
      obtain ⟨⟨⟨o1, o2⟩, o3⟩, o4⟩ := zo
      refine ⟨_, rfl, _, rfl, bs, rfl, okB_ok o1, by omega, o4, fun H2 p2 rs2 s2 np2 hp2 rr2 => ?_⟩
      have rA := (rr.same s2).app rr2
      have eA : (((shapesL n).take i).flatMap everyL) ++ everyL bs = ((shapesL n).take (i + 1)).flatMap everyL := by
        rw [take_get hbs, List.flatMap_append]
        simp
      rw [eA] at rA
      have len : (rs ++ rs2).length ≤ 1000 := by
        rw [rA.1]
        exact Nat.le_trans (flatMap_take_len _ _) al
      refine ⟨p, p2, _, _, rfl, rfl, s2 _ _ hp, hp2, zs (by rw [← List.length_append]; omega), fun r nr => ?_⟩
      have s3 := (sm.trans s2).trans (same_new (o := .lst (rs ++ rs2)) nr)
      exact ⟨r, _, _, rfl, s3, (sm.trans s2).free nr, same_new nr _ _ (s2 _ _ hz'), upd_same, rA.same (same_new nr)⟩
    · obtain ⟨p, rs, y, rfl, sm, np, hz', hp, rr⟩ := p
      rw [List.length_map, List.take_length] at rr
      refine ⟨_, rfl, p, rs, kH H', rfl, .of hp, fun x hx => ?_, fun ys p2 pm pw np2 => ?_⟩
      · obtain ⟨t, e, ht⟩ := rr_mem rr hx
        exact ⟨t, e, .of ht⟩
      have ky : ys.map (kH H') = rowsS n := by
        have pk := pm.map (kH H')
        rw [rr_key rr] at pk
        refine sorted_is hn pk ?_
        rw [List.pairwise_map]
        exact pw
      have s2 := same_new (o := .lst ys) np2
      have rY : RowsR H' ys (ys.map (kH H')) := rr_of fun y hy => rr_mem rr (pm.mem_iff.mp hy)
      rw [ky] at rY
      exact q _ p2 ys (sm.trans s2) (sm.free np2) upd_same (rY.same s2)
end
end L64
set_option Elab.async false
set_option linter.all false
set_option maxRecDepth 100000
namespace L64
open PySem PySem.Spec PyProof.Rows L2 Lp
section
variable {P : Program} {w : World} {K : PySem.W.Frag} {mg : Str → Option Value} {base : Heap} {CI : Addr}
def spRight : Sp := fun vs H Q _ => ∃ n : Nat, vs = [.int (n : Int)] ∧ n ≤ 5 ∧ ∀ H', Same H H' → Q (.bl true) H'
theorem cut_mem {xs : List V} {a b : Option Int} {x : V} (h : x ∈ cutV xs a b) : x ∈ xs := by
  unfold cutV at h
  exact List.mem_of_mem_drop (List.mem_of_mem_take h)
theorem rows_len : ∀ n : Fin 6, (rowsS n.val).length ≤ 1000 := by decide +kernel
set_option maxHeartbeats 4000000 in
theorem ok_law_right {f : Addr} {fd : FuncData} (F : Fun K "_law_right" "_law_right" s_law_right f fd) (B : NoB mg) (T_law_all : Gc P w K mg base 2 "_law_all" spAll) (T_law_present : Gc P w K mg base 1 "_law_present" (spPres K)) (T_count_original : Gc P w K mg base 6 "count_original" spCO) (T_nth_original : Gc P w K mg base 7 "nth_original" spNthO) (T_K_nth_original : Gk P w K mg base 7 "nth_original" 0 ["index", "patches"] gRev spNthO) (T_original_rank : Gc P w K mg base 10 "original_rank" (spRankO K)) (T_K_original_rank : Gk P w K mg base 10 "original_rank" 0 ["history"] gApp (spRankO K)) (T_law_is_refused : Gc P w K mg base 11 "_law_is_refused" (spRef K)) : FnG P w K mg base CX0 12 f fd ["n"] spRight := by
  refine okG F sc_law_right (fun vs H Q E h => ?_) (fun cdv A outer s H vs Q E hG hr h => ?_)
  · obtain ⟨n, rfl, _⟩ := h
    rfl
  · obtain ⟨n, rfl, hn, q⟩ := h
    have hu64 := hr.units
    have rl : (rowsS n).length ≤ 1000 := rows_len ⟨n, by omega⟩
    refine ⟨_, (pss_cons (ps_set (i := 1) sc_law_right.nd rfl (Or.inl rfl) (pe_g T_law_all hG hr (by decide) (by rfl) (pa_cons (pv 0) pa_nil)))
        (pss_cons (ps_setLc (i := 2) (own := [("row", 4)]) (g := gName 4) (tt := _) rfl sc_law_right.nd rfl rfl (sw_true rfl rfl rfl (by decide +kernel)) (pi_list (pv 1)) (blkOk_by (own := [("row", 4)]) (N := N_law_right) (sc := defScope s_law_right) (by decide +kernel)) (fun _ _ _ _ _ => (pg_name (i := 4) sc_law_right.nd rfl (Or.inl rfl))) (fun _ _ _ _ _ => (pts_one (pt_cmpR op_eq (pe_g T_law_present hG hr (by decide) (by rfl) (pa_cons (pv 4) pa_nil)) pe_int (nomark _)))) (fun _ _ _ _ _ => (pv 4)))
        (pss_cons (ps_if (pt_cmpR op_ne (pe_g T_count_original hG hr (by decide) (by rfl) (pa_cons (pv 0) pa_nil)) (pe_callB call_len_seq (by rfl) B.len PySem.boot_len (pa_cons (pv 2) pa_nil)) (nomark _)) (pss_one (ps_ret pe_bl)) pss_nil)
        (pss_cons (ps_for PassesOwn.never rfl (pi_enum (by rfl) B.enumerate (pa_cons (pv 2) pa_nil)) (pg_tup rfl (pgs_cons (pg_name (i := 3) sc_law_right.nd rfl (Or.inl rfl)) (pgs_cons (pg_name (i := 4) sc_law_right.nd rfl (Or.inl rfl)) pgs_nil)))
          (pss_cons (ps_set (i := 5) sc_law_right.nd rfl (Or.inl rfl) (pe_lst (pa_cons (pe_g T_nth_original hG hr (by decide) (by rfl) (pa_cons (pv 0) (pa_cons (pv 3) pa_nil))) (pa_cons (pe_gK0 T_K_nth_original hG hr (by decide) (by rfl) (pk_cons (pv 3) (pk_cons (pv 0) pk_nil))) pa_nil))))
          (pss_cons (ps_if (PW.pt (pw_or (pt_cmpR op_ne (pe_callB (call_repr hG hu64) (by rfl) B.repr (by decide +kernel) (pa_cons (pv 5) pa_nil)) (pe_callB (call_repr hG hu64) (by rfl) B.repr (by decide +kernel) (pa_cons (pe_lst (pa_cons (pv 4) (pa_cons (pv 4) pa_nil))) pa_nil)) (nomark _)) (pw_or1 (pt_cmpR (op_neD hu64) (pe_lst (pa_cons (pe_g T_original_rank hG hr (by decide) (by rfl) (pa_cons (pv 4) pa_nil)) (pa_cons (pe_gK0 T_K_original_rank hG hr (by decide) (by rfl) (pk_cons (pv 4) pk_nil)) pa_nil))) (pe_lst (pa_cons (pv 3) (pa_cons (pv 3) pa_nil))) (nomark _))))) (pss_one (ps_ret pe_bl)) pss_nil)
          (pss_cons (ps_expr (pe_bm PySem.F.plainAttrs_list PySem.F.slot_list_append PySem.F.type_list_append mt_append (pe_ix ix_list (pv 5) pe_int (fun _ _ => rfl)) (pa_cons pe_non pa_nil)))
          (pss_one (ps_if (pt_cmpR op_ne (pe_callB (call_repr hG hu64) (by rfl) B.repr (by decide +kernel) (pa_cons (pe_g T_nth_original hG hr (by decide) (by rfl) (pa_cons (pv 0) (pa_cons (pv 3) pa_nil))) pa_nil)) (pe_callB (call_repr hG hu64) (by rfl) B.repr (by decide +kernel) (pa_cons (pv 4) pa_nil)) (nomark _)) (pss_one (ps_ret pe_bl)) pss_nil))))))
        (pss_cons (ps_set (i := 6) sc_law_right.nd rfl (Or.inl rfl) (pe_slice sl_list (pe_lc (own := [("row", 4)]) (g := gName 4) (tt := _) rfl sc_law_right.nd (pi_list (pv 1)) (blkOk_by (own := [("row", 4)]) (N := N_law_right) (sc := defScope s_law_right) (by decide +kernel)) (fun _ _ _ _ _ => (pg_name (i := 4) sc_law_right.nd rfl (Or.inl rfl))) (fun _ _ _ _ _ => (pts_one (pt_cmpR op_ne (pe_g T_law_present hG hr (by decide) (by rfl) (pa_cons (pv 4) pa_nil)) pe_int (nomark _)))) (fun _ _ _ _ _ => (pv 4))) po_none (po_some pe_int)))
        (pss_one (ps_ret (pe_cmpR (op_eqD hu64) (pe_lc (own := [("row", 4)]) (g := gName 4) (tt := _) rfl sc_law_right.nd (pi_list (pv 6)) (blkOk_by (own := [("row", 4)]) (N := N_law_right) (sc := defScope s_law_right) (by decide +kernel)) (fun _ _ _ _ _ => (pg_name (i := 4) sc_law_right.nd rfl (Or.inl rfl))) (fun _ _ _ _ _ => (pts_one (pt_not (pt_val (pe_g T_law_is_refused hG hr (by decide) (by rfl) (pa_cons (pv 4) pa_nil)))))) (fun _ _ _ _ _ => pe_int)) (pe_lst pa_nil) (nomark _))))))))), ?_⟩
    refine ⟨_, rfl, n, rfl, hn, fun H1 p rs s1 np hrs rr => ?_⟩
    have rlen := rr.1
    -- due
    refine ⟨_, rfl, p, rfl, ⟨_, .of hrs⟩, fun D nD => lc_list (xs := rs) (fun i H' => Same H1 H' ∧ ∃ ds : List V, H' D = some (.lst ds) ∧ ds.length ≤ i ∧ RowsR H1 ds (((rowsS n).take i).filter fun r => decide (presL r = 0))) ⟨same_new nD, [], upd_same, Nat.le_refl _, RowsR.nil _⟩ (fun i H' _ h => .of (h.1 _ _ hrs)) (fun i y H' hy h => ?_) (fun H2 h => ?_)⟩
    · obtain ⟨sm, ds, hD, ld, rd⟩ := h
      have il := lt_get hy
      have il2 : i < (rowsS n).length := by rw [← rlen]; exact il
      have hrow : (rowsS n)[i]? = some ((rowsS n)[i]'il2) := List.getElem?_eq_getElem il2
      generalize (rowsS n)[i]'il2 = row at hrow
      obtain ⟨ar, er, har⟩ := rr.2 i row hrow
      have ex : y = .ref ar := Option.some.inj (hy.symm.trans er)
      subst ex
      obtain ⟨o1, o2, o3, o4⟩ := oth_ok hn (mem_get hrow)
      have ll := o1.hh.len
      refine ⟨rfl, ?_⟩
      refine ⟨_, rfl, ar, row, rfl, .of (sm _ _ har), ll, o3, fun H' s => ?_⟩
      by_cases c : presL row = 0
      · refine ⟨rfl, true, dT (congrArg V.int c), ?_⟩
        refine ⟨_, rfl, _, s _ _ hD, zl (by omega), Lp.Same.mut (sm.trans s) nD, ds ++ [.ref ar], upd_same, by rw [List.length_append]; exact Nat.succ_le_succ ld, ?_⟩
        have e : ((rowsS n).take (i + 1)).filter (fun r => decide (presL r = 0)) = ((rowsS n).take i).filter (fun r => decide (presL r = 0)) ++ [row] := by
          rw [take_get hrow, List.filter_append, List.filter_cons_of_pos (p := fun r => decide (presL r = 0)) (by exact decide_eq_true c)]
          rfl
        rw [e]
        exact rd.app (RowsR.one har)
      · refine ⟨rfl, false, dF (fun z => c (V.int.inj z)), sm.trans s, ds, s _ _ hD, Nat.le_succ_of_le ld, ?_⟩
        have e : ((rowsS n).take (i + 1)).filter (fun r => decide (presL r = 0)) = ((rowsS n).take i).filter (fun r => decide (presL r = 0)) := by
          rw [take_get hrow, List.filter_append, List.filter_cons_of_neg (p := fun r => decide (presL r = 0)) (by rw [decide_eq_false c]; exact Bool.false_ne_true)]
          exact List.append_nil _
        rw [e]
        exact rd
    · obtain ⟨sm, ds, hD, ld, rd⟩ := h
      rw [rlen, List.take_length] at rd
      have rd : RowsR H1 ds (dueL n) := rd
      have dlen := rd.1
      have tn := TN_small hn
      refine ⟨_, rfl, n, rfl, by omega, fun H3 s3 => ?_⟩
      have hD3 := s3 _ _ hD
      refine ⟨_, rfl, D, _, rfl, .inl (.of hD3), rfl, false, nF (by rw [tn, dlen]), ?_⟩
      have s13 := sm.trans s3
      refine ⟨_, rfl, D, ds, rfl, .of hD3, for_it (walk_enum (xs := ds)) (fun i σ H' => (∃ y3 y4 y5 y6, σ = [some (.int (n : Int)), some (.ref p), some (.ref D), y3, y4, y5, y6]) ∧ Same H3 H') ⟨⟨_, _, _, _, rfl⟩, .refl _⟩ (fun i σ H' _ h => .of (h.2 _ _ hD3)) (fun i x σ H' H2 hi h hy => ?_) (fun σ H' h => ?_)⟩
      · obtain ⟨T, x1, x2, rfl, nT, rfl, e1, e2⟩ := hy
        cases e1
        obtain ⟨⟨y3, y4, y5, y6, rfl⟩, s3'⟩ := h
        have hj := lt_get e2
        have hj2 : i < (dueL n).length := by rw [← dlen]; exact hj
        have ha : (dueL n)[i]? = some ((dueL n)[i]'hj2) := List.getElem?_eq_getElem hj2
        generalize (dueL n)[i]'hj2 = r at ha
        obtain ⟨ar, er, har⟩ := rd.2 i r ha
        have ex : x2 = .ref ar := Option.some.inj (e2.symm.trans er)
        subst ex
        have N := nth_ok hn ha
        have hb : ∀ n_ ∈ r, -100 ≤ n_ ∧ n_ ≤ 100 := fun n_ hn_ => (N.cp.hh.rng n_ hn_).2
        have hl : r.length ≤ 200 := N.cp.hh.len
        have nT3 : H3 T = none := s3'.free nT
        have smT := s3'.trans (same_new (o := .tup [V.int ((i : Nat) : Int), .ref ar]) nT)
        have harT := smT _ _ (s13 _ _ har)
        refine ⟨T, _, rfl, .of upd_same, rfl, _, _, rfl, _, _, rfl, rfl, ?_⟩
        refine ⟨_, rfl, _, rfl, n, i, r, rfl, hn, ha, fun H3 p3 s3 np3 hp3 => ?_⟩
        refine ⟨_, rfl, _, rfl, rfl, rfl, n, i, r, rfl, hn, ha, fun H4 p4 s4 np4 hp4 => ⟨by show 2 ≤ sizeLine; decide, fun L nL => ?_⟩⟩
        have sL := same_new (o := .lst [V.ref p3, .ref p4]) nL
        have hp3' := sL _ _ (s4 _ _ hp3)
        have hp4' := sL _ _ hp4
        have hLm : (upd H4 L (.lst [V.ref p3, .ref p4])) L = some (.lst [V.ref p3, .ref p4]) := upd_same
        have sTM := s3.trans (s4.trans sL)
        have np3b := smT.free np3
        have Lp3 : L ≠ p3 := (ne_of_none (s4 _ _ hp3) nL).symm
        have np3m : p3 ≠ ar := (ne_of_none harT np3).symm
        have harM := sTM _ _ harT
        generalize upd H4 L (.lst [V.ref p3, .ref p4]) = Hm at hp3' hp4' hLm sTM harM ⊢
        have smM := smT.trans sTM
        have d2 : ∀ H' : Hp, ∀ (a b c : Addr), H' a = some (.lst [V.ref b, .ref c]) → H' b = some (.lst (r.map V.int)) → H' c = some (.lst (r.map V.int)) → Dp K H' (.ref a) (dL [r, r]) := fun H' a b c ha hb hc => .lst (.of ha) (.cons (dp_ints (.of hb)) (.cons (dp_ints (.of hc)) .nil))
        have sh2 : (dL [r, r]).showable = true := showL [r, r] fun r' hr' n_ hn_ => by
          have e : r' = r := by
            rcases List.mem_cons.mp hr' with z | z
            · exact z
            · exact List.mem_singleton.mp z
          rw [e] at hn_
          exact hb n_ hn_
        have dp2 : (dL [r, r]).depth ≤ 60 := by
          show PyData.depthAll ([r, r].map dI) + 1 ≤ 60
          have := depL [r, r]
          omega
        refine ⟨_, rfl, L, dL [r, r], rfl, d2 Hm L p3 p4 hLm hp3' hp4', sh2, noDictL _, dp2, shownL2 hb hl, ?_⟩
        refine ⟨_, rfl, _, rfl, by show 2 ≤ sizeLine; decide, fun L2 nL2 => ?_⟩
        have sL2 := same_new (o := .lst [V.ref ar, .ref ar]) nL2
        refine ⟨L2, dL [r, r], rfl, d2 _ L2 ar ar upd_same (sL2 _ _ harM) (sL2 _ _ harM), sh2, noDictL _, dp2, shownL2 hb hl, ?_⟩
        refine ⟨rfl, false, nF rfl, ?_⟩
        refine ⟨_, rfl, n, i, ar, r, rfl, hn, ha, .of (sL2 _ _ harM), fun H5 s5 => ?_⟩
        refine ⟨_, rfl, rfl, rfl, n, i, ar, r, rfl, hn, ha, .of (s5 _ _ (sL2 _ _ harM)), fun H6 s6 => ⟨by show 2 ≤ sizeLine; decide, fun L3 nL3 => ?_⟩⟩
        refine ⟨_, rfl, _, rfl, by show 2 ≤ sizeLine; decide, fun L4 nL4 => ?_⟩
        refine ⟨dI [((i : Nat) : Int), ((i : Nat) : Int)], dI [((i : Nat) : Int), ((i : Nat) : Int)], dp_ints (.of (same_new nL4 _ _ upd_same)), dp_ints (.of upd_same), shaped_ints _, shaped_ints _, false, neqF rfl, ?_⟩
        have sm2 := (sL2.trans (s5.trans s6)).trans ((same_new (o := .lst [V.int ((i : Nat) : Int), .int ((i : Nat) : Int)]) nL3).trans (same_new (o := .lst [V.int ((i : Nat) : Int), .int ((i : Nat) : Int)]) nL4))
        generalize upd (upd H6 L3 (.lst [V.int ((i : Nat) : Int), .int ((i : Nat) : Int)])) L4 (.lst [V.int ((i : Nat) : Int), .int ((i : Nat) : Int)]) = H' at sm2 ⊢
        have hp3m := sm2 _ _ hp3'
        refine ⟨_, rfl, L, _, 0, _, rfl, rfl, .of (sm2 _ _ hLm), at0, .inl ⟨rfl, _, .of hp3m⟩, p3, _, _, rfl, rfl, hp3m, by rw [List.length_map]; exact zl (by omega), ?_⟩
        have sF : Same _ (upd H' p3 (.lst (r.map V.int ++ [V.non]))) := Lp.Same.mut (smM.trans sm2) np3b
        have harF : (upd H' p3 (.lst (r.map V.int ++ [V.non]))) ar = some (.lst (r.map V.int)) := by rw [upd_ne np3m.symm]; exact sm2 _ _ harM
        generalize upd H' p3 (.lst (r.map V.int ++ [V.non])) = Hn at sF harF ⊢
        refine ⟨_, rfl, _, rfl, n, i, r, rfl, hn, ha, fun H5 p5 s5 np5 hp5 => ?_⟩
        refine ⟨p5, dI r, rfl, dp_ints (.of hp5), rI1 hb, noDict_ints _, rI2 _, shown_ints hb (by omega), ?_⟩
        refine ⟨_, rfl, ar, dI r, rfl, dp_ints (.of (s5 _ _ harF)), rI1 hb, noDict_ints _, rI2 _, shown_ints hb (by omega), ?_⟩
        exact ⟨rfl, false, nF rfl, ⟨_, _, _, _, rfl⟩, sF.trans s5⟩
      · obtain ⟨⟨y3, y4, y5, y6, rfl⟩, s3'⟩ := h
        have hrsX := s3' _ _ (s13 _ _ hrs)
        have s1X := s13.trans s3'
        refine ⟨_, rfl, p, rfl, ⟨_, .of hrsX⟩, fun D2 nD2 => lc_list (xs := rs) (fun i H'' => Same H' H'' ∧ ∃ os : List V, H'' D2 = some (.lst os) ∧ os.length ≤ i ∧ ∀ y ∈ os, ∃ (t : Addr) (row : List Int), y = .ref t ∧ H1 t = some (.lst (row.map V.int)) ∧ row ∈ rowsS n ∧ presL row ≠ 0) ⟨same_new nD2, [], upd_same, Nat.le_refl _, fun y hy => nomatch hy⟩ (fun i H' _ h => .of (h.1 _ _ hrsX)) (fun i y H'' hy h => ?_) (fun H4 h => ?_)⟩
        · obtain ⟨sm4, os, hO, lo, ho⟩ := h
          have il := lt_get hy
          have il2 : i < (rowsS n).length := by rw [← rlen]; exact il
          have hrow : (rowsS n)[i]? = some ((rowsS n)[i]'il2) := List.getElem?_eq_getElem il2
          generalize (rowsS n)[i]'il2 = row at hrow
          obtain ⟨ar, er, har⟩ := rr.2 i row hrow
          have ex : y = .ref ar := Option.some.inj (hy.symm.trans er)
          subst ex
          obtain ⟨o1, o2, o3, o4⟩ := oth_ok hn (mem_get hrow)
          have ll := o1.hh.len
          refine ⟨rfl, ?_⟩
          refine ⟨_, rfl, ar, row, rfl, .of (sm4 _ _ (s1X _ _ har)), ll, o3, fun H5 s => ?_⟩
          by_cases c : presL row = 0
          · exact ⟨rfl, false, nF (congrArg V.int c), sm4.trans s, os, s _ _ hO, Nat.le_succ_of_le lo, ho⟩
          · refine ⟨rfl, true, nT (fun z => c (V.int.inj z)), ?_⟩
            refine ⟨_, rfl, _, s _ _ hO, zl (by omega), Lp.Same.mut (sm4.trans s) nD2, os ++ [.ref ar], upd_same, by rw [List.length_append]; exact Nat.succ_le_succ lo, fun y hy => ?_⟩
            rcases List.mem_append.mp hy with hy | hy
            · exact ho y hy
            · rw [List.mem_singleton.mp hy]
              exact ⟨ar, row, rfl, har, mem_get hrow, c⟩
        · obtain ⟨sm4, os, hO, lo, ho⟩ := h
          refine ⟨150, rfl, D2, _, rfl, .of hO, fun sl nsl => ?_⟩
          have t5 := same_new (o := .lst (cutV os none (some 150))) nsl
          have hsl := upd_same (H := H4) (a := sl) (o := .lst (cutV os none (some 150)))
          have s15 := (s1X.trans sm4).trans t5
          generalize upd H4 sl (.lst (cutV os none (some 150))) = H5 at hsl s15 ⊢
          refine ⟨_, rfl, sl, rfl, ⟨_, .of hsl⟩, fun D3 nD3 => lc_list (xs := cutV os none (some 150)) (LcP H5 D3 fun _ => []) (.init nD3 rfl) (fun i H' _ p => .of (p.2.1 _ _ hsl)) (fun i y H'' hy p5 => ?_) (fun H6 p6 => ?_)⟩
          · obtain ⟨t, row, rfl, ht, hm, hp⟩ := ho y (cut_mem (mem_get hy))
            obtain ⟨o1, o2, o3, o4⟩ := oth_ok hn hm
            refine ⟨rfl, ?_⟩
            exact ⟨_, rfl, t, row, rfl, .of (p5.2.1 _ _ (s15 _ _ ht)), o1, (by rw [o4]; exact hp), fun H7 s7 => ⟨true, rfl, p5.skip s7 rfl⟩⟩
          · refine ⟨Nat.zero_le _, fun ee nee => ?_⟩
            have t7 := same_new (o := .lst []) nee
            refine ⟨dI [], dI [], dp_ints (ns := []) (.of (t7 _ _ p6.2.2)), dp_ints (ns := []) (.of upd_same), shaped_ints _, shaped_ints _, ?_⟩
            rw [eqvT rfl]
            exact q _ (s1.trans (s15.trans (p6.2.1.trans t7)))
end
end L64
set_option Elab.async false
set_option linter.all false
set_option maxRecDepth 100000
namespace L64
open PySem PySem.Spec PyProof.Rows L2 Lp
section
variable {P : Program} {w : World} {K : PySem.W.Frag} {mg : Str → Option Value} {base : Heap}
def spLaw (K : PySem.W.Frag) : Sp := fun vs H Q _ => ∃ (a : Addr) (ns : List Int), vs = [.ref a] ∧ SqL K H a (ns.map V.int) ∧ ns.length ≤ 63 ∧ ∀ H', Q (.bl true) H'
theorem ok_law {f : Addr} {fd : FuncData} (F : Fun K "law" "law" s_law f fd) (B : NoB mg) (T_law_pool : Gc P w K mg base 1 "_law_pool" (spPool K)) (T_law_draw : Gc P w K mg base 1 "_law_draw" spDraw) (T_law_right : Gc P w K mg base 12 "_law_right" spRight) : FnG P w K mg base CX0 13 f fd ["script"] (spLaw K) := by
  refine okG F sc_law (fun vs H Q E h => ?_) (fun cdv A outer s H vs Q E hG hr h => ?_)
  · obtain ⟨a, ns, rfl, _⟩ := h
    rfl
  · obtain ⟨sc, ns, rfl, hS, hl, q⟩ := h
    have hu64 := hr.units
    refine ⟨_, (pss_cons (ps_for PassesOwn.never rfl (pi_range1 rfl B.range (pa_cons (pe_callB (call_max2 rfl) (by rfl) B.max (by decide +kernel) (pa_cons pe_int (pa_cons (pe_callB (call_min2 rfl) (by rfl) B.min (by decide +kernel) (pa_cons pe_int (pa_cons (pe_callB call_len_seq (by rfl) B.len PySem.boot_len (pa_cons (pv 0) pa_nil)) pa_nil))) pa_nil))) pa_nil)) (pg_name (i := 1) sc_law.nd rfl (Or.inl rfl))
          (pss_cons (ps_set (i := 2) sc_law.nd rfl (Or.inl rfl) (pe_g T_law_pool hG hr (by decide) (by rfl) (pa_cons (pv 0) (pa_cons (pv 1) pa_nil))))
          (pss_cons (ps_set (i := 3) sc_law.nd rfl (Or.inl rfl) (pe_ifExp (pt_cmpR (op_eqD hu64) (pv 0) (pe_lst pa_nil) (nomark _)) pe_int (pe_g T_law_draw hG hr (by decide) (by rfl) (pa_cons (pv 2) (pa_cons pe_int pa_nil)))))
          (pss_one (ps_if (PW.pt (pw_or (pt_not (pt_val (pe_g T_law_right hG hr (by decide) (by rfl) (pa_cons (pv 3) pa_nil)))) (pw_or (pt_not (pt_val (pe_g T_law_right hG hr (by decide) (by rfl) (pa_cons pe_int pa_nil)))) (pw_or1 (pt_not (pt_val (pe_g T_law_right hG hr (by decide) (by rfl) (pa_cons pe_int pa_nil)))))))) (pss_one (ps_ret pe_bl)) pss_nil)))))
        (pss_one (ps_ret pe_bl))), ?_⟩
    refine ⟨_, rfl, sc, _, rfl, .inl hS, _, _, rfl, _, _, rfl, ?_⟩
    generalize ec : (if (if (((ns.map V.int).length : Nat) : Int) < 4 then (((ns.map V.int).length : Nat) : Int) else (4 : Int)) > 1 then (if (((ns.map V.int).length : Nat) : Int) < 4 then (((ns.map V.int).length : Nat) : Int) else (4 : Int)) else 1) = c
    have c0 : 1 ≤ c ∧ c ≤ 4 := by
      rw [← ec]
      split <;> split <;> omega
    refine ⟨c, rfl, by omega, by omega, for_range (lo := 0) (n := c.toNat) (fun i σ H' => (∃ y1 y2 y3, σ = [some (.ref sc), y1, y2, y3]) ∧ Same H H') ⟨⟨_, _, _, rfl⟩, Same.refl _⟩ (fun i σ H' hi h => ?_) (fun σ H' h => q _)⟩
    obtain ⟨⟨y1, y2, y3, rfl⟩, sm⟩ := h
    refine ⟨_, rfl, _, rfl, sc, ns, i, congrArg (fun z => [V.ref sc, V.int z]) (Int.zero_add _), sm.seq hS, by omega, fun H2 src s2 nsrc hs2 => ?_⟩
    have s02 := sm.trans s2
    refine ⟨_, rfl, Nat.zero_le _, fun e ne => ?_⟩
    have s3 := s02.trans (same_new (o := .lst []) ne)
    refine ⟨dI ns, dI [], dp_ints (s3.seq hS), dp_ints (ns := []) (.of upd_same), shaped_ints _, shaped_ints _, ?_⟩
    by_cases h0 : ns = []
    · refine ⟨true, eqvT h0, ?_⟩
      refine ⟨_, rfl, 2, rfl, by decide, fun H4 s4 => ⟨true, rfl, 0, rfl, by decide, fun H5 s5 => ⟨true, rfl, 3, rfl, by decide, fun H6 s6 => ⟨true, rfl, ⟨_, _, _, rfl⟩, ((s3.trans s4).trans s5).trans s6⟩⟩⟩⟩
    · refine ⟨false, eqvF h0, ?_⟩
      refine ⟨_, rfl, src, 6, 0, rfl, hs2.new ne, by decide, by decide, by decide, fun r H3 r0 r1 hs3 b3 => ?_⟩
      obtain ⟨m, rfl⟩ := nat_of r0
      have nsrc0 : H src = none := sm.free nsrc
      have s4' : Same H H3 := fun y o ey => b3 y o (ne_of_none ey nsrc0) (s3 y o ey)
      refine ⟨_, rfl, m, rfl, by omega, fun H4 s4 => ⟨true, rfl, 0, rfl, by decide, fun H5 s5 => ⟨true, rfl, 3, rfl, by decide, fun H6 s6 => ⟨true, rfl, ⟨_, _, _, rfl⟩, ((s4'.trans s4).trans s5).trans s6⟩⟩⟩⟩
end
end L64
set_option Elab.async false
set_option linter.all false
set_option maxRecDepth 100000
namespace L64
open PySem PySem.Spec PyProof.Rows L2 Lp
/-! ### what one own class of errors must say, asked at once -/
def ecB (K : PySem.W.Frag) (D : Addr) : Bool := xfB K D && (decide (PySem.W.findIn K (.ref D) "__class__" = some (some (.builtin "object.__class__"))) && decide (PySem.W.mroIn K D (.type "object") = some true))
def tyB (K : PySem.W.Frag) (D : Addr) : Bool := (PySem.W.clsIn K D).isSome && (decide (PySem.W.typeIn K (.ref D) = some (.type "type")) && (decide (PySem.W.subIn K (.ref D) (.type "ValueError") = some true) && (decide (PySem.W.subIn K (.ref D) (.type "BaseException") = some true) && decide (PySem.W.subIn K (.ref D) (.ref D) = some true))))
theorem er_of {K : PySem.W.Frag} {mg : Str → Option Value} {D : Addr} (h : ecB K D = true) (ht : tyB K D = true) (hn : PySem.W.specialIn K (.builtin "object.__class__") "__get__" = some (some (.builtin "getset_descriptor.__get__"))) (hk : PySem.W.takesIn K (.builtin "object.__class__") = some true)
    (c : mg "InvalidHistoryError" = some (.ref D)) (x : PySem.W.excIn K D [.type "ValueError", .type "Exception", .type "BaseException", .type "object"] "ValueError.__new__" = true) (k : PySem.W.keepIn K (.ref D) = true) : Er K mg D := by
  unfold ecB at h
  rw [Bool.and_eq_true, Bool.and_eq_true, decide_eq_true_eq, decide_eq_true_eq] at h
  obtain ⟨z1, z2, z3⟩ := h
  unfold xfB at z1
  simp only [Bool.and_eq_true, decide_eq_true_eq] at z1
  unfold tyB at ht
  simp only [Bool.and_eq_true, decide_eq_true_eq] at ht
  obtain ⟨t1, t2, t3, t4, t5⟩ := ht
  refine ⟨c, x, k, t4, t2, ?_, ⟨z1.1, z1.2.1, z1.2.2.1, z1.2.2.2, z2, hn, hk, z3⟩, ?_⟩
  · unfold PySem.W.exmOne PySem.W.kitCls
    rw [t4, if_pos (by rfl)]
    show (if ((PySem.W.clsIn K D).isSome && PySem.W.typeIn K (.ref D) == some (.type "type")) = true then PySem.W.subIn K (.ref D) (.ref D) else none) = some true
    rw [t1, t2, if_pos (by rfl), t5]
  · unfold PySem.W.kitOne
    rw [if_neg (fun z => by cases beq_iff_eq.mp z)]
    show (if PySem.W.kitMeta "ValueError" = true then PySem.W.subIn K (.ref D) (.type "ValueError") else none) = some true
    rw [if_pos (by decide +kernel), t3]
end L64
set_option Elab.async false
set_option linter.all false
set_option maxRecDepth 100000
namespace L64
open PySem PySem.Spec PyProof.Rows L2 Lp
set_option maxHeartbeats 0 in
theorem all_mk {l : PySem.W.OpenLaw} {w : World} {K : PySem.W.Frag} {h : Heap} {mg : Str → Option Value} {fa : Addr} (X : K.In h) (G : h.Ns mainGlobals mg) (hfa : mg "law" = some (.ref fa))
    {CB : Addr} (aCCB : PySem.W.nsIn K mainGlobals "Beginning" = some (some (.ref CB))) (pgCB : PySem.W.plainGet K CB Str.empty = true) (hdCB : PySem.W.hasDictIn K CB = true) (poCB : PySem.W.plainOver K CB = true) (saCB : PySem.W.findIn K (.ref CB) "__setattr__" = some (some (.builtin "object.__setattr__"))) (mkCB : PySem.W.makesIn K CB = true) (kcCB : PySem.W.keepIn K (.ref CB) = true)
    (nCB0 : PySem.W.findIn K (.ref CB) "so_far" = some none)
    (nCB1 : PySem.W.findIn K (.ref CB) "running" = some none)
    (nCB2 : PySem.W.findIn K (.ref CB) "unstarted" = some none)
    (nCB3 : PySem.W.findIn K (.ref CB) "saver" = some none)
    (nCB4 : PySem.W.findIn K (.ref CB) "ways" = some none)
    {f0 : Addr} {oc0 kV0 dc0 pm0 cd0 ct0 : Value} {od0 an0 : Option Addr} {sl0 : Array (Option Value)}
    (a0 : PySem.W.nsIn K mainGlobals "is_integer" = some (some (.ref f0))) (l0 : K.lookup f0 = some ⟨oc0, od0, .func (PySem.W.fnOf "is_integer" "is_integer" (defArgs s_is_integer) (defBody s_is_integer) (defScope s_is_integer) .none kV0 dc0 pm0 an0 cd0 ct0), sl0⟩) (c0 : PySem.W.codeIn K cd0 "is_integer" = true) (k0 : PySem.W.keepIn K (.ref f0) = true)
    {f1 : Addr} {oc1 kV1 dc1 pm1 cd1 ct1 : Value} {od1 an1 : Option Addr} {sl1 : Array (Option Value)}
    (a1 : PySem.W.nsIn K mainGlobals "is_integer_within" = some (some (.ref f1))) (l1 : K.lookup f1 = some ⟨oc1, od1, .func (PySem.W.fnOf "is_integer_within" "is_integer_within" (defArgs s_is_integer_within) (defBody s_is_integer_within) (defScope s_is_integer_within) .none kV1 dc1 pm1 an1 cd1 ct1), sl1⟩) (c1 : PySem.W.codeIn K cd1 "is_integer_within" = true) (k1 : PySem.W.keepIn K (.ref f1) = true)
    {f2 : Addr} {oc2 kV2 dc2 pm2 cd2 ct2 : Value} {od2 an2 : Option Addr} {sl2 : Array (Option Value)}
    (a2 : PySem.W.nsIn K mainGlobals "are_integers" = some (some (.ref f2))) (l2 : K.lookup f2 = some ⟨oc2, od2, .func (PySem.W.fnOf "are_integers" "are_integers" (defArgs s_are_integers) (defBody s_are_integers) (defScope s_are_integers) .none kV2 dc2 pm2 an2 cd2 ct2), sl2⟩) (c2 : PySem.W.codeIn K cd2 "are_integers" = true) (k2 : PySem.W.keepIn K (.ref f2) = true)
    {f3 : Addr} {oc3 kV3 dc3 pm3 cd3 ct3 : Value} {od3 an3 : Option Addr} {sl3 : Array (Option Value)}
    (a3 : PySem.W.nsIn K mainGlobals "check_number" = some (some (.ref f3))) (l3 : K.lookup f3 = some ⟨oc3, od3, .func (PySem.W.fnOf "check_number" "check_number" (defArgs s_check_number) (defBody s_check_number) (defScope s_check_number) .none kV3 dc3 pm3 an3 cd3 ct3), sl3⟩) (c3 : PySem.W.codeIn K cd3 "check_number" = true) (k3 : PySem.W.keepIn K (.ref f3) = true)
    {f4 : Addr} {oc4 kV4 dc4 pm4 cd4 ct4 : Value} {od4 an4 : Option Addr} {sl4 : Array (Option Value)}
    (a4 : PySem.W.nsIn K mainGlobals "check_index" = some (some (.ref f4))) (l4 : K.lookup f4 = some ⟨oc4, od4, .func (PySem.W.fnOf "check_index" "check_index" (defArgs s_check_index) (defBody s_check_index) (defScope s_check_index) .none kV4 dc4 pm4 an4 cd4 ct4), sl4⟩) (c4 : PySem.W.codeIn K cd4 "check_index" = true) (k4 : PySem.W.keepIn K (.ref f4) = true)
    {f5 : Addr} {oc5 kV5 dc5 pm5 cd5 ct5 : Value} {od5 an5 : Option Addr} {sl5 : Array (Option Value)}
    (a5 : PySem.W.nsIn K mainGlobals "are_events" = some (some (.ref f5))) (l5 : K.lookup f5 = some ⟨oc5, od5, .func (PySem.W.fnOf "are_events" "are_events" (defArgs s_are_events) (defBody s_are_events) (defScope s_are_events) .none kV5 dc5 pm5 an5 cd5 ct5), sl5⟩) (c5 : PySem.W.codeIn K cd5 "are_events" = true) (k5 : PySem.W.keepIn K (.ref f5) = true)
    {f6 : Addr} {oc6 kV6 dc6 pm6 cd6 ct6 : Value} {od6 an6 : Option Addr} {sl6 : Array (Option Value)}
    (a6 : PySem.W.nsIn K mainGlobals "is_history" = some (some (.ref f6))) (l6 : K.lookup f6 = some ⟨oc6, od6, .func (PySem.W.fnOf "is_history" "is_history" (defArgs s_is_history) (defBody s_is_history) (defScope s_is_history) .none kV6 dc6 pm6 an6 cd6 ct6), sl6⟩) (c6 : PySem.W.codeIn K cd6 "is_history" = true) (k6 : PySem.W.keepIn K (.ref f6) = true)
    {f7 : Addr} {oc7 kV7 dc7 pm7 cd7 ct7 : Value} {od7 an7 : Option Addr} {sl7 : Array (Option Value)}
    (a7 : PySem.W.nsIn K mainGlobals "check_history" = some (some (.ref f7))) (l7 : K.lookup f7 = some ⟨oc7, od7, .func (PySem.W.fnOf "check_history" "check_history" (defArgs s_check_history) (defBody s_check_history) (defScope s_check_history) .none kV7 dc7 pm7 an7 cd7 ct7), sl7⟩) (c7 : PySem.W.codeIn K cd7 "check_history" = true) (k7 : PySem.W.keepIn K (.ref f7) = true)
    {f8 : Addr} {oc8 kV8 dc8 pm8 cd8 ct8 : Value} {od8 an8 : Option Addr} {sl8 : Array (Option Value)}
    (a8 : PySem.W.nsIn K mainGlobals "starts_of" = some (some (.ref f8))) (l8 : K.lookup f8 = some ⟨oc8, od8, .func (PySem.W.fnOf "starts_of" "starts_of" (defArgs s_starts_of) (defBody s_starts_of) (defScope s_starts_of) .none kV8 dc8 pm8 an8 cd8 ct8), sl8⟩) (c8 : PySem.W.codeIn K cd8 "starts_of" = true) (k8 : PySem.W.keepIn K (.ref f8) = true)
    {f9 : Addr} {oc9 kV9 dc9 pm9 cd9 ct9 : Value} {od9 an9 : Option Addr} {sl9 : Array (Option Value)}
    (a9 : PySem.W.nsIn K mainGlobals "running_after" = some (some (.ref f9))) (l9 : K.lookup f9 = some ⟨oc9, od9, .func (PySem.W.fnOf "running_after" "running_after" (defArgs s_running_after) (defBody s_running_after) (defScope s_running_after) .none kV9 dc9 pm9 an9 cd9 ct9), sl9⟩) (c9 : PySem.W.codeIn K cd9 "running_after" = true) (k9 : PySem.W.keepIn K (.ref f9) = true)
    {f10 : Addr} {oc10 kV10 dc10 pm10 cd10 ct10 : Value} {od10 an10 : Option Addr} {sl10 : Array (Option Value)}
    (a10 : PySem.W.nsIn K mainGlobals "is_complete" = some (some (.ref f10))) (l10 : K.lookup f10 = some ⟨oc10, od10, .func (PySem.W.fnOf "is_complete" "is_complete" (defArgs s_is_complete) (defBody s_is_complete) (defScope s_is_complete) .none kV10 dc10 pm10 an10 cd10 ct10), sl10⟩) (c10 : PySem.W.codeIn K cd10 "is_complete" = true) (k10 : PySem.W.keepIn K (.ref f10) = true)
    {f11 : Addr} {oc11 kV11 dc11 pm11 cd11 ct11 : Value} {od11 an11 : Option Addr} {sl11 : Array (Option Value)}
    (a11 : PySem.W.nsIn K mainGlobals "is_plain" = some (some (.ref f11))) (l11 : K.lookup f11 = some ⟨oc11, od11, .func (PySem.W.fnOf "is_plain" "is_plain" (defArgs s_is_plain) (defBody s_is_plain) (defScope s_is_plain) .none kV11 dc11 pm11 an11 cd11 ct11), sl11⟩) (c11 : PySem.W.codeIn K cd11 "is_plain" = true) (k11 : PySem.W.keepIn K (.ref f11) = true)
    {f12 : Addr} {oc12 kV12 dc12 pm12 cd12 ct12 : Value} {od12 an12 : Option Addr} {sl12 : Array (Option Value)}
    (a12 : PySem.W.nsIn K mainGlobals "replay" = some (some (.ref f12))) (l12 : K.lookup f12 = some ⟨oc12, od12, .func (PySem.W.fnOf "replay" "replay" (defArgs s_replay) (defBody s_replay) (defScope s_replay) .none kV12 dc12 pm12 an12 cd12 ct12), sl12⟩) (c12 : PySem.W.codeIn K cd12 "replay" = true) (k12 : PySem.W.keepIn K (.ref f12) = true)
    {f13 : Addr} {oc13 kV13 dc13 pm13 cd13 ct13 : Value} {od13 an13 : Option Addr} {sl13 : Array (Option Value)}
    (a13 : PySem.W.nsIn K mainGlobals "present_after" = some (some (.ref f13))) (l13 : K.lookup f13 = some ⟨oc13, od13, .func (PySem.W.fnOf "present_after" "present_after" (defArgs s_present_after) (defBody s_present_after) (defScope s_present_after) .none kV13 dc13 pm13 an13 cd13 ct13), sl13⟩) (c13 : PySem.W.codeIn K cd13 "present_after" = true) (k13 : PySem.W.keepIn K (.ref f13) = true)
    {f14 : Addr} {oc14 kV14 dc14 pm14 cd14 ct14 : Value} {od14 an14 : Option Addr} {sl14 : Array (Option Value)}
    (a14 : PySem.W.nsIn K mainGlobals "_check_complete_plain" = some (some (.ref f14))) (l14 : K.lookup f14 = some ⟨oc14, od14, .func (PySem.W.fnOf "_check_complete_plain" "_check_complete_plain" (defArgs s_check_complete_plain) (defBody s_check_complete_plain) (defScope s_check_complete_plain) .none kV14 dc14 pm14 an14 cd14 ct14), sl14⟩) (c14 : PySem.W.codeIn K cd14 "_check_complete_plain" = true) (k14 : PySem.W.keepIn K (.ref f14) = true)
    {f15 : Addr} {oc15 kV15 dc15 pm15 cd15 ct15 : Value} {od15 an15 : Option Addr} {sl15 : Array (Option Value)}
    (a15 : PySem.W.nsIn K mainGlobals "_check_patches" = some (some (.ref f15))) (l15 : K.lookup f15 = some ⟨oc15, od15, .func (PySem.W.fnOf "_check_patches" "_check_patches" (defArgs s_check_patches) (defBody s_check_patches) (defScope s_check_patches) .none kV15 dc15 pm15 an15 cd15 ct15), sl15⟩) (c15 : PySem.W.codeIn K cd15 "_check_patches" = true) (k15 : PySem.W.keepIn K (.ref f15) = true)
    {f16 : Addr} {oc16 kV16 dc16 pm16 cd16 ct16 : Value} {od16 an16 : Option Addr} {sl16 : Array (Option Value)}
    (a16 : PySem.W.nsIn K mainGlobals "_count_ways" = some (some (.ref f16))) (l16 : K.lookup f16 = some ⟨oc16, od16, .func (PySem.W.fnOf "_count_ways" "_count_ways" (defArgs s_count_ways) (defBody s_count_ways) (defScope s_count_ways) .none kV16 dc16 pm16 an16 cd16 ct16), sl16⟩) (c16 : PySem.W.codeIn K cd16 "_count_ways" = true) (k16 : PySem.W.keepIn K (.ref f16) = true)
    {f17 : Addr} {oc17 kV17 dc17 pm17 cd17 ct17 : Value} {od17 an17 : Option Addr} {sl17 : Array (Option Value)}
    (a17 : PySem.W.nsIn K mainGlobals "count_with_jump" = some (some (.ref f17))) (l17 : K.lookup f17 = some ⟨oc17, od17, .func (PySem.W.fnOf "count_with_jump" "count_with_jump" (defArgs s_count_with_jump) (defBody s_count_with_jump) (defScope s_count_with_jump) .none kV17 dc17 pm17 an17 cd17 ct17), sl17⟩) (c17 : PySem.W.codeIn K cd17 "count_with_jump" = true) (k17 : PySem.W.keepIn K (.ref f17) = true)
    {f18 : Addr} {oc18 kV18 dc18 pm18 cd18 ct18 : Value} {od18 an18 : Option Addr} {sl18 : Array (Option Value)}
    (a18 : PySem.W.nsIn K mainGlobals "count_original" = some (some (.ref f18))) (l18 : K.lookup f18 = some ⟨oc18, od18, .func (PySem.W.fnOf "count_original" "count_original" (defArgs s_count_original) (defBody s_count_original) (defScope s_count_original) .none kV18 dc18 pm18 an18 cd18 ct18), sl18⟩) (c18 : PySem.W.codeIn K cd18 "count_original" = true) (k18 : PySem.W.keepIn K (.ref f18) = true)
    {f19 : Addr} {oc19 kV19 dc19 pm19 cd19 ct19 : Value} {od19 an19 : Option Addr} {sl19 : Array (Option Value)}
    (a19 : PySem.W.nsIn K mainGlobals "_rows_that_leave" = some (some (.ref f19))) (l19 : K.lookup f19 = some ⟨oc19, od19, .func (PySem.W.fnOf "_rows_that_leave" "_rows_that_leave" (defArgs s_rows_that_leave) (defBody s_rows_that_leave) (defScope s_rows_that_leave) .none kV19 dc19 pm19 an19 cd19 ct19), sl19⟩) (c19 : PySem.W.codeIn K cd19 "_rows_that_leave" = true) (k19 : PySem.W.keepIn K (.ref f19) = true)
    {f20 : Addr} {oc20 kV20 dc20 pm20 cd20 ct20 : Value} {od20 an20 : Option Addr} {sl20 : Array (Option Value)}
    (a20 : PySem.W.nsIn K mainGlobals "_ways_of_original" = some (some (.ref f20))) (l20 : K.lookup f20 = some ⟨oc20, od20, .func (PySem.W.fnOf "_ways_of_original" "_ways_of_original" (defArgs s_ways_of_original) (defBody s_ways_of_original) (defScope s_ways_of_original) .none kV20 dc20 pm20 an20 cd20 ct20), sl20⟩) (c20 : PySem.W.codeIn K cd20 "_ways_of_original" = true) (k20 : PySem.W.keepIn K (.ref f20) = true)
    {f21 : Addr} {oc21 kV21 dc21 pm21 cd21 ct21 : Value} {od21 an21 : Option Addr} {sl21 : Array (Option Value)}
    (a21 : PySem.W.nsIn K mainGlobals "_fate_word" = some (some (.ref f21))) (l21 : K.lookup f21 = some ⟨oc21, od21, .func (PySem.W.fnOf "_fate_word" "_fate_word" (defArgs s_fate_word) (defBody s_fate_word) (defScope s_fate_word) .none kV21 dc21 pm21 an21 cd21 ct21), sl21⟩) (c21 : PySem.W.codeIn K cd21 "_fate_word" = true) (k21 : PySem.W.keepIn K (.ref f21) = true)
    {f22 : Addr} {oc22 kV22 dc22 pm22 cd22 ct22 : Value} {od22 an22 : Option Addr} {sl22 : Array (Option Value)}
    (a22 : PySem.W.findIn K (.ref CB) "__init__" = some (some (.ref f22))) (i22 : PySem.W.isFn K (.ref f22) = true) (l22 : K.lookup f22 = some ⟨oc22, od22, .func (PySem.W.fnOf "__init__" "Beginning.__init__" (defArgs s_Beginning_init) (defBody s_Beginning_init) (defScope s_Beginning_init) .none kV22 dc22 pm22 an22 cd22 ct22), sl22⟩) (c22 : PySem.W.codeIn K cd22 "Beginning.__init__" = true) (k22 : PySem.W.keepIn K (.ref f22) = true)
    {f23 : Addr} {oc23 kV23 dc23 pm23 cd23 ct23 : Value} {od23 an23 : Option Addr} {sl23 : Array (Option Value)}
    (a23 : PySem.W.findIn K (.ref CB) "saver_behind" = some (some (.ref f23))) (i23 : PySem.W.isFn K (.ref f23) = true) (l23 : K.lookup f23 = some ⟨oc23, od23, .func (PySem.W.fnOf "saver_behind" "Beginning.saver_behind" (defArgs s_Beginning_saver_behind) (defBody s_Beginning_saver_behind) (defScope s_Beginning_saver_behind) .none kV23 dc23 pm23 an23 cd23 ct23), sl23⟩) (c23 : PySem.W.codeIn K cd23 "Beginning.saver_behind" = true) (k23 : PySem.W.keepIn K (.ref f23) = true)
    {f24 : Addr} {oc24 kV24 dc24 pm24 cd24 ct24 : Value} {od24 an24 : Option Addr} {sl24 : Array (Option Value)}
    (a24 : PySem.W.findIn K (.ref CB) "following" = some (some (.ref f24))) (i24 : PySem.W.isFn K (.ref f24) = true) (l24 : K.lookup f24 = some ⟨oc24, od24, .func (PySem.W.fnOf "following" "Beginning.following" (defArgs s_Beginning_following) (defBody s_Beginning_following) (defScope s_Beginning_following) .none kV24 dc24 pm24 an24 cd24 ct24), sl24⟩) (c24 : PySem.W.codeIn K cd24 "Beginning.following" = true) (k24 : PySem.W.keepIn K (.ref f24) = true)
    {f25 : Addr} {oc25 kV25 dc25 pm25 cd25 ct25 : Value} {od25 an25 : Option Addr} {sl25 : Array (Option Value)}
    (a25 : PySem.W.findIn K (.ref CB) "ways_behind" = some (some (.ref f25))) (i25 : PySem.W.isFn K (.ref f25) = true) (l25 : K.lookup f25 = some ⟨oc25, od25, .func (PySem.W.fnOf "ways_behind" "Beginning.ways_behind" (defArgs s_Beginning_ways_behind) (defBody s_Beginning_ways_behind) (defScope s_Beginning_ways_behind) .none kV25 dc25 pm25 an25 cd25 ct25), sl25⟩) (c25 : PySem.W.codeIn K cd25 "Beginning.ways_behind" = true) (k25 : PySem.W.keepIn K (.ref f25) = true)
    {f26 : Addr} {oc26 kV26 dc26 pm26 cd26 ct26 : Value} {od26 an26 : Option Addr} {sl26 : Array (Option Value)}
    (a26 : PySem.W.findIn K (.ref CB) "go_on" = some (some (.ref f26))) (i26 : PySem.W.isFn K (.ref f26) = true) (l26 : K.lookup f26 = some ⟨oc26, od26, .func (PySem.W.fnOf "go_on" "Beginning.go_on" (defArgs s_Beginning_go_on) (defBody s_Beginning_go_on) (defScope s_Beginning_go_on) .none kV26 dc26 pm26 an26 cd26 ct26), sl26⟩) (c26 : PySem.W.codeIn K cd26 "Beginning.go_on" = true) (k26 : PySem.W.keepIn K (.ref f26) = true)
    {f27 : Addr} {oc27 kV27 dc27 pm27 cd27 ct27 : Value} {od27 an27 : Option Addr} {sl27 : Array (Option Value)}
    (a27 : PySem.W.nsIn K mainGlobals "_nth_by" = some (some (.ref f27))) (l27 : K.lookup f27 = some ⟨oc27, od27, .func (PySem.W.fnOf "_nth_by" "_nth_by" (defArgs s_nth_by) (defBody s_nth_by) (defScope s_nth_by) .none kV27 dc27 pm27 an27 cd27 ct27), sl27⟩) (c27 : PySem.W.codeIn K cd27 "_nth_by" = true) (k27 : PySem.W.keepIn K (.ref f27) = true)
    {f28 : Addr} {oc28 kV28 dc28 pm28 cd28 ct28 : Value} {od28 an28 : Option Addr} {sl28 : Array (Option Value)}
    (a28 : PySem.W.nsIn K mainGlobals "_rank_by" = some (some (.ref f28))) (l28 : K.lookup f28 = some ⟨oc28, od28, .func (PySem.W.fnOf "_rank_by" "_rank_by" (defArgs s_rank_by) (defBody s_rank_by) (defScope s_rank_by) .none kV28 dc28 pm28 an28 cd28 ct28), sl28⟩) (c28 : PySem.W.codeIn K cd28 "_rank_by" = true) (k28 : PySem.W.keepIn K (.ref f28) = true)
    {f29 : Addr} {oc29 kV29 dc29 pm29 cd29 ct29 : Value} {od29 an29 : Option Addr} {sl29 : Array (Option Value)}
    (a29 : PySem.W.nsIn K mainGlobals "nth_original" = some (some (.ref f29))) (l29 : K.lookup f29 = some ⟨oc29, od29, .func (PySem.W.fnOf "nth_original" "nth_original" (defArgs s_nth_original) (defBody s_nth_original) (defScope s_nth_original) .none kV29 dc29 pm29 an29 cd29 ct29), sl29⟩) (c29 : PySem.W.codeIn K cd29 "nth_original" = true) (k29 : PySem.W.keepIn K (.ref f29) = true)
    {f30 : Addr} {oc30 kV30 dc30 pm30 cd30 ct30 : Value} {od30 an30 : Option Addr} {sl30 : Array (Option Value)}
    (a30 : PySem.W.nsIn K mainGlobals "original_rank" = some (some (.ref f30))) (l30 : K.lookup f30 = some ⟨oc30, od30, .func (PySem.W.fnOf "original_rank" "original_rank" (defArgs s_original_rank) (defBody s_original_rank) (defScope s_original_rank) .none kV30 dc30 pm30 an30 cd30 ct30), sl30⟩) (c30 : PySem.W.codeIn K cd30 "original_rank" = true) (k30 : PySem.W.keepIn K (.ref f30) = true)
    {f31 : Addr} {oc31 kV31 dc31 pm31 cd31 ct31 : Value} {od31 an31 : Option Addr} {sl31 : Array (Option Value)}
    (a31 : PySem.W.nsIn K mainGlobals "_law_pool" = some (some (.ref f31))) (l31 : K.lookup f31 = some ⟨oc31, od31, .func (PySem.W.fnOf "_law_pool" "_law_pool" (defArgs s_law_pool) (defBody s_law_pool) (defScope s_law_pool) .none kV31 dc31 pm31 an31 cd31 ct31), sl31⟩) (c31 : PySem.W.codeIn K cd31 "_law_pool" = true) (k31 : PySem.W.keepIn K (.ref f31) = true)
    {f32 : Addr} {oc32 kV32 dc32 pm32 cd32 ct32 : Value} {od32 an32 : Option Addr} {sl32 : Array (Option Value)}
    (a32 : PySem.W.nsIn K mainGlobals "_law_draw" = some (some (.ref f32))) (l32 : K.lookup f32 = some ⟨oc32, od32, .func (PySem.W.fnOf "_law_draw" "_law_draw" (defArgs s_law_draw) (defBody s_law_draw) (defScope s_law_draw) .none kV32 dc32 pm32 an32 cd32 ct32), sl32⟩) (c32 : PySem.W.codeIn K cd32 "_law_draw" = true) (k32 : PySem.W.keepIn K (.ref f32) = true)
    {f33 : Addr} {oc33 kV33 dc33 pm33 cd33 ct33 : Value} {od33 an33 : Option Addr} {sl33 : Array (Option Value)}
    (a33 : PySem.W.nsIn K mainGlobals "_law_every" = some (some (.ref f33))) (l33 : K.lookup f33 = some ⟨oc33, od33, .func (PySem.W.fnOf "_law_every" "_law_every" (defArgs s_law_every) (defBody s_law_every) (defScope s_law_every) .none kV33 dc33 pm33 an33 cd33 ct33), sl33⟩) (c33 : PySem.W.codeIn K cd33 "_law_every" = true) (k33 : PySem.W.keepIn K (.ref f33) = true)
    {f34 : Addr} {oc34 kV34 dc34 pm34 cd34 ct34 : Value} {od34 an34 : Option Addr} {sl34 : Array (Option Value)}
    (a34 : PySem.W.nsIn K mainGlobals "_law_shapes" = some (some (.ref f34))) (l34 : K.lookup f34 = some ⟨oc34, od34, .func (PySem.W.fnOf "_law_shapes" "_law_shapes" (defArgs s_law_shapes) (defBody s_law_shapes) (defScope s_law_shapes) .none kV34 dc34 pm34 an34 cd34 ct34), sl34⟩) (c34 : PySem.W.codeIn K cd34 "_law_shapes" = true) (k34 : PySem.W.keepIn K (.ref f34) = true)
    {f35 : Addr} {oc35 kV35 dc35 pm35 cd35 ct35 : Value} {od35 an35 : Option Addr} {sl35 : Array (Option Value)}
    (a35 : PySem.W.nsIn K mainGlobals "_law_all" = some (some (.ref f35))) (l35 : K.lookup f35 = some ⟨oc35, od35, .func (PySem.W.fnOf "_law_all" "_law_all" (defArgs s_law_all) (defBody s_law_all) (defScope s_law_all) .none kV35 dc35 pm35 an35 cd35 ct35), sl35⟩) (c35 : PySem.W.codeIn K cd35 "_law_all" = true) (k35 : PySem.W.keepIn K (.ref f35) = true)
    {f36 : Addr} {oc36 kV36 dc36 pm36 cd36 ct36 : Value} {od36 an36 : Option Addr} {sl36 : Array (Option Value)}
    (a36 : PySem.W.nsIn K mainGlobals "_law_present" = some (some (.ref f36))) (l36 : K.lookup f36 = some ⟨oc36, od36, .func (PySem.W.fnOf "_law_present" "_law_present" (defArgs s_law_present) (defBody s_law_present) (defScope s_law_present) .none kV36 dc36 pm36 an36 cd36 ct36), sl36⟩) (c36 : PySem.W.codeIn K cd36 "_law_present" = true) (k36 : PySem.W.keepIn K (.ref f36) = true)
    {f37 : Addr} {oc37 kV37 dc37 pm37 cd37 ct37 : Value} {od37 an37 : Option Addr} {sl37 : Array (Option Value)}
    (a37 : PySem.W.nsIn K mainGlobals "_law_is_refused" = some (some (.ref f37))) (l37 : K.lookup f37 = some ⟨oc37, od37, .func (PySem.W.fnOf "_law_is_refused" "_law_is_refused" (defArgs s_law_is_refused) (defBody s_law_is_refused) (defScope s_law_is_refused) .none kV37 dc37 pm37 an37 cd37 ct37), sl37⟩) (c37 : PySem.W.codeIn K cd37 "_law_is_refused" = true) (k37 : PySem.W.keepIn K (.ref f37) = true)
    {f38 : Addr} {oc38 kV38 dc38 pm38 cd38 ct38 : Value} {od38 an38 : Option Addr} {sl38 : Array (Option Value)}
    (a38 : PySem.W.nsIn K mainGlobals "_law_right" = some (some (.ref f38))) (l38 : K.lookup f38 = some ⟨oc38, od38, .func (PySem.W.fnOf "_law_right" "_law_right" (defArgs s_law_right) (defBody s_law_right) (defScope s_law_right) .none kV38 dc38 pm38 an38 cd38 ct38), sl38⟩) (c38 : PySem.W.codeIn K cd38 "_law_right" = true) (k38 : PySem.W.keepIn K (.ref f38) = true)
    {f39 : Addr} {oc39 kV39 dc39 pm39 cd39 ct39 : Value} {od39 an39 : Option Addr} {sl39 : Array (Option Value)}
    (a39 : PySem.W.nsIn K mainGlobals "law" = some (some (.ref f39))) (l39 : K.lookup f39 = some ⟨oc39, od39, .func (PySem.W.fnOf "law" "law" (defArgs s_law) (defBody s_law) (defScope s_law) .none kV39 dc39 pm39 an39 cd39 ct39), sl39⟩) (c39 : PySem.W.codeIn K cd39 "law" = true) (k39 : PySem.W.keepIn K (.ref f39) = true)
    {t_LAST_PATCH : Tok} (g_LAST_PATCH : PySem.W.nsIn K mainGlobals "LAST_PATCH" = some (some (.int 100 t_LAST_PATCH)))
    {t_MOST_EVENTS : Tok} (g_MOST_EVENTS : PySem.W.nsIn K mainGlobals "MOST_EVENTS" = some (some (.int 200 t_MOST_EVENTS)))
    (z_len : PySem.W.nsIn K mainGlobals "len" = some none)
    (z_list : PySem.W.nsIn K mainGlobals "list" = some none)
    (z_int : PySem.W.nsIn K mainGlobals "int" = some none)
    (z_bool : PySem.W.nsIn K mainGlobals "bool" = some none)
    (z_str : PySem.W.nsIn K mainGlobals "str" = some none)
    (z_tuple : PySem.W.nsIn K mainGlobals "tuple" = some none)
    (z_max : PySem.W.nsIn K mainGlobals "max" = some none)
    (z_min : PySem.W.nsIn K mainGlobals "min" = some none)
    (z_range : PySem.W.nsIn K mainGlobals "range" = some none)
    (z_repr : PySem.W.nsIn K mainGlobals "repr" = some none)
    (z_isinstance : PySem.W.nsIn K mainGlobals "isinstance" = some none)
    (z_type : PySem.W.nsIn K mainGlobals "type" = some none)
    (z_all : PySem.W.nsIn K mainGlobals "all" = some none)
    (z_set : PySem.W.nsIn K mainGlobals "set" = some none)
    (z_zip : PySem.W.nsIn K mainGlobals "zip" = some none)
    (z_enumerate : PySem.W.nsIn K mainGlobals "enumerate" = some none)
    (z_sorted : PySem.W.nsIn K mainGlobals "sorted" = some none)
    (z_abs : PySem.W.nsIn K mainGlobals "abs" = some none)
    (z_sum : PySem.W.nsIn K mainGlobals "sum" = some none)
    (z_reversed : PySem.W.nsIn K mainGlobals "reversed" = some none)
    (z_ValueError : PySem.W.nsIn K mainGlobals "ValueError" = some none)
    (hfac : PySem.W.nsIn K mainGlobals "factorial" = some (some (.builtin "math.factorial")))
    (hcmb : PySem.W.nsIn K mainGlobals "comb" = some (some (.builtin "math.comb")))
    {CI : Addr} (gCI : PySem.W.nsIn K mainGlobals "InvalidHistoryError" = some (some (.ref CI)))
    (xCI : PySem.W.excIn K CI [.type "ValueError", .type "Exception", .type "BaseException", .type "object"] "ValueError.__new__" = true)
    (kCI : PySem.W.keepIn K (.ref CI) = true)
    (hEc : ecB K CI = true)
    (hTy : tyB K CI = true)
    (hN : PySem.W.specialIn K (.builtin "object.__class__") "__get__" = some (some (.builtin "getset_descriptor.__get__")))
    (hTk : PySem.W.takesIn K (.builtin "object.__class__") = some true) :
    ∃ fd : FuncData, (∀ (s : Shared) (v : Value), BindsTo s fd ⟨[v], []⟩ [("script", v)]) ∧ ∀ base : Heap, K.In base → base.Ns mainGlobals mg → FnG l.prog w K mg base CX0 13 fa fd ["script"] (spLaw K) := by
  have e := hfa.symm.trans (PySem.W.mg_of X G a39)
  cases e
  have B : NoB mg := ⟨PySem.W.mg_none_of X G z_len, PySem.W.mg_none_of X G z_list, PySem.W.mg_none_of X G z_int, PySem.W.mg_none_of X G z_bool, PySem.W.mg_none_of X G z_str, PySem.W.mg_none_of X G z_tuple, PySem.W.mg_none_of X G z_max, PySem.W.mg_none_of X G z_min, PySem.W.mg_none_of X G z_range, PySem.W.mg_none_of X G z_repr, PySem.W.mg_none_of X G z_isinstance, PySem.W.mg_none_of X G z_type, PySem.W.mg_none_of X G z_all, PySem.W.mg_none_of X G z_set, PySem.W.mg_none_of X G z_zip, PySem.W.mg_none_of X G z_enumerate, PySem.W.mg_none_of X G z_sorted, PySem.W.mg_none_of X G z_abs⟩
  have clCB : Cls K CB := ⟨pgCB, hdCB, poCB, saCB⟩
  have T : Txt K CB := ⟨clCB, nCB0, nCB1, nCB2, nCB3, nCB4⟩
  have F0 := fun_mk (st := s_is_integer) l0 c0 k0
  have b0 := F0.binds (ps := ["value"]) fun _ _ _ _ _ _ us hl => match us, hl with | [_], _ => rfl
  have F1 := fun_mk (st := s_is_integer_within) l1 c1 k1
  have b1 := F1.binds (ps := ["value", "least", "greatest"]) fun _ _ _ _ _ _ us hl => match us, hl with | [_, _, _], _ => rfl
  have F2 := fun_mk (st := s_are_integers) l2 c2 k2
  have b2 := F2.binds (ps := ["value", "least", "greatest", "most"]) fun _ _ _ _ _ _ us hl => match us, hl with | [_, _, _, _], _ => rfl
  have F3 := fun_mk (st := s_check_number) l3 c3 k3
  have b3 := F3.binds (ps := ["value", "least", "greatest"]) fun _ _ _ _ _ _ us hl => match us, hl with | [_, _, _], _ => rfl
  have F4 := fun_mk (st := s_check_index) l4 c4 k4
  have b4 := F4.binds (ps := ["index", "count"]) fun _ _ _ _ _ _ us hl => match us, hl with | [_, _], _ => rfl
  have F5 := fun_mk (st := s_are_events) l5 c5 k5
  have b5 := F5.binds (ps := ["value"]) fun _ _ _ _ _ _ us hl => match us, hl with | [_], _ => rfl
  have F6 := fun_mk (st := s_is_history) l6 c6 k6
  have b6 := F6.binds (ps := ["value"]) fun _ _ _ _ _ _ us hl => match us, hl with | [_], _ => rfl
  have F7 := fun_mk (st := s_check_history) l7 c7 k7
  have b7 := F7.binds (ps := ["history"]) fun _ _ _ _ _ _ us hl => match us, hl with | [_], _ => rfl
  have F8 := fun_mk (st := s_starts_of) l8 c8 k8
  have b8 := F8.binds (ps := ["history"]) fun _ _ _ _ _ _ us hl => match us, hl with | [_], _ => rfl
  have F9 := fun_mk (st := s_running_after) l9 c9 k9
  have b9 := F9.binds (ps := ["history"]) fun _ _ _ _ _ _ us hl => match us, hl with | [_], _ => rfl
  have F10 := fun_mk (st := s_is_complete) l10 c10 k10
  have b10 := F10.binds (ps := ["history"]) fun _ _ _ _ _ _ us hl => match us, hl with | [_], _ => rfl
  have F11 := fun_mk (st := s_is_plain) l11 c11 k11
  have b11 := F11.binds (ps := ["history"]) fun _ _ _ _ _ _ us hl => match us, hl with | [_], _ => rfl
  have F12 := fun_mk (st := s_replay) l12 c12 k12
  have b12 := F12.binds (ps := ["history"]) fun _ _ _ _ _ _ us hl => match us, hl with | [_], _ => rfl
  have F13 := fun_mk (st := s_present_after) l13 c13 k13
  have b13 := F13.binds (ps := ["history"]) fun _ _ _ _ _ _ us hl => match us, hl with | [_], _ => rfl
  have F14 := fun_mk (st := s_check_complete_plain) l14 c14 k14
  have b14 := F14.binds (ps := ["history"]) fun _ _ _ _ _ _ us hl => match us, hl with | [_], _ => rfl
  have F15 := fun_mk (st := s_check_patches) l15 c15 k15
  have b15 := F15.binds (ps := ["patches"]) fun _ _ _ _ _ _ us hl => match us, hl with | [_], _ => rfl
  have F16 := fun_mk (st := s_count_ways) l16 c16 k16
  have b16 := F16.binds (ps := ["running", "unstarted"]) fun _ _ _ _ _ _ us hl => match us, hl with | [_, _], _ => rfl
  have F17 := fun_mk (st := s_count_with_jump) l17 c17 k17
  have b17 := F17.binds (ps := ["patches", "arcs"]) fun _ _ _ _ _ _ us hl => match us, hl with | [_, _], _ => rfl
  have F18 := fun_mk (st := s_count_original) l18 c18 k18
  have b18 := F18.binds (ps := ["patches"]) fun _ _ _ _ _ _ us hl => match us, hl with | [_], _ => rfl
  have F19 := fun_mk (st := s_rows_that_leave) l19 c19 k19
  have b19 := F19.binds (ps := ["patches"]) fun _ _ _ _ _ _ us hl => match us, hl with | [_], _ => rfl
  have F20 := fun_mk (st := s_ways_of_original) l20 c20 k20
  have b20 := F20.binds (ps := ["patches"]) fun _ _ _ _ _ _ us hl => match us, hl with | [_], _ => rfl
  have F21 := fun_mk (st := s_fate_word) l21 c21 k21
  have b21 := F21.binds (ps := ["saver"]) fun _ _ _ _ _ _ us hl => match us, hl with | [_], _ => rfl
  have F22 := fun_mk (st := s_Beginning_init) l22 c22 k22
  have b22 := F22.binds (ps := ["self", "patches", "ways"]) fun _ _ _ _ _ _ us hl => match us, hl with | [_, _, _], _ => rfl
  have F23 := fun_mk (st := s_Beginning_saver_behind) l23 c23 k23
  have b23 := F23.binds (ps := ["self", "event"]) fun _ _ _ _ _ _ us hl => match us, hl with | [_, _], _ => rfl
  have F24 := fun_mk (st := s_Beginning_following) l24 c24 k24
  have b24 := F24.binds (ps := ["self"]) fun _ _ _ _ _ _ us hl => match us, hl with | [_], _ => rfl
  have F25 := fun_mk (st := s_Beginning_ways_behind) l25 c25 k25
  have b25 := F25.binds (ps := ["self", "event"]) fun _ _ _ _ _ _ us hl => match us, hl with | [_, _], _ => rfl
  have F26 := fun_mk (st := s_Beginning_go_on) l26 c26 k26
  have b26 := F26.binds (ps := ["self", "event"]) fun _ _ _ _ _ _ us hl => match us, hl with | [_, _], _ => rfl
  have F27 := fun_mk (st := s_nth_by) l27 c27 k27
  have b27 := F27.binds (ps := ["patches", "ways", "index"]) fun _ _ _ _ _ _ us hl => match us, hl with | [_, _, _], _ => rfl
  have F28 := fun_mk (st := s_rank_by) l28 c28 k28
  have b28 := F28.binds (ps := ["history", "ways"]) fun _ _ _ _ _ _ us hl => match us, hl with | [_, _], _ => rfl
  have F29 := fun_mk (st := s_nth_original) l29 c29 k29
  have b29 := F29.binds (ps := ["patches", "index"]) fun _ _ _ _ _ _ us hl => match us, hl with | [_, _], _ => rfl
  have F30 := fun_mk (st := s_original_rank) l30 c30 k30
  have b30 := F30.binds (ps := ["history"]) fun _ _ _ _ _ _ us hl => match us, hl with | [_], _ => rfl
  have F31 := fun_mk (st := s_law_pool) l31 c31 k31
  have b31 := F31.binds (ps := ["script", "k"]) fun _ _ _ _ _ _ us hl => match us, hl with | [_, _], _ => rfl
  have F32 := fun_mk (st := s_law_draw) l32 c32 k32
  have b32 := F32.binds (ps := ["pool", "many"]) fun _ _ _ _ _ _ us hl => match us, hl with | [_, _], _ => rfl
  have F33 := fun_mk (st := s_law_every) l33 c33 k33
  have b33 := F33.binds (ps := ["signs"]) fun _ _ _ _ _ _ us hl => match us, hl with | [_], _ => rfl
  have F34 := fun_mk (st := s_law_shapes) l34 c34 k34
  have b34 := F34.binds (ps := ["n"]) fun _ _ _ _ _ _ us hl => match us, hl with | [_], _ => rfl
  have F35 := fun_mk (st := s_law_all) l35 c35 k35
  have b35 := F35.binds (ps := ["n"]) fun _ _ _ _ _ _ us hl => match us, hl with | [_], _ => rfl
  have F36 := fun_mk (st := s_law_present) l36 c36 k36
  have b36 := F36.binds (ps := ["row"]) fun _ _ _ _ _ _ us hl => match us, hl with | [_], _ => rfl
  have F37 := fun_mk (st := s_law_is_refused) l37 c37 k37
  have b37 := F37.binds (ps := ["row"]) fun _ _ _ _ _ _ us hl => match us, hl with | [_], _ => rfl
  have F38 := fun_mk (st := s_law_right) l38 c38 k38
  have b38 := F38.binds (ps := ["n"]) fun _ _ _ _ _ _ us hl => match us, hl with | [_], _ => rfl
  have F39 := fun_mk (st := s_law) l39 c39 k39
  refine ⟨PySem.W.fnOf "law" "law" (defArgs s_law) (defBody s_law) (defScope s_law) .none kV39 dc39 pm39 an39 cd39 ct39, fun s v => .of_eq rfl, fun base _ _ => ?_⟩
  have T_is_integer : Cal l.prog w K mg base 1 "is_integer" _ := ⟨f0, _, ["value"], ok_is_integer F0 B, PySem.W.mg_of X G a0, F0.kp, b0⟩
  have R : Er K mg CI := er_of hEc hTy hN hTk (PySem.W.mg_of X G gCI) xCI kCI
  have T_is_integer_within : Cal l.prog w K mg base 2 "is_integer_within" _ := ⟨f1, _, ["value", "least", "greatest"], ok_is_integer_within F1 T_is_integer, PySem.W.mg_of X G a1, F1.kp, b1⟩
  have T_are_integers : Cal l.prog w K mg base 3 "are_integers" _ := ⟨f2, _, ["value", "least", "greatest", "most"], ok_are_integers F2 B T_is_integer_within, PySem.W.mg_of X G a2, F2.kp, b2⟩
  have T_check_number : Gc l.prog w K mg base 3 "check_number" _ := ⟨f3, _, ["value", "least", "greatest"], ok_check_number F3 T_is_integer_within, PySem.W.mg_of X G a3, F3.kp, b3⟩
  have T_check_index : Gc l.prog w K mg base 4 "check_index" _ := ⟨f4, _, ["index", "count"], ok_check_index F4 T_check_number, PySem.W.mg_of X G a4, F4.kp, b4⟩
  have T_are_events : Cal l.prog w K mg base 4 "are_events" _ := ⟨f5, _, ["value"], ok_are_events F5 B (PySem.W.mg_of X G g_LAST_PATCH) (PySem.W.mg_of X G g_MOST_EVENTS) T_are_integers, PySem.W.mg_of X G a5, F5.kp, b5⟩
  have T_is_history : Cal l.prog w K mg base 5 "is_history" _ := ⟨f6, _, ["value"], ok_is_history F6 B T_are_events, PySem.W.mg_of X G a6, F6.kp, b6⟩
  have T_check_history : Cal l.prog w K mg base 6 "check_history" _ := ⟨f7, _, ["history"], ok_check_history F7 T_is_history, PySem.W.mg_of X G a7, F7.kp, b7⟩
  have T_starts_of : Cal l.prog w K mg base 1 "starts_of" _ := ⟨f8, _, ["history"], ok_starts_of F8, PySem.W.mg_of X G a8, F8.kp, b8⟩
  have T_running_after : Cal l.prog w K mg base 7 "running_after" _ := ⟨f9, _, ["history"], ok_running_after F9 B T_check_history T_starts_of, PySem.W.mg_of X G a9, F9.kp, b9⟩
  have T_is_complete : Cal l.prog w K mg base 8 "is_complete" _ := ⟨f10, _, ["history"], ok_is_complete F10 T_running_after, PySem.W.mg_of X G a10, F10.kp, b10⟩
  have T_is_plain : Cal l.prog w K mg base 7 "is_plain" _ := ⟨f11, _, ["history"], ok_is_plain F11 B T_check_history T_starts_of, PySem.W.mg_of X G a11, F11.kp, b11⟩
  have T_replay : Cal l.prog w K mg base 1 "replay" _ := ⟨f12, _, ["history"], ok_replay F12, PySem.W.mg_of X G a12, F12.kp, b12⟩
  have T_present_after : Cal l.prog w K mg base 7 "present_after" _ := ⟨f13, _, ["history"], ok_present_after F13 T_check_history T_replay, PySem.W.mg_of X G a13, F13.kp, b13⟩
  have T_check_complete_plain : Cal l.prog w K mg base 9 "_check_complete_plain" _ := ⟨f14, _, ["history"], ok_check_complete_plain F14 T_is_complete T_is_plain, PySem.W.mg_of X G a14, F14.kp, b14⟩
  have T_check_patches : Gc l.prog w K mg base 4 "_check_patches" _ := ⟨f15, _, ["patches"], ok_check_patches F15 (PySem.W.mg_of X G g_LAST_PATCH) T_check_number, PySem.W.mg_of X G a15, F15.kp, b15⟩
  have T_count_ways : Gc l.prog w K mg base 1 "_count_ways" _ := ⟨f16, _, ["running", "unstarted"], ok_count_ways F16 (PySem.W.mg_of X G hfac), PySem.W.mg_of X G a16, F16.kp, b16⟩
  have T_count_with_jump : Gc l.prog w K mg base 5 "count_with_jump" _ := ⟨f17, _, ["patches", "arcs"], ok_count_with_jump F17 (PySem.W.mg_of X G hcmb) (PySem.W.mg_of X G g_LAST_PATCH) T_check_patches T_check_number T_count_ways, PySem.W.mg_of X G a17, F17.kp, b17⟩
  have T_count_original : Gc l.prog w K mg base 6 "count_original" _ := ⟨f18, _, ["patches"], ok_count_original F18 (PySem.W.mg_none_of X G z_sum) B T_check_patches T_count_with_jump, PySem.W.mg_of X G a18, F18.kp, b18⟩
  have T_rows_that_leave : Gc l.prog w K mg base 1 "_rows_that_leave" _ := ⟨f19, _, ["patches"], ok_rows_that_leave F19 B, PySem.W.mg_of X G a19, F19.kp, b19⟩
  have T_ways_of_original : Gc l.prog w K mg base 2 "_ways_of_original" _ := ⟨f20, _, ["patches"], ok_ways_of_original F20 B T_rows_that_leave, PySem.W.mg_of X G a20, F20.kp, b20⟩
  have T_fate_word : Cal l.prog w K mg base 1 "_fate_word" _ := ⟨f21, _, ["saver"], ok_fate_word F21, PySem.W.mg_of X G a21, F21.kp, b21⟩
  have T_mk_Beginning : Mak l.prog w K mg base 1 "Beginning" CB _ := ⟨f22, _, ["self", "patches", "ways"], ⟨mkCB, a22, i22, kcCB⟩, ok_Beginning_init F22 B T, PySem.W.mg_of X G aCCB, b22⟩
  have T_Beginning_saver_behind : Met l.prog w K mg base 1 CB "saver_behind" _ := ⟨f23, _, ["self", "event"], clCB, ⟨a23, i23, k23⟩, ok_Beginning_saver_behind F23 T, b23⟩
  have T_Beginning_following : Met l.prog w K mg base 1 CB "following" _ := ⟨f24, _, ["self"], clCB, ⟨a24, i24, k24⟩, ok_Beginning_following F24 T (PySem.W.mg_none_of X G z_reversed), b24⟩
  have T_Beginning_ways_behind : Met l.prog w K mg base 2 CB "ways_behind" _ := ⟨f25, _, ["self", "event"], clCB, ⟨a25, i25, k25⟩, ok_Beginning_ways_behind F25 B T T_fate_word T_Beginning_saver_behind, b25⟩
  have T_Beginning_go_on : Met l.prog w K mg base 2 CB "go_on" _ := ⟨f26, _, ["self", "event"], clCB, ⟨a26, i26, k26⟩, ok_Beginning_go_on F26 T T_Beginning_saver_behind, b26⟩
  have T_nth_by : Gc l.prog w K mg base 4 "_nth_by" _ := ⟨f27, _, ["patches", "ways", "index"], ok_nth_by F27 B T_mk_Beginning T_Beginning_following T_Beginning_ways_behind T_Beginning_go_on T, PySem.W.mg_of X G a27, F27.kp, b27⟩
  have T_rank_by : Gc l.prog w K mg base 4 "_rank_by" _ := ⟨f28, _, ["history", "ways"], ok_rank_by F28 B (PySem.W.mg_none_of X G z_sum) T_mk_Beginning T_Beginning_following T_Beginning_ways_behind T_Beginning_go_on, PySem.W.mg_of X G a28, F28.kp, b28⟩
  have T_nth_original : Gc l.prog w K mg base 7 "nth_original" _ := ⟨f29, _, ["patches", "index"], ok_nth_original F29 T_check_index T_count_original T_ways_of_original T_nth_by, PySem.W.mg_of X G a29, F29.kp, b29⟩
  have T_K_nth_original : Gk l.prog w K mg base 7 "nth_original" 0 ["index", "patches"] gRev _ := ⟨f29, _, ["patches", "index"], _, (ok_nth_original F29 T_check_index T_count_original T_ways_of_original T_nth_by), PySem.W.mg_of X G a29, F29.kp, kb_of F29 0 ["index", "patches"] gRev kb_gRev fun _ _ _ _ _ _ us ws l1 l2 => match us, ws, l1, l2 with | [], [_, _], _, _ => rfl⟩
  have T_original_rank : Gc l.prog w K mg base 10 "original_rank" _ := ⟨f30, _, ["history"], ok_original_rank F30 B T_check_complete_plain T_present_after T_ways_of_original T_rank_by, PySem.W.mg_of X G a30, F30.kp, b30⟩
  have T_K_original_rank : Gk l.prog w K mg base 10 "original_rank" 0 ["history"] gApp _ := ⟨f30, _, ["history"], _, (ok_original_rank F30 B T_check_complete_plain T_present_after T_ways_of_original T_rank_by), PySem.W.mg_of X G a30, F30.kp, kb_of F30 0 ["history"] gApp kb_gApp fun _ _ _ _ _ _ us ws l1 l2 => match us, ws, l1, l2 with | [], [_], _, _ => rfl⟩
  have T_original_rank_X : CalX l.prog w K mg base 10 "original_rank" _ := ⟨f30, _, ["history"], ok_original_rank_X F30 R T_check_complete_plain T_present_after, PySem.W.mg_of X G a30, F30.kp, b30⟩
  have T_law_pool : Gc l.prog w K mg base 1 "_law_pool" _ := ⟨f31, _, ["script", "k"], ok_law_pool F31 B, PySem.W.mg_of X G a31, F31.kp, b31⟩
  have T_law_draw : Gc l.prog w K mg base 1 "_law_draw" _ := ⟨f32, _, ["pool", "many"], ok_law_draw F32, PySem.W.mg_of X G a32, F32.kp, b32⟩
  have T_law_every : Gc l.prog w K mg base 1 "_law_every" _ := ⟨f33, _, ["signs"], ok_law_every F33 B, PySem.W.mg_of X G a33, F33.kp, b33⟩
  have T_law_shapes : Gc l.prog w K mg base 1 "_law_shapes" _ := ⟨f34, _, ["n"], ok_law_shapes F34 B, PySem.W.mg_of X G a34, F34.kp, b34⟩
  have T_law_all : Gc l.prog w K mg base 2 "_law_all" _ := ⟨f35, _, ["n"], ok_law_all F35 B T_law_shapes T_law_every, PySem.W.mg_of X G a35, F35.kp, b35⟩
  have T_law_present : Gc l.prog w K mg base 1 "_law_present" _ := ⟨f36, _, ["row"], ok_law_present F36, PySem.W.mg_of X G a36, F36.kp, b36⟩
  have T_law_is_refused : Gc l.prog w K mg base 11 "_law_is_refused" _ := ⟨f37, _, ["row"], ok_law_is_refused F37 B R (PySem.W.mg_none_of X G z_ValueError) T_original_rank_X, PySem.W.mg_of X G a37, F37.kp, b37⟩
  have T_law_right : Gc l.prog w K mg base 12 "_law_right" _ := ⟨f38, _, ["n"], ok_law_right F38 B T_law_all T_law_present T_count_original T_nth_original T_K_nth_original T_original_rank T_K_original_rank T_law_is_refused, PySem.W.mg_of X G a38, F38.kp, b38⟩
  exact ok_law F39 B T_law_pool T_law_draw T_law_right
end L64
open PySem PySem.W PyProof.Rows
set_option maxHeartbeats 0 in
theorem PySem.Challenge.cw_latepatches_k64_few_originals_numbered_holds : PySem.Challenge.rw_latepatches_k64_few_originals_numbered.Holds := by
  w_on; o_law; k_head; (case hw => w_witness2)
  k_fill
  refine Lp.walk_ofG (l := PySem.Challenge.rw_latepatches_k64_few_originals_numbered) (n := 63) (k := 13) (x := "script") (CX := fun _ => L2.CX0) (sp := fun w => L64.spLaw _) rfl (by decide) rfl ⟨rfl, by decide, by decide⟩ (fun w h Y => PySem.W.kIn_of Y) ?F (fun _ _ a ns hl _ hS => ⟨a, ns, rfl, hS, hl, fun _ => rfl⟩) (fun _ _ _ _ _ h => h)
  case F =>
    intro w mg fa h KX G hmg
    refine' L64.all_mk KX G hmg ?aCCB ?pgCB ?hdCB ?poCB ?saCB ?mkCB ?kcCB ?nCB0 ?nCB1 ?nCB2 ?nCB3 ?nCB4 ?a0 ?l0 ?c0 ?k0 ?a1 ?l1 ?c1 ?k1 ?a2 ?l2 ?c2 ?k2 ?a3 ?l3 ?c3 ?k3 ?a4 ?l4 ?c4 ?k4 ?a5 ?l5 ?c5 ?k5 ?a6 ?l6 ?c6 ?k6 ?a7 ?l7 ?c7 ?k7 ?a8 ?l8 ?c8 ?k8 ?a9 ?l9 ?c9 ?k9 ?a10 ?l10 ?c10 ?k10 ?a11 ?l11 ?c11 ?k11 ?a12 ?l12 ?c12 ?k12 ?a13 ?l13 ?c13 ?k13 ?a14 ?l14 ?c14 ?k14 ?a15 ?l15 ?c15 ?k15 ?a16 ?l16 ?c16 ?k16 ?a17 ?l17 ?c17 ?k17 ?a18 ?l18 ?c18 ?k18 ?a19 ?l19 ?c19 ?k19 ?a20 ?l20 ?c20 ?k20 ?a21 ?l21 ?c21 ?k21 ?a22 ?i22 ?l22 ?c22 ?k22 ?a23 ?i23 ?l23 ?c23 ?k23 ?a24 ?i24 ?l24 ?c24 ?k24 ?a25 ?i25 ?l25 ?c25 ?k25 ?a26 ?i26 ?l26 ?c26 ?k26 ?a27 ?l27 ?c27 ?k27 ?a28 ?l28 ?c28 ?k28 ?a29 ?l29 ?c29 ?k29 ?a30 ?l30 ?c30 ?k30 ?a31 ?l31 ?c31 ?k31 ?a32 ?l32 ?c32 ?k32 ?a33 ?l33 ?c33 ?k33 ?a34 ?l34 ?c34 ?k34 ?a35 ?l35 ?c35 ?k35 ?a36 ?l36 ?c36 ?k36 ?a37 ?l37 ?c37 ?k37 ?a38 ?l38 ?c38 ?k38 ?a39 ?l39 ?c39 ?k39 ?g_LAST_PATCH ?g_MOST_EVENTS ?z_len ?z_list ?z_int ?z_bool ?z_str ?z_tuple ?z_max ?z_min ?z_range ?z_repr ?z_isinstance ?z_type ?z_all ?z_set ?z_zip ?z_enumerate ?z_sorted ?z_abs ?z_sum ?z_reversed ?z_ValueError ?hfac ?hcmb ?gCI ?xCI ?kCI ?hEc ?hTy ?hN ?hTk
    (case aCCB => k_is); (case pgCB => k_is); (case hdCB => k_is); (case poCB => k_is); (case saCB => k_is); (case mkCB => k_is); (case kcCB => k_is); (case nCB0 => k_is); (case nCB1 => k_is); (case nCB2 => k_is); (case nCB3 => k_is); (case nCB4 => k_is); (case a0 => k_is); (case l0 => k_is); (case c0 => k_is); (case k0 => k_is); (case a1 => k_is); (case l1 => k_is); (case c1 => k_is); (case k1 => k_is); (case a2 => k_is); (case l2 => k_is); (case c2 => k_is); (case k2 => k_is); (case a3 => k_is); (case l3 => k_is); (case c3 => k_is); (case k3 => k_is); (case a4 => k_is); (case l4 => k_is); (case c4 => k_is); (case k4 => k_is); (case a5 => k_is); (case l5 => k_is); (case c5 => k_is); (case k5 => k_is); (case a6 => k_is); (case l6 => k_is); (case c6 => k_is); (case k6 => k_is); (case a7 => k_is); (case l7 => k_is); (case c7 => k_is); (case k7 => k_is); (case a8 => k_is); (case l8 => k_is); (case c8 => k_is); (case k8 => k_is); (case a9 => k_is); (case l9 => k_is); (case c9 => k_is); (case k9 => k_is); (case a10 => k_is); (case l10 => k_is); (case c10 => k_is); (case k10 => k_is); (case a11 => k_is); (case l11 => k_is); (case c11 => k_is); (case k11 => k_is); (case a12 => k_is); (case l12 => k_is); (case c12 => k_is); (case k12 => k_is); (case a13 => k_is); (case l13 => k_is); (case c13 => k_is); (case k13 => k_is); (case a14 => k_is); (case l14 => k_is); (case c14 => k_is); (case k14 => k_is); (case a15 => k_is); (case l15 => k_is); (case c15 => k_is); (case k15 => k_is); (case a16 => k_is); (case l16 => k_is); (case c16 => k_is); (case k16 => k_is); (case a17 => k_is); (case l17 => k_is); (case c17 => k_is); (case k17 => k_is); (case a18 => k_is); (case l18 => k_is); (case c18 => k_is); (case k18 => k_is); (case a19 => k_is); (case l19 => k_is); (case c19 => k_is); (case k19 => k_is); (case a20 => k_is); (case l20 => k_is); (case c20 => k_is); (case k20 => k_is); (case a21 => k_is); (case l21 => k_is); (case c21 => k_is); (case k21 => k_is); (case a22 => k_is); (case i22 => k_is); (case l22 => k_is); (case c22 => k_is); (case k22 => k_is); (case a23 => k_is); (case i23 => k_is); (case l23 => k_is); (case c23 => k_is); (case k23 => k_is); (case a24 => k_is); (case i24 => k_is); (case l24 => k_is); (case c24 => k_is); (case k24 => k_is); (case a25 => k_is); (case i25 => k_is); (case l25 => k_is); (case c25 => k_is); (case k25 => k_is); (case a26 => k_is); (case i26 => k_is); (case l26 => k_is); (case c26 => k_is); (case k26 => k_is); (case a27 => k_is); (case l27 => k_is); (case c27 => k_is); (case k27 => k_is); (case a28 => k_is); (case l28 => k_is); (case c28 => k_is); (case k28 => k_is); (case a29 => k_is); (case l29 => k_is); (case c29 => k_is); (case k29 => k_is); (case a30 => k_is); (case l30 => k_is); (case c30 => k_is); (case k30 => k_is); (case a31 => k_is); (case l31 => k_is); (case c31 => k_is); (case k31 => k_is); (case a32 => k_is); (case l32 => k_is); (case c32 => k_is); (case k32 => k_is); (case a33 => k_is); (case l33 => k_is); (case c33 => k_is); (case k33 => k_is); (case a34 => k_is); (case l34 => k_is); (case c34 => k_is); (case k34 => k_is); (case a35 => k_is); (case l35 => k_is); (case c35 => k_is); (case k35 => k_is); (case a36 => k_is); (case l36 => k_is); (case c36 => k_is); (case k36 => k_is); (case a37 => k_is); (case l37 => k_is); (case c37 => k_is); (case k37 => k_is); (case a38 => k_is); (case l38 => k_is); (case c38 => k_is); (case k38 => k_is); (case a39 => k_is); (case l39 => k_is); (case c39 => k_is); (case k39 => k_is); (case g_LAST_PATCH => k_is); (case g_MOST_EVENTS => k_is); (case z_len => k_is); (case z_list => k_is); (case z_int => k_is); (case z_bool => k_is); (case z_str => k_is); (case z_tuple => k_is); (case z_max => k_is); (case z_min => k_is); (case z_range => k_is); (case z_repr => k_is); (case z_isinstance => k_is); (case z_type => k_is); (case z_all => k_is); (case z_set => k_is); (case z_zip => k_is); (case z_enumerate => k_is); (case z_sorted => k_is); (case z_abs => k_is); (case z_sum => k_is); (case z_reversed => k_is); (case z_ValueError => k_is); (case hfac => k_is); (case hcmb => k_is); (case gCI => k_is); (case xCI => k_exc); (case kCI => k_is); (case hEc => kernel_rfl); (case hTy => kernel_rfl); (case hN => k_is); (case hTk => k_is)
